import PyProof.Rows.All
import Wide.All
import OpenK.AllK
import Wide.FinOn
import Lean
import PyProof.EqAt
import PyProof.EqKinds
import PyProof.TupleCall
import PyProof.NeKinds
import PyProof.StationsW
import PyProof.RulesAs
import PyProof.ExcArgsOwn
import PyProof.CompFree
import PyProof.ExcInit
import PyProof.ConsumeWalk
import PyProof.Rows.SeqGen
import PyProof.StrWalks
import PyProof.SliceStr2
import PyProof.MeetsStr
import KE.KIntText
import PyProof.Rows.FStr
import PyProof.StrCalls6
import PyProof.StrBlockL
import PyProof.ToksMono
import PyProof.WalkInts
import PyProof.Rows.MinMaxN
import PyProof.StrLawsReplace
import PyProof.StrLawsTight
import PyProof.Rows.StrLawsPart
import PyProof.DictWalks
import KE.KEqDict
import KE.KDictLaws
import KE.KRevIter
import PyProof.ListCopy
import PyProof.CollectIter
import PyProof.Rows.SetFrom
import PyProof.Rows.SortShellK
import PyProof.Rows.SortStr
import PyProof.Rows.SortWalk
import KE.KDictSum
import KE.KSortTup
import PyProof.TupleOfSeq
import PyProof.Rows.SortRuns
import PyProof.FactsAll.tuple_2
import PySem.Challenge.RW_stovework_k56_heap_deeds
set_option Elab.async false
set_option linter.all false
set_option maxRecDepth 100000
/-! THE HAND LAYER, for ints, bools, texts, own classes, LISTS and tuples (index, slices, in, append, pop ..), calls, loops. Paste it whole ahead of your own text; what your proof does not reach may be deleted. -/
namespace L2
open PySem PySem.Spec PyProof.Rows

/-- a key: an int or a str -/
abbrev Key := Sum Int Str
def keyIs : Key → Value → Bool
  | .inl k, v => Value.isInt k v
  | .inr x, v => Value.isStrOf x v
def keyH (w : World) : Key → Int
  | .inl k => hashInt k
  | .inr x => hashStr w x
theorem keyIs_shape : ∀ {k : Key} {v : Value}, keyIs k v = true → (∃ i t, k = Sum.inl i ∧ v = Value.int i t) ∨ (∃ x t, k = Sum.inr x ∧ v = Value.str x t)
  | .inl i, v, h => by
    obtain ⟨t, e⟩ := Value.isInt_shape (k := i) (v := v) h
    exact .inl ⟨i, t, rfl, e⟩
  | .inr x, v, h => by
    obtain ⟨t, e⟩ := Value.isStrOf_shape (x := x) (v := v) h
    exact .inr ⟨x, t, rfl, e⟩
theorem key_ll (a b : Int) : decide ((Sum.inl a : Key) = Sum.inl b) = (a == b) := by
  by_cases e : a = b
  · subst e; simp
  · have h : ¬ (Sum.inl a : Key) = Sum.inl b := fun q => e (Sum.inl.inj q)
    rw [decide_eq_false h]
    exact (beq_eq_false_iff_ne.mpr e).symm
theorem key_rr (a b : Str) : decide ((Sum.inr a : Key) = Sum.inr b) = decide (a = b) := by
  by_cases e : a = b
  · subst e; simp
  · have h : ¬ (Sum.inr a : Key) = Sum.inr b := fun q => e (Sum.inr.inj q)
    rw [decide_eq_false h, decide_eq_false e]
theorem key_lr (a : Int) (b : Str) : decide ((Sum.inl a : Key) = Sum.inr b) = false := decide_eq_false (fun q => nomatch q)
theorem key_rl (a : Str) (b : Int) : decide ((Sum.inr a : Key) = Sum.inl b) = false := decide_eq_false (fun q => nomatch q)

def mixKind (prog : Program) (w : World) : PySem.KeyKind prog w Key where
  is := keyIs
  hash := keyH w
  inj := fun v a b ha hb => by
    rcases keyIs_shape ha with ⟨i, t, rfl, rfl⟩ | ⟨x, t, rfl, rfl⟩
    · rcases keyIs_shape hb with ⟨j, u, rfl, e⟩ | ⟨y, u, rfl, e⟩
      · injection e with e1 _; rw [e1]
      · exact nomatch e
    · rcases keyIs_shape hb with ⟨j, u, rfl, e⟩ | ⟨y, u, rfl, e⟩
      · exact nomatch e
      · injection e with e1 _; rw [e1]
  byValue := fun k v h => by
    rcases keyIs_shape h with ⟨i, t, rfl, rfl⟩ | ⟨x, t, rfl, rfl⟩ <;> rfl
  pyHash := fun hv h => by
    rcases keyIs_shape hv with ⟨i, t, rfl, rfl⟩ | ⟨x, t, rfl, rfl⟩
    · exact wpAny_pyHash_int h
    · exact wpAny_pyHash_str h
  eqBool := fun hu hv h => by
    rcases keyIs_shape hu with ⟨i, t, rfl, rfl⟩ | ⟨x, t, rfl, rfl⟩
    · rcases keyIs_shape hv with ⟨j, u, rfl, rfl⟩ | ⟨y, u, rfl, rfl⟩
      · rw [key_ll] at h; exact wpAny_eqBool_int h
      · rw [key_lr] at h; exact SeqAt.EqAt.int_str i t y u _ _ _ _ h
    · rcases keyIs_shape hv with ⟨j, u, rfl, rfl⟩ | ⟨y, u, rfl, rfl⟩
      · rw [key_rl] at h; exact SeqAt.EqAt.str_int x t j u _ _ _ _ h
      · rw [key_rr] at h; exact wpAny_eqBool_str h
  «strs» := fun k x t v h => by
    rcases keyIs_shape h with ⟨i, u, rfl, e⟩ | ⟨y, u, rfl, e⟩
    · exact nomatch e
    · injection e with e1 _
      subst e1
      cases v <;> rfl

end L2

namespace L2
open PySem PySem.Spec PyProof.Rows

/-- a value, without the heap -/
inductive V where
  | non | bl (b : Bool) | int (i : Int) | str (x : Str) | byt (b : Array UInt8) | flt (b : UInt64) | ref (a : Addr) | ty (n : String)
  deriving DecidableEq

def RelV : V → Value → Prop
  | .non, u => u = Value.none
  | .bl b, u => u = Value.bool b
  | .int i, u => ∃ t, u = Value.int i t
  | .str x, u => ∃ t, u = Value.str x t
  | .byt b, u => ∃ t, u = Value.bytes b t
  | .flt b, u => ∃ t, u = Value.float b t
  | .ref a, u => u = Value.ref a
  | .ty n, u => u = Value.type n

abbrev Vals : List V → List Value → Prop := Paired RelV
theorem Vals.length {xs : List V} {us : List Value} (r : Vals xs us) : xs.length = us.length := Paired.length r
theorem Vals.get : ∀ {xs : List V} {us : List Value} {i : Nat} {x : V}, Vals xs us → xs[i]? = some x → ∃ u, us[i]? = some u ∧ RelV x u
  | _, _, _, _, .nil, e => by simp at e
  | _, _, 0, _, .cons r _, e => by simp at e; subst e; exact ⟨_, rfl, r⟩
  | _, _, i + 1, x, .cons _ t, e => by
    obtain ⟨u, h1, h2⟩ := Vals.get (i := i) (x := x) t (by simpa using e)
    exact ⟨u, by simpa using h1, h2⟩
theorem Vals.set {x : V} {u : Value} (r : RelV x u) : ∀ {xs : List V} {us : List Value} (i : Nat), Vals xs us → Vals (xs.set i x) (us.set i u)
  | _, _, _, .nil => .nil
  | _, _, 0, .cons _ t => .cons r t
  | _, _, i + 1, .cons q t => .cons q (Vals.set r i t)
theorem Vals.append : ∀ {xs ys : List V} {us ws : List Value}, Vals xs us → Vals ys ws → Vals (xs ++ ys) (us ++ ws)
  | _, _, _, _, .nil, s => s
  | _, _, _, _, .cons r t, s => .cons r (Vals.append t s)
theorem Vals.take : ∀ {xs : List V} {us : List Value} (n : Nat), Vals xs us → Vals (xs.take n) (us.take n)
  | _, _, 0, _ => .nil
  | _, _, _ + 1, .nil => .nil
  | _, _, n + 1, .cons r t => .cons r (Vals.take n t)
theorem Vals.drop : ∀ {xs : List V} {us : List Value} (n : Nat), Vals xs us → Vals (xs.drop n) (us.drop n)
  | _, _, 0, r => r
  | _, _, _ + 1, .nil => .nil
  | _, _, n + 1, .cons _ t => Vals.drop n t
theorem Vals.none_of : ∀ {xs : List V} {us : List Value} {i : Nat}, Vals xs us → xs[i]? = none → us[i]? = none := fun {xs us i} r e => by
  have h1 := r.length
  have h2 : xs.length ≤ i := List.getElem?_eq_none_iff.mp e
  exact List.getElem?_eq_none_iff.mpr (by omega)

def RelO : Option V → Option Value → Prop
  | some v, some u => RelV v u
  | none, none => True
  | _, _ => False
def KV {κ : Type} : List (κ × V) → List (κ × Value) → Prop := Paired fun (p : κ × V) (q : κ × Value) => p.1 = q.1 ∧ RelV p.2 q.2

/-- a key of a dict (00_mix): an int or a text -/
def kV : Key → V
  | .inl i => .int i
  | .inr x => .str x

/-- what stands at a tracked address -/
inductive HO where
  /-- a list -/
  | lst (xs : List V)
  /-- a tuple (never changes) -/
  | tup (xs : List V)
  /-- a dict whose keys are ints and texts; one whose keys are tuples of ints and texts (the empty one is both) -/
  | dK (kvs : List (Key × V)) | dT (kvs : List (List Key × V))
  /-- a set of ints: its members, its size -/
  | set (S : Int → Bool) (n : Nat)
  /-- an instance of the class at C, its dict at dx, its attributes -/
  | ins (C dx : Addr) (fs : List (Str × V))
  /-- the dict of the instance at x -/
  | own (x : Addr)
  /-- the dict of an exception -/
  | xd (fs : List (Str × V))
  /-- a bound method, f of x -/
  | met (f x : Addr)
  /-- a range object lo, lo + 1, .. below hi -/
  | rng (lo hi : Int)
  /-- a thing that is known to the object (the script; a dict while a loop walks it): read, never written while it is so -/
  | frz (o : Obj) (u : HO)
  /-- a code object's table -/
  | tbl (ps : Array Value)
  /-- any other thing, by what is true of its one object (a def of one's own: SetO a S n := HO.ext fun h => ..) -/
  | ext (φ : Heap → Prop)

abbrev Hp := Addr → Option HO
def upd (H : Hp) (a : Addr) (o : HO) : Hp := fun b => if b = a then some o else H b
theorem upd_same {H : Hp} {a : Addr} {o : HO} : upd H a o a = some o := by unfold upd; rw [if_pos rfl]
theorem upd_ne {H : Hp} {a b : Addr} {o : HO} (h : b ≠ a) : upd H a o b = H b := by unfold upd; rw [if_neg h]
theorem upd_upd {H : Hp} {a : Addr} {o u : HO} : upd (upd H a o) a u = upd H a u := by
  funext b; unfold upd; split <;> rfl
/-- two objects of different content stand apart -/
theorem ne_of {H : Hp} {a b : Addr} {o u : HO} (h : H a = some o) (h' : H b = some u) (d : o ≠ u) : a ≠ b := by
  intro e; subst e; rw [h] at h'; exact d (Option.some.inj h')
theorem ne_of_none {H : Hp} {a b : Addr} {o : HO} (h : H a = some o) (h' : H b = none) : a ≠ b := by
  intro e; subst e; rw [h] at h'; cases h'

section
variable (P : Program) (w : World)
def ObjOk (H : Hp) (h : Heap) (a : Addr) : HO → Prop
  | .lst xs => xs.length ≤ sizeLine ∧ ∃ (its : List Value) (n : Nat), Vals xs its ∧ h.get? a = some { cls := .type "list", data := .seq its.toArray n }
  | .tup xs => xs.length ≤ sizeLine ∧ ∃ its : List Value, Vals xs its ∧ IsTup h a its.toArray
  | .dK kvs => kvs.length ≤ sizeLine ∧ (a == sysModules) = false ∧ ∃ vs, KV kvs vs ∧ h.DictOf (mixKind P w) a vs
  | .dT kvs => kvs.length ≤ sizeLine ∧ (a == sysModules) = false ∧ ∃ xs : List (List Key × Addr × Value),
      Paired (fun (p : List Key × V) (q : List Key × Addr × Value) => p.1 = q.1 ∧ H q.2.1 = some (.tup (p.1.map kV)) ∧ RelV p.2 q.2.2) kvs xs ∧
      ∃ o es ep, h.get? a = some o ∧ o.ExactDict ∧ o.data = .dict es ep ∧ es.toList = xs.map (entryOfKey (tupleKind (mixKind P w))) ∧ (xs.map (·.1)).Nodup
  | .set S n => h.SetOf (intKind P w) a S n
  | .ins C dx fs => H dx = some (.own a) ∧ fs.length ≤ 1000 ∧ dx ≠ a ∧ h.get? a = some (PySem.W.instObj C dx) ∧
      ∃ mA, h.Ns1 dx mA ∧ (∀ f, RelO (fs.lookup f) (mA f)) ∧ PySem.Within mA (fs.map (·.1))
  | .own _ => ∃ o, h.get? a = some o
  | .xd fs => ∃ mA, h.Ns1 a mA ∧ ∀ f, RelO (fs.lookup f) (mA f)
  | .rng lo hi => ∃ t u v, h.get? a = some { cls := .type "range", data := .fields #[.int lo t, .int hi u, .int 1 v] }
  | .frz o u => h.get? a = some o ∧ ObjOk H h a u
  | .tbl ps => h.get? a = some { cls := .none, data := .fields ps }
  | .met f x => h.get? a = some (PySem.W.methodObj (.ref f) (.ref x))
  | .ext φ => φ h ∧ (∃ o, h.get? a = some o) ∧ ∀ h1 h2 : Heap, φ h1 → (∀ o, h1.get? a = some o → h2.get? a = some o) → φ h2
/-- the abstract heap is held -/
def HOk (H : Hp) (h : Heap) : Prop := ∀ a o, H a = some o → ObjOk P w H h a o
end

section
variable {P : Program} {w : World} {H H' : Hp} {h h' : Heap} {a : Addr} {o : HO}
theorem ObjOk.lt (x : ObjOk P w H h a o) : a < h.objs.size := by
  cases o with
  | lst xs => obtain ⟨_, _, _, _, e⟩ := x; exact Heap.lt_size e
  | tup xs => obtain ⟨_, _, _, p⟩ := x; exact p.lt
  | dK kvs => obtain ⟨_, _, _, _, o, _, _, e, _⟩ := x; exact Heap.lt_size e
  | dT kvs => obtain ⟨_, _, _, _, o, _, _, e, _⟩ := x; exact Heap.lt_size e
  | set S n => obtain ⟨o, _, _, _, e, _⟩ := x; exact Heap.lt_size e
  | ins C dx fs => obtain ⟨_, _, _, e, _⟩ := x; exact Heap.lt_size e
  | own y => obtain ⟨_, e⟩ := x; exact Heap.lt_size e
  | xd fs => obtain ⟨_, ⟨_, _, _, e, _⟩, _⟩ := x; exact Heap.lt_size e
  | rng lo hi => obtain ⟨_, _, _, e⟩ := x; exact Heap.lt_size e
  | frz ob u => obtain ⟨e, _⟩ := x; exact Heap.lt_size e
  | tbl ps => exact Heap.lt_size (show h.get? a = some _ from x)
  | met f y => exact Heap.lt_size (show h.get? a = some _ from x)
  | ext φ => obtain ⟨_, ⟨_, e⟩, _⟩ := x; exact Heap.lt_size e
theorem Paired.mapP {α β : Type} {F G : α → β → Prop} : ∀ {l₁ : List α} {l₂ : List β}, Paired F l₁ l₂ → (∀ a b, F a b → G a b) → Paired G l₁ l₂
  | _, _, .nil, _ => .nil
  | _, _, .cons r t, f => .cons (f _ _ r) (Paired.mapP t f)
/-- what an object's description leans on: its own object, its own dict, the tuples -/
theorem ObjOk.stay (x : ObjOk P w H h a o) (k : ∀ b u, (b = a ∨ H b = some (.own a)) → h.get? b = some u → h'.get? b = some u)
    (ho : ∀ b, H b = some (.own a) → H' b = some (.own a)) (ht : ∀ b xs, H b = some (.tup xs) → H' b = some (.tup xs)) : ObjOk P w H' h' a o := by
  induction o with
  | lst xs => obtain ⟨z, its, n, r, e⟩ := x; exact ⟨z, its, n, r, k _ _ (.inl rfl) e⟩
  | tup xs => obtain ⟨z, its, r, ob, e, c⟩ := x; exact ⟨z, its, r, ob, k _ _ (.inl rfl) e, c⟩
  | dK kvs => obtain ⟨z, y, vs, r, ob, es, ep, e, c⟩ := x; exact ⟨z, y, vs, r, ob, es, ep, k _ _ (.inl rfl) e, c⟩
  | dT kvs =>
    obtain ⟨z, y, xs, r, ob, es, ep, e, c⟩ := x
    exact ⟨z, y, xs, Paired.mapP r fun p q z => ⟨z.1, ht _ _ z.2.1, z.2.2⟩, ob, es, ep, k _ _ (.inl rfl) e, c⟩
  | set S n => obtain ⟨ob, es, ep, t, e, c⟩ := x; exact ⟨ob, es, ep, t, k _ _ (.inl rfl) e, c⟩
  | ins C dx fs =>
    obtain ⟨d, z, ne, e, mA, ⟨od, es, ep, e2, c⟩, r⟩ := x
    exact ⟨ho _ d, z, ne, k _ _ (.inl rfl) e, mA, ⟨od, es, ep, k _ _ (.inr d) e2, c⟩, r⟩
  | own y => obtain ⟨ob, e⟩ := x; exact ⟨ob, k _ _ (.inl rfl) e⟩
  | xd fs => obtain ⟨mA, ⟨od, es, ep, e, c⟩, r⟩ := x; exact ⟨mA, ⟨od, es, ep, k _ _ (.inl rfl) e, c⟩, r⟩
  | rng lo hi => obtain ⟨t, u, v, e⟩ := x; exact ⟨t, u, v, k _ _ (.inl rfl) e⟩
  | frz ob u ih => obtain ⟨e, q⟩ := x; exact ⟨k _ _ (.inl rfl) e, ih q⟩
  | tbl ps =>
    have e : h.get? a = some { cls := .none, data := .fields ps } := x
    show h'.get? a = some { cls := .none, data := .fields ps }
    exact k a _ (.inl rfl) e
  | met f y =>
    have e : h.get? a = some (PySem.W.methodObj (.ref f) (.ref y)) := x
    show h'.get? a = some (PySem.W.methodObj (.ref f) (.ref y))
    exact k a _ (.inl rfl) e
  | ext φ => obtain ⟨p, ⟨o, e⟩, st⟩ := x; exact ⟨st _ _ p fun o q => k _ _ (.inl rfl) q, ⟨o, k _ _ (.inl rfl) e⟩, st⟩
theorem HOk.lt (x : HOk P w H h) (e : H a = some o) : a < h.objs.size := (x a o e).lt
theorem HOk.fresh (x : HOk P w H h) (e : h.objs.size ≤ a) : H a = none := by
  cases q : H a with
  | none => rfl
  | some u => exact absurd (Nat.lt_of_lt_of_le (x.lt q) e) (Nat.lt_irrefl _)
/-- every object of the heap is kept -/
theorem HOk.kept (x : HOk P w H h) (k : ∀ b u, h.get? b = some u → h'.get? b = some u) : HOk P w H h' := fun a o e =>
  (x a o e).stay (fun b u _ q => k b u q) (fun _ q => q) fun _ _ q => q
/-- a new object is laid and tracked -/
theorem HOk.laid (x : HOk P w H h) (k : ∀ b u, h.get? b = some u → h'.get? b = some u) (hp : h.objs.size ≤ a) (new : ObjOk P w (upd H a o) h' a o) : HOk P w (upd H a o) h' := fun b u e => by
  have hn := x.fresh hp
  by_cases hb : b = a
  · subst hb; rw [upd_same] at e; cases e; exact new
  · rw [upd_ne hb] at e
    exact (x b u e).stay (fun c v _ q => k c v q) (fun c q => by rw [upd_ne (ne_of_none q hn)]; exact q) fun c xs q => by rw [upd_ne (ne_of_none q hn)]; exact q
end

/-- what may be read as u: it is u, or a known u -/
def Rd (H : Hp) (a : Addr) (u : HO) : Prop := H a = some u ∨ ∃ o, H a = some (.frz o u)
theorem Rd.of {H : Hp} {a : Addr} {u : HO} (h : H a = some u) : Rd H a u := .inl h
theorem Rd.ok {P : Program} {w : World} {H : Hp} {h : Heap} {a : Addr} {u : HO} (r : Rd H a u) (x : HOk P w H h) : ObjOk P w H h a u := by
  rcases r with r | ⟨o, r⟩
  · exact x a u r
  · obtain ⟨_, q⟩ := x a _ r
    exact q
/-- what may be written -/
def Mut : Option HO → Prop
  | some (.lst _) => True
  | some (.dK _) => True
  | some (.dT _) => True
  | some (.set _ _) => True
  | some (.ins _ _ _) => True
  | some (.ext _) => True
  | _ => False
section
variable {P : Program} {w : World} {H : Hp} {h h' : Heap} {x e : Addr} {o' : HO}
/-- the object at e is changed: x itself, or the dict of the instance x -/
theorem HOk.write (ok : HOk P w H h) (mu : Mut (H x)) (he : e = x ∨ H e = some (.own x)) (k : ∀ b u, b ≠ e → h.get? b = some u → h'.get? b = some u) (heo : ∃ u, h'.get? e = some u)
    (new : ObjOk P w (upd H x o') h' x o') : HOk P w (upd H x o') h' := fun b u q => by
  have nown : ∀ c y, H c = some (.own y) → c ≠ x := fun c y r z => by subst z; rw [r] at mu; exact mu
  have ntup : ∀ c xs, H c = some (.tup xs) → c ≠ x := fun c xs r z => by subst z; rw [r] at mu; exact mu
  by_cases hb : b = x
  · subst hb; rw [upd_same] at q; cases q; exact new
  · rw [upd_ne hb] at q
    by_cases hbe : b = e
    · have q' : H b = some (.own x) := by
        rcases he with z | z
        · exact absurd (hbe.trans z) hb
        · rw [hbe]; exact z
      rw [q] at q'; cases q'
      obtain ⟨v, hv⟩ := heo
      exact ⟨v, by rw [hbe]; exact hv⟩
    · refine (ok b u q).stay (fun c v hc r => k c v ?_ r) (fun c r => by rw [upd_ne (nown c b r)]; exact r) fun c xs r => by rw [upd_ne (ntup c xs r)]; exact r
      rcases hc with rfl | hc
      · exact hbe
      · rintro rfl
        rcases he with z | z
        · exact nown c b hc z
        · rw [hc] at z; cases z; exact hb rfl
end

/-! ### kept unless tracked; of the frames at fs (the callers') the slots may change (an exception that passes writes there); of the records at ex (iterators) nothing is said -/
structure Un (fs ex : List Addr) (H H' : Hp) (h h' : Heap) : Prop where
  keep : ∀ b o, h.get? b = some o → H b = none → b ∉ fs → b ∉ ex → h'.get? b = some o
  slot : ∀ b o, h.get? b = some o → H b = none → b ∈ fs → b ∉ ex → ∃ sl, h'.get? b = some { o with slots := sl }
  free : ∀ b o, h.get? b = some o → H b = none → b ∉ ex → H' b = none
  there : ∀ b o, h.get? b = some o → b ∉ ex → ∃ o', h'.get? b = some o'
  tups : ∀ b xs, H b = some (.tup xs) → H' b = some (.tup xs)
  frzs : ∀ b o u, H b = some (.frz o u) → H' b = some (.frz o u)
  tbls : ∀ b ps, H b = some (.tbl ps) → ∃ more, H' b = some (.tbl (ps ++ more))
section
variable {fs fs' ex ex' : List Addr} {H H1 H2 : Hp} {h h1 h2 h' : Heap} {a x e : Addr} {o : HO}
theorem Un.any (u : Un fs ex H H1 h h1) {b : Addr} {ob : Obj} (q : h.get? b = some ob) (n : H b = none) (hx : b ∉ ex) : ∃ sl, h1.get? b = some { ob with slots := sl } := by
  by_cases hb : b ∈ fs
  · exact u.slot b ob q n hb hx
  · exact ⟨ob.slots, u.keep b ob q n hb hx⟩
theorem Un.trans (a : Un fs ex H H1 h h1) (b : Un fs ex H1 H2 h1 h2) : Un fs ex H H2 h h2 where
  keep := fun c ob q n hc hx => b.keep c ob (a.keep c ob q n hc hx) (a.free c ob q n hx) hc hx
  slot := fun c ob q n hc hx => by
    obtain ⟨sl, e1⟩ := a.slot c ob q n hc hx
    obtain ⟨sl', e2⟩ := b.slot c _ e1 (a.free c ob q n hx) hc hx
    exact ⟨sl', e2⟩
  free := fun c ob q n hx => by
    obtain ⟨o', e1⟩ := a.there c ob q hx
    exact b.free c o' e1 (a.free c ob q n hx) hx
  there := fun c ob q hx => by
    obtain ⟨o', e1⟩ := a.there c ob q hx
    exact b.there c o' e1 hx
  tups := fun c xs q => b.tups c xs (a.tups c xs q)
  frzs := fun c ob xs q => b.frzs c ob xs (a.frzs c ob xs q)
  tbls := fun c ps q => by
    obtain ⟨m1, e1⟩ := a.tbls c ps q
    obtain ⟨m2, e2⟩ := b.tbls c _ e1
    exact ⟨m1 ++ m2, by rw [e2, Array.append_assoc]⟩
theorem Un.kept (k : ∀ b u, h.get? b = some u → h'.get? b = some u) : Un fs ex H H h h' :=
  ⟨fun b ob q _ _ _ => k b ob q, fun b ob q _ _ _ => ⟨ob.slots, k b ob q⟩, fun _ _ _ n _ => n, fun b ob q _ => ⟨ob, k b ob q⟩, fun _ _ q => q, fun _ _ _ q => q, fun _ ps q => ⟨#[], by rw [q]; simp⟩⟩
theorem Un.refl : Un fs ex H H h h := Un.kept fun _ _ q => q
theorem Un.laid (k : ∀ b u, h.get? b = some u → h'.get? b = some u) (hp : h.objs.size ≤ a) (hn : H a = none) : Un fs ex H (upd H a o) h h' where
  keep := fun b u q _ _ _ => k b u q
  slot := fun b u q _ _ _ => ⟨u.slots, k b u q⟩
  free := fun b u q n _ => by rw [upd_ne (Nat.ne_of_lt (Nat.lt_of_lt_of_le (Heap.lt_size q) hp))]; exact n
  there := fun b u q _ => ⟨u, k b u q⟩
  tups := fun b xs q => by rw [upd_ne (ne_of_none q hn)]; exact q
  frzs := fun b u xs q => by rw [upd_ne (ne_of_none q hn)]; exact q
  tbls := fun b ps q => ⟨#[], by rw [upd_ne (ne_of_none q hn), q]; simp⟩
theorem Un.write (mu : Mut (H x)) (he : e = x ∨ H e = some (.own x)) (k : ∀ b u, b ≠ e → h.get? b = some u → h'.get? b = some u) (heo : ∃ u, h'.get? e = some u) : Un fs ex H (upd H x o) h h' := by
  have hx : ∀ b, H b = none → b ≠ x := fun b n z => by subst z; rw [n] at mu; exact mu
  have hb : ∀ b, H b = none → b ≠ e := fun b n z => by
    subst z
    rcases he with r | r
    · exact hx b n r
    · rw [n] at r; cases r
  have hm : ∀ b u, H b = some u → ¬ Mut (some u) → b ≠ x := fun b u q nm z => by subst z; rw [q] at mu; exact nm mu
  refine ⟨fun b u q n _ _ => k b u (hb b n) q, fun b u q n _ _ => ⟨u.slots, k b u (hb b n) q⟩, fun b u q n _ => by rw [upd_ne (hx b n)]; exact n, fun b u q _ => ?_,
    fun b xs q => by rw [upd_ne (hm b _ q fun z => z)]; exact q, fun b u xs q => by rw [upd_ne (hm b _ q fun z => z)]; exact q, fun b ps q => ⟨#[], by rw [upd_ne (hm b _ q fun z => z), q]; simp⟩⟩
  by_cases hbe : b = e
  · subst hbe; exact heo
  · exact ⟨u, k b u hbe q⟩
theorem Un.mono (u : Un fs ex H H1 h h1) (hs : ∀ b ∈ fs, b ∈ fs') (hx : ∀ b ∈ ex, b ∈ ex') : Un fs' ex' H H1 h h1 :=
  ⟨fun b ob q n hb he => u.keep b ob q n (fun z => hb (hs b z)) fun z => he (hx b z), fun _ _ q n _ he => u.any q n fun z => he (hx _ z), fun b ob q n he => u.free b ob q n fun z => he (hx b z), fun b ob q he => u.there b ob q fun z => he (hx b z), u.tups, u.frzs, u.tbls⟩
end

/-! ### the heap without what is tracked -/
def trk (h : Heap) (H : Hp) : List Addr := (List.range h.objs.size).filter fun a => (H a).isSome
def hidT (h : Heap) (H : Hp) : Heap := PySem.W.hideAll h (trk h H)
theorem hidT_size (h : Heap) (H : Hp) : (hidT h H).objs.size = h.objs.size := PySem.W.hideAll_size _ _
theorem hidT_get {h : Heap} {H : Hp} {b : Addr} {o : Obj} (e : h.get? b = some o) (n : H b = none) : (hidT h H).get? b = some o :=
  PySem.W.hideAll_get _ e fun hm => by
    have q : (H b).isSome = true := (List.mem_filter.mp hm).2
    rw [n] at q; simp at q
theorem of_hidT {h : Heap} {H : Hp} {b : Addr} {o : Obj} (e : (hidT h H).get? b = some o) : h.get? b = some o ∧ H b = none := by
  have e' : h.get? b = some o := PySem.W.of_hideAll (trk h H) e
  refine ⟨e', ?_⟩
  cases q : H b with
  | none => rfl
  | some x =>
    have hm : b ∈ trk h H := List.mem_filter.mpr ⟨List.mem_range.mpr (Heap.lt_size e'), by simp [q]⟩
    have z : (hidT h H).get? b = none := PySem.W.hideAll_none (trk h H) hm
    rw [z] at e; cases e

/-! ### OpenK's ledger, filled with every new object but one -/
def allNews (g h : Heap) (L : Addr) : List (Addr × Obj) := (List.range h.objs.size).filterMap fun a => if a = L ∨ (g.get? a).isSome = true then none else (h.get? a).map fun o => (a, o)
def rest (g h : Heap) (L d : Addr) : List (Addr × Obj) := (allNews g h L).filter fun p => decide (p.1 ≠ d)
end L2

namespace L2
open PySem PySem.Spec PyProof.Rows

/-- the module's facts, over the base: the heap at the law's entry without what is tracked there -/
structure Mod (K : PySem.W.Frag) (mg : Str → Option Value) (base : Heap) : Prop where
  kin : K.In base
  glob : base.Ns mainGlobals mg
  blt : ∃ mb, base.Ns builtinsNs mb ∧ ∀ x : Str, x ≠ "__name__" → mb x = bootBuiltins x
  nolimit : base.NoLimit

/-- the context: a def's body (or a comprehension's block) running. base: fixed through the whole law; s₀, H₀: the entry; outer: the frames whose slots others may change (a def's callers); stack: all frames that run;
   ex: iterators that were made ahead of the entry and are walked here (a comprehension's); fn: the names whose cells were made at the entry (a def: all; a comprehension's block: its own); calm: not within an except suite; pn: pins that every state bears; xe: what is wanted of an exception that leaves the code -/
structure Cx where
  prog : Program
  w : World
  K : PySem.W.Frag
  mg : Str → Option Value
  base : Heap
  A : Around
  N : List Str
  s₀ : Shared
  H₀ : Hp
  env : Env
  outer : List Env
  stack : List Env
  ex : List Addr
  fn : Str → Bool
  calm : Bool
  pn : List (Addr × Obj)
  xe : Value → Shared → Prop
/-- the callers' frames -/
def frs (l : List Env) : List Addr := l.filterMap (·.frame)
abbrev Cx.fs (X : Cx) : List Addr := frs X.outer

def Vis (sc : Scope) (x : Str) : Prop := sc.names.lookup x = some .local ∨ sc.names.lookup x = some .cell ∨ sc.names.lookup x = some .free
def Loc (sc : Scope) (x : Str) : Prop := sc.names.lookup x = some .local ∨ sc.names.lookup x = some .cell
def Look (env : Env) (h : Heap) (m : Str → Option Value) (x : Str) (u : Value) : Prop :=
  (env.kindOf x = some .local ∧ m x = some u) ∨ ((env.kindOf x = some .cell ∨ env.kindOf x = some .free) ∧ ∃ c, env.cells.lookup x = some c ∧ h.IsCell c (some u))

structure Cx.Ok (X : Cx) : Prop where
  mod : Mod X.K X.mg X.base
  kind : X.env.scope.kind = .function
  glob : X.env.globals = mainGlobals
  blt : X.env.builtins = builtinsNs
  above : X.s₀.heap.objs.size ≤ X.env.locals
  inj : ∀ x y c, X.env.cells.lookup x = some c → X.env.cells.lookup y = some c → x = y
  has : ∀ x, (X.env.kindOf x = some .cell ∨ X.env.kindOf x = some .free) → ∃ c, X.env.cells.lookup x = some c
  cab : ∀ x c, X.fn x = true → X.env.cells.lookup x = some c → X.s₀.heap.objs.size ≤ c
  hd : X.calm = true → X.A.handled = none
  frames : X.A.frames = some X.stack
  stk : X.stack = X.outer ∨ (X.stack = X.env :: X.outer ∧ X.env.frame = some X.env.locals)
  exf : ∀ b ∈ X.ex, b ≠ X.env.locals ∧ ∀ x c, X.env.cells.lookup x = some c → c ≠ b
  bs : ∀ b o, X.base.get? b = some o → X.s₀.heap.get? b = some o ∧ X.H₀ b = none
  bsz : X.base.objs.size ≤ X.s₀.heap.objs.size
  noex : ∀ b o, X.base.get? b = some o → b ∉ X.ex
  exfs : ∀ b ∈ X.ex, b ∉ X.fs
  funs : X.s₀.heap.FunFrames X.base X.outer
  frf : ∀ b ∈ X.fs, X.H₀ b = none

structure Inv (X : Cx) (pins : List (Addr × Obj)) (σ : List (Option V)) (H : Hp) (s : Shared) : Prop where
  ok : X.Ok
  os : s.os = X.s₀.os
  bare : AllBare s.gens
  base : Un X.fs X.ex X.H₀ H X.s₀.heap s.heap
  loc : ∃ m, s.heap.Ns X.env.locals m ∧ ∀ (i : Nat) (x : Str) (v : V), X.N[i]? = some x → σ[i]? = some (some v) → Vis X.env.scope x → ∃ u, RelV v u ∧ Look X.env s.heap m x u
  cell : ∀ x c, X.env.cells.lookup x = some c → ∃ v, s.heap.IsCell c v
  free : H X.env.locals = none
  freeC : ∀ x c, X.env.cells.lookup x = some c → H c = none
  pin : ∀ p ∈ X.pn ++ pins, s.heap.get? p.1 = some p.2 ∧ H p.1 = none ∧ p.1 ≠ X.env.locals ∧ p.1 ∉ X.fs ∧ ∀ v, p.2.data ≠ .cell v
  hok : HOk X.prog X.w H s.heap
  len : σ.length = X.N.length

section
variable {X : Cx} {pins : List (Addr × Obj)} {σ : List (Option V)} {H H' : Hp} {s : Shared} {h' : Heap}

theorem Cx.Ok.nofr (ok : X.Ok) {b : Addr} {o : Obj} (e : X.base.get? b = some o) : b ∉ X.fs := fun hb => by
  have := (ok.funs.mem hb).1
  rw [e] at this; cases this
theorem Inv.bs (I : Inv X pins σ H s) : ∀ b o, X.base.get? b = some o → s.heap.get? b = some o ∧ H b = none := fun b o e =>
  ⟨I.base.keep b o (I.ok.bs b o e).1 (I.ok.bs b o e).2 (I.ok.nofr e) (I.ok.noex b o e), I.base.free b o (I.ok.bs b o e).1 (I.ok.bs b o e).2 (I.ok.noex b o e)⟩
theorem Inv.bk (I : Inv X pins σ H s) : ∀ b o, X.base.get? b = some o → s.heap.get? b = some o := fun b o e => (I.bs b o e).1
theorem Inv.mod (I : Inv X pins σ H s) : Mod X.K X.mg X.base := I.ok.mod
theorem Inv.kIn (I : Inv X pins σ H s) : X.K.In s.heap := I.ok.mod.kin.keeps I.bk
theorem Inv.nolimit (I : Inv X pins σ H s) : s.heap.NoLimit := I.ok.mod.nolimit.keeps I.bk
/-- the frame over the base: for OpenK's rules (K.In X.base is I.mod.kin) -/
theorem Inv.fr (I : Inv X pins σ H s) : ∃ m, Fr X.base X.env.locals s.heap m :=
  let ⟨m, hn, _⟩ := I.loc
  ⟨m, hn, I.bk, Nat.le_trans I.ok.bsz I.ok.above⟩
theorem Inv.lt (I : Inv X pins σ H s) : X.env.locals < s.heap.objs.size := let ⟨_, hn, _⟩ := I.loc; hn.lt
theorem Inv.sz (I : Inv X pins σ H s) : X.s₀.heap.objs.size ≤ s.heap.objs.size := Nat.le_trans I.ok.above (Nat.le_of_lt I.lt)
theorem Inv.nofs (I : Inv X pins σ H s) {a : Addr} (h : s.heap.objs.size ≤ a) : a ∉ X.fs := fun hb => by
  obtain ⟨_, o, ho, _⟩ := I.ok.funs.mem hb
  exact absurd (Nat.lt_of_lt_of_le (Heap.lt_size ho) (Nat.le_trans I.sz h)) (Nat.lt_irrefl _)
theorem Inv.cne (I : Inv X pins σ H s) : ∀ x c, X.env.cells.lookup x = some c → c ≠ X.env.locals := fun x c e z => by
  obtain ⟨v, o, ho, hd⟩ := I.cell x c e
  obtain ⟨m, ⟨o', es, ep, ho', hd', _⟩, _⟩ := I.loc
  rw [z, ho'] at ho; cases ho; rw [hd'] at hd; cases hd
theorem Inv.funs (I : Inv X pins σ H s) : s.heap.FunFrames X.base X.outer := by
  have all : ∀ (l : List Env), (∀ b ∈ frs l, b ∈ X.fs) → X.s₀.heap.FunFrames X.base l → s.heap.FunFrames X.base l := by
    intro l
    induction l with
    | nil => intro _ _; trivial
    | cons env r ih =>
      intro hs hl
      obtain ⟨hk, ⟨L, o, hf, hn, ho, hd⟩, hr⟩ := hl
      have hL : L ∈ X.fs := hs L (by unfold frs; rw [List.filterMap_cons, hf]; exact List.mem_cons_self)
      obtain ⟨sl, e⟩ := I.base.slot L o ho (I.ok.frf L hL) hL fun z => I.ok.exfs L z hL
      exact ⟨hk, ⟨L, _, hf, hn, e, hd⟩, ih (fun b hb => hs b (by unfold frs; rw [List.filterMap_cons, hf]; exact List.mem_cons_of_mem _ hb)) hr⟩
  exact all X.outer (fun _ hb => hb) I.ok.funs

/-- the frames that run, for a call -/
theorem Inv.stack (I : Inv X pins σ H s) : s.heap.FunFrames X.base X.stack := by
  rcases I.ok.stk with e | ⟨e, hf⟩
  · rw [e]; exact I.funs
  · rw [e]
    obtain ⟨m, hn, _⟩ := I.loc
    refine .cons (by rw [I.ok.kind]; decide) hf hn ?_ I.funs
    exact Heap.get?_none_of_le (Nat.le_trans I.ok.bsz I.ok.above)
theorem Inv.stkSub (I : Inv X pins σ H s) : ∀ b ∈ frs X.stack, b ∈ X.env.locals :: X.fs := fun b hb => by
  rcases I.ok.stk with e | ⟨e, hf⟩
  · rw [e] at hb; exact List.mem_cons_of_mem _ hb
  · rw [e] at hb
    unfold frs at hb
    rw [List.filterMap_cons, hf] at hb
    exact hb
theorem Inv.stkFree (I : Inv X pins σ H s) : ∀ b ∈ frs X.stack, H b = none := fun b hb => by
  rcases List.mem_cons.mp (I.stkSub b hb) with e | hb
  · rw [e]; exact I.free
  · obtain ⟨_, o, ho, _⟩ := I.ok.funs.mem hb
    exact I.base.free b o ho (I.ok.frf b hb) fun z => I.ok.exfs b z hb

/-- THE STEP: the untracked objects but the frame and the records at ch are kept (the callers' frames up to slots), the frame's map is kept, the new abstract heap is held -/
theorem Inv.step {g' : Array GenState} {t' : Nat} {d' : Drawn} {ch : List Addr} (I : Inv X pins σ H s)
    (hch : ∀ b ∈ ch, (b ∈ X.ex ∨ X.s₀.heap.objs.size ≤ b) ∧ b ≠ X.env.locals ∧ (∀ x c, X.env.cells.lookup x = some c → c ≠ b) ∧ ∀ p ∈ X.pn ++ pins, p.1 ≠ b)
    (keep : ∀ b o, b ≠ X.env.locals → b ∉ X.fs → b ∉ ch → s.heap.get? b = some o → H b = none → h'.get? b = some o)
    (slot : ∀ b o, b ≠ X.env.locals → b ∈ X.fs → b ∉ ch → s.heap.get? b = some o → H b = none → ∃ sl, h'.get? b = some { o with slots := sl }) (free : ∀ b o, b ∉ ch → s.heap.get? b = some o → H b = none → H' b = none)
    (there : ∀ b o, b ∉ ch → s.heap.get? b = some o → ∃ o', h'.get? b = some o')
    (tups : ∀ b xs, H b = some (.tup xs) → H' b = some (.tup xs)) (frzs : ∀ b o u, H b = some (.frz o u) → H' b = some (.frz o u)) (tbls : ∀ b ps, H b = some (.tbl ps) → ∃ more, H' b = some (.tbl (ps ++ more)))
    (ns : ∀ m, s.heap.Ns X.env.locals m → h'.Ns X.env.locals m) (hok : HOk X.prog X.w H' h') (hg : AllBare g') :
    Inv X pins σ H' { s with heap := h', gens := g', drawn := d', toks := t' } := by
  have neL : ∀ b o, X.s₀.heap.get? b = some o → b ≠ X.env.locals := fun b o e => Nat.ne_of_lt (Nat.lt_of_lt_of_le (Heap.lt_size e) I.ok.above)
  have neC : ∀ b o, X.s₀.heap.get? b = some o → b ∉ X.ex → b ∉ ch := fun b o e hx hb => by
    rcases (hch b hb).1 with z | z
    · exact hx z
    · exact absurd (Nat.lt_of_lt_of_le (Heap.lt_size e) z) (Nat.lt_irrefl _)
  have cellK : ∀ x c, X.env.cells.lookup x = some c → ∀ v, s.heap.IsCell c v → h'.IsCell c v := fun x c e v ⟨o, ho, hd⟩ => by
    have nch : c ∉ ch := fun z => (hch c z).2.2.1 x c e rfl
    by_cases hc : c ∈ X.fs
    · obtain ⟨sl, q⟩ := slot c o (I.cne x c e) hc nch ho (I.freeC x c e)
      exact ⟨_, q, hd⟩
    · exact ⟨o, keep c o (I.cne x c e) hc nch ho (I.freeC x c e), hd⟩
  refine ⟨I.ok, I.os, hg, ⟨fun b o e n hb hx => ?_, fun b o e n hb hx => ?_, fun b o e n hx => ?_, fun b o e hx => ?_, fun b xs e => tups b xs (I.base.tups b xs e), fun b o xs e => frzs b o xs (I.base.frzs b o xs e), fun b ps e => ?_⟩, ?_, fun x c e => ?_, ?_, fun x c e => ?_, fun p hp => ?_, hok, I.len⟩
  · exact keep b o (neL b o e) hb (neC b o e hx) (I.base.keep b o e n hb hx) (I.base.free b o e n hx)
  · obtain ⟨sl, e1⟩ := I.base.slot b o e n hb hx
    obtain ⟨sl', e2⟩ := slot b _ (neL b o e) hb (neC b o e hx) e1 (I.base.free b o e n hx)
    exact ⟨sl', e2⟩
  · obtain ⟨o', e1⟩ := I.base.there b o e hx
    exact free b o' (neC b o e hx) e1 (I.base.free b o e n hx)
  · obtain ⟨o', e1⟩ := I.base.there b o e hx
    exact there b o' (neC b o e hx) e1
  · obtain ⟨m1, e1⟩ := I.base.tbls b ps e
    obtain ⟨m2, e2⟩ := tbls b _ e1
    exact ⟨m1 ++ m2, by rw [e2, Array.append_assoc]⟩
  · obtain ⟨m, hn, hl⟩ := I.loc
    refine ⟨m, ns m hn, fun i x v e1 e2 e3 => ?_⟩
    obtain ⟨u, r, l⟩ := hl i x v e1 e2 e3
    refine ⟨u, r, ?_⟩
    rcases l with l | ⟨k, c, e, z⟩
    · exact .inl l
    · exact .inr ⟨k, c, e, cellK x c e _ z⟩
  · obtain ⟨v, z⟩ := I.cell x c e
    exact ⟨v, cellK x c e v z⟩
  · obtain ⟨m, ⟨o, _, _, ho, _⟩, _⟩ := I.loc
    exact free _ o (fun z => (hch _ z).2.1 rfl) ho I.free
  · obtain ⟨v, o, ho, hd⟩ := I.cell x c e
    exact free c o (fun z => (hch c z).2.2.1 x c e rfl) ho (I.freeC x c e)
  · obtain ⟨e, n, ne, nf, d⟩ := I.pin p hp
    have nch : p.1 ∉ ch := fun z => (hch p.1 z).2.2.2 p hp rfl
    exact ⟨keep p.1 p.2 ne nf nch e n, free p.1 p.2 nch e n, ne, nf, d⟩
/-- .. where the frame's own object is kept too -/
theorem Inv.un {t' : Nat} (I : Inv X pins σ H s) (u : Un X.fs [] H H' s.heap h') (hok : HOk X.prog X.w H' h') : Inv X pins σ H' { s with heap := h', toks := t' } := by
  obtain ⟨m, ⟨o, es, ep, ho, r⟩, _⟩ := id I.loc
  obtain ⟨sl, hL⟩ := u.any ho I.free (by simp)
  exact I.step (g' := s.gens) (d' := s.drawn) (ch := []) (fun _ z => nomatch z) (fun b o _ hb _ e n => u.keep b o e n hb (by simp)) (fun b o _ hb _ e n => u.slot b o e n hb (by simp)) (fun b o _ e n => u.free b o e n (by simp)) (fun b o _ e => u.there b o e (by simp)) u.tups u.frzs u.tbls (fun m' hm => by
    obtain ⟨o', es', ep', ho', r'⟩ := hm
    rw [ho] at ho'; cases ho'
    exact ⟨_, es', ep', hL, r'⟩) hok I.bare
/-- behind a call (or a comprehension's block): the slots of this frame may have changed too, the records at ch may have turned -/
theorem Inv.call {g' : Array GenState} {t' : Nat} {d' : Drawn} {ch : List Addr} (I : Inv X pins σ H s) (u : Un (frs X.stack) ch H H' s.heap h') (hok : HOk X.prog X.w H' h') (hg : AllBare g')
    (hch : ∀ b ∈ ch, (b ∈ X.ex ∨ X.s₀.heap.objs.size ≤ b) ∧ b ≠ X.env.locals ∧ (∀ x c, X.env.cells.lookup x = some c → c ≠ b) ∧ ∀ p ∈ X.pn ++ pins, p.1 ≠ b) :
    Inv X pins σ H' { s with heap := h', gens := g', drawn := d', toks := t' } := by
  obtain ⟨m, ⟨o, es, ep, ho, r⟩, _⟩ := id I.loc
  obtain ⟨sl, hL⟩ := u.any ho I.free fun z => (hch _ z).2.1 rfl
  exact I.step (ch := ch) hch (fun b o hL hb hc e n => u.keep b o e n (fun z => (List.mem_cons.mp (I.stkSub b z)).elim hL hb) hc) (fun b o _ _ hc e n => u.any e n hc) (fun b o hc e n => u.free b o e n hc) (fun b o hc e => u.there b o e hc) u.tups u.frzs u.tbls (fun m' hm => by
    obtain ⟨o', es', ep', ho', r'⟩ := hm
    rw [ho] at ho'; cases ho'
    exact ⟨_, es', ep', hL, r'⟩) hok hg
/-- an untracked record of ours (an iterator) has turned -/
theorem Inv.turned {t' : Nat} {it : Addr} (I : Inv X pins σ H s) (k : ∀ b o, b ≠ it → s.heap.get? b = some o → h'.get? b = some o) (hn : H it = none) (hL : it ≠ X.env.locals)
    (h1 : it ∈ X.ex ∨ X.s₀.heap.objs.size ≤ it) (h2 : ∀ x c, X.env.cells.lookup x = some c → c ≠ it) (h3 : ∀ p ∈ X.pn ++ pins, p.1 ≠ it) : Inv X pins σ H { s with heap := h', toks := t' } := by
  have nit : ∀ b u, H b = some u → b ≠ it := fun b u e z => by rw [z, hn] at e; cases e
  refine I.step (g' := s.gens) (d' := s.drawn) (ch := [it]) (fun b hb => ?_) (fun b o _ _ hc e _ => k b o (fun z => hc (by simp [z])) e) (fun b o _ _ hc e _ => ⟨o.slots, k b o (fun z => hc (by simp [z])) e⟩) (fun _ _ _ _ n => n)
    (fun b o hc e => ⟨o, k b o (fun z => hc (by simp [z])) e⟩) (fun _ _ e => e) (fun _ _ _ e => e) (fun b ps e => ⟨#[], by rw [e]; simp⟩) (fun m hm => ?_) (fun b u e => ?_) I.bare
  · have e : b = it := by simpa using hb
    subst e
    exact ⟨h1, hL, h2, h3⟩
  · obtain ⟨o, es, ep, ho, r⟩ := hm
    exact ⟨o, es, ep, k _ o (Ne.symm hL) ho, r⟩
  · refine (I.hok b u e).stay (fun c v hc q => k c v ?_ q) (fun _ q => q) fun _ _ q => q
    rcases hc with z | z
    · rw [z]; exact nit b u e
    · exact nit c _ z
theorem Inv.tok (I : Inv X pins σ H s) (t : Nat) : Inv X pins σ H { s with toks := t } := I.un (h' := s.heap) (t' := t) Un.refl I.hok
/-- all objects kept -/
theorem Inv.kept {t' : Nat} (I : Inv X pins σ H s) (k : ∀ b u, s.heap.get? b = some u → h'.get? b = some u) : Inv X pins σ H { s with heap := h', toks := t' } := I.un (Un.kept k) (I.hok.kept k)
/-- a new object laid and tracked -/
theorem Inv.laid {a : Addr} {o : HO} {t' : Nat} (I : Inv X pins σ H s) (k : ∀ b u, s.heap.get? b = some u → h'.get? b = some u) (hp : s.heap.objs.size ≤ a) (new : ObjOk X.prog X.w (upd H a o) h' a o) :
    Inv X pins σ (upd H a o) { s with heap := h', toks := t' } := I.un (Un.laid k hp (I.hok.fresh hp)) (I.hok.laid k hp new)
/-- an object written -/
theorem Inv.write {x e : Addr} {o : HO} {t' : Nat} (I : Inv X pins σ H s) (mu : Mut (H x)) (he : e = x ∨ H e = some (.own x)) (k : ∀ b u, b ≠ e → s.heap.get? b = some u → h'.get? b = some u) (heo : ∃ u, h'.get? e = some u)
    (new : ObjOk X.prog X.w (upd H x o) h' x o) : Inv X pins σ (upd H x o) { s with heap := h', toks := t' } := I.un (Un.write mu he k heo) (I.hok.write mu he k heo new)
theorem Inv.pins_of {pins' : List (Addr × Obj)} (I : Inv X pins σ H s) (h : ∀ p ∈ pins', s.heap.get? p.1 = some p.2 ∧ H p.1 = none ∧ p.1 ≠ X.env.locals ∧ p.1 ∉ X.fs ∧ ∀ v, p.2.data ≠ .cell v) : Inv X pins' σ H s :=
  ⟨I.ok, I.os, I.bare, I.base, I.loc, I.cell, I.free, I.freeC, fun p hp => (List.mem_append.mp hp).elim (fun z => I.pin p (List.mem_append_left _ z)) (h p), I.hok, I.len⟩

theorem nodup_ix {N : List Str} (hN : N.Nodup) {i j : Nat} {x : Str} (a : N[i]? = some x) (b : N[j]? = some x) : i = j := by
  obtain ⟨h1, e1⟩ := List.getElem?_eq_some_iff.mp a
  obtain ⟨h2, e2⟩ := List.getElem?_eq_some_iff.mp b
  exact (List.getElem_inj hN).mp (e1.trans e2.symm)

/-- a name is stored; what changed -/
theorem store_ok2 {M : Model} {A : Around} {E : Value → Shared → Prop} {i : Nat} {x : Str} {v : V} {u : Value} {Q : Unit → Shared → Prop} (I : Inv X pins σ H s) (hN : X.N.Nodup) (hi : X.N[i]? = some x) (hx : Loc X.env.scope x) (r : RelV v u)
    (h : ∀ s', Inv X pins (σ.set i (some v)) H s' → (∃ a, Heap.SameBut a s.heap s'.heap ∧ (a = X.env.locals ∨ X.env.cells.lookup x = some a)) → Q () s') (hf : X.fn x = true ∨ X.env.scope.names.lookup x = some .local := by first | exact .inl rfl | exact .inr rfl | assumption) : wpAny M A (storeName X.env x u) Q E s := by
  obtain ⟨m, hn, hl⟩ := id I.loc
  have hcls : (X.env.scope.kind == .class || (X.env.scope.kind == .module && X.env.locals != X.env.globals)) = false := by rw [I.ok.kind]; rfl
  have hiσ : i < σ.length := by rw [I.len]; exact (List.getElem?_eq_some_iff.mp hi).1
  have cne := I.cne
  have tracked : ∀ {a : Addr} {h' : Heap}, (∃ o, s.heap.get? a = some o ∧ H a = none) → Heap.SameBut a s.heap h' → HOk X.prog X.w H h' := fun {a h'} ha hs b ob e => by
    obtain ⟨_, _, hfree⟩ := ha
    refine (I.hok b ob e).stay (fun c w' hc q => (hs.2 c ?_).trans q) (fun _ q => q) fun _ _ q => q
    rintro rfl
    rcases hc with rfl | hc
    · rw [hfree] at e; cases e
    · rw [hfree] at hc; cases hc
  rcases hx with hk | hk
  · refine wpAny_storeName_local hk hn (fun h' hn' hs => ?_) hcls
    obtain ⟨oL, _, _, hoL, _⟩ := id hn
    refine h _ ⟨I.ok, I.os, I.bare, ⟨fun b o e n hb hx => ?_, fun b o e n hb hx => ?_, I.base.free, fun b o e hx => ?_, I.base.tups, I.base.frzs, I.base.tbls⟩, ⟨_, hn', fun j y v' e1 e2 e3 => ?_⟩, fun y c e => ?_, I.free, I.freeC, fun p hp => ?_, tracked ⟨oL, hoL, I.free⟩ hs, by simpa using I.len⟩ ⟨_, hs, .inl rfl⟩
    · exact (hs.2 b (Nat.ne_of_lt (Nat.lt_of_lt_of_le (Heap.lt_size e) I.ok.above))).trans (I.base.keep b o e n hb hx)
    · obtain ⟨sl, e1⟩ := I.base.slot b o e n hb hx
      exact ⟨sl, (hs.2 b (Nat.ne_of_lt (Nat.lt_of_lt_of_le (Heap.lt_size e) I.ok.above))).trans e1⟩
    · obtain ⟨o', e1⟩ := I.base.there b o e hx
      exact ⟨o', (hs.2 b (Nat.ne_of_lt (Nat.lt_of_lt_of_le (Heap.lt_size e) I.ok.above))).trans e1⟩
    · by_cases hj : j = i
      · subst hj
        rw [hi] at e1; cases e1
        rw [List.getElem?_set_self hiσ] at e2
        cases e2
        exact ⟨u, r, .inl ⟨hk, by simp⟩⟩
      · rw [List.getElem?_set_ne (Ne.symm hj)] at e2
        obtain ⟨u', r', q⟩ := hl j y v' e1 e2 e3
        refine ⟨u', r', ?_⟩
        rcases q with ⟨k, e⟩ | ⟨k, c, e, z⟩
        · refine .inl ⟨k, ?_⟩
          have : y ≠ x := fun e => hj (nodup_ix hN e1 (e ▸ hi))
          simp [this, e]
        · exact .inr ⟨k, c, e, z.sameBut hs (cne y c e)⟩
    · obtain ⟨w', z⟩ := I.cell y c e
      exact ⟨w', z.sameBut hs (cne y c e)⟩
    · obtain ⟨e, n, ne, nf, d⟩ := I.pin p hp
      exact ⟨(hs.2 p.1 ne).trans e, n, ne, nf, d⟩
  · have hfn : X.fn x = true := by
      rcases hf with z | z
      · exact z
      · rw [z] at hk; cases hk
    obtain ⟨c, hc⟩ := I.ok.has x (.inl hk)
    obtain ⟨w', z⟩ := I.cell x c hc
    refine wpAny_storeName_cell I.ok.kind hk hc z (fun h' hc' hs => ?_)
    obtain ⟨oc, hoc, hocd⟩ := id z
    refine h { s with heap := h' } ⟨I.ok, I.os, I.bare, ⟨fun b o e n hb hx => ?_, fun b o e n hb hx => ?_, I.base.free, fun b o e hx => ?_, I.base.tups, I.base.frzs, I.base.tbls⟩, ⟨m, hn.sameBut hs (Ne.symm (cne x c hc)), fun j y v' e1 e2 e3 => ?_⟩, fun y c' e => ?_, I.free, I.freeC, fun p hp => ?_, tracked ⟨oc, hoc, I.freeC x c hc⟩ hs, by simpa using I.len⟩ ⟨c, hs, .inr hc⟩
    · exact (hs.2 b (Nat.ne_of_lt (Nat.lt_of_lt_of_le (Heap.lt_size e) (I.ok.cab x c hfn hc)))).trans (I.base.keep b o e n hb hx)
    · obtain ⟨sl, e1⟩ := I.base.slot b o e n hb hx
      exact ⟨sl, (hs.2 b (Nat.ne_of_lt (Nat.lt_of_lt_of_le (Heap.lt_size e) (I.ok.cab x c hfn hc)))).trans e1⟩
    · obtain ⟨o', e1⟩ := I.base.there b o e hx
      exact ⟨o', (hs.2 b (Nat.ne_of_lt (Nat.lt_of_lt_of_le (Heap.lt_size e) (I.ok.cab x c hfn hc)))).trans e1⟩
    · by_cases hj : j = i
      · subst hj
        rw [hi] at e1; cases e1
        rw [List.getElem?_set_self hiσ] at e2
        cases e2
        exact ⟨u, r, .inr ⟨.inl hk, c, hc, hc'⟩⟩
      · rw [List.getElem?_set_ne (Ne.symm hj)] at e2
        obtain ⟨u', r', q⟩ := hl j y v' e1 e2 e3
        refine ⟨u', r', ?_⟩
        rcases q with q | ⟨k, c', e, z'⟩
        · exact .inl q
        · refine .inr ⟨k, c', e, z'.sameBut hs ?_⟩
          rintro rfl
          exact hj (nodup_ix hN e1 (I.ok.inj _ _ _ e hc ▸ hi))
    · by_cases hcc : c' = c
      · subst hcc; exact ⟨_, hc'⟩
      · obtain ⟨w2, z2⟩ := I.cell y c' e
        exact ⟨w2, z2.sameBut hs hcc⟩
    · obtain ⟨e, n, ne, nf, d⟩ := I.pin p hp
      refine ⟨(hs.2 p.1 ?_).trans e, n, ne, nf, d⟩
      intro q
      rw [q, hoc] at e
      have q' : oc = p.2 := Option.some.inj e
      exact d w' (by rw [← q']; exact hocd)
theorem store_ok {M : Model} {A : Around} {E : Value → Shared → Prop} {i : Nat} {x : Str} {v : V} {u : Value} {Q : Unit → Shared → Prop} (I : Inv X pins σ H s) (hN : X.N.Nodup) (hi : X.N[i]? = some x) (hx : Loc X.env.scope x) (r : RelV v u)
    (h : ∀ s', Inv X pins (σ.set i (some v)) H s' → Q () s') (hf : X.fn x = true ∨ X.env.scope.names.lookup x = some .local := by first | exact .inl rfl | exact .inr rfl | assumption) : wpAny M A (storeName X.env x u) Q E s :=
  store_ok2 I hN hi hx r (fun s' I' _ => h s' I') hf
/-- behind a call or a block, the state as it is -/
theorem Inv.call' {s' : Shared} {ch : List Addr} (I : Inv X pins σ H s) (ho : s'.os = s.os) (u : Un (frs X.stack) ch H H' s.heap s'.heap) (hok : HOk X.prog X.w H' s'.heap) (hg : AllBare s'.gens)
    (hch : ∀ b ∈ ch, (b ∈ X.ex ∨ X.s₀.heap.objs.size ≤ b) ∧ b ≠ X.env.locals ∧ (∀ x c, X.env.cells.lookup x = some c → c ≠ b) ∧ ∀ p ∈ X.pn ++ pins, p.1 ≠ b) : Inv X pins σ H' s' := by
  obtain ⟨h', g', d', t', o'⟩ := s'
  have e : o' = s.os := ho
  subst e
  exact I.call (g' := g') (t' := t') (d' := d') u hok hg hch
end

/-! ### the judgements -/
/-- an exception: its class, its own dict's address (where it has one), the abstract heap behind it -/
abbrev XK := Value → Option Addr → Hp → Prop
abbrev St := List (Option V)
abbrev VK := V → Hp → Prop
/-- an expression's reading; a test's; an argument list's -/
abbrev TE := St → Hp → VK → Prop
abbrev TT := St → Hp → (Bool → Hp → Prop) → Prop
abbrev TA := St → Hp → (List V → Hp → Prop) → Prop
/-- what is wanted behind a statement -/
structure Ends where
  nx : St → Hp → Prop
  rt : VK
  bk : St → Hp → Prop := fun _ _ => False
  ct : St → Hp → Prop := fun _ _ => False
abbrev TS := Ends → St → Hp → Prop

def EP (X : Cx) (pins : List (Addr × Obj)) (σ : St) (Q : VK) (u : Value) (s' : Shared) : Prop := ∃ v H', Inv X pins σ H' s' ∧ RelV v u ∧ Q v H'
def TP (X : Cx) (pins : List (Addr × Obj)) (σ : St) (Q : Bool → Hp → Prop) (b : Bool) (s' : Shared) : Prop := ∃ H', Inv X pins σ H' s' ∧ Q b H'
def AP (X : Cx) (pins : List (Addr × Obj)) (σ : St) (Q : List V → Hp → Prop) (us : List Value) (s' : Shared) : Prop := ∃ vs H', Inv X pins σ H' s' ∧ Vals vs us ∧ Q vs H'
def SP (X : Cx) (pins : List (Addr × Obj)) (D : Ends) (f : Flow) (s' : Shared) : Prop :=
  match f with
  | .next => ∃ σ' H', Inv X pins σ' H' s' ∧ D.nx σ' H'
  | .brk => ∃ σ' H', Inv X pins σ' H' s' ∧ D.bk σ' H'
  | .cont => ∃ σ' H', Inv X pins σ' H' s' ∧ D.ct σ' H'
  | .ret u => ∃ v σ' H', Inv X pins σ' H' s' ∧ RelV v u ∧ D.rt v H'

def PE (X : Cx) (e : Expr) (t : TE) : Prop :=
  ∀ (pins : List (Addr × Obj)) (s : Shared) (σ : St) (H : Hp) (Q : VK), Inv X pins σ H s → t σ H Q → wpAny (model X.prog X.w) X.A (eval e X.env) (EP X pins σ Q) X.xe s
def PT (X : Cx) (e : Expr) (t : TT) : Prop :=
  ∀ (pins : List (Addr × Obj)) (s : Shared) (σ : St) (H : Hp) (Q : Bool → Hp → Prop), Inv X pins σ H s → t σ H Q → wpAny (model X.prog X.w) X.A (isTrue e X.env (eval e X.env)) (TP X pins σ Q) X.xe s
/-- a test whatever its 'whole' is (and, or) -/
def PW (X : Cx) (e : Expr) (t : TT) : Prop :=
  ∀ (whole : Sem Value) (pins : List (Addr × Obj)) (s : Shared) (σ : St) (H : Hp) (Q : Bool → Hp → Prop), Inv X pins σ H s → t σ H Q → wpAny (model X.prog X.w) X.A (isTrue e X.env whole) (TP X pins σ Q) X.xe s
theorem PW.pt {X : Cx} {e : Expr} {t : TT} (h : PW X e t) : PT X e t := h _
/-- an argument list (no star), from the left -/
def PA (X : Cx) (es : List Expr) (t : TA) : Prop :=
  ∀ (pos : Pos) (pins : List (Addr × Obj)) (s : Shared) (σ : St) (H : Hp) (Q : List V → Hp → Prop), Inv X pins σ H s → t σ H Q → wpAny (model X.prog X.w) X.A (spliced (backTo pos (starEach es X.env))) (AP X pins σ Q) X.xe s
def PS (X : Cx) (st : Stmt) (t : TS) : Prop :=
  ∀ (pins : List (Addr × Obj)) (s : Shared) (σ : St) (H : Hp) (D : Ends), Inv X pins σ H s → t D σ H → wpAny (model X.prog X.w) X.A (exec st X.env) (SP X pins D) X.xe s
def PSs (X : Cx) (st : List Stmt) (t : TS) : Prop :=
  ∀ (pins : List (Addr × Obj)) (s : Shared) (σ : St) (H : Hp) (D : Ends), Inv X pins σ H s → t D σ H → wpAny (model X.prog X.w) X.A (execs st X.env) (SP X pins D) X.xe s
/-- weaken the end -/
theorem thn {α : Type} {t : Sem α} {Q Q' : α → Shared → Prop} {M : Model} {A : Around} {E : Value → Shared → Prop} {s : Shared} (h : wpAny M A t Q E s) (hQ : ∀ a s, Q a s → Q' a s) : wpAny M A t Q' E s := wpAny_mono h hQ fun _ _ x => x
end L2

namespace L2
open PySem PySem.Spec PyProof.Rows
section
variable {X : Cx}

/-! ### names and constants -/
def tVar (i : Nat) : TE := fun σ H Q => ∃ v, σ[i]? = some (some v) ∧ Q v H
def tC (v : V) : TE := fun _ H Q => Q v H
theorem pe_var {i : Nat} {x : Str} {pos : Pos} (hN : X.N[i]? = some x) (hv : Vis X.env.scope x) (hd : (x == ("__debug__" : Str)) = false := by decide) (hcd : (x == ("__classdict__" : Str)) = false := by decide) : PE X (.Name x pos) (tVar i) := by
  intro pins s σ H Q I h
  obtain ⟨v, e, h⟩ := h
  obtain ⟨m, hn, hl⟩ := I.loc
  obtain ⟨u, r, l⟩ := hl i x v hN e hv
  have fin : EP X pins σ Q u s := ⟨v, H, I, r, h⟩
  rcases l with ⟨hk, hm⟩ | ⟨hk, c, hc, hcell⟩
  · exact wpAny_Name (wpAny_loadName_local I.ok.kind hk hn hm fin) hd
  · rcases hk with hk | hk
    · exact wpAny_Name (wpAny_loadName_cell I.ok.kind hk hc hcell fin) hd
    · exact wpAny_Name (wpAny_loadName_free I.ok.kind hk hc hcell fin hcd) hd
theorem pe_int {i j pos} : PE X (.Constant (.int i) j pos) (tC (.int i)) := fun _ _ _ H _ I h => wpAny_Constant_int ⟨.int i, H, I.tok _, ⟨_, rfl⟩, h⟩
theorem pe_bl {b j pos} : PE X (.Constant (.bool b) j pos) (tC (.bl b)) := fun _ _ _ H _ I h => Constant_bool ⟨.bl b, H, I, rfl, h⟩
theorem pe_non {j pos} : PE X (.Constant .none j pos) (tC .non) := fun _ _ _ H _ I h => Constant_none ⟨.non, H, I, rfl, h⟩
theorem pe_str {x j pos} : PE X (.Constant (.str x) j pos) (tC (.str x)) := fun _ _ _ H _ I h => Calls.Constant_str ⟨.str x, H, I.tok _, ⟨_, rfl⟩, h⟩

/-- a global name of the def -/
def Gl (X : Cx) (x : Str) : Prop := X.env.kindOf x = some .globalImplicit
theorem ld_glob {E : Value → Shared → Prop} {pins : List (Addr × Obj)} {s : Shared} {σ : St} {H : Hp} {x : Str} {u : Value} {pos : Pos} {Q : Value → Shared → Prop} (I : Inv X pins σ H s) (hg : Gl X x) (hm : X.mg x = some u) (h : Q u s)
    (hd : (x == ("__debug__" : Str)) = false := by decide) : wpAny (model X.prog X.w) X.A (eval (.Name x pos) X.env) Q E s :=
  Calls.Name_function_global I.ok.kind hg (Calls.loadGlobal_global (by rw [I.ok.glob]; exact I.mod.glob.keeps I.bk) hm h) hd
theorem ld_blt {E : Value → Shared → Prop} {pins : List (Addr × Obj)} {s : Shared} {σ : St} {H : Hp} {x : Str} {u : Value} {pos : Pos} {Q : Value → Shared → Prop} (I : Inv X pins σ H s) (hg : Gl X x) (hm : X.mg x = none) (hv : bootBuiltins x = some u) (h : Q u s)
    (hn : x ≠ "__name__" := by decide) (hd : (x == ("__debug__" : Str)) = false := by decide) : wpAny (model X.prog X.w) X.A (eval (.Name x pos) X.env) Q E s := by
  obtain ⟨mb, h1, h2⟩ := I.mod.blt
  exact Calls.Name_function_global I.ok.kind hg (Calls.loadGlobal_builtin (by rw [I.ok.glob]; exact I.mod.glob.keeps I.bk) hm (by rw [I.ok.blt]; exact h1.keeps I.bk) ((h2 x hn).trans hv) h) hd
/-- a module's constant, a class, a function, as a value -/
theorem pe_glob {x : Str} {v : V} {u : Value} {pos : Pos} (hg : Gl X x) (hm : X.mg x = some u) (r : RelV v u) (hd : (x == ("__debug__" : Str)) = false := by decide) : PE X (.Name x pos) (tC v) :=
  fun _ _ _ H _ I h => ld_glob I hg hm ⟨v, H, I, r, h⟩ hd
theorem pe_bltn {x : Str} {v : V} {u : Value} {pos : Pos} (hg : Gl X x) (hm : X.mg x = none) (hv : bootBuiltins x = some u) (r : RelV v u) (hn : x ≠ "__name__" := by decide) (hd : (x == ("__debug__" : Str)) = false := by decide) : PE X (.Name x pos) (tC v) :=
  fun _ _ _ H _ I h => ld_blt I hg hm hv ⟨v, H, I, r, h⟩ hn hd

/-! ### arithmetic -/
/-- two ints -/
def t2I (ta tb : TE) (k : Int → Int → Hp → Prop) : St → Hp → Prop := fun σ H => ta σ H fun x H1 => tb σ H1 fun y H2 => ∃ i j, x = .int i ∧ y = .int j ∧ k i j H2
def tAdd (ta tb : TE) : TE := fun σ H Q => t2I ta tb (fun i j H2 => Q (.int (i + j)) H2) σ H
def tSub (ta tb : TE) : TE := fun σ H Q => t2I ta tb (fun i j H2 => Q (.int (i - j)) H2) σ H
/-- the left factor below 2^64 -/
def tMul (ta tb : TE) : TE := fun σ H Q => t2I ta tb (fun i j H2 => (-(2 ^ 64) < i ∧ i < 2 ^ 64) ∧ Q (.int (i * j)) H2) σ H
variable {a b : Expr} {ta tb : TE} {pos : Pos}
/-! ### comparisons -/
def PC (X : Cx) (op : CmpOp) (a b : Expr) (t : TE) : Prop :=
  ∀ (pins : List (Addr × Obj)) (s : Shared) (σ : St) (H : Hp) (Q : VK), Inv X pins σ H s → t σ H Q →
    wpAny (model X.prog X.w) X.A (eval a X.env) (fun v s₁ => wpAny (model X.prog X.w) X.A (eval b X.env) (fun u s₂ => wpAny (model X.prog X.w) X.A (compareOp op v u) (EP X pins σ Q) X.xe s₂) X.xe s₁) X.xe s
def tCmp (p : Int → Int → Bool) (ta tb : TE) : TE := fun σ H Q => t2I ta tb (fun i j H2 => Q (.bl (p i j)) H2) σ H
abbrev tLt : TE → TE → TE := tCmp fun i j => decide (i < j)
abbrev tLe : TE → TE → TE := tCmp fun i j => decide (i ≤ j)
abbrev tGt : TE → TE → TE := tCmp fun i j => decide (j < i)
abbrev tGe : TE → TE → TE := tCmp fun i j => decide (j ≤ i)
abbrev tEqI : TE → TE → TE := tCmp fun i j => decide (i = j)
abbrev tNeI : TE → TE → TE := tCmp fun i j => !decide (i = j)
/-- is None -/
def tIsN (ta : TE) : TE := fun σ H Q => ta σ H fun x H1 => Q (.bl (decide (x = .non))) H1
def tNotN (ta : TE) : TE := fun σ H Q => ta σ H fun x H1 => Q (.bl (!decide (x = .non))) H1
/-- a comparison as a value, as a test -/
def tB (t : TE) : TT := fun σ H Q => t σ H fun x H1 => ∃ c, x = .bl c ∧ Q c H1
/-- an expression whose value is a bool, as a test -/
theorem pt_val {e : Expr} {t : TE} (h : PE X e t) (he : ∀ whole, isTrue e X.env whole = (do let v ← whole; standAt e.pos; holding [v] (truthy v)) := by intro _; rfl) : PT X e (tB t) := by
  intro pins s σ H Q I hw
  refine isTrue_plain (thn (h pins s σ H _ I hw) fun v s1 ⟨x, H1, I1, r1, q1⟩ => ?_) (he _)
  obtain ⟨d, rfl, q⟩ := q1
  cases r1
  exact wpAny_truthy_bool ⟨H1, I1, q⟩

/-! ### and, or, not -/
variable {tA tB' : TT} {rest : List Expr}
def tAnd (t u : TT) : TT := fun σ H Q => t σ H fun c H1 => if c = true then u σ H1 Q else Q false H1
def tOr (t u : TT) : TT := fun σ H Q => t σ H fun c H1 => if c = true then Q true H1 else u σ H1 Q
def tNot (t : TT) : TT := fun σ H Q => t σ H fun c H1 => Q (!c) H1
theorem pw_and1 (ha : PT X a tA) : PW X (.BoolOp .And [a] pos) tA := by
  intro wh pins s σ H Q I h
  refine isTrue_and (thn (ha pins s σ H Q I h) fun c s1 e => ?_)
  cases c with
  | true => exact isTrue_and_nil e
  | false => exact e
theorem pw_or1 (ha : PT X a tA) : PW X (.BoolOp .Or [a] pos) tA := by
  intro wh pins s σ H Q I h
  refine isTrue_or (thn (ha pins s σ H Q I h) fun c s1 e => ?_)
  cases c with
  | false => exact isTrue_or_nil e
  | true => exact e
theorem pw_and (ha : PT X a tA) (hb : PW X (.BoolOp .And (b :: rest) pos) tB') : PW X (.BoolOp .And (a :: b :: rest) pos) (tAnd tA tB') := by
  intro wh pins s σ H Q I h
  refine isTrue_and (thn (ha pins s σ H _ I h) fun c s1 ⟨H1, I1, q1⟩ => ?_)
  cases c with
  | true => exact hb wh pins s1 σ H1 Q I1 q1
  | false => exact ⟨H1, I1, q1⟩
theorem pw_or (ha : PT X a tA) (hb : PW X (.BoolOp .Or (b :: rest) pos) tB') : PW X (.BoolOp .Or (a :: b :: rest) pos) (tOr tA tB') := by
  intro wh pins s σ H Q I h
  refine isTrue_or (thn (ha pins s σ H _ I h) fun c s1 ⟨H1, I1, q1⟩ => ?_)
  cases c with
  | true => exact ⟨H1, I1, q1⟩
  | false => exact hb wh pins s1 σ H1 Q I1 q1
theorem pt_not (ha : PT X a tA) : PT X (.UnaryOp .Not a pos) (tNot tA) := by
  intro pins s σ H Q I h
  exact isTrue_not (ha pins s σ H (fun c H1 => Q (!c) H1) I h)
/-- .. as values (bools) -/
def tAndV (ta tb : TE) : TE := fun σ H Q => ta σ H fun x H1 => ∃ c, x = .bl c ∧ if c = true then tb σ H1 Q else Q (.bl false) H1
def tOrV (ta tb : TE) : TE := fun σ H Q => ta σ H fun x H1 => ∃ c, x = .bl c ∧ if c = true then Q (.bl true) H1 else tb σ H1 Q
def tNotV (ta : TE) : TE := fun σ H Q => ta σ H fun x H1 => ∃ c, x = .bl c ∧ Q (.bl (!c)) H1
theorem pe_one {op} {t : TE} (h : PE X a t) : PE X (.BoolOp op [a] pos) t := fun pins s σ H Q I hw => BoolOp_one (h pins s σ H Q I hw)
theorem pe_and (ha : PE X a ta) (hb : PE X (.BoolOp .And (b :: rest) pos) tb) : PE X (.BoolOp .And (a :: b :: rest) pos) (tAndV ta tb) := by
  intro pins s σ H Q I h
  refine BoolOp_and (thn (ha pins s σ H _ I h) fun v s1 ⟨x, H1, I1, r1, q1⟩ => ?_)
  obtain ⟨c, rfl, q1⟩ := q1
  cases r1
  refine wpAny_truthy_bool ?_
  cases c with
  | true => exact hb pins s1 σ H1 Q I1 q1
  | false => exact ⟨.bl false, H1, I1, rfl, q1⟩
theorem pe_not (ha : PE X a ta) : PE X (.UnaryOp .Not a pos) (tNotV ta) := by
  intro pins s σ H Q I h
  refine UnaryOp_ (thn (ha pins s σ H _ I h) fun v s1 ⟨x, H1, I1, r1, q1⟩ => ?_)
  obtain ⟨c, rfl, q1⟩ := q1
  cases r1
  exact not_of (wpAny_truthy_bool ⟨.bl (!c), H1, I1, rfl, q1⟩)
/-- a if t else b -/
def tIf (t : TT) (ta tb : TE) : TE := fun σ H Q => t σ H fun c H1 => if c = true then ta σ H1 Q else tb σ H1 Q
end
end L2

namespace L2
open PySem PySem.Spec PyProof.Rows

/-! ### a list, a tuple that is read: tracked, frozen, or an object of the module -/
def SqL (K : PySem.W.Frag) (H : Hp) (a : Addr) (xs : List V) : Prop :=
  Rd H a (.lst xs) ∨
    ∃ (o : Obj) (its : Array Value) (n : Nat), K.lookup a = some o ∧ o.cls = .type "list" ∧ o.dict = none ∧ o.data = .seq its n ∧ its.size ≤ sizeLine ∧ Vals xs its.toList
def SqT (K : PySem.W.Frag) (H : Hp) (a : Addr) (xs : List V) : Prop :=
  Rd H a (.tup xs) ∨
    ∃ (o : Obj) (its : Array Value) (n : Nat), K.lookup a = some o ∧ o.cls = .type "tuple" ∧ o.data = .seq its n ∧ its.size ≤ sizeLine ∧ Vals xs its.toList
def absV : Value → Option V
  | .none => some .non
  | .bool b => some (.bl b)
  | .int i _ => some (.int i)
  | .str x _ => some (.str x)
  | .bytes b _ => some (.byt b)
  | .float b _ => some (.flt b)
  | .ref a => some (.ref a)
  | .type n => some (.ty n)
  | _ => none
theorem RelV.abs {x : V} {u : Value} (r : RelV x u) : absV u = some x := by
  cases x with
  | non => cases r; rfl
  | bl _ => cases r; rfl
  | int _ => obtain ⟨t, rfl⟩ := r; rfl
  | str _ => obtain ⟨t, rfl⟩ := r; rfl
  | byt _ => obtain ⟨t, rfl⟩ := r; rfl
  | flt _ => obtain ⟨t, rfl⟩ := r; rfl
  | ref _ => cases r; rfl
  | ty _ => cases r; rfl
theorem RelV.inj {x y : V} {u : Value} (r : RelV x u) (q : RelV y u) : x = y := Option.some.inj (r.abs.symm.trans q.abs)
theorem Vals.inj : ∀ {xs ys : List V} {us : List Value}, Vals xs us → Vals ys us → xs = ys
  | _, _, _, .nil, .nil => rfl
  | _, _, _, .cons r t, .cons r' t' => by rw [r.inj r', Vals.inj t t']
section
variable {X : Cx} {pins : List (Addr × Obj)} {σ : St} {H : Hp} {s : Shared} {a : Addr} {xs ys : List V}
theorem SqL.of {K : PySem.W.Frag} (h : H a = some (.lst xs)) : SqL K H a xs := .inl (.inl h)
theorem SqT.of {K : PySem.W.Frag} (h : H a = some (.tup xs)) : SqT K H a xs := .inl (.inl h)
theorem Inv.list (I : Inv X pins σ H s) (h : SqL X.K H a xs) : ∃ its : List Value, Vals xs its ∧ PlainL s.heap a its.toArray ∧ xs.length ≤ sizeLine := by
  rcases h with h | ⟨o, its, n, hk, hc, hd, hs, hz, r⟩
  · obtain ⟨z, its, n, r, e⟩ := h.ok I.hok
    exact ⟨its, r, ⟨_, n, e, rfl, rfl, rfl⟩, z⟩
  · refine ⟨its.toList, r, ⟨o, n, I.kIn a o hk, hc, hd, by simpa using hs⟩, ?_⟩
    have e := r.length
    simp only [Array.length_toList] at e
    omega
theorem Inv.tuple (I : Inv X pins σ H s) (h : SqT X.K H a xs) : ∃ its : List Value, Vals xs its ∧ IsTup s.heap a its.toArray ∧ xs.length ≤ sizeLine := by
  rcases h with h | ⟨o, its, n, hk, hc, hs, hz, r⟩
  · obtain ⟨z, its, r, p⟩ := h.ok I.hok
    exact ⟨its, r, p, z⟩
  · refine ⟨its.toList, r, ⟨o, I.kIn a o hk, hc, n, by simpa using hs⟩, ?_⟩
    have e := r.length
    simp only [Array.length_toList] at e
    omega
theorem Inv.list_inj (I : Inv X pins σ H s) (h : SqL X.K H a xs) (h' : SqL X.K H a ys) : xs = ys := by
  obtain ⟨its, r, ⟨o, n, e, _, _, d⟩, _⟩ := I.list h
  obtain ⟨its', r', ⟨o', n', e', _, _, d'⟩, _⟩ := I.list h'
  rw [e] at e'; cases e'
  rw [d] at d'
  injection d' with d1 _
  have : its = its' := by simpa using congrArg Array.toList d1
  subst this
  exact r.inj r'
theorem Inv.tuple_inj (I : Inv X pins σ H s) (h : SqT X.K H a xs) (h' : SqT X.K H a ys) : xs = ys := by
  obtain ⟨its, r, ⟨o, e, _, n, d⟩, _⟩ := I.tuple h
  obtain ⟨its', r', ⟨o', e', _, n', d'⟩, _⟩ := I.tuple h'
  rw [e] at e'; cases e'
  rw [d] at d'
  injection d' with d1 _
  have : its = its' := by simpa using congrArg Array.toList d1
  subst this
  exact r.inj r'
end

/-! ### another wish about exceptions -/
abbrev Cx.wish (X : Cx) (E : Value → Shared → Prop) : Cx := { X with xe := E }
/-- no exception leaves -/
abbrev Cx.nox (X : Cx) : Cx := X.wish fun _ _ => False
theorem Cx.Ok.wish {X : Cx} (ok : X.Ok) (E : Value → Shared → Prop) : (X.wish E).Ok :=
  ⟨ok.mod, ok.kind, ok.glob, ok.blt, ok.above, ok.inj, ok.has, ok.cab, ok.hd, ok.frames, ok.stk, ok.exf, ok.bs, ok.bsz, ok.noex, ok.exfs, ok.funs, ok.frf⟩
theorem Cx.Ok.unwish {X : Cx} {E : Value → Shared → Prop} (ok : (X.wish E).Ok) : X.Ok :=
  ⟨ok.mod, ok.kind, ok.glob, ok.blt, ok.above, ok.inj, ok.has, ok.cab, ok.hd, ok.frames, ok.stk, ok.exf, ok.bs, ok.bsz, ok.noex, ok.exfs, ok.funs, ok.frf⟩
section
variable {X : Cx} {pins : List (Addr × Obj)} {σ : St} {H : Hp} {s : Shared} {E : Value → Shared → Prop}
theorem Inv.wish (I : Inv X pins σ H s) (E : Value → Shared → Prop) : Inv (X.wish E) pins σ H s := ⟨I.ok.wish E, I.os, I.bare, I.base, I.loc, I.cell, I.free, I.freeC, I.pin, I.hok, I.len⟩
theorem Inv.unwish (I : Inv (X.wish E) pins σ H s) : Inv X pins σ H s := ⟨I.ok.unwish, I.os, I.bare, I.base, I.loc, I.cell, I.free, I.freeC, I.pin, I.hok, I.len⟩
theorem SP.unwish {D : Ends} {f : Flow} {s' : Shared} (h : SP (X.wish E) pins D f s') : SP X pins D f s' := by
  cases f with
  | next => obtain ⟨σ', H', I, q⟩ := h; exact ⟨σ', H', I.unwish, q⟩
  | brk => obtain ⟨σ', H', I, q⟩ := h; exact ⟨σ', H', I.unwish, q⟩
  | cont => obtain ⟨σ', H', I, q⟩ := h; exact ⟨σ', H', I.unwish, q⟩
  | ret u => obtain ⟨v, σ', H', I, r, q⟩ := h; exact ⟨v, σ', H', I.unwish, r, q⟩
theorem PE.nox {e : Expr} {t : TE} (h : PE X.nox e t) : PE X e t := fun pins s σ H Q I hw =>
  wpAny_mono (h pins s σ H Q (I.wish _) hw) (fun _ _ ⟨v, H', I', r, q⟩ => ⟨v, H', I'.unwish, r, q⟩) fun _ _ z => False.elim z
theorem PT.nox {e : Expr} {t : TT} (h : PT X.nox e t) : PT X e t := fun pins s σ H Q I hw =>
  wpAny_mono (h pins s σ H Q (I.wish _) hw) (fun _ _ ⟨H', I', q⟩ => ⟨H', I'.unwish, q⟩) fun _ _ z => False.elim z
theorem PSs.nox {st : List Stmt} {t : TS} (h : PSs X.nox st t) : PSs X st t := fun pins s σ H D I hw =>
  wpAny_mono (h pins s σ H D (I.wish _) hw) (fun _ _ q => q.unwish) fun _ _ z => False.elim z
end

/-! ### blocks and small statements -/
section
variable {X : Cx} {st : Stmt} {rest : List Stmt} {t u : TS} {e : Expr} {te : TE} {pos : Pos}
def tNext : TS := fun D σ H => D.nx σ H
def tSeq (t u : TS) : TS := fun D σ H => t { D with nx := u D } σ H
theorem pss_nil : PSs X [] tNext := fun _ _ σ H _ I h => wpAny_execs_nil ⟨σ, H, I, h⟩
theorem pss_cons (h1 : PS X st t) (h2 : PSs X rest u) : PSs X (st :: rest) (tSeq t u) := by
  intro pins s σ H D I h
  refine wpAny_execs_cons (thn (h1 pins s σ H { D with nx := u D } I h) fun f s1 q => ?_)
  cases f with
  | next =>
    obtain ⟨σ', H', I', q⟩ := q
    exact h2 pins s1 σ' H' D I' q
  | ret v => exact q
  | brk => exact q
  | cont => exact q
theorem pss_one (h1 : PS X st t) : PSs X [st] t := by
  intro pins s σ H D I h
  refine wpAny_execs_cons (thn (h1 pins s σ H D I h) fun f s1 q => ?_)
  cases f with
  | next => exact wpAny_execs_nil q
  | ret v => exact q
  | brk => exact q
  | cont => exact q
def tBreak : TS := fun D σ H => D.bk σ H
def tCont : TS := fun D σ H => D.ct σ H
/-- in a def's body nothing is shown -/
theorem Inv.quiet {pins : List (Addr × Obj)} {σ : St} {H : Hp} {s : Shared} (I : Inv X pins σ H s) : interactive X.env = false := by simp [interactive, I.ok.kind]
/-- an expression whose value is dropped -/
def tDrop (te : TE) : TS := fun D σ H => te σ H fun _ H1 => D.nx σ H1
theorem ps_expr (he : PE X e te) (hs : swapsWith e none pos.line X.env = pure false := by rfl) : PS X (.Expr e pos) (tDrop te) := by
  intro pins s σ H D I h
  exact wpAny_Expr_any (thn (he pins s σ H _ I h) fun v s1 ⟨x, H1, I1, r1, q1⟩ => ⟨σ, H1, I1, q1⟩) I.quiet hs
def tRet (te : TE) : TS := fun D σ H => te σ H D.rt
theorem ps_ret (he : PE X e te) : PS X (.Return (some e) pos) (tRet te) := by
  intro pins s σ H D I h
  exact wpAny_Return_some (thn (he pins s σ H _ I h) fun v s1 ⟨x, H1, I1, r1, q1⟩ => ⟨x, σ, H1, I1, r1, q1⟩)
def tRetN : TS := fun D _ H => D.rt .non H
def tIfS (c : TT) (t u : TS) : TS := fun D σ H => c σ H fun b H1 => if b = true then t D σ H1 else u D σ H1
theorem ps_if {c : Expr} {a b : List Stmt} {tc : TT} (hc : PT X c tc) (ha : PSs X a t) (hb : PSs X b u) : PS X (.If c a b pos) (tIfS tc t u) := by
  intro pins s σ H D I h
  refine wpAny_If (thn (hc pins s σ H _ I h) fun d s1 ⟨H1, I1, q1⟩ => ?_)
  cases d with
  | true => exact ha pins s1 σ H1 D I1 q1
  | false => exact hb pins s1 σ H1 D I1 q1
/-- code that the proof never comes to -/
def tNever : TS := fun _ _ _ => False
end

/-! ### targets -/
abbrev TG := V → St → Hp → (St → Hp → Prop) → Prop
abbrev TGs := List V → St → Hp → (St → Hp → Prop) → Prop
def PG (X : Cx) (target : Expr) (t : TG) : Prop :=
  ∀ (pins : List (Addr × Obj)) (s : Shared) (σ : St) (H : Hp) (v : V) (u : Value) (Q : St → Hp → Prop), Inv X pins σ H s → RelV v u → t v σ H Q →
    wpAny (model X.prog X.w) X.A (assign target X.env u) (fun _ s' => ∃ σ' H', Inv X pins σ' H' s' ∧ Q σ' H') X.xe s
/-- several targets, one after another -/
def PGs (X : Cx) (ts : List Expr) (t : TGs) : Prop :=
  ∀ (pins : List (Addr × Obj)) (s : Shared) (σ : St) (H : Hp) (vs : List V) (us : List Value) (Q : St → Hp → Prop), Inv X pins σ H s → Vals vs us → t vs σ H Q →
    wpAny (model X.prog X.w) X.A (assignInOrder ((assignEach ts X.env).map (·.2)) us) (fun _ s' => ∃ σ' H', Inv X pins σ' H' s' ∧ Q σ' H') X.xe s
/-- o[i] = v, by values -/
abbrev TSet := V → V → V → Hp → (Hp → Prop) → Prop
def PSet (X : Cx) (t : TSet) : Prop :=
  ∀ (pins : List (Addr × Obj)) (s : Shared) (σ : St) (H : Hp) (o i v : V) (ov iv u : Value) (Q : Hp → Prop), Inv X pins σ H s → RelV o ov → RelV i iv → RelV v u → t o i v H Q →
    wpAny (model X.prog X.w) X.A (setItem ov iv u) (fun _ s' => ∃ H', Inv X pins σ H' s' ∧ Q H') X.xe s
/-- a op= b, by values -/
abbrev TIp := V → V → Hp → VK → Prop
def PIp (X : Cx) (op : Operator) (t : TIp) : Prop :=
  ∀ (pins : List (Addr × Obj)) (s : Shared) (σ : St) (H : Hp) (x y : V) (v u : Value) (Q : VK), Inv X pins σ H s → RelV x v → RelV y u → t x y H Q →
    wpAny (model X.prog X.w) X.A (inplaceOp op v u) (EP X pins σ Q) X.xe s
section
variable {X : Cx} {pos : Pos}
def gName (i : Nat) : TG := fun v σ H Q => Q (σ.set i (some v)) H
theorem pg_name {i : Nat} {x : Str} (hN : X.N.Nodup) (hi : X.N[i]? = some x) (hx : Loc X.env.scope x) (hf : X.fn x = true ∨ X.env.scope.names.lookup x = some .local := by first | exact .inl rfl | exact .inr rfl | assumption) : PG X (.Name x pos) (gName i) := by
  intro pins s σ H v u Q I r h
  exact wpAny_assign_Name (store_ok I hN hi hx r (fun s' I' => ⟨_, H, I', h⟩) hf)
def gNil : TGs := fun vs σ H Q => vs = [] ∧ Q σ H
def gCons (t : TG) (u : TGs) : TGs := fun vs σ H Q => ∃ v r, vs = v :: r ∧ t v σ H fun σ' H' => u r σ' H' Q
/-- (a, b, ..) = a tuple of that length -/
def gTup (K : PySem.W.Frag) (n : Nat) (t : TGs) : TG := fun v σ H Q => ∃ a xs, v = .ref a ∧ SqT K H a xs ∧ xs.length = n ∧ t xs σ H Q
/-- o[i] = .. -/
def gSub (to ti : TE) (t : TSet) : TG := fun v σ H Q => to σ H fun o H1 => ti σ H1 fun i H2 => t o i v H2 fun H3 => Q σ H3
theorem pg_sub {o i : Expr} {to ti : TE} {t : TSet} (ho : PE X o to) (hi : PE X i ti) (hs : PSet X t)
    (ha : ∀ v, assign (.Subscript o i pos) X.env v = (do
      let ov ← holding [v] (eval o X.env)
      let iv ← holding [v, ov] (eval i X.env)
      standAt pos
      holding [v, ov, iv] (setItem ov iv v)
      release [v, ov, iv] []) := by intro _; rfl) : PG X (.Subscript o i pos) (gSub to ti t) := by
  intro pins s σ H v u Q I r h
  rw [ha]
  refine wpAny_bind (wpAny_holding (thn (ho pins s σ H _ I h) fun ov s1 ⟨x, H1, I1, r1, q1⟩ => ?_))
  refine wpAny_bind (wpAny_holding (thn (hi pins s1 σ H1 _ I1 q1) fun iv s2 ⟨y, H2, I2, r2, q2⟩ => ?_))
  refine wpAny_bind (wpAny_standAt (wpAny_bind (wpAny_holding (thn (hs pins s2 σ H2 x y v ov iv u _ I2 r1 r2 r q2) fun _ s3 ⟨H3, I3, q3⟩ => ?_))))
  exact wpAny_release ⟨σ, H3, I3, q3⟩
/-- target = value -/
def tAsg (te : TE) (g : TG) : TS := fun D σ H => te σ H fun x H1 => g x σ H1 D.nx
theorem ps_asg {tg e : Expr} {te : TE} {g : TG} (he : PE X e te) (hg : PG X tg g) (hs : swapsWithSole [tg] e pos.line X.env = pure false := by rfl) (hw : swappedStores [tg] e X.env = pure none := by rfl)
    (h1 : (assignEach [tg] X.env).map (·.2) = [assign tg X.env] := by rfl) : PS X (.Assign [tg] e pos) (tAsg te g) := by
  intro pins s σ H D I h
  refine wpAny_Assign_stores (thn (he pins s σ H _ I h) fun v s1 ⟨x, H1, I1, r1, q1⟩ => ?_) hs hw
  rw [h1]
  exact thn (hg pins s1 σ H1 x v _ I1 r1 q1) fun _ s2 q => q
/-- name = value -/
theorem ps_set {i : Nat} {x : Str} {e : Expr} {te : TE} {pos' : Pos} (hN : X.N.Nodup) (hi : X.N[i]? = some x) (hx : Loc X.env.scope x) (he : PE X e te) (hs : swapsWith e (some (.Name x pos')) pos.line X.env = pure false := by rfl) (hf : X.fn x = true ∨ X.env.scope.names.lookup x = some .local := by first | exact .inl rfl | exact .inr rfl | assumption) :
    PS X (.Assign [.Name x pos'] e pos) (tAsg te (gName i)) := by
  intro pins s σ H D I h
  refine wpAny_Assign_Name (thn (he pins s σ H _ I h) fun v s1 ⟨y, H1, I1, r1, q1⟩ => ?_) hs
  exact store_ok I1 hN hi hx r1 (fun s2 I2 => ⟨_, H1, I2, q1⟩) hf
/-- a, b = x, y with plain local names: stored from the right; the pair itself is not tracked (the opening rows as in PyProof/Rows/TupAssign.lean:23) -/
def tPar (i j : Nat) (ta : TA) : TS := fun D σ H => ta σ H fun vs H1 => ∃ v w, vs = [v, w] ∧ D.nx ((σ.set i (some v)).set j (some w)) H1
/-- name op= e -/
def tAug (i : Nat) (te : TE) (ti : TIp) : TS := fun D σ H => ∃ x, σ[i]? = some (some x) ∧ te σ H fun y H1 => ti x y H1 fun z H2 => D.nx (σ.set i (some z)) H2
/-- o[i] op= e -/
def tAugS (to ti te : TE) (tget : V → V → Hp → VK → Prop) (tip : TIp) (tset : TSet) : TS := fun D σ H => to σ H fun o H1 => ti σ H1 fun i H2 => tget o i H2 fun x H3 => te σ H3 fun y H4 => tip x y H4 fun z H5 => tset o i z H5 fun H6 => D.nx σ H6
/-- o[i], by values -/
def PGet (X : Cx) (t : V → V → Hp → VK → Prop) : Prop :=
  ∀ (pins : List (Addr × Obj)) (s : Shared) (σ : St) (H : Hp) (o i : V) (ov iv : Value) (Q : VK), Inv X pins σ H s → RelV o ov → RelV i iv → t o i H Q →
    wpAny (model X.prog X.w) X.A (getItem ov iv) (EP X pins σ Q) X.xe s
/-- ints -/
def ipI (f : Int → Int → Int) : TIp := fun x y H Q => ∃ i j, x = .int i ∧ y = .int j ∧ Q (.int (f i j)) H
end

/-! ### while -/
section
variable {X : Cx} {pos : Pos}
/-- the invariant W with its measure -/
def tWhile (c : TT) (tb : TS) : TS := fun D σ H => ∃ W : Nat → St → Hp → Prop, (∃ m, W m σ H) ∧ ∀ m σ H, W m σ H →
  c σ H fun b H1 => if b = true then ∃ N : St → Hp → Prop, (∀ σ' H', N σ' H' → ∃ m', m' < m ∧ W m' σ' H') ∧ tb { D with nx := N, ct := N, bk := D.nx } σ H1 else D.nx σ H1
theorem ps_while {c : Expr} {body : List Stmt} {tc : TT} {tb : TS} (hp : PassesOwn (model X.prog X.w) X.A X.env X.xe) (hc : PT X c tc) (hb : PSs X body tb) : PS X (.While c body [] pos) (tWhile tc tb) := by
  intro pins s σ H D I h
  obtain ⟨W, ⟨m0, w0⟩, turn⟩ := h
  refine wpAny_While (codeAny_whileLoop (fun n s' => ∃ σ' H', Inv X pins σ' H' s' ∧ W n σ' H') ?_ m0 ⟨σ, H, I, w0⟩)
  rintro n s1 ⟨σ1, H1, I1, w1⟩
  refine wpAny_passesOwn hp (thn (hc pins s1 σ1 H1 _ I1 (turn n σ1 H1 w1)) fun b s2 ⟨H2, I2, q2⟩ => ?_)
  cases b with
  | true =>
    obtain ⟨N, hN, q2⟩ := q2
    rw [if_pos rfl]
    refine wpAny_passesOwn hp (thn (hb pins s2 σ1 H2 _ I2 q2) fun f s3 q3 => ?_)
    cases f with
    | next =>
      obtain ⟨σ3, H3, I3, n3⟩ := q3
      obtain ⟨m', hm, w3⟩ := hN σ3 H3 n3
      exact ⟨m', hm, σ3, H3, I3, w3⟩
    | cont =>
      obtain ⟨σ3, H3, I3, n3⟩ := q3
      obtain ⟨m', hm, w3⟩ := hN σ3 H3 n3
      exact ⟨m', hm, σ3, H3, I3, w3⟩
    | brk => exact q3
    | ret v => exact q3
  | false =>
    rw [if_neg Bool.false_ne_true]
    exact wpAny_execs_nil ⟨σ1, H2, I2, q2⟩
end

/-! ### what a loop or a comprehension walks -/
/-- at turn i: it yields x (the heap may grow), or it stops -/
structure It where
  go : Nat → Hp → Prop
  yld : Nat → Hp → V → Hp → Prop
  stop : Nat → Hp → Prop
/-- the iterator's own objects may turn: they are not the frame's, not pinned, younger than the entry (or a comprehension's own) -/
def FpOk (X : Cx) (pins : List (Addr × Obj)) (H : Hp) (b : Addr) : Prop :=
  H b = none ∧ b ≠ X.env.locals ∧ b ∉ X.fs ∧ (b ∈ X.ex ∨ X.s₀.heap.objs.size ≤ b) ∧ (∀ x c, X.env.cells.lookup x = some c → c ≠ b) ∧ ∀ p ∈ X.pn ++ pins, p.1 ≠ b
theorem Inv.fpOk {X : Cx} {pins : List (Addr × Obj)} {σ : St} {H H' : Hp} {s : Shared} {b : Addr} (I : Inv X pins σ H s) (hb : s.heap.objs.size ≤ b) (hn : H' b = none) : FpOk X pins H' b := by
  refine ⟨hn, Nat.ne_of_gt (Nat.lt_of_lt_of_le I.lt hb), I.nofs hb, .inr (Nat.le_trans I.sz hb), fun x c e z => ?_, fun p hp z => ?_⟩
  · obtain ⟨v, q⟩ := I.cell x c e
    exact absurd (Nat.lt_of_lt_of_le q.lt (by rw [z]; exact hb)) (Nat.lt_irrefl _)
  · exact absurd (Nat.lt_of_lt_of_le (Heap.lt_size (I.pin p hp).1) (by rw [z]; exact hb)) (Nat.lt_irrefl _)
structure Turn (P : Program) (w : World) (K : PySem.W.Frag) (tg : Expr) (J : It) (fp : List Addr) (it : Addr) (tn : Nat → Heap → Prop) : Prop where
  mem : it ∈ fp
  obj : ∀ i h, tn i h → ∀ b ∈ fp, ∃ o, h.get? b = some o ∧ ∀ v, o.data ≠ .cell v
  keep : ∀ i h h', tn i h → (∀ b ∈ fp, ∀ o, h.get? b = some o → h'.get? b = some o) → tn i h'
  item : ∀ (X : Cx), X.prog = P → X.w = w → X.K = K → X.calm = true → ∀ (i : Nat) (pins : List (Addr × Obj)) (s : Shared) (σ : St) (H : Hp) (E : Value → Shared → Prop), Inv X pins σ H s → (∀ b ∈ fp, FpOk X pins H b) → tn i s.heap → J.go i H →
    wpAny (model P w) X.A (pyNext (.ref it)) (fun r s1 => ∃ u, r = some u ∧
      wpAny (model P w) X.A (letOwnedTupleGo tg (.ref it) u) (fun _ s2 => ∃ x H', Inv X pins σ H' s2 ∧ RelV x u ∧ J.yld i H x H' ∧ tn (i + 1) s2.heap ∧ ∀ b ∈ fp, H' b = none) E s1) E s
  done : ∀ (X : Cx), X.prog = P → X.w = w → X.K = K → X.calm = true → ∀ (i : Nat) (pins : List (Addr × Obj)) (s : Shared) (σ : St) (H : Hp) (E : Value → Shared → Prop), Inv X pins σ H s → (∀ b ∈ fp, FpOk X pins H b) → tn i s.heap → J.stop i H →
    wpAny (model P w) X.A (pyNext (.ref it)) (fun r s1 => r = none ∧ Inv X pins σ H s1) E s
  self : ∀ (A : Around) (i : Nat) (s : Shared) (Q : Value → Shared → Prop) (E : Value → Shared → Prop), tn i s.heap → Q (.ref it) s → wpAny (model P w) A (pyIter (.ref it)) Q E s
abbrev TI := St → Hp → (It → Hp → Prop) → Prop
/-- an iterator has come -/
def PIE (X : Cx) (pins : List (Addr × Obj)) (σ : St) (tg : Expr) (R : It → Hp → Prop) (itv : Value) (s2 : Shared) : Prop :=
  ∃ (it : Addr) (fp : List Addr) (tn : Nat → Heap → Prop) (J : It) (H' : Hp), itv = .ref it ∧ Inv X pins σ H' s2 ∧ Turn X.prog X.w X.K tg J fp it tn ∧ tn 0 s2.heap ∧ (∀ b ∈ fp, FpOk X pins H' b) ∧ R J H'
def PI (X : Cx) (tg iter : Expr) (wi : TI) : Prop :=
  ∀ (pins : List (Addr × Obj)) (s : Shared) (σ : St) (H : Hp) (R : It → Hp → Prop), Inv X pins σ H s → wi σ H R →
    wpAny (model X.prog X.w) X.A (eval iter X.env) (fun v s1 => wpAny (model X.prog X.w) X.A (pyIter v) (PIE X pins σ tg R) X.xe s1) X.xe s

/-- the step ahead of the store is nothing for an iterator that keeps no tuple -/
theorem go_of {M : Model} {A : Around} {E : Value → Shared → Prop} {s : Shared} {tg : Expr} {it : Addr} {u : Value} {o : Obj} {n : String} {vs : Array Value} {Q : Unit → Shared → Prop} (ho : s.heap.get? it = some o) (hc : o.cls = .type n) (hd : o.data = .fields vs)
    (hn : ["enumerate", "zip", "dict_itemiterator", "dict_reverseitemiterator", "odict_iterator", "itertools.zip_longest", "itertools.pairwise"].contains n = false) (hQ : Q () s) : wpAny M A (letOwnedTupleGo tg (.ref it) u) Q E s := by
  unfold letOwnedTupleGo
  cases tg <;> first
    | exact wpAny_pure hQ
    | (cases u <;> first
        | exact wpAny_pure hQ
        | (refine wpAny_bind (wpAny_load ho ?_)
           rw [hc, hd]
           show wpAny M A (if (["enumerate", "zip", "dict_itemiterator", "dict_reverseitemiterator", "odict_iterator", "itertools.zip_longest", "itertools.pairwise"].contains n && vs[0]? == some (rawInt _)) = true then _ else _) Q E s
           rw [if_neg (by intro h; rw [hn, Bool.false_and] at h; cases h)]
           exact wpAny_pure hQ))

/-- the list at a, as it stands at each turn (a loop may append to it) -/
def Itl (K : PySem.W.Frag) (a : Addr) : It :=
  ⟨fun i H => ∃ xs x, SqL K H a xs ∧ xs[i]? = some x, fun i H x H' => H' = H ∧ ∀ xs, SqL K H a xs → xs[i]? = some x, fun i H => ∃ xs, SqL K H a xs ∧ xs.length ≤ i⟩
def Itt (K : PySem.W.Frag) (a : Addr) : It :=
  ⟨fun i H => ∃ xs x, SqT K H a xs ∧ xs[i]? = some x, fun i H x H' => H' = H ∧ ∀ xs, SqT K H a xs → xs[i]? = some x, fun i H => ∃ xs, SqT K H a xs ∧ xs.length ≤ i⟩
/-- lo, lo + 1, .. (n of them) -/
def Itr (lo : Int) (n : Nat) : It := ⟨fun i _ => i < n, fun i H x H' => H' = H ∧ x = .int (lo + i), fun i _ => n ≤ i⟩
theorem turn_list {P : Program} {w : World} {K : PySem.W.Frag} {tg : Expr} (a it : Addr) : Turn P w K tg (Itl K a) [it] it (fun i h => h.IsListIter it a i) where
  mem := by simp
  obj := fun i h st b hb => by
    have e : b = it := by simpa using hb
    subst e
    obtain ⟨o, e, c, d⟩ := st
    exact ⟨o, e, fun v z => by rw [d] at z; cases z⟩
  keep := fun i h h' st k => st.at fun o e => k it (by simp) o e
  item := by
    intro X hP hw hK hc i pins s σ H E I hf st hg
    subst hP hw hK
    obtain ⟨xs, x, hq, hx⟩ := hg
    obtain ⟨its, rv, p, hz⟩ := I.list hq
    obtain ⟨u, hu, ru⟩ := rv.get hx
    obtain ⟨f0, f1, f2, f3, f4, f5⟩ := hf it (by simp)
    refine wpAny_pyNext_list_item st p.isList (x := u) (by simpa using hu) fun h' st' sb => ?_
    have I1 : Inv X pins σ H { s with heap := h' } := I.turned (t' := s.toks) (fun b o hb e => (sb.2 b hb).trans e) f0 f1 f3 f4 f5
    obtain ⟨o, e, c, d⟩ := id st'
    exact ⟨u, rfl, go_of (s := { s with heap := h' }) e c d (by decide) ⟨x, H, I1, ru, ⟨rfl, fun ys hy => by rw [I.list_inj hy hq]; exact hx⟩, st', fun b hb => (hf b hb).1⟩⟩
  done := by
    intro X hP hw hK hc i pins s σ H E I hf st hg
    subst hP hw hK
    obtain ⟨xs, hq, hx⟩ := hg
    obtain ⟨its, rv, p, hz⟩ := I.list hq
    obtain ⟨f0, f1, f2, f3, f4, f5⟩ := hf it (by simp)
    have hl := rv.length
    exact wpAny_pyNext_list_end (I.ok.hd hc) st p.isList (by simp; omega) fun h' eb => ⟨rfl, I.turned (t' := s.toks) (fun b o hb e => eb b o hb e) f0 f1 f3 f4 f5⟩
  self := fun _ _ _ _ _ st h => wpAny_pyIter_listiter st h
theorem turn_tuple {P : Program} {w : World} {K : PySem.W.Frag} {tg : Expr} (a it : Addr) : Turn P w K tg (Itt K a) [it] it (fun i h => h.IsTupleIter it a i) where
  mem := by simp
  obj := fun i h st b hb => by
    have e : b = it := by simpa using hb
    subst e
    obtain ⟨o, e, c, d⟩ := st
    exact ⟨o, e, fun v z => by rw [d] at z; cases z⟩
  keep := fun i h h' st k => st.at fun o e => k it (by simp) o e
  item := by
    intro X hP hw hK hc i pins s σ H E I hf st hg
    subst hP hw hK
    obtain ⟨xs, x, hq, hx⟩ := hg
    obtain ⟨its, rv, p, hz⟩ := I.tuple hq
    obtain ⟨u, hu, ru⟩ := rv.get hx
    obtain ⟨f0, f1, f2, f3, f4, f5⟩ := hf it (by simp)
    refine wpAny_pyNext_tuple_item st (show s.heap.IsTuple a its.toArray from p) (x := u) (by simpa using hu) fun h' st' sb => ?_
    have I1 : Inv X pins σ H { s with heap := h' } := I.turned (t' := s.toks) (fun b o hb e => (sb.2 b hb).trans e) f0 f1 f3 f4 f5
    obtain ⟨o, e, c, d⟩ := id st'
    exact ⟨u, rfl, go_of (s := { s with heap := h' }) e c d (by decide) ⟨x, H, I1, ru, ⟨rfl, fun ys hy => by rw [I.tuple_inj hy hq]; exact hx⟩, st', fun b hb => (hf b hb).1⟩⟩
  done := by
    intro X hP hw hK hc i pins s σ H E I hf st hg
    subst hP hw hK
    obtain ⟨xs, hq, hx⟩ := hg
    obtain ⟨its, rv, p, hz⟩ := I.tuple hq
    obtain ⟨f0, f1, f2, f3, f4, f5⟩ := hf it (by simp)
    have hl := rv.length
    exact wpAny_pyNext_tuple_end (I.ok.hd hc) st (show s.heap.IsTuple a its.toArray from p) (by simp; omega) fun h' eb => ⟨rfl, I.turned (t' := s.toks) (fun b o hb e => eb b o hb e) f0 f1 f3 f4 f5⟩
  self := fun _ _ _ _ _ st h => wpAny_pyIter_tupleiter st h
theorem turn_range {P : Program} {w : World} {K : PySem.W.Frag} {tg : Expr} (it : Addr) (lo : Int) (n : Nat) : Turn P w K tg (Itr lo n) [it] it (fun i h => IsRangeIter h it (lo + (i : Nat) * 1) ((n : Int) - (i : Nat)) 1) where
  mem := by simp
  obj := fun i h st b hb => by
    have e : b = it := by simpa using hb
    subst e
    exact ⟨_, st, fun v z => by
      have z' : Data.fields _ = Data.cell v := z
      cases z'⟩
  keep := fun i h h' st k => k it (by simp) _ st
  item := by
    intro X hP hw hK hc i pins s σ H E I hf st hg
    subst hP hw hK
    obtain ⟨f0, f1, f2, f3, f4, f5⟩ := hf it (by simp)
    have W := Walks.range (prog := X.prog) (w := X.w) (I.ok.hd hc) it lo 1 n
    refine W.item i s _ _ hg st fun v h' tk hv st' kk => ?_
    obtain ⟨t, rfl⟩ := hv
    have I1 : Inv X pins σ H { s with heap := h', toks := tk } := I.turned (fun b o hb e => kk b o (by simpa using hb) e) f0 f1 f3 f4 f5
    refine ⟨_, rfl, go_of (s := { s with heap := h', toks := tk }) (n := "range_iterator") st' rfl rfl (by decide) ⟨.int (lo + i), H, I1, ⟨t, ?_⟩, ⟨rfl, rfl⟩, st', fun b hb => (hf b hb).1⟩⟩
    rw [Int.mul_one]
  done := by
    intro X hP hw hK hc i pins s σ H E I hf st hg
    subst hP hw hK
    obtain ⟨f0, f1, f2, f3, f4, f5⟩ := hf it (by simp)
    exact wpAny_pyNext_range_end (I.ok.hd hc) st (by have : n ≤ i := hg; omega) fun h' eb => ⟨rfl, I.turned (t' := s.toks) (fun b o hb e => eb b o hb e) f0 f1 f3 f4 f5⟩
  self := fun _ _ _ _ _ st h => wpAny_pyIter_rangeiter st h
end L2

namespace L2
open PySem PySem.Spec PyProof.Rows
section
variable {X : Cx} {tg : Expr}
def iList (K : PySem.W.Frag) (tl : TE) : TI := fun σ H R => tl σ H fun x H1 => ∃ a, x = .ref a ∧ (∃ xs, SqL K H1 a xs) ∧ R (Itl K a) H1
def iTup (K : PySem.W.Frag) (tl : TE) : TI := fun σ H R => tl σ H fun x H1 => ∃ a, x = .ref a ∧ (∃ xs, SqT K H1 a xs) ∧ R (Itt K a) H1
theorem pi_list {l : Expr} {tl : TE} (hl : PE X l tl) : PI X tg l (iList X.K tl) := by
  intro pins s σ H R I h
  refine thn (hl pins s σ H _ I h) fun v s1 ⟨x, H1, I1, r1, q1⟩ => ?_
  obtain ⟨a, e, ⟨xs, hq⟩, q⟩ := q1
  subst e
  cases r1
  obtain ⟨its, rv, p, hz⟩ := I1.list hq
  refine wpAny_pyIter_list p.isList ?_
  refine ⟨s1.heap.objs.size, [s1.heap.objs.size], _, _, H1, rfl, I1.kept (t' := s1.toks) fun b o e => Heap.get?_push_of_some _ e, turn_list a _, ⟨_, Heap.get?_push_size _ rfl, rfl, rfl⟩, fun b hb => ?_, q⟩
  have e : b = s1.heap.objs.size := by simpa using hb
  subst e
  exact I1.fpOk (Nat.le_refl _) (I1.hok.fresh (Nat.le_refl _))
theorem pi_tup {l : Expr} {tl : TE} (hl : PE X l tl) : PI X tg l (iTup X.K tl) := by
  intro pins s σ H R I h
  refine thn (hl pins s σ H _ I h) fun v s1 ⟨x, H1, I1, r1, q1⟩ => ?_
  obtain ⟨a, e, ⟨xs, hq⟩, q⟩ := q1
  subst e
  cases r1
  obtain ⟨its, rv, p, hz⟩ := I1.tuple hq
  refine wpAny_pyIter_tuple (show s1.heap.IsTuple a its.toArray from p) ?_
  refine ⟨s1.heap.objs.size, [s1.heap.objs.size], _, _, H1, rfl, I1.kept (t' := s1.toks) fun b o e => Heap.get?_push_of_some _ e, turn_tuple a _, ⟨_, Heap.get?_push_size _ rfl, rfl, rfl⟩, fun b hb => ?_, q⟩
  have e : b = s1.heap.objs.size := by simpa using hb
  subst e
  exact I1.fpOk (Nat.le_refl _) (I1.hok.fresh (Nat.le_refl _))
/-- a range object just made, walked -/
theorem range_it {pins : List (Addr × Obj)} {σ : St} {H : Hp} {s : Shared} {R : It → Hp → Prop} {E : Value → Shared → Prop} {lo hi : Int} {t u v : Tok} {tk : Nat} (I : Inv X pins σ H s) (h1 : -(2 ^ 62) ≤ lo) (h2 : lo < 2 ^ 62) (h3 : -(2 ^ 62) ≤ hi) (h4 : hi < 2 ^ 62)
    (q : R (Itr lo (hi - lo).toNat) H) : wpAny (model X.prog X.w) X.A (pyIter (.ref s.heap.objs.size)) (PIE X pins σ tg R) E { s with heap := s.heap.push { cls := .type "range", data := .fields #[.int lo t, .int hi u, .int 1 v] }, toks := tk } := by
  refine wpAny_pyIter_range (IsRange.new ..) (small_one h1 h2 h3 h4) ?_
  have I1 : Inv X pins σ H { s with heap := s.heap.push { cls := .type "range", data := .fields #[.int lo t, .int hi u, .int 1 v] }, toks := tk } := I.kept fun b o e => Heap.get?_push_of_some _ e
  refine ⟨(s.heap.push { cls := .type "range", data := .fields #[.int lo t, .int hi u, .int 1 v] }).objs.size, [(s.heap.push { cls := .type "range", data := .fields #[.int lo t, .int hi u, .int 1 v] }).objs.size], _, _, H, rfl,
    I1.kept (t' := tk) fun b o e => Heap.get?_push_of_some _ e, turn_range _ lo (hi - lo).toNat, ?_, fun b hb => ?_, q⟩
  · have e1 : lo + ((0 : Nat) : Int) * 1 = lo := by simp
    have e2 : (((hi - lo).toNat : Nat) : Int) - ((0 : Nat) : Int) = Builtin.Range.rangeSize lo hi 1 := by rw [rangeSize_one]; split <;> omega
    show IsRangeIter _ _ (lo + ((0 : Nat) : Int) * 1) ((((hi - lo).toNat : Nat) : Int) - ((0 : Nat) : Int)) 1
    rw [e1, e2]
    exact Heap.get?_push_size _ rfl
  · have e : b = (s.heap.push { cls := .type "range", data := .fields #[.int lo t, .int hi u, .int 1 v] }).objs.size := by simpa using hb
    subst e
    exact I1.fpOk (Nat.le_refl _) (I1.hok.fresh (Nat.le_refl _))
def iRng1 (ta : TA) : TI := fun σ H R => ta σ H fun vs H1 => ∃ j : Int, vs = [.int j] ∧ -(2 ^ 62) ≤ j ∧ j < 2 ^ 62 ∧ R (Itr 0 j.toNat) H1
def iRng2 (ta : TA) : TI := fun σ H R => ta σ H fun vs H1 => ∃ i j : Int, vs = [.int i, .int j] ∧ (-(2 ^ 62) ≤ i ∧ i < 2 ^ 62 ∧ -(2 ^ 62) ≤ j ∧ j < 2 ^ 62) ∧ R (Itr i (j - i).toNat) H1
theorem pi_range1 {a : Expr} {ta : TA} {p pos : Pos} (hg : Gl X "range") (hm : X.mg "range" = none) (ha : PA X [a] ta) (hs : starEach [a] X.env = [(false, eval a X.env)] := by rfl) : PI X tg (.Call (.Name "range" p) [a] [] pos) (iRng1 ta) := by
  intro pins s σ H R I h
  refine Call_ (ld_blt I hg hm boot_range (PyProof.Rows.callWith_type1 (thn (ha pos pins s σ H _ I h) fun us s1 ⟨vs, H1, I1, r1, q1⟩ => ?_) hs rfl))
  obtain ⟨j, e, q1, q2, q⟩ := q1
  subst e
  cases r1 with
  | cons r rr =>
    cases rr
    obtain ⟨t, rfl⟩ := r
    exact call_range_1 (range_it I1 (by omega) (by omega) q1 q2 (by simpa using q))
/-! ### for -/
/-- W: the invariant by the turn and a measure; N: what the body is to reach -/
def tFor (wi : TI) (g : TG) (tb : TS) : TS := fun D σ H => wi σ H fun J H1 => ∃ W : Nat → Nat → St → Hp → Prop, (∃ m, W 0 m σ H1) ∧ ∀ i m σ H, W i m σ H →
  (J.stop i H ∧ D.nx σ H) ∨ (J.go i H ∧ ∃ N : St → Hp → Prop, (∀ σ' H', N σ' H' → ∃ m', m' < m ∧ W (i + 1) m' σ' H') ∧ ∀ x H', J.yld i H x H' → g x σ H' fun σ2 H2 => tb { D with nx := N, ct := N, bk := D.nx } σ2 H2)
/-- the records at fp as they stand -/
def pinsAt (fp : List Addr) (h : Heap) : List (Addr × Obj) := fp.filterMap fun b => (h.get? b).map fun o => (b, o)
theorem mem_pinsAt {fp : List Addr} {h : Heap} {b : Addr} {o : Obj} (hb : b ∈ fp) (e : h.get? b = some o) : (b, o) ∈ pinsAt fp h := List.mem_filterMap.mpr ⟨b, hb, by rw [e]; rfl⟩
theorem of_pinsAt {fp : List Addr} {h : Heap} {p : Addr × Obj} (hp : p ∈ pinsAt fp h) : p.1 ∈ fp ∧ h.get? p.1 = some p.2 := by
  obtain ⟨b, hb, e⟩ := List.mem_filterMap.mp hp
  cases q : h.get? b with
  | none => rw [q] at e; cases e
  | some o =>
    rw [q] at e
    have e' : (b, o) = p := Option.some.inj e
    subst e'
    exact ⟨hb, q⟩
theorem Inv.pinned {pins : List (Addr × Obj)} {σ : St} {H : Hp} {s : Shared} {fp : List Addr} (I : Inv X pins σ H s) (hf : ∀ b ∈ fp, FpOk X pins H b) (ho : ∀ b ∈ fp, ∃ o, s.heap.get? b = some o ∧ ∀ v, o.data ≠ .cell v) : Inv X (pins ++ pinsAt fp s.heap) σ H s :=
  I.pins_of fun p hp => (List.mem_append.mp hp).elim (fun z => I.pin p (List.mem_append_right _ z)) fun z => by
    obtain ⟨hb, e⟩ := of_pinsAt z
    obtain ⟨f0, f1, f2, _⟩ := hf p.1 hb
    obtain ⟨o, e', d⟩ := ho p.1 hb
    rw [e] at e'; cases e'
    exact ⟨e, f0, f1, f2, d⟩
theorem Inv.unpinned {pins pl : List (Addr × Obj)} {σ : St} {H : Hp} {s : Shared} (I : Inv X (pins ++ pl) σ H s) : Inv X pins σ H s := I.pins_of fun p hp => I.pin p (List.mem_append_right _ (List.mem_append_left _ hp))
theorem ps_for {iter : Expr} {body : List Stmt} {wi : TI} {g : TG} {tb : TS} {pos : Pos} (hp : PassesOwn (model X.prog X.w) X.A X.env X.xe) (hc : X.calm = true) (hi : PI X tg iter wi) (hg : PG X tg g) (hb : PSs X body tb)
    (hs : ∀ x, foldedSetIterable iter X.env x = pure x := by intro _; rfl) : PS X (.For tg iter body [] pos) (tFor wi g tb) := by
  intro pins s σ H D I h
  refine wpAny_For (thn (hi pins s σ H _ I h) fun v s1 h1 => thn h1 fun itv s2 h2 => ?_) hs
  obtain ⟨it, fp, tn, J, H2, e, I2, T, st2, f2, W, ⟨m0, w0⟩, turn⟩ := h2
  subst e
  -- what stays true of the iterator's objects through the loop
  have stat : ∀ {H' : Hp}, (∀ b ∈ fp, H' b = none) → ∀ b ∈ fp, FpOk X pins H' b := fun hn b hb => ⟨hn b hb, (f2 b hb).2⟩
  refine codeAny_forLoop_any (fun n s' => ∃ i σ' H', Inv X pins σ' H' s' ∧ tn i s'.heap ∧ (∀ b ∈ fp, H' b = none) ∧ W i n σ' H') ?_ m0 ⟨0, σ, H2, I2, st2, fun b hb => (f2 b hb).1, w0⟩
  rintro n s3 ⟨i, σ3, H3, I3, st3, fr3, w3⟩
  rcases turn i n σ3 H3 w3 with ⟨stop, qn⟩ | ⟨go, N, hN, step⟩
  · refine wpAny_passesOwn hp (thn (T.done X rfl rfl rfl hc i pins s3 σ3 H3 X.xe I3 (stat fr3) st3 stop) fun r s4 ⟨hr, I4⟩ => ?_)
    subst hr
    exact wpAny_execs_nil ⟨σ3, H3, I4, qn⟩
  · refine wpAny_passesOwn hp (thn (T.item X rfl rfl rfl hc i pins s3 σ3 H3 X.xe I3 (stat fr3) st3 go) fun r s4 ⟨u, hr, h4⟩ => ?_)
    subst hr
    refine wpAny_passesOwn hp (thn h4 fun _ s5 ⟨x, H5, I5, r5, y5, st5, fr5⟩ => ?_)
    have I5' := I5.pinned (stat fr5) (T.obj _ _ st5)
    refine wpAny_passesOwn hp (thn (hg _ s5 σ3 H5 x u _ I5' r5 (step x H5 y5)) fun _ s6 ⟨σ6, H6, I6, q6⟩ => ?_)
    refine wpAny_passesOwn hp (thn (hb _ s6 σ6 H6 _ I6 q6) fun f s7 q7 => ?_)
    have again : ∀ {σ7 : St} {H7 : Hp}, Inv X (pins ++ pinsAt fp s5.heap) σ7 H7 s7 → N σ7 H7 → ∃ m, m < n ∧ ∃ i σ' H', Inv X pins σ' H' s7 ∧ tn i s7.heap ∧ (∀ b ∈ fp, H' b = none) ∧ W i m σ' H' := fun {σ7 H7} I7 n7 => by
      obtain ⟨m', hm, w7⟩ := hN σ7 H7 n7
      refine ⟨m', hm, i + 1, σ7, H7, I7.unpinned, T.keep _ _ _ st5 fun b hb o e => (I7.pin (b, o) (List.mem_append_right _ (List.mem_append_right _ (mem_pinsAt hb e)))).1, fun b hb => ?_, w7⟩
      obtain ⟨o, e, d⟩ := T.obj _ _ st5 b hb
      exact (I7.pin (b, o) (List.mem_append_right _ (List.mem_append_right _ (mem_pinsAt hb e)))).2.1
    cases f with
    | next => obtain ⟨σ7, H7, I7, n7⟩ := q7; exact again I7 n7
    | cont => obtain ⟨σ7, H7, I7, n7⟩ := q7; exact again I7 n7
    | brk => obtain ⟨σ7, H7, I7, q7⟩ := q7; exact ⟨σ7, H7, I7.unpinned, q7⟩
    | ret v => obtain ⟨x7, σ7, H7, I7, r7, q7⟩ := q7; exact ⟨x7, σ7, H7, I7.unpinned, r7, q7⟩
end

/-! ### the forms one uses -/
/-- over a list that the body leaves as it is -/
theorem for_list {K : PySem.W.Frag} {a : Addr} {xs : List V} {g : TG} {tb : TS} {D : Ends} {σ : St} {H : Hp} (Pv : Nat → St → Hp → Prop) (h0 : Pv 0 σ H) (hl : ∀ i σ H, i ≤ xs.length → Pv i σ H → SqL K H a xs)
    (hs : ∀ i x σ H, xs[i]? = some x → Pv i σ H → g x σ H fun σ2 H2 => tb { D with nx := Pv (i + 1), ct := Pv (i + 1), bk := D.nx } σ2 H2) (hd : ∀ σ H, Pv xs.length σ H → D.nx σ H) :
    ∃ W : Nat → Nat → St → Hp → Prop, (∃ m, W 0 m σ H) ∧ ∀ i m σ H, W i m σ H →
      ((Itl K a).stop i H ∧ D.nx σ H) ∨ ((Itl K a).go i H ∧ ∃ N : St → Hp → Prop, (∀ σ' H', N σ' H' → ∃ m', m' < m ∧ W (i + 1) m' σ' H') ∧ ∀ x H', (Itl K a).yld i H x H' → g x σ H' fun σ2 H2 => tb { D with nx := N, ct := N, bk := D.nx } σ2 H2) := by
  refine ⟨fun i m σ H => m = xs.length - i ∧ i ≤ xs.length ∧ Pv i σ H, ⟨xs.length, by simp, Nat.zero_le _, h0⟩, ?_⟩
  rintro i m σ H ⟨rfl, hi, p⟩
  have q := hl i σ H hi p
  by_cases hlt : i < xs.length
  · refine .inr ⟨⟨xs, xs[i], q, by simp [hlt]⟩, Pv (i + 1), fun σ' H' p' => ⟨xs.length - (i + 1), by omega, rfl, hlt, p'⟩, fun x H' y => ?_⟩
    obtain ⟨e, y⟩ := y
    subst e
    exact hs i x σ _ (y xs q) p
  · have e : i = xs.length := by omega
    subst e
    exact .inl ⟨⟨xs, q, Nat.le_refl _⟩, hd σ H p⟩
theorem for_range {lo : Int} {n : Nat} {g : TG} {tb : TS} {D : Ends} {σ : St} {H : Hp} (Pv : Nat → St → Hp → Prop) (h0 : Pv 0 σ H)
    (hs : ∀ i σ H, i < n → Pv i σ H → g (.int (lo + i)) σ H fun σ2 H2 => tb { D with nx := Pv (i + 1), ct := Pv (i + 1), bk := D.nx } σ2 H2) (hd : ∀ σ H, Pv n σ H → D.nx σ H) :
    ∃ W : Nat → Nat → St → Hp → Prop, (∃ m, W 0 m σ H) ∧ ∀ i m σ H, W i m σ H →
      ((Itr lo n).stop i H ∧ D.nx σ H) ∨ ((Itr lo n).go i H ∧ ∃ N : St → Hp → Prop, (∀ σ' H', N σ' H' → ∃ m', m' < m ∧ W (i + 1) m' σ' H') ∧ ∀ x H', (Itr lo n).yld i H x H' → g x σ H' fun σ2 H2 => tb { D with nx := N, ct := N, bk := D.nx } σ2 H2) := by
  refine ⟨fun i m σ H => m = n - i ∧ i ≤ n ∧ Pv i σ H, ⟨n, by simp, Nat.zero_le _, h0⟩, ?_⟩
  rintro i m σ H ⟨rfl, hi, p⟩
  by_cases hlt : i < n
  · refine .inr ⟨hlt, Pv (i + 1), fun σ' H' p' => ⟨n - (i + 1), by omega, rfl, hlt, p'⟩, fun x H' y => ?_⟩
    obtain ⟨e, y⟩ := y
    subst e y
    exact hs i σ _ hlt p
  · have e : i = n := by omega
    subst e
    exact .inl ⟨Nat.le_refl _, hd σ H p⟩
end L2

namespace L2
open PySem PySem.Spec PyProof.Rows

abbrev R2 := V → V → Hp → VK → Prop
/-- a two-place operation on values: f is binaryOp op, inplaceOp op or compareOp op -/
def OpR (X : Cx) (f : Value → Value → Sem Value) (r : R2) : Prop :=
  ∀ (pins : List (Addr × Obj)) (s : Shared) (σ : St) (H : Hp) (x y : V) (v u : Value) (Q : VK), Inv X pins σ H s → RelV x v → RelV y u → r x y H Q →
    wpAny (model X.prog X.w) X.A (f v u) (EP X pins σ Q) X.xe s
/-- a one-place operation -/
def UnR (X : Cx) (f : Value → Sem Value) (r : V → Hp → VK → Prop) : Prop :=
  ∀ (pins : List (Addr × Obj)) (s : Shared) (σ : St) (H : Hp) (x : V) (v : Value) (Q : VK), Inv X pins σ H s → RelV x v → r x H Q →
    wpAny (model X.prog X.w) X.A (f v) (EP X pins σ Q) X.xe s
/-- a call of a value that is known (a builtin, a type) with values -/
def CallR (X : Cx) (f : Value) (r : List V → Hp → VK → Prop) : Prop :=
  ∀ (pins : List (Addr × Obj)) (s : Shared) (σ : St) (H : Hp) (xs : List V) (us : List Value) (Q : VK), Inv X pins σ H s → Vals xs us → r xs H Q →
    wpAny (model X.prog X.w) X.A (call f us) (EP X pins σ Q) X.xe s
/-- a value's truth -/
def TruR (X : Cx) (r : V → Hp → (Bool → Hp → Prop) → Prop) : Prop :=
  ∀ (pins : List (Addr × Obj)) (s : Shared) (σ : St) (H : Hp) (x : V) (v : Value) (Q : Bool → Hp → Prop), Inv X pins σ H s → RelV x v → r x H Q →
    wpAny (model X.prog X.w) X.A (truthy v) (TP X pins σ Q) X.xe s

def tOp (r : R2) (ta tb : TE) : TE := fun σ H Q => ta σ H fun x H1 => tb σ H1 fun y H2 => r x y H2 Q
def tUn (r : V → Hp → VK → Prop) (ta : TE) : TE := fun σ H Q => ta σ H fun x H1 => r x H1 Q
/-- ints in, under C, and a value out -/
def rI (C : Int → Int → Prop) (g : Int → Int → V) : R2 := fun x y H Q => ∃ i j, x = .int i ∧ y = .int j ∧ C i j ∧ Q (g i j) H
def rI0 (g : Int → Int → V) : R2 := fun x y H Q => ∃ i j, x = .int i ∧ y = .int j ∧ Q (g i j) H
def rU (g : Int → V) : V → Hp → VK → Prop := fun x H Q => ∃ i, x = .int i ∧ Q (g i) H

section
variable {X : Cx} {a b c : Expr} {ta tb tc : TE} {pos : Pos}

theorem binT (ha : PE X a ta) (hb : PE X b tb) {pins : List (Addr × Obj)} {s : Shared} {σ : St} {H : Hp} {R : V → V → Hp → Prop} (I : Inv X pins σ H s)
    (h : ta σ H fun x H1 => tb σ H1 fun y H2 => R x y H2) {Q : Value → Shared → Prop} {f : Value → Value → Sem Value}
    (hf : ∀ v u s2 x y H2, Inv X pins σ H2 s2 → RelV x v → RelV y u → R x y H2 → wpAny (model X.prog X.w) X.A (f v u) Q X.xe s2) :
    wpAny (model X.prog X.w) X.A (eval a X.env) (fun v s₁ => wpAny (model X.prog X.w) X.A (eval b X.env) (fun u s₂ => wpAny (model X.prog X.w) X.A (f v u) Q X.xe s₂) X.xe s₁) X.xe s := by
  refine thn (ha pins s σ H _ I h) fun v s1 ⟨x, H1, I1, r1, q1⟩ => ?_
  refine thn (hb pins s1 σ H1 _ I1 q1) fun u s2 ⟨y, H2, I2, r2, q2⟩ => ?_
  exact hf v u s2 x y H2 I2 r1 r2 q2

theorem pe_op {op : Operator} {r : R2} (ho : OpR X (binaryOp op) r) (ha : PE X a ta) (hb : PE X b tb) : PE X (.BinOp a op b pos) (tOp r ta tb) := by
  intro pins s σ H Q I h
  exact wpAny_BinOp (binT ha hb I h fun v u s2 x y H2 I2 rx ry q => ho pins s2 σ H2 x y v u Q I2 rx ry q)
/-! ### ints -/
theorem opI {f : Value → Value → Sem Value} {C : Int → Int → Prop} {g : Int → Int → Int}
    (rule : ∀ (i j : Int) (t u : Tok) (s : Shared) (Q : Value → Shared → Prop) (E : Value → Shared → Prop), C i j → Q (.int (g i j) s.toks) { s with toks := s.toks + 1 } → wpAny (model X.prog X.w) X.A (f (.int i t) (.int j u)) Q E s) :
    OpR X f (rI C fun i j => .int (g i j)) := by
  intro pins s σ H x y v u Q I rx ry h
  obtain ⟨i, j, rfl, rfl, hc, q⟩ := h
  obtain ⟨t, rfl⟩ := rx
  obtain ⟨t', rfl⟩ := ry
  exact rule i j t t' s _ _ hc ⟨.int (g i j), H, I.tok _, ⟨_, rfl⟩, q⟩
theorem opI0 {f : Value → Value → Sem Value} {g : Int → Int → Int}
    (rule : ∀ (i j : Int) (t u : Tok) (s : Shared) (Q : Value → Shared → Prop) (E : Value → Shared → Prop), Q (.int (g i j) s.toks) { s with toks := s.toks + 1 } → wpAny (model X.prog X.w) X.A (f (.int i t) (.int j u)) Q E s) :
    OpR X f (rI0 fun i j => .int (g i j)) := by
  intro pins s σ H x y v u Q I rx ry h
  obtain ⟨i, j, rfl, rfl, q⟩ := h
  obtain ⟨t, rfl⟩ := rx
  obtain ⟨t', rfl⟩ := ry
  exact rule i j t t' s _ _ ⟨.int (g i j), H, I.tok _, ⟨_, rfl⟩, q⟩
theorem opB0 {f : Value → Value → Sem Value} {g : Int → Int → Bool}
    (rule : ∀ (i j : Int) (t u : Tok) (s : Shared) (Q : Value → Shared → Prop) (E : Value → Shared → Prop), Q (.bool (g i j)) s → wpAny (model X.prog X.w) X.A (f (.int i t) (.int j u)) Q E s) :
    OpR X f (rI0 fun i j => .bl (g i j)) := by
  intro pins s σ H x y v u Q I rx ry h
  obtain ⟨i, j, rfl, rfl, q⟩ := h
  obtain ⟨t, rfl⟩ := rx
  obtain ⟨t', rfl⟩ := ry
  exact rule i j t t' s _ _ ⟨.bl (g i j), H, I, rfl, q⟩

def CDiv (i j : Int) : Prop := 0 < j ∧ j < 1073741824
def CDivN (i j : Int) : Prop := j ≠ 0 ∧ j.natAbs < 1073741824
def CPow (i j : Int) : Prop := 0 ≤ j ∧ j ≤ 1000000 ∧ i.natAbs < 2 ^ 64
def CMul (i j : Int) : Prop := (-(2 ^ 64) < i ∧ i < 2 ^ 64) ∨ (-(2 ^ 64) < j ∧ j < 2 ^ 64)
theorem CMul.ok {i j : Int} (h : CMul i j) : IntMulOk i j := by
  rcases h with ⟨h1, h2⟩ | ⟨h1, h2⟩
  · exact .of_left (intBits_le_64 h1 h2)
  · exact .of_right (intBits_le_64 h1 h2)
theorem op_add : OpR X (binaryOp .Add) (rI0 fun i j => .int (i + j)) := opI0 fun _ _ _ _ _ _ _ q => add_int q
theorem op_sub : OpR X (binaryOp .Sub) (rI0 fun i j => .int (i - j)) := opI0 fun _ _ _ _ _ _ _ q => sub_int q
theorem op_modN : OpR X (binaryOp .Mod) (rI (fun _ j => j ≠ 0) fun i j => .int (i.fmod j)) := opI fun _ _ _ _ _ _ _ hc q => mod_int' hc q
/-! ### bools among ints: n += (a < b) -/
end

/-! ### comparisons -/
/-- the scalars that == tells apart as data does -/
def scal : V → V → Bool
  | .non, .non => true | .non, .int _ => true | .int _, .non => true | .non, .bl _ => true | .bl _, .non => true | .non, .str _ => true | .str _, .non => true
  | .int _, .int _ => true | .bl _, .bl _ => true | .str _, .str _ => true | .byt _, .byt _ => true
  | .int _, .str _ => true | .str _, .int _ => true | .bl _, .str _ => true | .str _, .bl _ => true
  | _, _ => false
def rEq : R2 := fun x y H Q => scal x y = true ∧ Q (.bl (decide (x = y))) H
def rNe : R2 := fun x y H Q => scal x y = true ∧ Q (.bl (!decide (x = y))) H

theorem dec_int {i j : Int} : decide (V.int i = V.int j) = (i == j) := by
  rw [Bool.eq_iff_iff]
  simp
theorem dec_bl {i j : Bool} : decide (V.bl i = V.bl j) = (i == j) := by
  rw [Bool.eq_iff_iff]
  simp
theorem dec_str {i j : Str} : decide (V.str i = V.str j) = (i == j) := by
  rw [Bool.eq_iff_iff]
  simp
theorem dec_byt {i j : Array UInt8} : decide (V.byt i = V.byt j) = (i.toList == j.toList) := by
  rw [Bool.eq_iff_iff]
  cases i
  cases j
  simp

section
variable {X : Cx} {a b c : Expr} {ta tb tc : TE} {pos : Pos}
theorem fin_bl {pins : List (Addr × Obj)} {σ : St} {H : Hp} {s : Shared} {Q : VK} {k k' : Bool} (I : Inv X pins σ H s) (q : Q (.bl k) H) (e : k = k') : EP X pins σ Q (.bool k') s := by
  subst e
  exact ⟨.bl k, H, I, rfl, q⟩
theorem op_eq : OpR X (compareOp .Eq) rEq := by
  intro pins s σ H x y v u Q I rx ry h
  obtain ⟨hs, q⟩ := h
  cases x with
  | non =>
    cases rx
    cases y with
    | non => cases ry; exact PySem.EqNone.eq_none_none (fin_bl I q (by simp))
    | bl j => cases ry; exact PySem.EqNone.eq_none_bool (fin_bl I q (by simp))
    | int j => obtain ⟨t', rfl⟩ := ry; exact PySem.EqNone.eq_none_int (fin_bl I q (by simp))
    | str j => obtain ⟨t', rfl⟩ := ry; exact PySem.EqNone.eq_none_str (fin_bl I q (by simp))
    | _ => exact absurd (show false = true from hs) Bool.false_ne_true
  | bl i =>
    cases rx
    cases y with
    | non => cases ry; exact PySem.EqNone.eq_bool_none (fin_bl I q (by simp))
    | bl j => cases ry; exact eq_bool (fin_bl I q dec_bl)
    | str j => obtain ⟨t', rfl⟩ := ry; exact PySem.EqMixed.eq_bool_str (fin_bl I q (by simp))
    | _ => exact absurd (show false = true from hs) Bool.false_ne_true
  | int i =>
    obtain ⟨t, rfl⟩ := rx
    cases y with
    | non => cases ry; exact PySem.EqNone.eq_int_none (fin_bl I q (by simp))
    | int j => obtain ⟨t', rfl⟩ := ry; exact eq_int (fin_bl I q dec_int)
    | str j => obtain ⟨t', rfl⟩ := ry; exact PySem.EqMixed.eq_int_str (fin_bl I q (by simp))
    | _ => exact absurd (show false = true from hs) Bool.false_ne_true
  | str i =>
    obtain ⟨t, rfl⟩ := rx
    cases y with
    | non => cases ry; exact PySem.EqNone.eq_str_none (fin_bl I q (by simp))
    | bl j => cases ry; exact PySem.EqMixed.eq_str_bool (fin_bl I q (by simp))
    | int j => obtain ⟨t', rfl⟩ := ry; exact PySem.EqMixed.eq_str_int (fin_bl I q (by simp))
    | str j => obtain ⟨t', rfl⟩ := ry; exact eq_str (fin_bl I q dec_str)
    | _ => exact absurd (show false = true from hs) Bool.false_ne_true
  | byt i =>
    obtain ⟨t, rfl⟩ := rx
    cases y with
    | byt j => obtain ⟨t', rfl⟩ := ry; exact PySem.W.eq_bytes (fin_bl I q dec_byt)
    | _ => exact absurd (show false = true from hs) Bool.false_ne_true
  | _ => cases y <;> exact absurd (show false = true from hs) Bool.false_ne_true
theorem op_lt : OpR X (compareOp .Lt) (rI0 fun i j => .bl (decide (i < j))) := opB0 fun _ _ _ _ _ _ _ q => lt_int q
theorem op_gt : OpR X (compareOp .Gt) (rI0 fun i j => .bl (decide (j < i))) := opB0 fun _ _ _ _ _ _ _ q => gt_int q
theorem op_ge : OpR X (compareOp .GtE) (rI0 fun i j => .bl (decide (j ≤ i))) := opB0 fun _ _ _ _ _ _ _ q => ge_int q
/-- is None, is not None: the right side a value none -/
theorem op_isN : OpR X (compareOp .Is) (fun x y H Q => y = .non ∧ Q (.bl (decide (x = .non))) H) := by
  intro pins s σ H x y v u Q I rx ry h
  obtain ⟨rfl, q⟩ := h
  cases ry
  refine is_none_gen (fin_bl I q ?_)
  cases x <;> first
    | (cases rx; rfl)
    | (obtain ⟨t, rfl⟩ := rx; rfl)
theorem op_notN : OpR X (compareOp .IsNot) (fun x y H Q => y = .non ∧ Q (.bl (!decide (x = .non))) H) := by
  intro pins s σ H x y v u Q I rx ry h
  obtain ⟨rfl, q⟩ := h
  cases ry
  refine isnot_none_gen (fin_bl I q ?_)
  cases x <;> first
    | (cases rx; rfl)
    | (obtain ⟨t, rfl⟩ := rx; rfl)

/-- is, is not of two objects that are tracked lists or instances -/
def isObj : HO → Bool
  | .lst _ => true
  | .ins _ _ _ => true
  | _ => false
/-- two rules for one operation: by cases -/
theorem OpR.or {f : Value → Value → Sem Value} {r r' : R2} (h : OpR X f r) (h' : OpR X f r') : OpR X f (fun x y H Q => r x y H Q ∨ r' x y H Q) := by
  intro pins s σ H x y v u Q I rx ry q
  rcases q with q | q
  · exact h pins s σ H x y v u Q I rx ry q
  · exact h' pins s σ H x y v u Q I rx ry q

theorem nomark (b : Expr) {op : CmpOp} (h : op ≠ .In := by decide) (h2 : op ≠ .NotIn := by decide) : behindInMarks op b = false := by
  have e1 : (op == CmpOp.In) = false := by cases op <;> first | rfl | exact absurd rfl h
  have e2 : (op == CmpOp.NotIn) = false := by cases op <;> first | rfl | exact absurd rfl h2
  cases b <;> simp [behindInMarks, e1, e2]
/-- a comparison as a value; hm: nomark b, or (for in, not in) by with_unfolding_all rfl -/
theorem pe_cmpR {op : CmpOp} {r : R2} (ho : OpR X (compareOp op) r) (ha : PE X a ta) (hb : PE X b tb) (hm : behindInMarks op b = false) : PE X (.Compare a [op] [b] pos) (tOp r ta tb) := by
  intro pins s σ H Q I h
  exact wpAny_Compare1 (binT ha hb I h fun v u s2 x y H2 I2 rx ry q => ho pins s2 σ H2 x y v u Q I2 rx ry q) hm
/-- a reading of a value as a test -/
def tTest (t : TE) : TT := fun σ H Q => t σ H fun x H' => ∃ k, x = .bl k ∧ Q k H'
theorem pt_cmpR {op : CmpOp} {r : R2} (ho : OpR X (compareOp op) r) (ha : PE X a ta) (hb : PE X b tb) (hm : behindInMarks op b = false) : PT X (.Compare a [op] [b] pos) (tTest (tOp r ta tb)) := by
  intro pins s σ H Q I h
  refine wpAny_isTrue_Compare1 (thn (ha pins s σ H _ I h) fun v s1 ⟨x, H1, I1, r1, q1⟩ => thn (hb pins s1 σ H1 _ I1 q1) fun u s2 ⟨y, H2, I2, r2, q2⟩ =>
    thn (ho pins s2 σ H2 x y v u _ I2 r1 r2 q2) fun c s3 ⟨z, H3, I3, r3, k, e, q3⟩ => ?_) hm
  subst e
  cases r3
  exact wpAny_truthy_bool ⟨H3, I3, q3⟩
/-- a op1 b op2 c -/
def tChain (r r' : R2) (ta tb tc : TE) : TE := fun σ H Q => ta σ H fun x H1 => tb σ H1 fun y H2 => r x y H2 fun z H3 => ∃ k, z = .bl k ∧
  (if k = true then tc σ H3 fun w' H4 => r' y w' H4 Q else Q (.bl false) H3)
/-! ### truth -/
/-- a value's truth by the abstract heap -/
def TruV (K : PySem.W.Frag) (x : V) (H : Hp) (k : Bool) : Prop :=
  match x with
  | .non => k = false
  | .bl b => k = b
  | .int i => k = (i != 0)
  | .str y => y.length ≤ sizeLine ∧ k = ((y.length : Int) != 0)
  | .byt y => y.size ≤ sizeLine ∧ k = ((y.size : Int) != 0)
  | .ref p => (∃ xs, SqL K H p xs ∧ k = !xs.isEmpty) ∨ (∃ xs, SqT K H p xs ∧ k = !xs.isEmpty) ∨ ∃ kvs, H p = some (.dK kvs) ∧ k = !kvs.isEmpty
  | _ => False
theorem line63 : (sizeLine : Nat) < 2 ^ 63 := by rw [sizeLine_eq]; decide
/-! ### strs and bytes -/
def PlainIxT (b : Expr) : Prop := ∀ o i, subscripted b false o i = operate [o, i] (getItem o i)
/-! ### scalar builtins, by CallR -/
theorem vals1 {x : V} {us : List Value} (r : Vals [x] us) : ∃ u, us = [u] ∧ RelV x u := by
  cases r with
  | cons r1 r2 => cases r2; exact ⟨_, rfl, r1⟩
theorem vals2 {x y : V} {us : List Value} (r : Vals [x, y] us) : ∃ u w', us = [u, w'] ∧ RelV x u ∧ RelV y w' := by
  cases r with
  | cons r1 r2 =>
    cases r2 with
    | cons r3 r4 => cases r4; exact ⟨_, _, rfl, r1, r3⟩
/-- len of a str, a bytes, a list, a tuple -/
def LenV (K : PySem.W.Frag) (x : V) (H : Hp) (n : Nat) : Prop :=
  match x with
  | .str y => y.length ≤ sizeLine ∧ n = y.length
  | .byt y => y.size ≤ sizeLine ∧ n = y.size
  | .ref p => (∃ xs, SqL K H p xs ∧ n = xs.length) ∨ ∃ xs, SqT K H p xs ∧ n = xs.length
  | _ => False
end
end L2

namespace L2
open PySem PySem.Spec PyProof.Rows

/-! ### an instance, its attributes a map -/
structure ObjM (h : Heap) (x dx C : Addr) (mA : Str → Option Value) : Prop where
  obj : h.get? x = some (PySem.W.instObj C dx)
  ns : h.Ns1 dx mA
  ne : dx ≠ x

theorem lookIn_ns {h : Heap} {dx : Addr} {mA : Str → Option Value} (n : h.Ns1 dx mA) : ∃ od, h.get? dx = some od ∧ ∀ name, PySem.W.lookIn name od = some (mA name) := by
  obtain ⟨o, es, ep, ho, hd, hk, _, hm⟩ := n
  refine ⟨o, ho, fun name => ?_⟩
  have e := hm name
  unfold nsFind findBy at e
  rw [← Array.find?_toList] at e
  unfold PySem.W.lookIn
  rw [hd]
  dsimp only
  split
  · rename_i y q
    rw [q] at e
    exact congrArg some e
  · rename_i q
    rw [q] at e
    have a : es.toList.any (·.refKey) = false := by
      rw [List.any_eq_false]
      intro y hy
      obtain ⟨z, t, hkey⟩ := hk y (Array.mem_toList_iff.mp hy)
      simp [DictEntry.refKey, hkey]
    have a' : ¬ es.toList.any (·.refKey) = true := by rw [a]; exact Bool.false_ne_true
    rw [if_neg a']
    exact congrArg some e

theorem ObjM.look {h : Heap} {x dx C : Addr} {mA : Str → Option Value} (I : ObjM h x dx C mA) : ∃ od, PySem.W.InstAt h x (PySem.W.instObj C dx) C (some od) ∧ ∀ name, PySem.W.lookIn name od = some (mA name) :=
  let ⟨od, ho, hl⟩ := lookIn_ns I.ns
  ⟨od, ⟨I.obj, rfl, rfl, ho⟩, hl⟩

section
variable {prog : Program} {w : World} {A : Around} {E : Value → Shared → Prop} {s : Shared} {K : PySem.W.Frag} {x dx C f : Addr} {mA : Str → Option Value} {name : Str} {v : Value}

theorem get_map {expr : Bool} {Q : Value → Shared → Prop} (X : K.In s.heap) (I : ObjM s.heap x dx C mA) (hg : PySem.W.plainGet K C name = true) (hh : PySem.W.hasDictIn K C = true)
    (ha : PySem.W.findIn K (.ref C) name = some none) (hv : mA name = some v) (hv' : PySem.W.handedIn v = true) (h : Q v { s with toks := s.toks + 1 }) :
    wpAny (model prog w) A (getAttr (.ref x) name expr) Q E s := by
  obtain ⟨od, J, hl⟩ := I.look
  exact PySem.W.get_value X J (PySem.W.plainGet_of hg).1 (PySem.W.findObj_own hh ha rfl (by rw [hl, hv])) hv' h

theorem get_meth {pl : Sem Bool} {Q : Value × List Value → Shared → Prop} (X : K.In s.heap) (I : ObjM s.heap x dx C mA) (hg : PySem.W.plainGet K C name = true)
    (hf : PySem.W.findIn K (.ref C) name = some (some (.ref f))) (ht : PySem.W.isFn K (.ref f) = true) (hv : mA name = none) (h : Q (.ref f, [.ref x]) s) :
    wpAny (model prog w) A (getMethod (.ref x) name pl) Q E s := by
  obtain ⟨od, J, hl⟩ := I.look
  exact PySem.W.method_fn X J (PySem.W.plainGet_of hg).1 (PySem.W.plainGet_of hg).2 hf (beq_iff_eq.mp ht) (by show (PySem.W.lookIn name od).map (·.isSome) = some false; rw [hl, hv]; rfl) h

theorem set_map {ns : List Str} {Q : Unit → Shared → Prop} (X : K.In s.heap) (I : ObjM s.heap x dx C mA)
    (hs : PySem.W.findIn K (.ref C) "__setattr__" = some (some (.builtin "object.__setattr__"))) (hp : PySem.W.plainOver K C = true) (ht : PySem.W.takerIn K C name = some none) (hh : PySem.W.hasDictIn K C = true)
    (hw : PySem.Within mA ns) (hsz : ns.length ≤ sizeLine)
    (h : ∀ h', ObjM h' x dx C (fun y => if y = name then some v else mA y) → Heap.SameBut dx s.heap h' → Q () { s with heap := h', toks := s.toks + 2 }) :
    wpAny (model prog w) A (setAttr (.ref x) name v) Q E s := by
  obtain ⟨od, J, hl⟩ := I.look
  refine PySem.W.set_plain X J hs (PySem.W.osa_open (s := { s with toks := s.toks + 1 }) (r := none) X J hp ht fun b => ?_)
  obtain ⟨cd, hc, hd'⟩ := PySem.W.any_some hh
  have hx : s.heap.get? x = some ⟨.ref C, some dx, .plain, #[]⟩ := I.obj
  refine wpAny_bind (wpAny_pure (wpAny_bind (wpAny_bind (wpAny_loadPart hx (wpAny_bind (PySem.W.Looks.here (s := { s with toks := s.toks + 1 }) (PySem.W.looks_clsIn X hc) ?_))))))
  rw [hd']
  refine wpAny_pure (a := some dx) (wpAny_bind (wpAny_pure (wpAny_bind ?_)))
  refine wpAny_nsSet1 (s := { s with toks := s.toks + 1 }) I.ns fun h' hn2 hs2 => ?_
  obtain ⟨oD, esD, epD, hoD, hdD, hcD⟩ := hn2.count (PySem.Within.cons name v hw)
  refine wpAny_bind (wpAny_lookBehind hoD (by rw [hdD]; exact pastItsLine_dict (Nat.le_trans hcD (by rw [List.length_cons]; omega))) ?_)
  exact wpAny_pure (h _ ⟨(hs2.2 _ (Ne.symm I.ne)).trans I.obj, hn2, I.ne⟩ hs2)

/-- C(..): the dict at the heap's end, the instance behind it; then its __init__ -/
theorem make_map {R : Result → Shared → Prop} {vs : List Value} {kw : List (Str × Value)} (X : K.In s.heap) (hm : PySem.W.makesIn K C = true)
    (hi : PySem.W.findIn K (.ref C) "__init__" = some (some (.ref f))) (hf : PySem.W.typeIn K (.ref f) = some (.type "function"))
    (h : codeAny (model prog w) (A.under (.builtin "type.__call__" ⟨.ref C :: vs, kw⟩)) (.call (.ref f) ⟨.ref (s.heap.objs.size + 1) :: vs, kw⟩) (PySem.W.InitBack (s.heap.objs.size + 1) R)
      { s with heap := (s.heap.push PySem.W.emptyDict).push (PySem.W.instObj C s.heap.objs.size) }) :
    codeAny (model prog w) A (.call (.ref C) ⟨vs, kw⟩) R s := by
  obtain ⟨hh, g, d, t, os⟩ := s
  exact PySem.W.make_core (PySem.W.makes_of X hm) (PySem.W.looks_findIn X hi) (fun self => PySem.W.bind_fn X self hf) (.inl rfl) h
end

/-! ### the attributes as a list of pairs -/
def putF (f : Str) (v : V) : List (Str × V) → List (Str × V)
  | [] => [(f, v)]
  | (g, x) :: r => if g = f then (g, v) :: r else (g, x) :: putF f v r
theorem lookup_putF (f g : Str) (v : V) : ∀ fs : List (Str × V), (putF f v fs).lookup g = if g = f then some v else fs.lookup g
  | [] => by
    show List.lookup g [(f, v)] = _
    by_cases h : g = f
    · have hb : (g == f) = true := beq_iff_eq.mpr h
      simp only [List.lookup, hb, if_pos h]
    · have hb : (g == f) = false := beq_eq_false_iff_ne.mpr h
      simp only [List.lookup, hb, if_neg h]
  | (k, x) :: r => by
    have ih := lookup_putF f g v r
    rw [show putF f v ((k, x) :: r) = (if k = f then (k, v) :: r else (k, x) :: putF f v r) from rfl]
    by_cases hk : k = f
    · rw [if_pos hk]
      by_cases h : g = k
      · have hb : (g == k) = true := beq_iff_eq.mpr h
        simp only [List.lookup, hb, if_pos (h.trans hk)]
      · have hb : (g == k) = false := beq_eq_false_iff_ne.mpr h
        simp only [List.lookup, hb, if_neg (fun e : g = f => h (e.trans hk.symm))]
    · rw [if_neg hk]
      by_cases h : g = k
      · have hb : (g == k) = true := beq_iff_eq.mpr h
        simp only [List.lookup, hb, if_neg (fun e : g = f => hk (h.symm.trans e))]
      · have hb : (g == k) = false := beq_eq_false_iff_ne.mpr h
        simp only [List.lookup, hb]
        exact ih
theorem keys_putF (f : Str) (v : V) : ∀ fs : List (Str × V), f ∈ (putF f v fs).map (·.1) ∧ ∀ g, g ∈ fs.map (·.1) → g ∈ (putF f v fs).map (·.1)
  | [] => ⟨by simp [putF], fun g h => by simp at h⟩
  | (k, x) :: r => by
    obtain ⟨i1, i2⟩ := keys_putF f v r
    rw [show putF f v ((k, x) :: r) = (if k = f then (k, v) :: r else (k, x) :: putF f v r) from rfl]
    by_cases hk : k = f
    · rw [if_pos hk]
      subst hk
      exact ⟨by simp, fun g h => by simpa using h⟩
    · rw [if_neg hk]
      refine ⟨?_, fun g h => ?_⟩
      · rw [List.map_cons]
        exact List.mem_cons_of_mem _ i1
      · rw [List.map_cons] at h ⊢
        rcases List.mem_cons.mp h with e | e
        · exact List.mem_cons.mpr (.inl e)
        · exact List.mem_cons_of_mem _ (i2 g e)
theorem length_putF (f : Str) (v : V) : ∀ fs : List (Str × V), (putF f v fs).length ≤ fs.length + 1
  | [] => by simp [putF]
  | (k, x) :: r => by
    have ih := length_putF f v r
    rw [show putF f v ((k, x) :: r) = (if k = f then (k, v) :: r else (k, x) :: putF f v r) from rfl]
    by_cases hk : k = f
    · rw [if_pos hk, List.length_cons, List.length_cons]; omega
    · rw [if_neg hk, List.length_cons, List.length_cons]; omega

theorem RelO.some_of {v : V} {o : Option Value} (r : RelO (some v) o) : ∃ u, o = some u ∧ RelV v u := by
  cases o with
  | none => exact (show False from r).elim
  | some u => exact ⟨u, rfl, r⟩
theorem RelO.none_of {o : Option Value} (r : RelO none o) : o = none := by
  cases o with
  | none => rfl
  | some u => exact (show False from r).elim
theorem handed_of {v : V} {u : Value} (r : RelV v u) : PySem.W.handedIn u = true := by
  cases v with
  | non => cases (show u = Value.none from r); rfl
  | bl b => cases (show u = Value.bool b from r); rfl
  | int i => obtain ⟨t, e⟩ := (show ∃ t, u = Value.int i t from r); cases e; rfl
  | str x => obtain ⟨t, e⟩ := (show ∃ t, u = Value.str x t from r); cases e; rfl
  | byt b => obtain ⟨t, e⟩ := (show ∃ t, u = Value.bytes b t from r); cases e; rfl
  | flt b => obtain ⟨t, e⟩ := (show ∃ t, u = Value.float b t from r); cases e; rfl
  | ref a => cases (show u = Value.ref a from r); rfl
  | ty n => cases (show u = Value.type n from r); rfl

section
variable {P : Program} {w : World} {H H' : Hp} {h h' : Heap} {a C dx : Addr} {fs fs' : List (Str × V)}
theorem ins_get (hok : HOk P w H h) (e : H a = some (.ins C dx fs)) : ∃ mA, ObjM h a dx C mA ∧ (∀ f, RelO (fs.lookup f) (mA f)) ∧ PySem.Within mA (fs.map (·.1)) ∧ fs.length ≤ 1000 ∧ H dx = some (.own a) := by
  obtain ⟨d, z, ne, ob, mA, n, r, q⟩ := (show ObjOk P w H h a (.ins C dx fs) from hok a _ e)
  exact ⟨mA, ⟨ob, n, ne⟩, r, q, z, d⟩
end

/-! ### what of the text a class must have -/
structure Cls (K : PySem.W.Frag) (C : Addr) : Prop where
  pg : PySem.W.plainGet K C Str.empty = true
  hd : PySem.W.hasDictIn K C = true
  po : PySem.W.plainOver K C = true
  sa : PySem.W.findIn K (.ref C) "__setattr__" = some (some (.builtin "object.__setattr__"))
theorem Cls.get {K : PySem.W.Frag} {C : Addr} (c : Cls K C) (f : Str) : PySem.W.plainGet K C f = true := c.pg
/-- no class of it has the name -/
def NoAttr (K : PySem.W.Frag) (C : Addr) (f : Str) : Prop := PySem.W.findIn K (.ref C) f = some none
theorem NoAttr.taker {K : PySem.W.Frag} {C : Addr} {f : Str} (n : NoAttr K C f) : PySem.W.takerIn K C f = some none := by
  unfold PySem.W.takerIn
  rw [show PySem.W.findIn K (.ref C) f = some none from n]
  rfl
/-- a constant of the class -/
structure Con (K : PySem.W.Frag) (C : Addr) (f : Str) (v : V) (u : Value) : Prop where
  at_ : PySem.W.findIn K (.ref C) f = some (some u)
  rel : RelV v u
  get : PySem.W.specialIn K u "__get__" = some none
  cp : PySem.W.copiedNames.contains f = false
/-- a method: a plain def of the class or of one above it -/
structure Meth (K : PySem.W.Frag) (C : Addr) (m : Str) (f : Addr) : Prop where
  at_ : PySem.W.findIn K (.ref C) m = some (some (.ref f))
  fn : PySem.W.isFn K (.ref f) = true
  kp : PySem.W.keepIn K (.ref f) = true

section
variable {X : Cx} {pins : List (Addr × Obj)} {σ : St} {H : Hp} {s : Shared} {a C dx : Addr} {fs : List (Str × V)} {f : Str} {v : V} {A : Around} {E : Value → Shared → Prop}

theorem getattr_ok {b : Bool} {Q : Value → Shared → Prop} (I : Inv X pins σ H s) (e : H a = some (.ins C dx fs)) (c : Cls X.K C) (n : NoAttr X.K C f) (l : fs.lookup f = some v)
    (h : ∀ u s', Inv X pins σ H s' → RelV v u → Q u s') : wpAny (model X.prog X.w) A (getAttr (.ref a) f b) Q E s := by
  obtain ⟨mA, O, r, _, _, _⟩ := ins_get I.hok e
  obtain ⟨u, hu, ru⟩ := RelO.some_of (v := v) (o := mA f) (by rw [← l]; exact r f)
  exact get_map I.kIn O (c.get f) c.hd n hu (handed_of ru) (h u _ (I.tok _) ru)

theorem getmeth_ok {m : Str} {g : Addr} {pl : Sem Bool} {Q : Value × List Value → Shared → Prop} (I : Inv X pins σ H s) (e : H a = some (.ins C dx fs)) (c : Cls X.K C) (k : Meth X.K C m g) (l : fs.lookup m = none)
    (h : Q (.ref g, [.ref a]) s) : wpAny (model X.prog X.w) A (getMethod (.ref a) m pl) Q E s := by
  obtain ⟨mA, O, r, _, _, _⟩ := ins_get I.hok e
  have hn : mA m = none := RelO.none_of (by rw [← l]; exact r m)
  exact get_meth I.kIn O (c.get m) k.at_ k.fn hn h

theorem setattr_ok {y : V} {u : Value} {Q : Unit → Shared → Prop} (I : Inv X pins σ H s) (e : H a = some (.ins C dx fs)) (c : Cls X.K C) (n : NoAttr X.K C f) (hl : fs.length < 1000) (ry : RelV y u)
    (h : ∀ s', Inv X pins σ (upd H a (.ins C dx (putF f y fs))) s' → Q () s') : wpAny (model X.prog X.w) A (setAttr (.ref a) f u) Q E s := by
  obtain ⟨mA, O, r, wi, _, ho⟩ := ins_get I.hok e
  have hz : (fs.map (·.1)).length ≤ sizeLine := by rw [List.length_map, sizeLine_eq]; omega
  refine set_map I.kIn O c.sa c.po n.taker c.hd wi hz fun h' O' sb => h _ ?_
  have hd : ∃ o, h'.get? dx = some o := let ⟨o, _, _, e', _⟩ := O'.ns; ⟨o, e'⟩
  refine I.write (x := a) (e := dx) (by rw [e]; exact True.intro) (.inr ho) (fun b q hb z => (sb.2 b hb).trans z) hd ?_
  refine ⟨by rw [upd_ne O.ne]; exact ho, ?_, O.ne, O'.obj, _, O'.ns, fun g => ?_, fun g hg => ?_⟩
  · have := length_putF f y fs; omega
  · show RelO ((putF f y fs).lookup g) (if g = f then some u else mA g)
    rw [lookup_putF]
    by_cases q : g = f
    · rw [if_pos q, if_pos q]; exact ry
    · rw [if_neg q, if_neg q]; exact r g
  · by_cases q : g = f
    · rw [q]; exact (keys_putF f y fs).1
    · refine (keys_putF f y fs).2 g (wi g fun z => hg ?_)
      show (if g = f then some u else mA g) = none
      rw [if_neg q]; exact z

/-- a new instance, tracked, without attributes -/
theorem Inv.made (I : Inv X pins σ H s) : Inv X pins σ (upd (upd H s.heap.objs.size (.own (s.heap.objs.size + 1))) (s.heap.objs.size + 1) (.ins C s.heap.objs.size []))
    { s with heap := (s.heap.push PySem.W.emptyDict).push (PySem.W.instObj C s.heap.objs.size) } := by
  have e1 : (s.heap.push PySem.W.emptyDict).get? s.heap.objs.size = some PySem.W.emptyDict := Heap.get?_push_size s.heap rfl
  have e2 : ((s.heap.push PySem.W.emptyDict).push (PySem.W.instObj C s.heap.objs.size)).get? (s.heap.objs.size + 1) = some (PySem.W.instObj C s.heap.objs.size) := by
    have := Heap.get?_push_size (s.heap.push PySem.W.emptyDict) (o := PySem.W.instObj C s.heap.objs.size) rfl
    rwa [Heap.size_push] at this
  have e3 : (s.heap.push PySem.W.emptyDict).Ns s.heap.objs.size (fun _ => none) := ⟨PySem.W.emptyDict, #[], _, e1, rfl, (fun e he => absurd he (by simp)), fun _ => rfl⟩
  have I1 := I.laid (a := s.heap.objs.size) (o := .own (s.heap.objs.size + 1)) (h' := s.heap.push PySem.W.emptyDict) (t' := s.toks) (fun b u q => Heap.get?_push_of_some _ q) (Nat.le_refl _) ⟨_, e1⟩
  refine I1.laid (a := s.heap.objs.size + 1) (o := .ins C s.heap.objs.size []) (t' := s.toks) (fun b u q => Heap.get?_push_of_some _ q) (Nat.le_of_eq (Heap.size_push _ _)) ?_
  have ne : s.heap.objs.size ≠ s.heap.objs.size + 1 := Nat.ne_of_lt (Nat.lt_succ_self _)
  refine ⟨by rw [upd_ne ne, upd_same], Nat.zero_le _, ne, e2, fun _ => none, (Heap.Ns1.of_empty e3).at fun o q => Heap.get?_push_of_some _ q, fun _ => True.intro, fun y hy => absurd rfl hy⟩

/-- e.f where nothing but the object is asked: through attributeBase (super) and the last hold -/
theorem attr_of {prog : Program} {w : World} {env : Env} {e : Expr} {f : Str} {pos : Pos} {s : Shared} {Q : Value → Shared → Prop} (hb : attributeBase e f env (eval e env) = eval e env)
    (h : wpAny (model prog w) A (eval e env) (fun o s₁ => wpAny (model prog w) A (getAttr o f true) Q E s₁) E s) : wpAny (model prog w) A (eval (.Attribute e f pos) env) Q E s :=
  Attribute_any_ h (by rw [arm_eval_Attribute, hb])
end

/-! ### readings and rules -/
/-- e.f, an attribute of the instance -/
def tFld (K : PySem.W.Frag) (ta : TE) (f : Str) : TE := fun σ H Q => ta σ H fun x H1 => ∃ a C dx fs v, x = .ref a ∧ H1 a = some (.ins C dx fs) ∧ Cls K C ∧ NoAttr K C f ∧ fs.lookup f = some v ∧ Q v H1
/-- e.f, a constant of the class -/
def tCon (K : PySem.W.Frag) (ta : TE) (f : Str) : TE := fun σ H Q => ta σ H fun x H1 => ∃ a C dx fs v u, x = .ref a ∧ H1 a = some (.ins C dx fs) ∧ Cls K C ∧ Con K C f v u ∧ fs.lookup f = none ∧ Q v H1
/-- e.f = value -/
def sFld (K : PySem.W.Frag) (ta tv : TE) (f : Str) : TS := fun D σ H => tv σ H fun y H1 => ta σ H1 fun x H2 => ∃ a C dx fs, x = .ref a ∧ H2 a = some (.ins C dx fs) ∧ Cls K C ∧ NoAttr K C f ∧ fs.length < 1000 ∧
  D.nx σ (upd H2 a (.ins C dx (putF f y fs)))
/-- an augmented operator on two values -/
def InOp (X : Cx) (op : Operator) (rd : V → V → Hp → VK → Prop) : Prop :=
  ∀ (pins : List (Addr × Obj)) (s : Shared) (σ : St) (H : Hp) (x y : V) (u v : Value) (Q : VK), Inv X pins σ H s → RelV x u → RelV y v → rd x y H Q → wpAny (model X.prog X.w) X.A (inplaceOp op u v) (EP X pins σ Q) X.xe s
/-- e.f op= value -/
def sFldAug (K : PySem.W.Frag) (ta tv : TE) (rd : V → V → Hp → VK → Prop) (f : Str) : TS := fun D σ H => ta σ H fun x H1 => ∃ a C dx fs v, x = .ref a ∧ H1 a = some (.ins C dx fs) ∧ Cls K C ∧ NoAttr K C f ∧ fs.lookup f = some v ∧
  tv σ H1 fun y H2 => rd v y H2 fun z H3 => ∃ dx' fs', H3 a = some (.ins C dx' fs') ∧ fs'.length < 1000 ∧ D.nx σ (upd H3 a (.ins C dx' (putF f z fs')))

section
variable {X : Cx} {o e value : Expr} {f : Str} {pos pos' tpos : Pos} {ta tv : TE}
theorem pe_fld (he : PE X e ta) (hb : attributeBase e f X.env (eval e X.env) = eval e X.env) : PE X (.Attribute e f pos) (tFld X.K ta f) := by
  intro pins s σ H Q I h
  refine attr_of hb (thn (he pins s σ H _ I h) fun u s1 ⟨x, H1, I1, rx, a, C, dx, fs, v, ex, ea, c, n, l, q⟩ => ?_)
  subst ex
  obtain rfl : u = Value.ref a := rx
  exact getattr_ok I1 ea c n l fun u' s2 I2 ru => ⟨v, H1, I2, ru, q⟩
theorem ps_fld (ha : PE X o ta) (hv : PE X value tv) (hs : swapsWith value (some (.Attribute o f pos')) pos.line X.env = pure false) : PS X (.Assign [.Attribute o f pos'] value pos) (sFld X.K ta tv f) := by
  intro pins s σ H D I h
  refine plainObj_wpAny_Assign_Attribute (thn (hv pins s σ H _ I h) fun u s1 ⟨y, H1, I1, ry, q⟩ => thn (ha pins s1 σ H1 _ I1 q) fun ov s2 ⟨x, H2, I2, rx, a, C, dx, fs, ex, ea, c, n, l, q2⟩ => ?_) hs
  subst ex
  obtain rfl : ov = Value.ref a := rx
  exact setattr_ok I2 ea c n l ry fun s3 I3 => ⟨σ, _, I3, q2⟩
def rAdd : V → V → Hp → VK → Prop := fun x y H Q => ∃ i j, x = .int i ∧ y = .int j ∧ Q (.int (i + j)) H
def rSub : V → V → Hp → VK → Prop := fun x y H Q => ∃ i j, x = .int i ∧ y = .int j ∧ Q (.int (i - j)) H
end

/-! ### isinstance -/
section
variable {X : Cx} {pins : List (Addr × Obj)} {σ : St} {H : Hp} {s : Shared} {A : Around} {E : Value → Shared → Prop} {Q : Value → Shared → Prop} {c : Value} {b : Bool}
/-- the type of a value, as the fragment's deciders take it; for an instance its class -/
inductive TyOf (K : PySem.W.Frag) (H : Hp) : V → Value → Prop where
  | non : TyOf K H .non (.type "NoneType")
  | bl (x : Bool) : TyOf K H (.bl x) (.type "bool")
  | int (i : Int) : TyOf K H (.int i) (.type "int")
  | str (x : Str) : TyOf K H (.str x) (.type "str")
  | flt (x : UInt64) : TyOf K H (.flt x) (.type "float")
  | lst {a : Addr} {xs : List V} (e : H a = some (.lst xs)) : TyOf K H (.ref a) (.type "list")
  | frz {a : Addr} {o : Obj} {xs : List V} (e : H a = some (.frz o (.lst xs))) : TyOf K H (.ref a) (.type "list")
  | tup {a : Addr} {xs : List V} (e : H a = some (.tup xs)) : TyOf K H (.ref a) (.type "tuple")
  | dK {a : Addr} {kvs : List (Key × V)} (e : H a = some (.dK kvs)) : TyOf K H (.ref a) (.type "dict")
  | dT {a : Addr} {kvs : List (List Key × V)} (e : H a = some (.dT kvs)) : TyOf K H (.ref a) (.type "dict")
  | ins {a C dx : Addr} {fs : List (Str × V)} (e : H a = some (.ins C dx fs)) (cl : Cls K C) (ha : PySem.W.findIn K (.ref C) "__class__" = some (some (.builtin "object.__class__")))
      (hn : PySem.W.specialIn K (.builtin "object.__class__") "__get__" = some (some (.builtin "getset_descriptor.__get__"))) (htk : PySem.W.takesIn K (.builtin "object.__class__") = some true)
      (hm : PySem.W.mroIn K C (.type "object") = some true) : TyOf K H (.ref a) (.ref C)
/-- isinstance(x, c) for one class c, a built-in or an own one: kitOne's answer -/
theorem isinst_ok {x : V} {u t : Value} (I : Inv X pins σ H s) (rx : RelV x u) (ty : TyOf X.K H x t) (e : PySem.W.kitOne X.K t c = some b) (h : ∀ tk, Q (.bool b) { s with toks := tk }) :
    wpAny (model X.prog X.w) A (call (.builtin "isinstance") [u, c]) Q E s := by
  cases ty with
  | non => cases (show u = Value.none from rx); exact PySem.W.kia_one PySem.W.kitx_none I.kIn True.intro e (fun z => nomatch z) h
  | bl y => cases (show u = Value.bool y from rx); exact PySem.W.kia_one PySem.W.kitx_bool I.kIn True.intro e (fun z => nomatch z) h
  | int i => obtain ⟨t, q⟩ := (show ∃ t, u = Value.int i t from rx); cases q; exact PySem.W.kia_one PySem.W.kitx_int I.kIn True.intro e (fun z => nomatch z) h
  | str y => obtain ⟨t, q⟩ := (show ∃ t, u = Value.str y t from rx); cases q; exact PySem.W.kia_one PySem.W.kitx_str I.kIn True.intro e (fun z => nomatch z) h
  | flt y => obtain ⟨t, q⟩ := (show ∃ t, u = Value.float y t from rx); cases q; exact PySem.W.kia_one PySem.W.kitx_float I.kIn True.intro e (fun z => nomatch z) h
  | @lst a xs ea =>
    cases (show u = Value.ref a from rx)
    obtain ⟨_, _, n, _, h1⟩ := (show ObjOk X.prog X.w H s.heap a (.lst xs) from I.hok a _ ea)
    exact PySem.W.kia_one PySem.W.kitx_list I.kIn ⟨_, h1, rfl⟩ e (fun z => nomatch z) h
  | @frz a ob xs ea =>
    cases (show u = Value.ref a from rx)
    obtain ⟨_, _, _, n, _, h1⟩ := (show ObjOk X.prog X.w H s.heap a (.frz ob (.lst xs)) from I.hok a _ ea)
    exact PySem.W.kia_one PySem.W.kitx_list I.kIn ⟨_, h1, rfl⟩ e (fun z => nomatch z) h
  | @tup a xs ea =>
    cases (show u = Value.ref a from rx)
    obtain ⟨_, _, _, p⟩ := (show ObjOk X.prog X.w H s.heap a (.tup xs) from I.hok a _ ea)
    obtain ⟨o, h1, h2, _⟩ := p
    exact PySem.W.kia_one PySem.W.kitx_tuple I.kIn ⟨o, h1, h2⟩ e (fun z => nomatch z) h
  | @dK a kvs ea =>
    cases (show u = Value.ref a from rx)
    obtain ⟨_, _, vs, _, p⟩ := (show ObjOk X.prog X.w H s.heap a (.dK kvs) from I.hok a _ ea)
    obtain ⟨o, es, ep, h1, h2, _⟩ := p
    exact PySem.W.kia_one PySem.W.kitx_dict I.kIn ⟨o, h1, h2.1⟩ e (fun z => nomatch z) h
  | @dT a kvs ea =>
    cases (show u = Value.ref a from rx)
    obtain ⟨_, _, xs, _, o, es, ep, h1, h2, _⟩ := (show ObjOk X.prog X.w H s.heap a (.dT kvs) from I.hok a _ ea)
    exact PySem.W.kia_one PySem.W.kitx_dict I.kIn ⟨o, h1, h2.1⟩ e (fun z => nomatch z) h
  | @ins a C dx fs ea cl ha hn htk hm =>
    cases (show u = Value.ref a from rx)
    obtain ⟨mA, O, _⟩ := ins_get I.hok ea
    obtain ⟨od, J, _⟩ := O.look
    exact PySem.W.kia_one (PySem.W.kitx_own (cl.get _) cl.hd ha hn htk hm) I.kIn J e (fun z => nomatch z) h
end
end L2

namespace L2
open PySem PySem.Spec PyProof.Rows

/-! ### room -/
structure Room (k : Nat) (A : Around) : Prop where
  hd : A.handled = none
  dp : A.depth + 3 * k + 5 < recursionLimit
  un : A.units + 16 * k + 200 < cLine
theorem Room.mono {j k : Nat} {A : Around} (r : Room k A) (h : j ≤ k) : Room j A := ⟨r.hd, by have := r.dp; omega, by have := r.un; omega⟩
theorem Room.deeper {k : Nat} {A : Around} (r : Room (k + 1) A) (env : Env) : Room k (A.deeper env) :=
  ⟨r.hd, by have := r.dp; show A.depth + 1 + 3 * k + 5 < _; omega, by have := r.un; show A.units + 3 + 16 * k + 200 < _; omega⟩
theorem Room.in1 {k : Nat} {A : Around} (r : Room (k + 1) A) : Room k A.in1 :=
  ⟨r.hd, by have := r.dp; show A.depth + 3 * k + 5 < _; omega, by have := r.un; show A.units + 1 + 16 * k + 200 < _; omega⟩
theorem make_depth {A : Around} {C : Addr} {us : List Value} {kw : List (Str × Value)} : (A.under (.builtin "type.__call__" ⟨.ref C :: us, kw⟩)).depth = A.depth + 1 := by
  first | rfl | simp [Around.under, Code.weight, Code.isCreation, Code.isGuard, Code.isCaller, Code.frames, Code.isFrame, guardIds]
theorem make_units {A : Around} {C : Addr} {us : List Value} {kw : List (Str × Value)} : (A.under (.builtin "type.__call__" ⟨.ref C :: us, kw⟩)).units = A.units + 1 := by
  first | rfl | simp [Around.under, Code.cUnits, Code.frames, Code.isFrame]
theorem Room.make {k : Nat} {A : Around} (r : Room (k + 1) A) (C : Addr) (us : List Value) (kw : List (Str × Value)) : Room k (A.under (.builtin "type.__call__" ⟨.ref C :: us, kw⟩)) :=
  ⟨r.hd, by have := r.dp; rw [make_depth]; omega, by have := r.un; rw [make_units]; omega⟩
theorem Room.depth {k : Nat} {A : Around} (r : Room k A) : A.depth < recursionLimit := by have := r.dp; omega
theorem Room.units {k : Nat} {A : Around} (r : Room k A) : A.units + 64 < cLine := by have := r.un; omega
theorem Room.units0 {k : Nat} {A : Around} (r : Room k A) : A.units < cLine := by have := r.un; omega

/-! ### argument lists and displays -/
def tNil : TA := fun _ H Q => Q [] H
def tCons (ta : TE) (tr : TA) : TA := fun σ H Q => ta σ H fun x H1 => tr σ H1 fun xs H2 => Q (x :: xs) H2
section
variable {X : Cx} {e : Expr} {es : List Expr} {te : TE} {t : TA} {pos : Pos}
theorem pa_nil : PA X [] tNil := fun _ _ _ _ H Q I h => Calls.spliced_nil ⟨[], H, I, .nil, h⟩
theorem pa_cons (ha : PE X e te) (hr : PA X es t) (hs : starEach (e :: es) X.env = (false, eval e X.env) :: starEach es X.env := by rfl) : PA X (e :: es) (tCons te t) := by
  intro pos pins s σ H Q I h
  rw [hs]
  show wpAny _ _ (spliced ((false, eval e X.env) :: backTo pos (starEach es X.env))) _ _ s
  refine Calls.spliced_cons (thn (ha pins s σ H _ I h) fun u s1 ⟨x, H1, I1, r1, q1⟩ => ?_)
  exact thn (hr pos pins s1 σ H1 _ I1 q1) fun us s2 ⟨xs, H2, I2, r2, q2⟩ => ⟨x :: xs, H2, I2, .cons r1 r2, q2⟩

/-- a tuple, a list of written items -/
def tTup (t : TA) : TE := fun σ H Q => t σ H fun xs H1 => xs.length ≤ sizeLine ∧ ∀ p, H1 p = none → Q (.ref p) (upd H1 p (.tup xs))
def tLst (t : TA) : TE := fun σ H Q => t σ H fun xs H1 => xs.length ≤ sizeLine ∧ ∀ p, H1 p = none → Q (.ref p) (upd H1 p (.lst xs))
theorem pe_tup {x1} (h : PA X es t) : PE X (.Tuple es x1 pos) (tTup t) := by
  intro pins s σ H Q I hq
  refine wpAny_Tuple_spliced (thn (h pos pins s σ H _ I hq) fun us s1 ⟨xs, H1, I1, r, z, q⟩ => ⟨by rw [← r.length]; exact z, ?_⟩)
  have hf : H1 s1.heap.objs.size = none := I1.hok.fresh (Nat.le_refl _)
  refine ⟨.ref s1.heap.objs.size, upd H1 s1.heap.objs.size (.tup xs), I1.laid (t' := s1.toks) (fun b u e => Heap.get?_push_of_some _ e) (Nat.le_refl _) ?_, rfl, q _ hf⟩
  exact ⟨z, us, r, ⟨_, Heap.get?_push_size _ rfl, rfl, _, rfl⟩⟩
theorem pe_lst (h : PA X es t) : PE X (.List es pos) (tLst t) := by
  intro pins s σ H Q I hq
  refine wpAny_List_spliced (thn (h pos pins s σ H _ I hq) fun us s1 ⟨xs, H1, I1, r, z, q⟩ => ⟨by rw [← r.length]; exact z, ?_⟩)
  have hf : H1 s1.heap.objs.size = none := I1.hok.fresh (Nat.le_refl _)
  refine ⟨.ref s1.heap.objs.size, upd H1 s1.heap.objs.size (.lst xs), I1.laid (t' := s1.toks) (fun b u e => Heap.get?_push_of_some _ e) (Nat.le_refl _) ?_, rfl, q _ hf⟩
  exact ⟨z, us, 0, r, Heap.get?_push_size _ rfl⟩
end

/-! ### what a def promises -/
/-- a def's promise: the bound arguments in the parameters' order, the heap, the wanted end, the wanted exception -/
abbrev Sp := List V → Hp → VK → XK → Prop
/-- how an exception lies behind a call (file 08 gives it): the callers' frames, abstract heap and state ahead of the call, the wish, the exception, the state -/
abbrev CXT := List Env → Hp → Shared → XK → Value → Shared → Prop

/-- the state at a call -/
structure Env0 (P : Program) (w : World) (K : PySem.W.Frag) (mg : Str → Option Value) (base : Heap) (A : Around) (outer : List Env) (s : Shared) (H : Hp) : Prop where
  frames : A.frames = some outer
  mod : Mod K mg base
  bs : ∀ b o, base.get? b = some o → s.heap.get? b = some o ∧ H b = none
  bsz : base.objs.size ≤ s.heap.objs.size
  funs : s.heap.FunFrames base outer
  frf : ∀ b ∈ frs outer, H b = none
  hok : HOk P w H s.heap
  bare : AllBare s.gens
/-- a call's end -/
def CE (outer : List Env) (P : Program) (w : World) (H : Hp) (s : Shared) (Q : VK) (u : Value) (s' : Shared) : Prop :=
  ∃ v H', s'.os = s.os ∧ AllBare s'.gens ∧ Un (frs outer) [] H H' s.heap s'.heap ∧ HOk P w H' s'.heap ∧ RelV v u ∧ Q v H'
def CR (CX : CXT) (outer : List Env) (P : Program) (w : World) (H : Hp) (s : Shared) (Q : VK) (E : XK) (r : Result) (s' : Shared) : Prop :=
  match r with
  | .ok (.ret u) => CE outer P w H s Q u s'
  | .ok _ => False
  | .error e => CX outer H s E e s'
structure FnOk (P : Program) (w : World) (K : PySem.W.Frag) (mg : Str → Option Value) (base : Heap) (CX : CXT) (k : Nat) (f : Addr) (fd : FuncData) (ps : List Str) (sp : Sp) : Prop where
  len : ∀ vs H Q E, sp vs H Q E → vs.length = ps.length
  run : ∀ (A : Around) (outer : List Env) (s : Shared) (H : Hp) (args : Args) (us : List Value) (vs : List V) (Q : VK) (E : XK), Room k A → Env0 P w K mg base A outer s H → BindsTo s fd args (ps.zip us) → Vals vs us → sp vs H Q E →
    codeAny (model P w) A (.call (.ref f) args) (CR CX outer P w H s Q E) s
theorem FnOk.mono {P : Program} {w : World} {K : PySem.W.Frag} {mg : Str → Option Value} {base : Heap} {CX : CXT} {j k : Nat} {f : Addr} {fd : FuncData} {ps : List Str} {sp : Sp} (F : FnOk P w K mg base CX j f fd ps sp) (h : j ≤ k) :
    FnOk P w K mg base CX k f fd ps sp := ⟨F.len, fun A outer s H args us vs Q E hr => F.run A outer s H args us vs Q E (hr.mono h)⟩
/-- a weaker promise -/
theorem FnOk.imp {P : Program} {w : World} {K : PySem.W.Frag} {mg : Str → Option Value} {base : Heap} {CX : CXT} {k : Nat} {f : Addr} {fd : FuncData} {ps : List Str} {sp sp' : Sp} (F : FnOk P w K mg base CX k f fd ps sp)
    (h : ∀ vs H Q E, sp' vs H Q E → sp vs H Q E) : FnOk P w K mg base CX k f fd ps sp' :=
  ⟨fun vs H Q E q => F.len vs H Q E (h _ _ _ _ q), fun A outer s H args us vs Q E hr he hb hv hs => F.run A outer s H args us vs Q E hr he hb hv (h _ _ _ _ hs)⟩

theorem Env0.make {P : Program} {w : World} {K : PySem.W.Frag} {mg : Str → Option Value} {base : Heap} {A : Around} {outer : List Env} {s : Shared} {H : Hp} (e : Env0 P w K mg base A outer s H) (C : Addr) (us : List Value) (kw : List (Str × Value)) :
    Env0 P w K mg base (A.under (.builtin "type.__call__" ⟨.ref C :: us, kw⟩)) outer s H := ⟨by first | exact e.frames | (simpa [Around.under, Code.envs, Code.isFrame, pushEnvs] using e.frames), e.mod, e.bs, e.bsz, e.funs, e.frf, e.hok, e.bare⟩
theorem Env0.in1 {P : Program} {w : World} {K : PySem.W.Frag} {mg : Str → Option Value} {base : Heap} {A : Around} {outer : List Env} {s : Shared} {H : Hp} (e : Env0 P w K mg base A outer s H) :
    Env0 P w K mg base A.in1 outer s H := ⟨e.frames, e.mod, e.bs, e.bsz, e.funs, e.frf, e.hok, e.bare⟩

section
variable {X : Cx} {pins : List (Addr × Obj)} {σ : St} {H : Hp} {s s' : Shared}
/-- from a body: what a callee wants -/
theorem Inv.env0 (I : Inv X pins σ H s) : Env0 X.prog X.w X.K X.mg X.base X.A X.stack s H :=
  ⟨I.ok.frames, I.ok.mod, I.bs, Nat.le_trans I.ok.bsz I.sz, I.stack, I.stkFree, I.hok, I.bare⟩
/-- behind a call -/
theorem Inv.after {Q : VK} {u : Value} (I : Inv X pins σ H s) (h : CE X.stack X.prog X.w H s Q u s') : EP X pins σ Q u s' := by
  obtain ⟨v, H', os, bare, un, hok, r, q⟩ := h
  obtain ⟨hh, g, d, t, os'⟩ := s'
  obtain rfl : os' = s.os := os
  exact ⟨v, H', I.call (h' := hh) (g' := g) (d' := d) (t' := t) (ch := []) un hok bare (fun b z => absurd z (by simp)), r, q⟩
end

/-! ### calls -/
/-- f(..): the written arguments, then the defaults dvs; E: what is wanted of an exception -/
def tCall (sp : Sp) (dvs : List V) (E : XK) (t : TA) : TE := fun σ H Q => t σ H fun vs H1 => sp (vs ++ dvs) H1 Q E
/-- o.m(..) of an instance of the class at C -/
def tMeth (C : Addr) (m : Str) (sp : Sp) (dvs : List V) (E : XK) (ta : TE) (t : TA) : TE := fun σ H Q => ta σ H fun x H1 => ∃ a dx fs, x = .ref a ∧ H1 a = some (.ins C dx fs) ∧ fs.lookup m = none ∧
  t σ H1 fun vs H2 => sp (x :: (vs ++ dvs)) H2 Q E
/-- C(..): a new instance and its dict, then __init__ -/
def tMake (C : Addr) (sp : Sp) (dvs : List V) (E : XK) (t : TA) : TE := fun σ H Q => t σ H fun vs H1 => ∀ x dx, H1 x = none → H1 dx = none → dx ≠ x →
  sp (.ref x :: (vs ++ dvs)) (upd (upd H1 dx (.own x)) x (.ins C dx [])) (fun v H2 => v = .non ∧ Q (.ref x) H2) E

/-- how the parameters are bound: us the positional arguments, kw the keywords' values by name, ds the defaults that fill up -/
def Binds (K : PySem.W.Frag) (fd : FuncData) (ps : List Str) (ds : List Value) : Prop :=
  ∀ (s : Shared) (us : List Value), K.In s.heap → (us ++ ds).length = ps.length → BindsTo s fd ⟨us, []⟩ (ps.zip (us ++ ds))
/-- every parameter is given -/
theorem Binds.all {K : PySem.W.Frag} {fd : FuncData} {ps : List Str} (h : ∀ us : List Value, us.length = ps.length → bindArgs fd ⟨us, []⟩ = pure (ps.zip us)) : Binds K fd ps [] := fun s us _ hl => by
  rw [List.append_nil] at hl ⊢
  exact .of_eq (h us hl)

/-- an exception of a callee reaches what this body wants of exceptions -/
def Passes (CX : CXT) (X : Cx) (E : XK) : Prop := ∀ (pins : List (Addr × Obj)) (σ : St) (H : Hp) (s : Shared) (e : Value) (s' : Shared), Inv X pins σ H s → CX X.stack H s E e s' → X.xe e s'

section
variable {X : Cx} {CX : CXT} {k : Nat} {f C : Addr} {fd : FuncData} {ps : List Str} {sp : Sp} {dvs : List V} {ds : List Value} {E : XK} {x m : Str} {p pos apos : Pos} {e o : Expr} {es : List Expr} {ta : TE} {t : TA}

/-- the callee runs -/
theorem run_fn {pins : List (Addr × Obj)} {σ : St} {H : Hp} {s : Shared} {Q : VK} {us : List Value} {vs : List V} (F : FnOk X.prog X.w X.K X.mg X.base CX k f fd ps sp) (hr : Room k X.A) (hb : Binds X.K fd ps ds) (hd : Vals dvs ds) (hx : Passes CX X E)
    (I : Inv X pins σ H s) (r : Vals vs us) (h : sp (vs ++ dvs) H Q E) : wpAny (model X.prog X.w) X.A (call (.ref f) us) (EP X pins σ Q) X.xe s := by
  have r2 : Vals (vs ++ dvs) (us ++ ds) := r.append hd
  have hl : (us ++ ds).length = ps.length := by rw [← r2.length]; exact F.len _ _ _ _ h
  refine wpAny_call (codeAny_mono (F.run X.A X.stack s H ⟨us, []⟩ (us ++ ds) (vs ++ dvs) Q E hr I.env0 (hb s us I.kIn hl) r2 h) fun r s' hq => ?_)
  cases r with
  | error e => exact hx pins σ H s e s' I hq
  | ok fl =>
    cases fl with
    | ret u => exact I.after hq
    | next => exact False.elim hq
    | brk => exact False.elim hq
    | cont => exact False.elim hq

theorem pe_call (F : FnOk X.prog X.w X.K X.mg X.base CX k f fd ps sp) (hr : Room k X.A) (hg : Gl X x) (hm : X.mg x = some (.ref f)) (hk : PySem.W.keepIn X.K (.ref f) = true) (hb : Binds X.K fd ps ds) (hd : Vals dvs ds) (hx : Passes CX X E)
    (ha : PA X (e :: es) t) (hdb : (x == ("__debug__" : Str)) = false := by decide) (he : starEach (e :: es) X.env = (false, eval e X.env) :: starEach es X.env := by rfl) (hpl : (backTo pos (starEach es X.env)).any (·.1) = false := by rfl) :
    PE X (.Call (.Name x p) (e :: es) [] pos) (tCall sp dvs E t) := by
  intro pins s σ H Q I h
  refine wpAny_Call_Name_kw (ld_glob I hg hm ?_ hdb)
  refine PySem.W.callWith_K (h₀ := X.base) I.ok.mod.kin hk (thn (ha pos pins s σ H _ I h) fun us s1 ⟨vs, H1, I1, r, q⟩ => ⟨I1.kIn, ?_⟩) he hpl
  exact run_fn F hr hb hd hx I1 r q
/-- what a class must have to be made -/
structure Mk (K : PySem.W.Frag) (C f : Addr) : Prop where
  makes : PySem.W.makesIn K C = true
  init : PySem.W.findIn K (.ref C) "__init__" = some (some (.ref f))
  fn : PySem.W.isFn K (.ref f) = true
  kp : PySem.W.keepIn K (.ref C) = true

theorem run_make {pins : List (Addr × Obj)} {σ : St} {H : Hp} {s : Shared} {Q : VK} {us : List Value} {vs : List V} (M : Mk X.K C f) (F : FnOk X.prog X.w X.K X.mg X.base CX k f fd ps sp) (hr : Room (k + 1) X.A) (hb : Binds X.K fd ps ds) (hd : Vals dvs ds)
    (hx : Passes CX X E) (I : Inv X pins σ H s) (r : Vals vs us)
    (h : ∀ x dx, H x = none → H dx = none → dx ≠ x → sp (.ref x :: (vs ++ dvs)) (upd (upd H dx (.own x)) x (.ins C dx [])) (fun v H2 => v = .non ∧ Q (.ref x) H2) E) :
    wpAny (model X.prog X.w) X.A (call (.ref C) us) (EP X pins σ Q) X.xe s := by
  have hq := h (s.heap.objs.size + 1) s.heap.objs.size (I.hok.fresh (Nat.le_succ _)) (I.hok.fresh (Nat.le_refl _)) (Nat.ne_of_lt (Nat.lt_succ_self _))
  have I2 := Inv.made (C := C) I
  have r2 : Vals (V.ref (s.heap.objs.size + 1) :: (vs ++ dvs)) (Value.ref (s.heap.objs.size + 1) :: (us ++ ds)) := .cons rfl (r.append hd)
  have hl : (Value.ref (s.heap.objs.size + 1) :: us ++ ds).length = ps.length := by
    have e := r2.length
    rw [F.len _ _ _ _ hq] at e
    exact e.symm
  refine wpAny_call (make_map (f := f) I.kIn M.makes M.init (beq_iff_eq.mp M.fn) (codeAny_mono (F.run _ X.stack _ _ ⟨Value.ref (s.heap.objs.size + 1) :: us, []⟩ (Value.ref (s.heap.objs.size + 1) :: (us ++ ds)) _ _ E (hr.make C us [])
    (I2.env0.make C us []) (hb _ (Value.ref (s.heap.objs.size + 1) :: us) I2.kIn hl) r2 hq) fun r s' hq' => ?_))
  cases r with
  | error e => exact hx pins σ _ _ e s' I2 hq'
  | ok fl =>
    cases fl with
    | ret u =>
      obtain ⟨v, H', I3, rv, ev, q3⟩ := I2.after hq'
      subst ev
      exact ⟨rv, ⟨V.ref (s.heap.objs.size + 1), H', I3, rfl, q3⟩⟩
    | next => exact False.elim hq'
    | brk => exact False.elim hq'
    | cont => exact False.elim hq'
theorem pe_make (M : Mk X.K C f) (F : FnOk X.prog X.w X.K X.mg X.base CX k f fd ps sp) (hr : Room (k + 1) X.A) (hg : Gl X x) (hm : X.mg x = some (.ref C)) (hb : Binds X.K fd ps ds) (hd : Vals dvs ds) (hx : Passes CX X E)
    (ha : PA X (e :: es) t) (hdb : (x == ("__debug__" : Str)) = false := by decide) (he : starEach (e :: es) X.env = (false, eval e X.env) :: starEach es X.env := by rfl) (hpl : (backTo pos (starEach es X.env)).any (·.1) = false := by rfl) :
    PE X (.Call (.Name x p) (e :: es) [] pos) (tMake C sp dvs E t) := by
  intro pins s σ H Q I h
  refine wpAny_Call_Name_kw (ld_glob I hg hm ?_ hdb)
  refine PySem.W.callWith_K (h₀ := X.base) I.ok.mod.kin M.kp (thn (ha pos pins s σ H _ I h) fun us s1 ⟨vs, H1, I1, r, q⟩ => ⟨I1.kIn, ?_⟩) he hpl
  exact run_make M F hr hb hd hx I1 r q
theorem pe_make0 (M : Mk X.K C f) (F : FnOk X.prog X.w X.K X.mg X.base CX k f fd ps sp) (hr : Room (k + 1) X.A) (hg : Gl X x) (hm : X.mg x = some (.ref C)) (hb : Binds X.K fd ps ds) (hd : Vals dvs ds) (hx : Passes CX X E)
    (hdb : (x == ("__debug__" : Str)) = false := by decide) : PE X (.Call (.Name x p) [] [] pos) (tMake C sp dvs E tNil) := by
  intro pins s σ H Q I h
  refine wpAny_Call_Name_kw (ld_glob I hg hm ?_ hdb)
  exact PySem.W.callWith_K0 I.kIn M.kp (run_make (us := []) M F hr hb hd hx I .nil h)
end

/-! ### keywords -/
/-- the values of the keywords, from the left -/
def PK (X : Cx) (kws : List Keyword) (t : TA) : Prop :=
  ∀ (pos : Pos) (pins : List (Addr × Obj)) (s : Shared) (σ : St) (H : Hp) (Q : List V → Hp → Prop), Inv X pins σ H s → t σ H Q → wpAny (model X.prog X.w) X.A (evalAll ((backToKw pos (keywordEach kws X.env)).map (·.2))) (AP X pins σ Q) X.xe s
section
variable {X : Cx} {CX : CXT} {k : Nat} {f C : Addr} {fd : FuncData} {ps ks : List Str} {sp : Sp} {E : XK} {x m : Str} {p pos apos kpos : Pos} {e o : Expr} {es : List Expr} {kws : List Keyword} {te ta : TE} {t tk : TA} {nm : Option Str}
/-- how a call with keywords binds: g puts the positional values us and the keywords' values ws (names ks) in the parameters' order, defaults among them -/
structure KBinds (K : PySem.W.Frag) (fd : FuncData) (ps ks : List Str) (g : List Value → List Value → List Value) (gV : List V → List V → List V) : Prop where
  to : ∀ (s : Shared) (us ws : List Value), K.In s.heap → (g us ws).length = ps.length → BindsTo s fd ⟨us, ks.zip ws⟩ (ps.zip (g us ws))
  rel : ∀ {vs : List V} {us : List Value} {zs : List V} {ws : List Value}, Vals vs us → Vals zs ws → Vals (gV vs zs) (g us ws)
def tCallK (sp : Sp) (gV : List V → List V → List V) (E : XK) (t tk : TA) : TE := fun σ H Q => t σ H fun vs H1 => tk σ H1 fun zs H2 => sp (gV vs zs) H2 Q E
variable {g : List Value → List Value → List Value} {gV : List V → List V → List V}
end

/-! ### a def's body keeps its promise -/
/-- names: the parameters first -/
structure FnScope (N P : List Str) (sc : Scope) : Prop where
  kind : sc.kind = .function
  co : sc.isCoroutine = false
  gen : sc.isGenerator = false
  nd : N.Nodup
  pre : N.take P.length = P
  par : ∀ x ∈ P, sc.names.lookup x = some .local ∨ sc.names.lookup x = some .cell
  nofree : ∀ y ∈ sc.names, y.2 ≠ .free

theorem bindL_out {kindOf : Str → Option NameKind} {x : Str} : ∀ {binds : List (Str × Value)} {m : Str → Option Value}, (∀ v, (x, v) ∉ binds) → bindL kindOf binds m x = m x
  | [], _, _ => rfl
  | (n, v) :: r, m, h => by
    unfold bindL
    rw [bindL_out fun w hw => h w (List.mem_cons_of_mem _ hw)]
    split
    · have : x ≠ n := by rintro rfl; exact h v List.mem_cons_self
      simp [this]
    · rfl
theorem bindC_out {kindOf : Str → Option NameKind} {x : Str} : ∀ {binds : List (Str × Value)} {m : Str → Option Value}, (∀ v, (x, v) ∉ binds) → bindC kindOf binds m x = m x
  | [], _, _ => rfl
  | (n, v) :: r, m, h => by
    unfold bindC
    rw [bindC_out fun w hw => h w (List.mem_cons_of_mem _ hw)]
    split
    · rfl
    · have : x ≠ n := by rintro rfl; exact h v List.mem_cons_self
      simp [this]
theorem bindL_get {kindOf : Str → Option NameKind} {x : Str} {v : Value} : ∀ {P : List Str} {vs : List Value} {i : Nat} {m : Str → Option Value}, P.Nodup → P[i]? = some x → vs[i]? = some v → kindOf x = some .local →
    bindL kindOf (P.zip vs) m x = some v
  | [], _, _, _, _, h, _, _ => by simp at h
  | _ :: _, [], _, _, _, _, h, _ => by simp at h
  | p :: P, w :: vs, 0, m, nd, h1, h2, hk => by
    simp at h1 h2; subst h1; subst h2
    show bindL kindOf ((p, w) :: P.zip vs) m p = _
    unfold bindL
    rw [bindL_out fun v hv => (List.nodup_cons.mp nd).1 (List.of_mem_zip hv).1, if_pos hk]
    simp
  | p :: P, w :: vs, i + 1, m, nd, h1, h2, hk => by
    show bindL kindOf ((p, w) :: P.zip vs) m x = _
    unfold bindL
    exact bindL_get (i := i) (List.nodup_cons.mp nd).2 (by simpa using h1) (by simpa using h2) hk
theorem bindC_get {kindOf : Str → Option NameKind} {x : Str} {v : Value} : ∀ {P : List Str} {vs : List Value} {i : Nat} {m : Str → Option Value}, P.Nodup → P[i]? = some x → vs[i]? = some v → kindOf x ≠ some .local →
    bindC kindOf (P.zip vs) m x = some v
  | [], _, _, _, _, h, _, _ => by simp at h
  | _ :: _, [], _, _, _, _, h, _ => by simp at h
  | p :: P, w :: vs, 0, m, nd, h1, h2, hk => by
    simp at h1 h2; subst h1; subst h2
    show bindC kindOf ((p, w) :: P.zip vs) m p = _
    unfold bindC
    rw [bindC_out fun v hv => (List.nodup_cons.mp nd).1 (List.of_mem_zip hv).1, if_neg hk]
    simp
  | p :: P, w :: vs, i + 1, m, nd, h1, h2, hk => by
    show bindC kindOf ((p, w) :: P.zip vs) m x = _
    unfold bindC
    exact bindC_get (i := i) (List.nodup_cons.mp nd).2 (by simpa using h1) (by simpa using h2) hk

/-- the names' values at the entry -/
def start (N : List Str) (vs : List V) : St := vs.map some ++ List.replicate (N.length - vs.length) none

/-- the context of a def's body, at its entry; an exception leaves the frame, then lies as CX says -/
def cxOf (CX : CXT) (P : Program) (w : World) (K : PySem.W.Frag) (mg : Str → Option Value) (base : Heap) (N : List Str) (qual : Str) (scope : Scope) (f : Addr) (cd : Value) (A : Around) (outer : List Env) (s : Shared) (H : Hp) (E : XK) : Cx where
  prog := P
  w := w
  K := K
  mg := mg
  base := base
  A := A.deeper (envOfC qual scope s.heap.objs.size f cd)
  N := N
  s₀ := s
  H₀ := H
  env := envOfC qual scope s.heap.objs.size f cd
  outer := outer
  stack := envOfC qual scope s.heap.objs.size f cd :: outer
  ex := []
  calm := true
  fn := fun _ => true
  pn := []
  xe := fun e s' => wpAny (model P w) (A.deeper (envOfC qual scope s.heap.objs.size f cd)) (leaving (envOfC qual scope s.heap.objs.size f cd) e) (fun _ s'' => CX outer H s E e s'') (fun e' s'' => CX outer H s E e' s'') s'

theorem cell_has {sc : Scope} {n : Nat} {x : Str} (h : sc.names.lookup x = some .cell) : ∃ c, (cellsFrom n sc.names []).lookup x = some c := by
  have q := PySem.W.cellsFrom_some sc.names n [] (.inl h)
  exact Option.isSome_iff_exists.mp q

theorem inv_start {CX : CXT} {P : Program} {w : World} {K : PySem.W.Frag} {mg : Str → Option Value} {base : Heap} {N ps : List Str} {qual : Str} {scope : Scope} {f : Addr} {cd : Value} {A : Around} {outer : List Env} {s s1 : Shared} {H : Hp} {E : XK} {us : List Value} {vs : List V}
    (S : FnScope N ps scope) (hd : A.handled = none) (e0 : Env0 P w K mg base A outer s H) (hl : vs.length = ps.length) (r : Vals vs us)
    (x : InCallC s s.heap.objs.size (bindL (envOfC qual scope s.heap.objs.size f cd).kindOf (ps.zip us) fun _ => none) (cellsFrom (s.heap.objs.size + 1) scope.names []) (bindC (envOfC qual scope s.heap.objs.size f cd).kindOf (ps.zip us) fun _ => none) s1) :
    Inv (cxOf CX P w K mg base N qual scope f cd A outer s H E) [] (start N vs) H s1 := by
  have hpl : ps.length ≤ N.length := by have := congrArg List.length S.pre; rw [List.length_take] at this; omega
  obtain ⟨h1, tk, rfl, hk⟩ := x.done
  have noA : ∀ b : Addr, b ∉ (cxOf CX P w K mg base N qual scope f cd A outer s H E).ex := fun b z => absurd (show b ∈ ([] : List Addr) from z) (by simp)
  refine ⟨⟨e0.mod, S.kind, rfl, rfl, Nat.le_refl _, fun y z c h1 h2 => ?_, fun y hy => ?_, fun y c _ h => ?_, fun _ => hd, Around.frames_deeper e0.frames, .inr ⟨rfl, rfl⟩, fun b z => absurd z (noA b), e0.bs, e0.bsz, fun b _ _ => noA b, fun b z => absurd z (noA b), e0.funs, e0.frf⟩,
    rfl, e0.bare, Un.kept hk, ⟨_, x.toInCall.ns, fun i y v h1 h2 h3 => ?_⟩, fun y c h => ⟨_, x.cell y c h⟩, e0.hok.fresh (Nat.le_refl _), fun y c h => ?_, fun p hp => absurd (show p ∈ ([] : List (Addr × Obj)) from hp) (by simp), e0.hok.kept hk, ?_⟩
  · exact name_of_addr x.apart (PySem.mem_of_lookup h1) (PySem.mem_of_lookup h2)
  · have hy : scope.names.lookup y = some .cell ∨ scope.names.lookup y = some .free := hy
    rcases hy with hy | hy
    · exact cell_has hy
    · exact absurd rfl (S.nofree _ (PySem.mem_of_lookup hy))
  · exact Nat.le_of_lt (x.above y c (PySem.mem_of_lookup h))
  · have hi : i < vs.length := by
      unfold start at h2
      by_cases hi : i < vs.length
      · exact hi
      · rw [List.getElem?_append_right (by simpa using hi)] at h2
        rw [List.getElem?_replicate] at h2
        split at h2 <;> cases h2
    have ha : vs[i]? = some v := by
      unfold start at h2
      rw [List.getElem?_append_left (by simpa using hi), List.getElem?_map] at h2
      cases e : vs[i]? with
      | none => rw [e] at h2; cases h2
      | some a => rw [e] at h2; cases h2; rfl
    obtain ⟨u, hu, rv⟩ := r.get ha
    have hp : ps[i]? = some y := by
      rw [← S.pre, List.getElem?_take_of_lt (by omega)]; exact h1
    have ndP : ps.Nodup := by rw [← S.pre]; exact S.nd.sublist (List.take_sublist _ _)
    refine ⟨u, rv, ?_⟩
    rcases S.par y (List.mem_of_getElem? hp) with k | k
    · exact .inl ⟨k, bindL_get ndP hp hu k⟩
    · obtain ⟨c, e⟩ := cell_has (n := s.heap.objs.size + 1) k
      refine .inr ⟨.inl k, c, e, ?_⟩
      have q := x.cell y c e
      rw [bindC_get ndP hp hu (by show scope.names.lookup y ≠ _; rw [k]; decide)] at q
      exact q
  · exact e0.hok.fresh (Nat.le_of_lt (x.above y c (PySem.mem_of_lookup h)))
  · unfold start
    show _ = N.length
    rw [List.length_append, List.length_map, List.length_replicate]
    omega

/-- THE RULE: a def (or a method) of the text, by its body. The body's reading t is chosen for each entry; it is run at the parameters' values -/
theorem fn_of {CX : CXT} {P : Program} {w : World} {K : PySem.W.Frag} {mg : Str → Option Value} {base : Heap} {k : Nat} {f : Addr} {name qual : Str} {params : Arguments} {body : List Stmt} {scope : Scope} {dV kV doc pm cdv ct oc : Value} {an od : Option Addr}
    {osl : Array (Option Value)} {N ps : List Str} {sp : Sp} (lk : K.lookup f = some ⟨oc, od, .func (PySem.W.fnOf name qual params body scope dV kV doc pm an cdv ct), osl⟩) (hcd : PySem.W.codeIn K cdv qual = true) (S : FnScope N ps scope)
    (len : ∀ vs H Q E, sp vs H Q E → vs.length = ps.length)
    (hbody : ∀ (A : Around) (outer : List Env) (s : Shared) (H : Hp) (vs : List V) (Q : VK) (E : XK), Room k (A.deeper (envOfC qual scope s.heap.objs.size f cdv)) → sp vs H Q E →
      ∃ t, PSs (cxOf CX P w K mg base N qual scope f cdv A outer s H E) body t ∧ t { nx := fun _ H' => Q .non H', rt := Q } (start N vs) H) :
    FnOk P w K mg base CX (k + 1) f (PySem.W.fnOf name qual params body scope dV kV doc pm an cdv ct) ps sp := by
  refine ⟨len, fun A outer s H args us vs Q E hr e0 hb r hsp => ?_⟩
  have hl := len _ _ _ _ hsp
  have KX : K.In s.heap := e0.mod.kin.keeps fun b o e => (e0.bs b o e).1
  have lim : s.heap.NoLimit := e0.mod.nolimit.keeps fun b o e => (e0.bs b o e).1
  have hkind : ∀ y ∈ ps.zip us, scope.names.lookup y.1 = some .local ∨ (scope.names.lookup y.1 = some .cell ∧ ((cellsFrom (s.heap.objs.size + 1) scope.names []).lookup y.1).isSome = true) := fun ⟨n, v⟩ hy => by
    rcases S.par n (List.of_mem_zip hy).1 with q | q
    · exact .inl q
    · exact .inr ⟨q, PySem.W.cellsFrom_some _ _ _ (.inl q)⟩
  refine codeAny_call_function hr.depth (KX _ _ lk) rfl S.co S.gen rfl (PySem.W.codeRec_of KX hcd) (hb _ _ _ _ ?_)
  refine wpAny_newFunctionEnv_cells S.kind hkind fun env he s1 x => ?_
  subst he
  refine ⟨lim.keeps x.toInCall.keep, codeAny_func ?_⟩
  obtain ⟨t, ht, hq⟩ := hbody A outer s H vs Q E (hr.deeper _) hsp
  have I : Inv (cxOf CX P w K mg base N qual scope f cdv A outer s H E) [] (start N vs) H s1 := inv_start S hr.hd e0 hl r x
  refine wpAny_mono (ht [] s1 (start N vs) H _ I hq) (fun fl s' hs => ?_) fun e s' hs => hs
  have fin : ∀ {σ' : St} {H' : Hp} {v : V} {u : Value}, Inv (cxOf CX P w K mg base N qual scope f cdv A outer s H E) [] σ' H' s' → RelV v u → Q v H' → CE outer P w H s Q u s' :=
    fun {σ' H' v u} J rv q => ⟨v, H', J.os, J.bare, J.base, J.hok, rv, q⟩
  cases fl with
  | ret u =>
    obtain ⟨v, σ', H', J, rv, q⟩ := hs
    exact fin J rv q
  | next =>
    obtain ⟨σ', H', J, q⟩ := hs
    exact fin (v := V.non) (u := Value.none) J rfl q
  | brk =>
    obtain ⟨_, _, _, q⟩ := hs
    exact False.elim q
  | cont =>
    obtain ⟨_, _, _, q⟩ := hs
    exact False.elim q
end L2

namespace L2
open PySem PySem.Spec PyProof.Rows
section
variable {X : Cx} {x : Str} {p pos : Pos} {e : Expr} {es : List Expr} {t : TA} {id T : String} {r : List V → Hp → VK → Prop}

def tCB (r : List V → Hp → VK → Prop) (t : TA) : TE := fun σ H Q => t σ H fun vs H1 => r vs H1 Q
/-- f(e, ..), f a built-in function -/
theorem pe_callB (hc : CallR X (.builtin id) r) (hg : Gl X x) (hm : X.mg x = none) (hv : bootBuiltins x = some (.builtin id)) (ha : PA X (e :: es) t) (hn : x ≠ "__name__" := by decide) (hdb : (x == ("__debug__" : Str)) = false := by decide)
    (he : starEach (e :: es) X.env = (false, eval e X.env) :: starEach es X.env := by rfl) (hpl : (backTo pos (starEach es X.env)).any (·.1) = false := by rfl) : PE X (.Call (.Name x p) (e :: es) [] pos) (tCB r t) := by
  intro pins s σ H Q I h
  refine wpAny_Call_Name_kw (ld_blt I hg hm hv ?_ hn hdb)
  exact PyProof.Rows.callWith_builtin1 (thn (ha pos pins s σ H _ I h) fun us s1 ⟨vs, H1, I1, r1, q1⟩ => hc pins s1 σ H1 vs us Q I1 r1 q1) he hpl
/-- T(e, ..), T a built-in type -/
theorem pe_callTy (hc : CallR X (.type T) r) (hg : Gl X x) (hm : X.mg x = none) (hv : bootBuiltins x = some (.type T)) (ha : PA X (e :: es) t) (hn : x ≠ "__name__" := by decide) (hdb : (x == ("__debug__" : Str)) = false := by decide)
    (he : starEach (e :: es) X.env = (false, eval e X.env) :: starEach es X.env := by rfl) (hpl : (backTo pos (starEach es X.env)).any (·.1) = false := by rfl) : PE X (.Call (.Name x p) (e :: es) [] pos) (tCB r t) := by
  intro pins s σ H Q I h
  refine wpAny_Call_Name_kw (ld_blt I hg hm hv ?_ hn hdb)
  exact PyProof.Rows.callWith_type1 (thn (ha pos pins s σ H _ I h) fun us s1 ⟨vs, H1, I1, r1, q1⟩ => hc pins s1 σ H1 vs us Q I1 r1 q1) he hpl
end
end L2

namespace HT
open PySem PyProof.Rows

/-- t < u of tuples of ints -/
def lexLt : List Int → List Int → Bool
  | [], [] => false
  | [], _ :: _ => true
  | _ :: _, [] => false
  | x :: xs, y :: ys => if x = y then lexLt xs ys else decide (x < y)
section
open PySem.SeqAt
open PySem.AutoSeq1 (wpAny_loadPart')
open PySem.MeetsSeq PySem.MeetsSeq2 PySem.MeetsSeq3

end

section
variable {prog : Program} {w : World} {A : Around} {E : Value → Shared → Prop} {s : Shared}

/-! ### t[a:b], not the whole -/
/-- a slice's bound as a place among n (d where it is left out) -/
def sIx (n d : Nat) : Option Int → Nat
  | none => d
  | some v => if v < 0 then (v + (n : Int)).toNat else min v.toNat n
theorem sIx_le (n d : Nat) (hd : d ≤ n) (o : Option Int) : sIx n d o ≤ n := by
  cases o with
  | none => exact hd
  | some v =>
    show (if v < 0 then (v + (n : Int)).toNat else min v.toNat n) ≤ n
    by_cases hv : v < 0
    · rw [if_pos hv]; omega
    · rw [if_neg hv]; exact Nat.min_le_right _ _
theorem clip_eq (v : Int) (n d : Nat) : (if v < 0 then max (v + (n : Int)) 0 else min v (n : Int)) = ((sIx n d (some v) : Nat) : Int) := by
  show (if v < 0 then max (v + (n : Int)) 0 else min v (n : Int)) = (((if v < 0 then (v + (n : Int)).toNat else min v.toNat n) : Nat) : Int)
  by_cases hv : v < 0
  · simp only [if_pos hv]; omega
  · simp only [if_neg hv]; omega
theorem adjust_gen (lo hi : Option Int) (n : Nat) : Builtin.Slice.sliceAdjust lo hi 1 (n : Int) = (((sIx n 0 lo : Nat) : Int), ((sIx n n hi : Nat) : Int)) := by
  have h1 : ¬ ((1 : Int) < 0) := by omega
  unfold Builtin.Slice.sliceAdjust
  simp only [h1, if_false]
  refine Prod.ext ?_ ?_
  · cases lo with
    | none => rfl
    | some v => exact clip_eq v n 0
  · cases hi with
    | none => rfl
    | some v => exact clip_eq v n n
theorem places_gen (i j : Nat) : Builtin.Slice.slicePlaces (i : Int) (j : Int) 1 = j - i := by
  unfold Builtin.Slice.slicePlaces
  have h1 : (1 : Int) > 0 := by omega
  simp only [h1, if_true, Int.ediv_one]
  split <;> omega
theorem slicePart_ {v : Value} {o : Option Int} {Q : Option Int → Shared → Prop} (p : IsPart v o) (h : Q o s) : wpAny (model prog w) A (Builtin.Slice.slicePartIndex v) Q E s := by
  cases p with
  | none => exact slicePart_none h
  | int i t => exact slicePart_int h
theorem sliceApplied_gen {sl : Addr} {vl vu : Value} {lo hi : Option Int} {n : Nat} {Q : Int × Int × Nat → Shared → Prop} (hs : s.heap.IsSliceOf sl vl vu .none) (pl : IsPart vl lo) (pu : IsPart vu hi)
    (h : Q (((sIx n 0 lo : Nat) : Int), 1, sIx n n hi - sIx n 0 lo) s) : wpAny (model prog w) A (Builtin.Slice.sliceApplied (.ref sl) (pure (n : Int))) Q E s := by
  obtain ⟨os, hos, hcs, hds⟩ := id hs
  unfold Builtin.Slice.sliceApplied Builtin.Slice.sliceFields
  refine wpAny_bind (wpAny_bind (wpAny_field hos hds (x := vl) rfl (wpAny_bind (wpAny_field hos hds (x := vu) rfl (wpAny_bind (wpAny_field hos hds (x := .none) rfl (wpAny_pure ?_)))))))
  refine wpAny_bind (slicePart_none ?_)
  show wpAny _ _ (if ((1 : Int) == 0) = true then _ else _) _ _ s
  rw [if_neg (by decide)]
  refine wpAny_bind (slicePart_ pl (wpAny_bind (slicePart_ pu (wpAny_bind (wpAny_pure ?_)))))
  show wpAny _ _ (match Builtin.Slice.sliceAdjust lo hi 1 (n : Int) with | (lo, hi) => pure (lo, (1 : Int), Builtin.Slice.slicePlaces lo hi 1)) _ _ s
  rw [adjust_gen lo hi n]
  show wpAny _ _ (pure (((sIx n 0 lo : Nat) : Int), (1 : Int), Builtin.Slice.slicePlaces ((sIx n 0 lo : Nat) : Int) ((sIx n n hi : Nat) : Int) 1)) _ _ s
  rw [places_gen]
  exact wpAny_pure h
theorem pick_gen (xs : Array Value) (i k : Nat) : ((List.range k).filterMap fun (m : Nat) => xs[((i : Int) + (m : Int) * 1).toNat]?).toArray = ((xs.toList.drop i).take k).toArray := by
  have e : (fun (m : Nat) => xs[((i : Int) + (m : Int) * 1).toNat]?) = fun m => xs[i + m]? := by
    funext m
    have : ((i : Int) + (m : Int) * 1).toNat = i + m := by omega
    rw [this]
  rw [e]
  have := pick_run xs i k
  rw [List.filterMap_map] at this
  have e2 : ((fun x => xs[x]?) ∘ fun x => i + x) = fun m => xs[i + m]? := rfl
  rw [e2] at this
  rw [this]

theorem getItem_tuple_cut {t sl : Addr} {items : Array Value} {vl vu : Value} {lo hi : Option Int} {Q : Value → Shared → Prop} (ht : IsTup s.heap t items) (hs : s.heap.IsSliceOf sl vl vu .none) (pl : IsPart vl lo) (pu : IsPart vu hi)
    (hw : ¬ (sIx items.size 0 lo = 0 ∧ sIx items.size items.size hi = items.size))
    (h : Q (.ref s.heap.objs.size) { s with heap := s.heap.push { cls := .type "tuple", data := .seq ((items.toList.drop (sIx items.size 0 lo)).take (sIx items.size items.size hi - sIx items.size 0 lo)).toArray } })
    (hsz : items.size ≤ sizeLine) : wpAny (model prog w) A (getItem (.ref t) (.ref sl)) Q E s := by
  have htake : sizeOk (.seq ((items.toList.drop (sIx items.size 0 lo)).take (sIx items.size items.size hi - sIx items.size 0 lo)).toArray) := by
    show ((items.toList.drop (sIx items.size 0 lo)).take (sIx items.size items.size hi - sIx items.size 0 lo)).toArray.size ≤ sizeLine
    rw [List.size_toArray, List.length_take, List.length_drop, Array.length_toList]
    omega
  have hj : sIx items.size items.size hi ≤ items.size := sIx_le _ _ (Nat.le_refl _) hi
  obtain ⟨os, hos, hcs, hds⟩ := id hs
  have hTs : s.TypeIs (.ref sl) "slice" := ⟨os, hos, hcs⟩
  unfold getItem
  try with_reducible refine wpAny_holding ?_
  first | refine wpAny_bind (wpAny_pure ?_) | skip
  refine wpAny_bind (wpAny_sequenceKey ht.typeIs (by decide) ?_)
  refine wpAny_bind (wpAny_callSpecial?_slot (name := Str.ofString "__getitem__") ht.typeIs PyProof.Rows.slot_tuple_getitem
    (wpAny_call_entry PyProof.Rows.slot_tuple_getitem ht.typeIs entry_tuple_getitem ?_ (args_tuple_getitem _ _)))
  show wpAny _ _ (Builtin.Tuple.tupleItemsOf (.ref t) >>= _) _ _ s
  refine wpAny_bind (tupleItemsOf_ ht ?_)
  refine wpAny_bind (wpAny_typeOf hTs ?_)
  rw [if_pos (by decide)]
  refine wpAny_bind (sliceApplied_gen hs pl pu ?_)
  have hno : ¬ ((((sIx items.size 0 lo : Nat) : Int) == 0 && (1 : Int) == 1 && (sIx items.size items.size hi - sIx items.size 0 lo) == items.size) = true) := by
    intro q
    rw [Bool.and_eq_true, Bool.and_eq_true] at q
    have q1 : ((sIx items.size 0 lo : Nat) : Int) = 0 := eq_of_beq q.1.1
    have q2 : sIx items.size items.size hi - sIx items.size 0 lo = items.size := eq_of_beq q.2
    exact hw ⟨by omega, by omega⟩
  show wpAny _ _ (if (((sIx items.size 0 lo : Nat) : Int) == 0 && (1 : Int) == 1 && (sIx items.size items.size hi - sIx items.size 0 lo) == items.size) = true then _ else _) _ _ s
  rw [if_neg hno, pick_gen]
  first
    | exact wpAny_bind (m := Builtin.Tuple.tupleExact _) (wpAny_newObj_type (wpAny_pure ⟨_, rfl, wpAny_pure h⟩) htake)
    | exact wpAny_bind (m := Builtin.Tuple.tupleExact _) (wpAny_newObj_type (wpAny_bind (wpAny_pure (wpAny_pure ⟨_, rfl, wpAny_pure h⟩))) htake)
    | exact wpAny_bind (wpAny_bind (m := Builtin.Tuple.tupleExact _) (wpAny_newObj_type (wpAny_pure (wpAny_pure ⟨_, rfl, wpAny_pure h⟩)) htake))
    | exact wpAny_bind (wpAny_bind (m := Builtin.Tuple.tupleExact _) (wpAny_newObj_type (wpAny_pure ⟨_, rfl, wpAny_pure h⟩) htake))
end
end HT

namespace L2
open PySem PySem.Spec PyProof.Rows

/-! ### the parts of a slice -/
abbrev TO := St → Hp → (Option Int → Hp → Prop) → Prop
/-- a slice's part (left out, or an int) -/
def PO (X : Cx) (e : Option Expr) (t : TO) : Prop :=
  ∀ (pins : List (Addr × Obj)) (s : Shared) (σ : St) (H : Hp) (Q : Option Int → Hp → Prop), Inv X pins σ H s → t σ H Q →
    wpAny (model X.prog X.w) X.A (evalPart e X.env) (fun u s' => ∃ o H', Inv X pins σ H' s' ∧ IsPart u o ∧ Q o H') X.xe s
def tNoPart : TO := fun _ H Q => Q none H
def tPart (t : TE) : TO := fun σ H Q => t σ H fun x H1 => ∃ i, x = .int i ∧ Q (some i) H1

section
variable {X : Cx} {e : Expr} {te : TE} {lo hi : Option Expr} {tl th : TO} {pos p2 : Pos}

theorem po_none : PO X none tNoPart := by
  intro pins s σ H Q I h
  rw [evalPart_none]
  exact wpAny_pure ⟨none, H, I, .none, h⟩
theorem po_some (h : PE X e te) : PO X (some e) (tPart te) := by
  intro pins s σ H Q I hw
  rw [evalPart_some]
  refine thn (h pins s σ H _ I hw) fun u s1 ⟨x, H1, I1, r1, q1⟩ => ?_
  obtain ⟨i, rfl, q⟩ := q1
  obtain ⟨t, rfl⟩ := r1
  exact ⟨some i, H1, I1, .int i t, q⟩

/-- what a slice of a value is, by values: the slice object stands at sl -/
def SlR (X : Cx) (r : V → Option Int → Option Int → Hp → VK → Prop) : Prop :=
  ∀ (pins : List (Addr × Obj)) (s : Shared) (σ : St) (H : Hp) (x : V) (v vl vu : Value) (lo hi : Option Int) (sl : Addr) (Q : VK), Inv X pins σ H s → RelV x v → s.heap.IsSliceOf sl vl vu .none → IsPart vl lo → IsPart vu hi → r x lo hi H Q →
    ∃ T id, typeLookup (.type T) "__getitem__" = pure (some (.builtin id)) ∧ s.TypeIs v T ∧ wpAny (model X.prog X.w) X.A (getItem v (.ref sl)) (EP X pins σ Q) X.xe s
theorem SlR.or {r r' : V → Option Int → Option Int → Hp → VK → Prop} (h : SlR X r) (h' : SlR X r') : SlR X (fun x lo hi H Q => r x lo hi H Q ∨ r' x lo hi H Q) := by
  intro pins s σ H x v vl vu lo hi sl Q I rx hs pl pu q
  rcases q with q | q
  · exact h pins s σ H x v vl vu lo hi sl Q I rx hs pl pu q
  · exact h' pins s σ H x v vl vu lo hi sl Q I rx hs pl pu q
def tSl (r : V → Option Int → Option Int → Hp → VK → Prop) (te : TE) (tl th : TO) : TE := fun σ H Q => te σ H fun x H1 => tl σ H1 fun l H2 => th σ H2 fun u H3 => r x l u H3 Q
/-- a[lo:hi], any a -/
theorem pe_slice {r : V → Option Int → Option Int → Hp → VK → Prop} (hr : SlR X r) (he : PE X e te) (hl : PO X lo tl) (hu : PO X hi th) : PE X (.Subscript e (.Slice lo hi none p2) pos) (tSl r te tl th) := by
  intro pins s σ H Q I h
  refine Subscript_ (thn (he pins s σ H _ I h) fun v s1 ⟨x, H1, I1, r1, q1⟩ => ?_)
  refine wpAny_Slice (thn (hl pins s1 σ H1 _ I1 q1) fun vl s2 ⟨l, H2, I2, pl, q2⟩ => thn (hu pins s2 σ H2 _ I2 q2) fun vu s3 ⟨u, H3, I3, pu, q3⟩ => ?_)
  rw [evalPart_none]
  refine wpAny_pure ?_
  have I4 : Inv X pins σ H3 { s3 with heap := s3.heap.push { cls := .type "slice", data := .fields #[vl, vu, .none] } } := I3.kept (t' := s3.toks) fun b ob q => Heap.get?_push_of_some _ q
  obtain ⟨T, id, hT, ht, hg⟩ := hr pins { s3 with heap := s3.heap.push { cls := .type "slice", data := .fields #[vl, vu, .none] } } σ H3 x v vl vu l u s3.heap.objs.size Q I4 r1 (Heap.IsSliceOf.new ..) pl pu q3
  show wpAny (model X.prog X.w) X.A (subscriptTail e (.Slice lo hi none p2) v (.ref s3.heap.objs.size)) (EP X pins σ Q) X.xe { s3 with heap := s3.heap.push { cls := .type "slice", data := .fields #[vl, vu, .none] } }
  exact tail_any (ops := [.ref s3.heap.objs.size, v]) ht hT hg (by with_unfolding_all rfl)

/-- the items of xs[lo:hi] -/
def cutV (xs : List V) (lo hi : Option Int) : List V := (xs.drop (HT.sIx xs.length 0 lo)).take (HT.sIx xs.length xs.length hi - HT.sIx xs.length 0 lo)
theorem cutV_length (xs : List V) (lo hi : Option Int) : (cutV xs lo hi).length ≤ xs.length := by
  unfold cutV
  rw [List.length_take, List.length_drop]
  omega
/-- t[lo:hi], not the whole of it (the whole would be t itself) -/
def rSlT (K : PySem.W.Frag) : V → Option Int → Option Int → Hp → VK → Prop := fun x lo hi H Q => ∃ a xs, x = .ref a ∧ SqT K H a xs ∧
  ¬ (HT.sIx xs.length 0 lo = 0 ∧ HT.sIx xs.length xs.length hi = xs.length) ∧ ∀ p, H p = none → Q (.ref p) (upd H p (.tup (cutV xs lo hi)))
theorem sl_tup : SlR X (rSlT X.K) := by
  intro pins s σ H x v vl vu lo hi sl Q I rx hs pl pu h
  obtain ⟨a, xs, rfl, hx, hw, q⟩ := h
  cases rx
  obtain ⟨its, r, ht, hz⟩ := I.tuple hx
  have hlen : its.toArray.size = xs.length := by rw [List.size_toArray]; exact r.length.symm
  refine ⟨"tuple", _, PyProof.Rows.slot_tuple_getitem.lookup, ht.typeIs, ?_⟩
  refine HT.getItem_tuple_cut ht hs pl pu (by rw [hlen]; exact hw) ?_ (by rw [hlen]; exact hz)
  rw [hlen]
  refine ⟨.ref s.heap.objs.size, _, I.laid (t' := s.toks) (o := .tup (cutV xs lo hi)) (fun b ob q => Heap.get?_push_of_some _ q) (Nat.le_refl _) ?_, rfl, q _ (I.hok.fresh (Nat.le_refl _))⟩
  exact ⟨Nat.le_trans (cutV_length xs lo hi) hz, _, (r.drop (HT.sIx xs.length 0 lo)).take (HT.sIx xs.length xs.length hi - HT.sIx xs.length 0 lo), IsTup.new _ _⟩

/-! ### t < u, t + u -/
def rLtT (K : PySem.W.Frag) : R2 := fun x y H Q => ∃ a b ns ms, x = .ref a ∧ y = .ref b ∧ SqT K H a (ns.map V.int) ∧ SqT K H b (ms.map V.int) ∧ Q (.bl (HT.lexLt ns ms)) H
/-- t + u, t not empty: u empty gives t itself -/
def rCatT (K : PySem.W.Frag) : R2 := fun x y H Q => ∃ a b xs ys, x = .ref a ∧ y = .ref b ∧ SqT K H a xs ∧ SqT K H b ys ∧ xs ≠ [] ∧ xs.length + ys.length ≤ sizeLine ∧
  (ys = [] → Q (.ref a) H) ∧ (ys ≠ [] → ∀ p, H p = none → Q (.ref p) (upd H p (.tup (xs ++ ys))))
end
end L2

namespace L2
open PySem PySem.Spec PyProof.Rows

/-! ### places -/
/-- the place that an index of any sign means -/
def ixN (n : Nat) (i : Int) : Option Nat := if 0 ≤ i then (if i < n then some i.toNat else none) else if -(n : Int) ≤ i then some (i + n).toNat else none
def atI {α : Type} (xs : List α) (i : Int) : Option α := (ixN xs.length i).bind fun j => xs[j]?
theorem ixN_seq {n : Nat} {i : Int} {j : Nat} (h : ixN n i = some j) : seqIndex? i n = some j ∧ j < n ∧ -(n : Int) ≤ i ∧ i < n := by
  unfold ixN at h
  by_cases h0 : 0 ≤ i
  · rw [if_pos h0] at h
    by_cases h1 : i < n
    · rw [if_pos h1] at h
      have e : i.toNat = j := Option.some.inj h
      exact ⟨by rw [seqIndex_of h0 h1, e], by omega, by omega, h1⟩
    · rw [if_neg h1] at h; cases h
  · rw [if_neg h0] at h
    by_cases h1 : -(n : Int) ≤ i
    · rw [if_pos h1] at h
      have e : (i + n).toNat = j := Option.some.inj h
      exact ⟨by rw [seqIndex_neg (by omega) h1, e], by omega, h1, by omega⟩
    · rw [if_neg h1] at h; cases h
theorem atI_get {α : Type} {xs : List α} {i : Int} {v : α} (h : atI xs i = some v) : ∃ j, seqIndex? i xs.length = some j ∧ xs[j]? = some v ∧ j < xs.length ∧ -(xs.length : Int) ≤ i ∧ i < xs.length := by
  unfold atI at h
  cases e : ixN xs.length i with
  | none => rw [e] at h; cases h
  | some j =>
    rw [e] at h
    obtain ⟨h1, h2, h3, h4⟩ := ixN_seq e
    exact ⟨j, h1, h, h2, h3, h4⟩
theorem atI_nat {α : Type} {xs : List α} {j : Nat} {v : α} (h : xs[j]? = some v) : atI xs (j : Int) = some v := by
  have hj : j < xs.length := (List.getElem?_eq_some_iff.mp h).1
  have e : ixN xs.length (j : Int) = some j := by
    unfold ixN
    rw [if_pos (by omega), if_pos (by omega)]; simp
  unfold atI; rw [e]; exact h
/-! ### what may be subscripted -/
/-- what stands as an index of a plain subscript -/
def PlainIx (b : Expr) : Prop := ∀ o i, subscripted b false o i = operate [o, i] (getItem o i)
/-- a subscript by values -/
def IxR (X : Cx) (r : R2) : Prop :=
  ∀ (value slice : Expr) (pins : List (Addr × Obj)) (s : Shared) (σ : St) (H : Hp) (x y : V) (v u : Value) (Q : VK), Inv X pins σ H s → RelV x v → RelV y u → r x y H Q →
    subscripted slice false v u = operate [v, u] (getItem v u) → wpAny (model X.prog X.w) X.A (subscriptTail value slice v u) (EP X pins σ Q) X.xe s
/-- a call of a builtin's method by values: the receiver, the arguments -/
def MtR (X : Cx) (id : String) (r : V → List V → Hp → VK → Prop) : Prop :=
  ∀ (pins : List (Addr × Obj)) (s : Shared) (σ : St) (H : Hp) (x : V) (xs : List V) (v : Value) (us : List Value) (Q : VK), Inv X pins σ H s → RelV x v → Vals xs us → r x xs H Q →
    wpAny (model X.prog X.w) X.A (call (.builtin id) (v :: us)) (EP X pins σ Q) X.xe s
section
variable {X : Cx} {a b : Expr} {ta tb : TE} {pos : Pos}
theorem IxR.or {r r' : R2} (h : IxR X r) (h' : IxR X r') : IxR X (fun x y H Q => r x y H Q ∨ r' x y H Q) := by
  intro value slice pins s σ H x y v u Q I rx ry q hs
  rcases q with q | q
  · exact h value slice pins s σ H x y v u Q I rx ry q hs
  · exact h' value slice pins s σ H x y v u Q I rx ry q hs
theorem MtR.or {id : String} {r r' : V → List V → Hp → VK → Prop} (h : MtR X id r) (h' : MtR X id r') : MtR X id (fun x xs H Q => r x xs H Q ∨ r' x xs H Q) := by
  intro pins s σ H x xs v us Q I rx rs q
  rcases q with q | q
  · exact h pins s σ H x xs v us Q I rx rs q
  · exact h' pins s σ H x xs v us Q I rx rs q
/-- a[b] -/
theorem pe_ix {r : R2} (hr : IxR X r) (ha : PE X a ta) (hb : PE X b tb) (hs : PlainIx b) : PE X (.Subscript a b pos) (tOp r ta tb) := by
  intro pins s σ H Q I h
  exact Subscript_ (binT ha hb I h fun v u s2 x y H2 I2 rx ry q => hr a b pins s2 σ H2 x y v u Q I2 rx ry q (hs _ _))

def rIxL (K : PySem.W.Frag) : R2 := fun x y H Q => ∃ p xs i v, x = .ref p ∧ y = .int i ∧ SqL K H p xs ∧ atI xs i = some v ∧ Q v H
def rIxT (K : PySem.W.Frag) : R2 := fun x y H Q => ∃ p xs i v, x = .ref p ∧ y = .int i ∧ SqT K H p xs ∧ atI xs i = some v ∧ Q v H
def rIxS : R2 := fun x y H Q => ∃ z i c, x = .str z ∧ y = .int i ∧ z.length ≤ sizeLine ∧ atI z.cps.toList i = some c ∧ Q (.str ⟨#[c]⟩) H
theorem ix_list : IxR X (rIxL X.K) := by
  intro value slice pins s σ H x y v u Q I rx ry h hs
  obtain ⟨p, xs, i, z, rfl, rfl, hq, he, q⟩ := h
  cases rx
  obtain ⟨t, rfl⟩ := ry
  obtain ⟨its, r, pl, hz⟩ := I.list hq
  obtain ⟨j, h1, h2, h3, h4, h5⟩ := atI_get he
  obtain ⟨w, ew, rw'⟩ := r.get h2
  have hl := r.length
  have hn := line63
  have fin : EP X pins σ Q w s := ⟨z, H, I, rw', q⟩
  by_cases h0 : 0 ≤ i
  · have hj : i.toNat = j := by
      rw [seqIndex_of h0 h5] at h1
      exact Option.some.inj h1
    exact item_listR pl.isList h0 (by omega) (by rw [hj]; simpa using ew) fin hs
  · have hj : (i + (its.toArray.size : Int)).toNat = j := by
      rw [seqIndex_neg (by omega) h4] at h1
      rw [List.size_toArray, ← hl]
      exact Option.some.inj h1
    exact subscriptTail_builtinR (x := w) pl.isList.typeIs slot_list_getitem.lookup
      (wpAny_getItem_list_neg (Q := fun r s' => r = w ∧ EP X pins σ Q r s') pl.isList (by omega) (by rw [List.size_toArray] <;> omega) (by omega) (by rw [hj]; simpa using ew) ⟨rfl, fin⟩) hs
/-- list, tuple or str -/
def rIx (K : PySem.W.Frag) : R2 := fun x y H Q => rIxL K x y H Q ∨ rIxT K x y H Q ∨ rIxS x y H Q
/-! ### xs[i] = v, any sign -/
/-- the list's object behind a store -/
theorem mapSeq_set (its : List Value) (n j : Nat) (u : Value) : Obj.mapSeq (·.setIfInBounds j u) { cls := .type "list", data := .seq its.toArray n } = { cls := .type "list", data := .seq (its.set j u).toArray n } := by
  simp [Obj.mapSeq]
theorem Inv.lst {pins : List (Addr × Obj)} {σ : St} {H : Hp} {s : Shared} {p : Addr} {xs : List V} (I : Inv X pins σ H s) (h : H p = some (.lst xs)) :
    ∃ (its : List Value) (n : Nat), Vals xs its ∧ s.heap.get? p = some { cls := .type "list", data := .seq its.toArray n } ∧ xs.length ≤ sizeLine := by
  obtain ⟨z, its, n, r, e⟩ := I.hok p _ h
  exact ⟨its, n, r, e, z⟩
/-- the list at p is written by an update of its object -/
theorem Inv.lstUpd {pins : List (Addr × Obj)} {σ : St} {H : Hp} {s : Shared} {p : Addr} {xs ys : List V} {its its' : List Value} {n n' : Nat} {f : Obj → Obj} (I : Inv X pins σ H s) (h : H p = some (.lst xs))
    (ho : s.heap.get? p = some { cls := .type "list", data := .seq its.toArray n }) (hf : f { cls := .type "list", data := .seq its.toArray n } = { cls := .type "list", data := .seq its'.toArray n' }) (r : Vals ys its') (hz : ys.length ≤ sizeLine) (t : Nat) :
    Inv X pins σ (upd H p (.lst ys)) { s with heap := s.heap.update p f, toks := t } := by
  have e : (s.heap.update p f).get? p = some { cls := .type "list", data := .seq its'.toArray n' } := by
    rw [Heap.get?_update_self f ho (by rw [hf] <;> rfl), hf]
  refine I.write (x := p) (e := p) (by rw [h]; trivial) (.inl rfl) (fun b u hb q => (Heap.get?_update_other _ _ (Ne.symm hb)).trans q) ⟨_, e⟩ ?_
  exact ⟨hz, its', n', r, e⟩
def rSetL : V → V → V → Hp → (Hp → Prop) → Prop := fun o i v H Q => ∃ p xs k j, o = .ref p ∧ i = .int k ∧ H p = some (.lst xs) ∧ ixN xs.length k = some j ∧ Q (upd H p (.lst (xs.set j v)))
theorem set_list : PSet X rSetL := by
  intro pins s σ H o i v ov iv u Q I ro ri rv h
  obtain ⟨p, xs, k, j, rfl, rfl, hp, hj, q⟩ := h
  cases ro
  obtain ⟨t, rfl⟩ := ri
  obtain ⟨its, n, r, ho, hz⟩ := I.lst hp
  obtain ⟨h1, h2, h3, h4⟩ := ixN_seq hj
  have hl := r.length
  have hn := line63
  have I' : Inv X pins σ (upd H p (.lst (xs.set j v))) { s with heap := s.heap.update p (Obj.mapSeq (·.setIfInBounds j u)) } :=
    I.lstUpd hp ho (mapSeq_set its n j u) (r.set rv j) (by rw [List.length_set]; exact hz) s.toks
  by_cases h0 : 0 ≤ k
  · have hk : k.toNat = j := by
      rw [seqIndex_of h0 h4] at h1
      exact Option.some.inj h1
    exact PySem.W.ki_setAt ho h0 (by omega) (by rw [List.size_toArray, ← hl]; exact h4) (by rw [hk]; exact ⟨_, I', q⟩)
  · have hk : (k + (its.toArray.size : Int)).toNat = j := by
      rw [seqIndex_neg (by omega) h3] at h1
      rw [List.size_toArray, ← hl]
      exact Option.some.inj h1
    exact PySem.W.ki_setBack ho (by omega) (by rw [List.size_toArray, ← hl]; exact h3) (by omega) (by rw [hk]; exact ⟨_, I', q⟩)

/-! ### slices -/
theorem slice_bounds (lo hi : Option Int) (n : Nat) : (sliceBounds lo hi none n).1 = ((HT.sIx n 0 lo : Nat) : Int) ∧ (sliceBounds lo hi none n).2.1 = ((HT.sIx n n hi : Nat) : Int) ∧ (sliceBounds lo hi none n).2.2 = 1 := by
  refine ⟨?_, ?_, rfl⟩
  · cases lo with
    | none => simp [sliceBounds, HT.sIx]
    | some i =>
      simp only [sliceBounds, HT.sIx, Option.getD_none, show (1 : Int) > 0 by decide, if_true]
      by_cases h : i < 0
      · simp only [h, if_true] <;> omega
      · simp only [h, if_false] <;> omega
  · cases hi with
    | none => simp [sliceBounds, HT.sIx]
    | some i =>
      simp only [sliceBounds, HT.sIx, Option.getD_none, show (1 : Int) > 0 by decide, if_true]
      by_cases h : i < 0
      · simp only [h, if_true] <;> omega
      · simp only [h, if_false] <;> omega
theorem slicePick_cut (its : List Value) (lo hi : Option Int) : slicePick its.toArray lo hi none = ((its.drop (HT.sIx its.length 0 lo)).take (HT.sIx its.length its.length hi - HT.sIx its.length 0 lo)).toArray := by
  obtain ⟨h1, h2, h3⟩ := slice_bounds lo hi its.toArray.size
  unfold slicePick
  rw [h1, h2, h3]
  simp only [sliceRange_one, pick_run, List.size_toArray] <;> rfl
/-- xs[lo:hi] of a list: a new list -/
def rSlL (K : PySem.W.Frag) : V → Option Int → Option Int → Hp → VK → Prop := fun x lo hi H Q => ∃ a xs, x = .ref a ∧ SqL K H a xs ∧ ∀ p, H p = none → Q (.ref p) (upd H p (.lst (cutV xs lo hi)))
theorem sl_list : SlR X (rSlL X.K) := by
  intro pins s σ H x v vl vu lo hi sl Q I rx hs pl pu h
  obtain ⟨a, xs, rfl, hx, q⟩ := h
  cases rx
  obtain ⟨its, r, ht, hz⟩ := I.list hx
  have hlen := r.length
  refine ⟨"list", _, slot_list_getitem.lookup, ht.isList.typeIs, ?_⟩
  refine wpAny_getItem_list_slice ht.isList hs pl pu .none (by simp) ?_ (by rw [List.size_toArray] <;> omega)
  rw [slicePick_cut, ← hlen]
  refine ⟨.ref s.heap.objs.size, _, I.laid (t' := s.toks) (o := .lst (cutV xs lo hi)) (fun b ob q => Heap.get?_push_of_some _ q) (Nat.le_refl _) ?_, rfl, q _ (I.hok.fresh (Nat.le_refl _))⟩
  exact ⟨Nat.le_trans (cutV_length xs lo hi) hz, _, 0, (r.drop (HT.sIx xs.length 0 lo)).take (HT.sIx xs.length xs.length hi - HT.sIx xs.length 0 lo), Heap.get?_push_size _ rfl⟩

/-! ### in, not in: flat items -/
def flatV : V → Bool
  | .non => true
  | .bl _ => true
  | .int _ => true
  | .str _ => true
  | _ => false
/-- == of flat values -/
def eqV : V → V → Bool
  | .non, .non => true
  | .bl a, .bl b => a == b
  | .bl a, .int b => (if a then 1 else 0) == b
  | .int a, .bl b => a == (if b then 1 else 0)
  | .int a, .int b => a == b
  | .str a, .str b => a == b
  | _, _ => false
/-- the items' answers, read off the values (a value's own answer does not lean on its token) -/
def eqU (x : V) (u : Value) : Bool := match u with
  | .none => eqV .non x
  | .bool b => eqV (.bl b) x
  | .int i _ => eqV (.int i) x
  | .str z _ => eqV (.str z) x
  | _ => false
def inV (x : V) (xs : List V) : Bool := xs.any fun y => eqV y x
/-- x in a list or tuple of flat items -/
def rIn (K : PySem.W.Frag) (neg : Bool) : R2 := fun x y H Q => ∃ p xs, y = .ref p ∧ (SqL K H p xs ∨ SqT K H p xs) ∧ flatV x = true ∧ xs.all flatV = true ∧ Q (.bl (if neg then !inV x xs else inV x xs)) H
/-! ### len, list(x), tuple(x) of any list or tuple that is read -/
theorem call_len_seq : CallR X (.builtin "len") (fun xs H Q => ∃ p ys, xs = [.ref p] ∧ (SqL X.K H p ys ∨ SqT X.K H p ys) ∧ Q (.int ys.length) H) := by
  intro pins s σ H xs us Q I r h
  obtain ⟨p, ys, rfl, hq, q⟩ := h
  obtain ⟨u, rfl, rx⟩ := vals1 r
  cases rx
  have hn := line63
  rcases hq with hq | hq
  · obtain ⟨its, r', pl, hz⟩ := I.list hq
    have hlen := r'.length
    exact Calls.call_len_list pl.isList (by simp only [List.size_toArray] <;> omega) ⟨.int ys.length, H, I.tok _, ⟨s.toks + 1, by rw [List.size_toArray, hlen]⟩, q⟩
  · obtain ⟨its, r', pl, hz⟩ := I.tuple hq
    have hlen := r'.length
    exact len_tuple pl (by simp only [List.size_toArray] <;> omega) ⟨.int ys.length, H, I.tok _, ⟨s.toks + 1, by rw [List.size_toArray, hlen]⟩, q⟩
theorem CallR.or {f : Value} {r r' : List V → Hp → VK → Prop} (h : CallR X f r) (h' : CallR X f r') : CallR X f (fun xs H Q => r xs H Q ∨ r' xs H Q) := by
  intro pins s σ H xs us Q I rs q
  rcases q with q | q
  · exact h pins s σ H xs us Q I rs q
  · exact h' pins s σ H xs us Q I rs q
theorem call_list_of : CallR X (.type "list") (fun xs H Q => ∃ p ys, xs = [.ref p] ∧ (SqL X.K H p ys ∨ SqT X.K H p ys) ∧ ∀ l, H l = none → Q (.ref l) (upd H l (.lst ys))) := by
  intro pins s σ H xs us Q I r h
  obtain ⟨p, ys, rfl, hq, q⟩ := h
  obtain ⟨u, rfl, rx⟩ := vals1 r
  cases rx
  have fin : ∀ (its : List Value), Vals ys its → ys.length ≤ sizeLine → ∀ (h' : Heap) (c' : Nat), (∀ b o', s.heap.get? b = some o' → h'.get? b = some o') →
      h'.get? s.heap.objs.size = some { cls := .type "list", dict := none, data := .seq its.toArray c', slots := #[] } → EP X pins σ Q (.ref s.heap.objs.size) { s with heap := h' } := fun its r' hz h' c' kp e =>
    ⟨.ref s.heap.objs.size, _, I.laid (t' := s.toks) kp (Nat.le_refl _) (show ObjOk X.prog X.w _ h' _ (.lst ys) from ⟨hz, its, c', r', e⟩), rfl, q _ (I.hok.fresh (Nat.le_refl _))⟩
  rcases hq with hq | hq
  · obtain ⟨its, r', pl, hz⟩ := I.list hq
    have hlen := r'.length
    obtain ⟨o, ho, hc, n, hd⟩ := pl.isList
    exact call_list_seq p (.inl rfl) ho hc hd (fun h' c' kp e => fin its r' hz h' c' kp e) (by simp only [List.size_toArray] <;> omega)
  · obtain ⟨its, r', pl, hz⟩ := I.tuple hq
    have hlen := r'.length
    obtain ⟨o, ho, hc, n, hd⟩ := pl
    exact call_list_seq p (.inr rfl) ho hc hd (fun h' c' kp e => fin its r' hz h' c' kp e) (by simp only [List.size_toArray] <;> omega)
/-! ### the call of a builtin's method: o.m(..) -/
/-- the value is of that builtin type -/
def tyV (K : PySem.W.Frag) (T : String) (x : V) (H : Hp) : Prop := match x with
  | .str _ => T = "str"
  | .int _ => T = "int"
  | .ref p => (T = "list" ∧ ∃ xs, SqL K H p xs) ∨ (T = "tuple" ∧ ∃ o, K.lookup p = some o ∧ o.cls = .type "tuple" ∧ o.dict = none) ∨
      (T = "dict" ∧ ((∃ kvs, H p = some (.dK kvs)) ∨ ∃ kvs, H p = some (.dT kvs))) ∨ (T = "set" ∧ ∃ S n, H p = some (.set S n))
  | _ => False
theorem tyV_is {pins : List (Addr × Obj)} {σ : St} {H : Hp} {s : Shared} {T : String} {x : V} {v : Value} (I : Inv X pins σ H s) (r : RelV x v) (ty : tyV X.K T x H) :
    s.TypeIs v T ∧ ∀ a, v = .ref a → ∃ ob, s.heap.get? a = some ob ∧ ob.dict = none := by
  cases x with
  | str z =>
    obtain ⟨t, rfl⟩ := r
    cases (show T = "str" from ty)
    exact ⟨typeIs_str s z t, fun _ e => nomatch e⟩
  | int i =>
    obtain ⟨t, rfl⟩ := r
    cases (show T = "int" from ty)
    exact ⟨typeIs_int s i t, fun _ e => nomatch e⟩
  | ref p =>
    cases r
    rcases ty with ⟨rfl, xs, hq⟩ | ⟨rfl, o, hk, hc, hd⟩ | ⟨rfl, hk⟩ | ⟨rfl, S, n, hk⟩
    · obtain ⟨its, _, pl, _⟩ := I.list hq
      refine ⟨pl.isList.typeIs, fun a e => ?_⟩
      cases e
      obtain ⟨o, n, e, c, hd, _⟩ := pl
      exact ⟨o, e, hd⟩
    · refine ⟨⟨o, I.kIn p o hk, hc⟩, fun a e => ?_⟩
      cases e
      exact ⟨o, I.kIn _ o hk, hd⟩
    · have z : ∃ o, s.heap.get? p = some o ∧ o.ExactDict := by
        rcases hk with ⟨kvs, hk⟩ | ⟨kvs, hk⟩
        · obtain ⟨_, _, _, _, o, _, _, e, ex, _⟩ := I.hok p _ hk
          exact ⟨o, e, ex⟩
        · obtain ⟨_, _, _, _, o, _, _, e, ex, _⟩ := I.hok p _ hk
          exact ⟨o, e, ex⟩
      obtain ⟨o, e, ex⟩ := z
      refine ⟨⟨o, e, ex.1⟩, fun a e2 => ?_⟩
      cases e2
      exact ⟨o, e, ex.2.1⟩
    · obtain ⟨o, _, _, _, e, ex, _⟩ := I.hok p _ hk
      refine ⟨⟨o, e, ex.1⟩, fun a e2 => ?_⟩
      cases e2
      exact ⟨o, e, ex.2.1⟩
  | _ => exact False.elim ty
def tBM0 (K : PySem.W.Frag) (T : String) (r : V → List V → Hp → VK → Prop) (to : TE) : TE := fun σ H Q => to σ H fun x H1 => tyV K T x H1 ∧ r x [] H1 Q
def tBM (K : PySem.W.Frag) (T : String) (r : V → List V → Hp → VK → Prop) (to : TE) (t : TA) : TE := fun σ H Q => to σ H fun x H1 => tyV K T x H1 ∧ t σ H1 fun xs H2 => r x xs H2 Q
variable {o e : Expr} {es : List Expr} {to : TE} {t : TA} {name : Str} {apos cpos : Pos} {T id : String} {r : V → List V → Hp → VK → Prop}
theorem pe_bm0 (pa : PlainAttrs T) (slot : Slot T name id) (hty : typeOf (.builtin id) = pure (.type "method_descriptor")) (hm : MtR X id r) (ho : PE X o to)
    (hbase : attributeBase o name X.env (eval o X.env) = eval o X.env := by rfl) (hline : (apos.endLine == cpos.line) = true := by rfl) : PE X (.Call (.Attribute o name apos) [] [] cpos) (tBM0 X.K T r to) := by
  intro pins s σ H Q I h
  refine wpAny_Call_method0_late hbase hline (thn (ho pins s σ H _ I h) fun v s1 ⟨x, H1, I1, r1, ty, q1⟩ => ?_)
  obtain ⟨h1, h2⟩ := tyV_is I1 r1 ty
  exact ⟨T, id, pa, slot, hty, h1, h2, Calls.callWith_builtin rfl (PySem.evalArgs_none (hm pins s1 σ H1 x [] v [] Q I1 r1 .nil q1))⟩
theorem pe_bm (pa : PlainAttrs T) (slot : Slot T name id) (hty : typeOf (.builtin id) = pure (.type "method_descriptor")) (hm : MtR X id r) (ho : PE X o to) (ha : PA X (e :: es) t)
    (hbase : attributeBase o name X.env (eval o X.env) = eval o X.env := by rfl)
    (hfew : ((backTo cpos (starEach (e :: es) X.env)).all (fun x => !x.1) && (backToKw cpos (keywordEach [] X.env)).all (fun x => x.1.isSome)
      && decide ((e :: es).length + ([] : List Keyword).length + (if ([] : List Keyword).isEmpty then 0 else 1) < 30)) = true := by rfl)
    (hline : (apos.endLine == cpos.line) = true := by rfl) (hs : starEach (e :: es) X.env = (false, eval e X.env) :: starEach es X.env := by rfl) (hplain : (backTo cpos (starEach es X.env)).any (·.1) = false := by rfl) :
    PE X (.Call (.Attribute o name apos) (e :: es) [] cpos) (tBM X.K T r to t) := by
  intro pins s σ H Q I h
  refine wpAny_Call_method_late hbase hfew hline rfl (thn (ho pins s σ H _ I h) fun v s1 ⟨x, H1, I1, r1, ty, q1⟩ => ?_)
  obtain ⟨h1, h2⟩ := tyV_is I1 r1 ty
  refine ⟨T, id, pa, slot, hty, h1, h2, ?_⟩
  have hA := ha cpos pins s1 σ H1 _ I1 q1
  rw [hs] at hA ⊢
  refine Calls.callWith_builtin (by show (false || (backTo cpos (starEach es X.env)).any (·.1)) = false; rw [hplain] <;> rfl) (Calls.evalArgs_plain ?_)
  exact thn hA fun us s2 ⟨vs, H2, I2, r2, q2⟩ => hm pins s2 σ H2 x vs v us Q I2 r1 r2 q2
/- xs.append(e), list.index on a module's tuple .. are MtR facts of 06m -/
end
end L2

namespace L2
open PySem PySem.Spec PyProof.Rows

def MtM (X : Cx) (id : String) (r : V → List V → Hp → VK → Prop) : Prop :=
  ∀ (pins : List (Addr × Obj)) (s : Shared) (σ : St) (H : Hp) (x : V) (xs : List V) (v : Value) (us : List Value) (Q : VK), Inv X pins σ H s → RelV x v → Vals xs us → r x xs H Q →
    wpAny (model X.prog X.w) X.A (call (.builtin id) (v :: us)) (EP X pins σ Q) X.xe s

/-! ### lists of values -/
theorem Vals.one : ∀ {x : V} {us : List Value}, Vals [x] us → ∃ u, us = [u] ∧ RelV x u
  | _, _, .cons r .nil => ⟨_, rfl, r⟩
theorem Vals.two : ∀ {x y : V} {us : List Value}, Vals [x, y] us → ∃ u v, us = [u, v] ∧ RelV x u ∧ RelV y v
  | _, _, _, .cons r (.cons q .nil) => ⟨_, _, rfl, r, q⟩
theorem Vals.zero : ∀ {us : List Value}, Vals [] us → us = []
  | _, .nil => rfl
theorem Vals.dropLast {xs : List V} {us : List Value} (h : Vals xs us) : Vals xs.dropLast us.dropLast := by
  induction h with
  | nil => exact .nil
  | cons r t ih =>
    cases t with
    | nil => exact .nil
    | cons q t' => exact .cons r ih
theorem Vals.eraseIdx : ∀ {xs : List V} {us : List Value} (i : Nat), Vals xs us → Vals (xs.eraseIdx i) (us.eraseIdx i)
  | _, _, _, .nil => .nil
  | _, _, 0, .cons _ t => t
  | _, _, i + 1, .cons r t => .cons r (Vals.eraseIdx i t)
theorem Vals.reverse {xs : List V} {us : List Value} (h : Vals xs us) : Vals xs.reverse us.reverse := by
  induction h with
  | nil => exact .nil
  | cons r t ih => rw [List.reverse_cons, List.reverse_cons]; exact Vals.append ih (.cons r .nil)
theorem erase_last {α : Type} (l : List α) : l.eraseIdx (l.length - 1) = l.dropLast := by
  induction l with
  | nil => rfl
  | cons a r ih =>
    cases r with
    | nil => rfl
    | cons b r =>
      have e : (a :: b :: r).length - 1 = ((b :: r).length - 1) + 1 := by
        have h1 : (a :: b :: r).length = r.length + 2 := rfl
        have h2 : (b :: r).length = r.length + 1 := rfl
        omega
      rw [e, List.eraseIdx_cons_succ, ih]
      all_goals rfl
theorem len_erase {α : Type} : ∀ (l : List α) (i : Nat), (l.eraseIdx i).length ≤ l.length
  | [], _ => Nat.le_refl _
  | _ :: _, 0 => Nat.le_succ _
  | _ :: r, i + 1 => Nat.succ_le_succ (len_erase r i)
section
variable {X : Cx} {pins : List (Addr × Obj)} {σ : St} {H : Hp} {s : Shared} {l b : Addr} {xs ys zs : List V}

/-! ### the two steps: a tracked list is rewritten, a new list is laid -/
theorem Inv.lset {its its' : List Value} {n : Nat} {f : Array Value → Array Value} {t' : Nat} (I : Inv X pins σ H s) (hH : H l = some (.lst xs))
    (e : s.heap.get? l = some { cls := .type "list", data := .seq its.toArray n }) (hf : f its.toArray = its'.toArray) (hv : Vals ys its') (hz : ys.length ≤ sizeLine) :
    Inv X pins σ (upd H l (.lst ys)) { s with heap := s.heap.update l (Obj.mapSeq f), toks := t' } := by
  have q := PySem.IsL.update e f
  rw [hf] at q
  refine I.write (x := l) (e := l) (by rw [hH]; exact trivial) (.inl rfl) (fun b' u hb hu => (Heap.get?_update_other s.heap (Obj.mapSeq f) (Ne.symm hb)).trans hu) ⟨_, q⟩ ?_
  exact ⟨hz, its', _, hv, q⟩
theorem Inv.fresh (I : Inv X pins σ H s) : H s.heap.objs.size = none := I.hok.fresh (Nat.le_refl _)
theorem Inv.lstM (I : Inv X pins σ H s) (hH : H l = some (.lst xs)) : xs.length ≤ sizeLine ∧ ∃ (its : List Value) (n : Nat), Vals xs its ∧ xs.length = its.length ∧ s.heap.get? l = some { cls := .type "list", data := .seq its.toArray n } := by
  obtain ⟨z, its, n, r, e⟩ := I.hok l _ hH
  exact ⟨z, its, n, r, r.length, e⟩

end

section
variable {X : Cx}

/-! ### methods -/
def rAppend : V → List V → Hp → VK → Prop := fun x vs H Q => ∃ l xs y, x = .ref l ∧ vs = [y] ∧ H l = some (.lst xs) ∧ xs.length < sizeLine ∧ Q .non (upd H l (.lst (xs ++ [y])))
theorem mt_append : MtM X "list.append" rAppend := by
  intro pins s σ H x vs v us Q I rx rv h
  obtain ⟨l, xs, y, rfl, rfl, hH, hz, q⟩ := h
  cases rx
  obtain ⟨u, rfl, ru⟩ := rv.one
  obtain ⟨z, its, n, r, hl, e⟩ := I.lstM hH
  refine call_meets F.slot_list_append ⟨_, e, rfl⟩ F.entry_list_append (F.args_list_append_2 _ _) (PySem.list_append l its.toArray n u (by rw [List.size_toArray]; omega)) ⟨e, ?_⟩
  refine ⟨.non, _, I.lset (its' := its ++ [u]) hH e (by simp) (r.append (.cons ru .nil)) ?_, rfl, q⟩
  rw [List.length_append, List.length_singleton]
  omega

def rExtend : V → List V → Hp → VK → Prop := fun x vs H Q => ∃ l b xs zs, x = .ref l ∧ vs = [.ref b] ∧ H l = some (.lst xs) ∧ H b = some (.lst zs) ∧ xs.length + zs.length ≤ sizeLine ∧ Q .non (upd H l (.lst (xs ++ zs)))
def rPop : V → List V → Hp → VK → Prop := fun x vs H Q => ∃ l xs y, x = .ref l ∧ vs = [] ∧ H l = some (.lst xs) ∧ xs[xs.length - 1]? = some y ∧ Q y (upd H l (.lst xs.dropLast))
theorem mt_pop : MtM X "list.pop" rPop := by
  intro pins s σ H x vs v us Q I rx rv h
  obtain ⟨l, xs, y, rfl, rfl, hH, hy, q⟩ := h
  cases rx
  have hus := rv.zero
  subst hus
  obtain ⟨z, its, n, r, hl, e⟩ := I.lstM hH
  obtain ⟨u, hu, ru⟩ := r.get hy
  have hy' : its.toArray[its.toArray.size - 1]? = some u := by
    show its.toArray[its.length - 1]? = some u
    rw [← Array.getElem?_toList, ← hl]
    exact hu
  refine call_meets F.slot_list_pop ⟨_, e, rfl⟩ F.entry_list_pop (F.args_list_pop_1 _) (MeetsSeq.list_pop_last l its.toArray n u hy' (by rw [List.size_toArray]; omega)) ⟨e, ?_⟩
  refine ⟨y, _, I.lset (its' := its.dropLast) hH e ?_ r.dropLast ?_, ru, q⟩
  · show its.toArray.eraseIdxIfInBounds (its.toArray.size - 1) = its.dropLast.toArray
    rw [List.size_toArray, List.eraseIdxIfInBounds_toArray, erase_last]
  · rw [List.length_dropLast]
    omega

def rPopAt : V → List V → Hp → VK → Prop := fun x vs H Q => ∃ l xs i k y, x = .ref l ∧ vs = [.int i] ∧ H l = some (.lst xs) ∧ -(2 ^ 63) ≤ i ∧ i < 2 ^ 63 ∧ seqIndex? i xs.length = some k ∧ xs[k]? = some y ∧ Q y (upd H l (.lst (xs.eraseIdx k)))
def rReverse : V → List V → Hp → VK → Prop := fun x vs H Q => ∃ l xs, x = .ref l ∧ vs = [] ∧ H l = some (.lst xs) ∧ Q .non (upd H l (.lst xs.reverse))
def rClear : V → List V → Hp → VK → Prop := fun x vs H Q => ∃ l xs, x = .ref l ∧ vs = [] ∧ H l = some (.lst xs) ∧ Q .non (upd H l (.lst []))
/-! ### list + list, list += list, list * int -/
def rCat : R2 := fun x y H Q => ∃ l b xs zs, x = .ref l ∧ y = .ref b ∧ H l = some (.lst xs) ∧ H b = some (.lst zs) ∧ xs.length + zs.length ≤ sizeLine ∧ ∀ p, H p = none → Q (.ref p) (upd H p (.lst (xs ++ zs)))
/-- a list times an int (a negative one is nothing) -/
def rRep : R2 := fun x y H Q => ∃ l k xs, x = .ref l ∧ y = .int k ∧ H l = some (.lst xs) ∧ -(2 ^ 63) ≤ k ∧ k < 2 ^ 63 ∧ xs.length * k.toNat ≤ sizeLine ∧
  ∀ p, H p = none → Q (.ref p) (upd H p (.lst (List.replicate k.toNat xs).flatten))
/-! ### del xs[i] -/
end

/-! ### xs[a:b] = ys -/
section
variable {prog : Program} {w : World} {A : Around} {E : Value → Shared → Prop} {s : Shared}
end

section
variable {X : Cx}
end
end L2

namespace L2
open PySem PySem.Spec PyProof.Rows

/-! ### lists of pairs as tables -/
section
variable {κ : Type} [DecidableEq κ]
def valV (kvs : List (κ × V)) (k : κ) : Option V := (kvs.find? fun kv => decide (kv.1 = k)).map (·.2)
/-- in its place, or at the end -/
def putK (kvs : List (κ × V)) (k : κ) (v : V) : List (κ × V) :=
  if (kvs.any fun kv => decide (kv.1 = k)) = true then kvs.map (fun kv => if kv.1 = k then (kv.1, v) else kv) else kvs ++ [(k, v)]
def dropK (kvs : List (κ × V)) (k : κ) : List (κ × V) := kvs.filter fun kv => decide (kv.1 ≠ k)

theorem valV_pos {p : κ × V} {r : List (κ × V)} {k : κ} (e : p.1 = k) : valV (p :: r) k = some p.2 := by simp [valV, List.find?_cons, e]
theorem valV_neg {p : κ × V} {r : List (κ × V)} {k : κ} (e : ¬ p.1 = k) : valV (p :: r) k = valV r k := by simp [valV, List.find?_cons, e]
theorem valV_any (k : κ) : ∀ kvs : List (κ × V), (kvs.any fun kv => decide (kv.1 = k)) = (valV kvs k).isSome
  | [] => rfl
  | p :: r => by
    rw [List.any_cons]
    by_cases e : p.1 = k
    · simp only [valV_pos e, decide_eq_true e, Bool.true_or, Option.isSome_some]
    · rw [valV_neg e, decide_eq_false e, Bool.false_or]; exact valV_any k r
theorem RelO.isSome_eq {o : Option V} {u : Option Value} (r : RelO o u) : o.isSome = u.isSome := by
  cases o with
  | none => cases u with
    | none => rfl
    | some _ => exact (show False from r).elim
  | some _ => cases u with
    | none => exact (show False from r).elim
    | some _ => rfl
theorem RelO.getD {o : Option V} {u : Option Value} {d : V} {d' : Value} (r : RelO o u) (rd : RelV d d') : RelV (o.getD d) (u.getD d') := by
  cases o with
  | none => cases u with
    | none => exact rd
    | some _ => exact (show False from r).elim
  | some _ => cases u with
    | none => exact (show False from r).elim
    | some _ => exact r

/-- raw tables of the same keys -/
theorem KV.val {kvs : List (κ × V)} {vs : List (κ × Value)} (r : KV kvs vs) (k : κ) : RelO (valV kvs k) (valueAt vs k) := by
  unfold KV at r
  induction r with
  | nil => exact True.intro
  | @cons p q ps qs h t ih =>
    obtain ⟨h1, h2⟩ := h
    by_cases e : p.1 = k
    · have e' : q.1 = k := h1.symm.trans e
      have b : valueAt (q :: qs) k = some q.2 := by simp [valueAt, List.find?_cons, e']
      rw [valV_pos e, b]; exact h2
    · have e' : ¬ q.1 = k := fun z => e (h1.trans z)
      have b : valueAt (q :: qs) k = valueAt qs k := by simp [valueAt, List.find?_cons, e']
      rw [valV_neg e, b]; exact ih
theorem KV.any {kvs : List (κ × V)} {vs : List (κ × Value)} (r : KV kvs vs) (k : κ) : (kvs.any fun kv => decide (kv.1 = k)) = vs.any fun kv => decide (kv.1 = k) := by
  unfold KV at r
  induction r with
  | nil => rfl
  | cons h t ih => rw [List.any_cons, List.any_cons, ih, h.1]
theorem KV.repl {kvs : List (κ × V)} {vs : List (κ × Value)} (r : KV kvs vs) (k : κ) {y : V} {u : Value} (ry : RelV y u) :
    KV (kvs.map fun kv => if kv.1 = k then (kv.1, y) else kv) (vs.map fun kv => if kv.1 = k then (kv.1, u) else kv) := by
  unfold KV at r ⊢
  induction r with
  | nil => exact .nil
  | @cons p q ps qs h t ih =>
    rw [List.map_cons, List.map_cons]
    refine .cons ?_ ih
    obtain ⟨h1, h2⟩ := h
    by_cases e : p.1 = k
    · rw [if_pos e, if_pos (h1.symm.trans e)]; exact ⟨h1, ry⟩
    · rw [if_neg e, if_neg (fun z => e (h1.trans z))]; exact ⟨h1, h2⟩
theorem KV.put {kvs : List (κ × V)} {vs : List (κ × Value)} (r : KV kvs vs) (k : κ) {y : V} {u : Value} (ry : RelV y u) : KV (putK kvs k y) (stored vs k u) := by
  unfold putK stored
  rw [r.any k]
  by_cases e : (vs.any fun kv => decide (kv.1 = k)) = true
  · rw [if_pos e, if_pos e]; exact r.repl k ry
  · rw [if_neg e, if_neg e]; exact Paired.snoc r ⟨rfl, ry⟩
theorem KV.drop {kvs : List (κ × V)} {vs : List (κ × Value)} (r : KV kvs vs) (k : κ) : KV (dropK kvs k) (without vs k) := by
  unfold KV at r ⊢
  unfold dropK without
  induction r with
  | nil => exact .nil
  | @cons p q ps qs h t ih =>
    obtain ⟨h1, h2⟩ := h
    rw [List.filter_cons, List.filter_cons]
    by_cases e : p.1 = k
    · have a : ¬ decide (p.1 ≠ k) = true := by simp [e]
      have b : ¬ decide (q.1 ≠ k) = true := by simp [h1.symm.trans e]
      rw [if_neg a, if_neg b]; exact ih
    · have e' : ¬ q.1 = k := fun z => e (h1.trans z)
      have a : decide (p.1 ≠ k) = true := by simp [e]
      have b : decide (q.1 ≠ k) = true := by simp [e']
      rw [if_pos a, if_pos b]; exact .cons ⟨h1, h2⟩ ih
theorem KV.keys {kvs : List (κ × V)} {vs : List (κ × Value)} (r : KV kvs vs) : kvs.map (·.1) = vs.map (·.1) := by
  unfold KV at r
  induction r with
  | nil => rfl
  | cons h t ih => rw [List.map_cons, List.map_cons, ih, h.1]
theorem KV.length {kvs : List (κ × V)} {vs : List (κ × Value)} (r : KV kvs vs) : kvs.length = vs.length := Paired.length r
end


/-! ### a tracked dict, its keys ints and texts or tuples of these -/
/-- raw entries of a dict with tuple keys -/
abbrev KT (H : Hp) : List (List Key × V) → List (List Key × Addr × Value) → Prop := Paired fun p q => p.1 = q.1 ∧ H q.2.1 = some (.tup (p.1.map kV)) ∧ RelV p.2 q.2.2
theorem KT.val {H : Hp} {kvs : List (List Key × V)} {xs : List (List Key × Addr × Value)} (r : KT H kvs xs) (k : List Key) : RelO (valV kvs k) ((atKey xs k).map (·.2)) := by
  induction r with
  | nil => exact True.intro
  | @cons p q ps qs h t ih =>
    obtain ⟨h1, _, h2⟩ := h
    by_cases e : p.1 = k
    · have e' : q.1 = k := h1.symm.trans e
      have b : atKey (q :: qs) k = some q.2 := by simp [atKey, List.find?_cons, e']
      rw [valV_pos e, b]; exact h2
    · have e' : ¬ q.1 = k := fun z => e (h1.trans z)
      have b : atKey (q :: qs) k = atKey qs k := by simp [atKey, List.find?_cons, e']
      rw [valV_neg e, b]; exact ih
theorem KT.repl {H : Hp} {kvs : List (List Key × V)} {xs : List (List Key × Addr × Value)} (r : KT H kvs xs) (k : List Key) {y : V} {u : Value} (ry : RelV y u) :
    KT H (kvs.map fun kv => if kv.1 = k then (kv.1, y) else kv) (xs.map (putAt k u)) := by
  induction r with
  | nil => exact .nil
  | @cons p q ps qs h t ih =>
    rw [List.map_cons, List.map_cons]
    refine .cons ?_ ih
    obtain ⟨h1, h2, h3⟩ := h
    unfold putAt
    by_cases e : p.1 = k
    · rw [if_pos e, if_pos (h1.symm.trans e)]; exact ⟨h1, h2, ry⟩
    · rw [if_neg e, if_neg (fun z => e (h1.trans z))]; exact ⟨h1, h2, h3⟩
theorem KT.put {H : Hp} {kvs : List (List Key × V)} {xs : List (List Key × Addr × Value)} (r : KT H kvs xs) (k : List Key) {b : Addr} {y : V} {u : Value} (hb : H b = some (.tup (k.map kV))) (ry : RelV y u) :
    KT H (putK kvs k y) (storedH xs k b u) := by
  have e : (kvs.any fun kv => decide (kv.1 = k)) = (atKey xs k).isSome := by
    rw [valV_any, (r.val k).isSome_eq, Option.isSome_map]
  unfold putK storedH
  rw [e]
  by_cases q : (atKey xs k).isSome = true
  · rw [if_pos q, if_pos q]; exact r.repl k ry
  · rw [if_neg q, if_neg q]; exact Paired.snoc r ⟨rfl, hb, ry⟩
theorem KT.keeps {H H' : Hp} {kvs : List (List Key × V)} {xs : List (List Key × Addr × Value)} (r : KT H kvs xs) (ht : ∀ b ys, H b = some (.tup ys) → H' b = some (.tup ys)) : KT H' kvs xs :=
  Paired.mapP r fun _ _ z => ⟨z.1, ht _ _ z.2.1, z.2.2⟩

section
variable {P : Program} {w : World} {H : Hp} {h : Heap} {a : Addr}
end

/-- what the dict at a holds at the key y -/
def DGet (H : Hp) (a : Addr) (y : V) (r : Option V) : Prop :=
  (∃ kvs k, Rd H a (.dK kvs) ∧ y = kV k ∧ r = valV kvs k) ∨ ∃ kvs k b, Rd H a (.dT kvs) ∧ y = .ref b ∧ H b = some (.tup (k.map kV)) ∧ r = valV kvs k
/-- the heap behind a[y] = v -/
def DPut (H : Hp) (a : Addr) (y v : V) (H' : Hp) : Prop :=
  (∃ kvs k, H a = some (.dK kvs) ∧ y = kV k ∧ kvs.length < sizeLine ∧ H' = upd H a (.dK (putK kvs k v))) ∨
  ∃ kvs k b, H a = some (.dT kvs) ∧ y = .ref b ∧ H b = some (.tup (k.map kV)) ∧ kvs.length < sizeLine ∧ H' = upd H a (.dT (putK kvs k v))
theorem DGet.k {H : Hp} {a : Addr} {kvs : List (Key × V)} {k : Key} (e : H a = some (.dK kvs)) : DGet H a (kV k) (valV kvs k) := .inl ⟨kvs, k, .inl e, rfl, rfl⟩
theorem DGet.t {H : Hp} {a b : Addr} {kvs : List (List Key × V)} {k : List Key} (e : H a = some (.dT kvs)) (eb : H b = some (.tup (k.map kV))) : DGet H a (.ref b) (valV kvs k) := .inr ⟨kvs, k, b, .inl e, rfl, eb, rfl⟩
theorem DPut.k {H : Hp} {a : Addr} {kvs : List (Key × V)} {k : Key} {v : V} (e : H a = some (.dK kvs)) (hl : kvs.length < sizeLine) : DPut H a (kV k) v (upd H a (.dK (putK kvs k v))) := .inl ⟨kvs, k, e, rfl, hl, rfl⟩
theorem DPut.t {H : Hp} {a b : Addr} {kvs : List (List Key × V)} {k : List Key} {v : V} (e : H a = some (.dT kvs)) (eb : H b = some (.tup (k.map kV))) (hl : kvs.length < sizeLine) :
    DPut H a (.ref b) v (upd H a (.dT (putK kvs k v))) := .inr ⟨kvs, k, b, e, rfl, eb, hl, rfl⟩


section
variable {X : Cx} {pins : List (Addr × Obj)} {σ : St} {H : Hp} {s : Shared} {a : Addr} {y v : V} {u r : Value} {o : Option V} {A : Around} {E : Value → Shared → Prop}

end

section
variable {X : Cx} {pins : List (Addr × Obj)} {σ : St} {H : Hp} {s : Shared} {a : Addr} {kvs : List (Key × V)} {k : Key} {u : Value} {A : Around} {E : Value → Shared → Prop}
end


/-! ### readings and rules -/
/-- the element of a subscription, not a slice -/
def NoSl (i : Expr) : Prop := ∀ ov iv, subscripted i false ov iv = operate [ov, iv] (getItem ov iv)
/-- d[y] -/
def tDGet (td ty : TE) : TE := fun σ H Q => td σ H fun x H1 => ty σ H1 fun y H2 => ∃ a v, x = .ref a ∧ DGet H2 a y (some v) ∧ Q v H2
/-- y in d, y not in d -/
def tDIn (ty td : TE) : TE := fun σ H Q => ty σ H fun y H1 => td σ H1 fun x H2 => ∃ a o, x = .ref a ∧ DGet H2 a y o ∧ Q (.bl o.isSome) H2
def tDNotIn (ty td : TE) : TE := fun σ H Q => ty σ H fun y H1 => td σ H1 fun x H2 => ∃ a o, x = .ref a ∧ DGet H2 a y o ∧ Q (.bl (!o.isSome)) H2
/-- d[y] = v -/
def sDPut (td ty tv : TE) : TS := fun D σ H => tv σ H fun v H1 => td σ H1 fun x H2 => ty σ H2 fun y H3 => ∃ a H4, x = .ref a ∧ DPut H3 a y v H4 ∧ D.nx σ H4
/-- d[y] op= v -/
def sDAug (td ty tv : TE) (rd : V → V → Hp → VK → Prop) : TS := fun D σ H => td σ H fun x H1 => ty σ H1 fun y H2 => ∃ a v, x = .ref a ∧ DGet H2 a y (some v) ∧
  tv σ H2 fun y2 H3 => rd v y2 H3 fun z H4 => ∃ H5, DPut H4 a y z H5 ∧ D.nx σ H5
/-- del d[y] -/
def sDDel (td ty : TE) : TS := fun D σ H => td σ H fun x H1 => ty σ H1 fun y H2 => ∃ a kvs k, x = .ref a ∧ H2 a = some (.dK kvs) ∧ y = kV k ∧ (valV kvs k).isSome = true ∧ D.nx σ (upd H2 a (.dK (dropK kvs k)))

section
variable {X : Cx} {o i e value : Expr} {pos pos' tpos : Pos} {td ty tv : TE}
end


/-! ### displays -/
/-- {}, to be a dict of the kind that is wanted -/
def tDNewK : TE := fun _ H Q => ∀ p, H p = none → Q (.ref p) (upd H p (.dK []))
def tDNewT : TE := fun _ H Q => ∀ p, H p = none → Q (.ref p) (upd H p (.dT []))
section
variable {X : Cx} {pos : Pos}
end

/-- the pairs of a display, from the left -/
def tPairs : List (TE × TE) → St → Hp → (List (V × V) → Hp → Prop) → Prop
  | [], _, H, Q => Q [] H
  | (tk, tv) :: r, σ, H, Q => tk σ H fun x H1 => tv σ H1 fun y H2 => tPairs r σ H2 fun ps H3 => Q ((x, y) :: ps) H3
abbrev VV : List (V × V) → List (Value × Value) → Prop := Paired fun p q => RelV p.1 q.1 ∧ RelV p.2 q.2
def PPs (X : Cx) (pos : Pos) (keys : List (Option Expr)) (values : List Expr) (trs : List (TE × TE)) : Prop :=
  ∀ (pins : List (Addr × Obj)) (s : Shared) (σ : St) (H : Hp) (Q : List (V × V) → Hp → Prop), Inv X pins σ H s → tPairs trs σ H Q →
    wpAny (model X.prog X.w) X.A (evalPairs (pairTrees keys values X.env pos)) (fun vs s' => ∃ ps H', Inv X pins σ H' s' ∧ VV ps vs ∧ Q ps H') X.xe s
def mergeK (kvs more : List (Key × V)) : List (Key × V) := more.foldl (fun acc kv => putK acc kv.1 kv.2) kvs
/-- {k: v, ..} with keys ints and texts; the new dict stands empty while the pairs are made -/
def tDisp (trs : List (TE × TE)) : TE := fun σ H Q => ∀ p, H p = none → tPairs trs σ (upd H p (.dK [])) fun ps H2 => H2 p = some (.dK []) ∧ ∃ kvs : List (Key × V), ps = kvs.map (fun kv => (kV kv.1, kv.2)) ∧ kvs.length ≤ 15 ∧ Q (.ref p) (upd H2 p (.dK (mergeK [] kvs)))
/-! ### methods -/
/-- a method call o.m(e) of a built-in, with one argument: what must be seen of the text -/
structure M1 (X : Cx) (o : Expr) (m : Str) (apos : Pos) (e : Expr) (cpos : Pos) : Prop where
  base : attributeBase o m X.env (eval o X.env) = eval o X.env
  few : ((backTo cpos (starEach [e] X.env)).all (fun x => !x.1) && (backToKw cpos (keywordEach [] X.env)).all (fun x => x.1.isSome)
    && decide (([e] : List Expr).length + ([] : List Keyword).length + (if ([] : List Keyword).isEmpty then 0 else 1) < 30)) = true
  line : (apos.endLine == cpos.line) = true
  trees : backTo cpos (starEach [e] X.env) = [(false, eval e X.env)]
structure M2 (X : Cx) (o : Expr) (m : Str) (apos : Pos) (e f : Expr) (cpos : Pos) : Prop where
  base : attributeBase o m X.env (eval o X.env) = eval o X.env
  few : ((backTo cpos (starEach [e, f] X.env)).all (fun x => !x.1) && (backToKw cpos (keywordEach [] X.env)).all (fun x => x.1.isSome)
    && decide (([e, f] : List Expr).length + ([] : List Keyword).length + (if ([] : List Keyword).isEmpty then 0 else 1) < 30)) = true
  line : (apos.endLine == cpos.line) = true
  trees : backTo cpos (starEach [e, f] X.env) = [(false, eval e X.env), (false, eval f X.env)]

/-- a is a dict, whatever its keys -/
def IsD (H : Hp) (a : Addr) : Prop := (∃ kvs, Rd H a (.dK kvs)) ∨ ∃ kvs, Rd H a (.dT kvs)
section
variable {X : Cx} {pins : List (Addr × Obj)} {σ : St} {H : Hp} {s : Shared} {a : Addr} {y d : V} {u r : Value} {o : Option V} {A : Around} {E : Value → Shared → Prop}
end

def tDGet1 (td ty : TE) : TE := fun σ H Q => td σ H fun x H1 => ∃ a, x = .ref a ∧ IsD H1 a ∧ ty σ H1 fun y H2 => ∃ o, DGet H2 a y o ∧ Q (o.getD .non) H2
def tDGet2 (td ty tx : TE) : TE := fun σ H Q => td σ H fun x H1 => ∃ a, x = .ref a ∧ IsD H1 a ∧ ty σ H1 fun y H2 => tx σ H2 fun z H3 => ∃ o, DGet H3 a y o ∧ Q (o.getD z) H3
/-- d.pop(k): there; d.pop(k, x): there or not -/
def tDPop1 (td ty : TE) : TE := fun σ H Q => td σ H fun x H1 => ∃ a, x = .ref a ∧ IsD H1 a ∧ ty σ H1 fun y H2 => ∃ kvs k v, H2 a = some (.dK kvs) ∧ y = kV k ∧ valV kvs k = some v ∧ Q v (upd H2 a (.dK (dropK kvs k)))
def tDPop2 (td ty tx : TE) : TE := fun σ H Q => td σ H fun x H1 => ∃ a, x = .ref a ∧ IsD H1 a ∧ ty σ H1 fun y H2 => tx σ H2 fun z H3 => ∃ kvs k, H3 a = some (.dK kvs) ∧ y = kV k ∧
  (∀ v, valV kvs k = some v → Q v (upd H3 a (.dK (dropK kvs k)))) ∧ (valV kvs k = none → Q z H3)
section
variable {X : Cx} {o e f : Expr} {apos cpos : Pos} {td ty tx : TE}
end

/-! ### dict(d): a copy -/
section
variable {X : Cx} {pins : List (Addr × Obj)} {σ : St} {H : Hp} {s : Shared} {a : Addr} {kvs : List (Key × V)} {A : Around} {E : Value → Shared → Prop}
end


section
variable {X : Cx} {pins : List (Addr × Obj)} {σ : St} {H : Hp} {s : Shared} {a : Addr} {y : V} {u : Value} {A : Around} {E : Value → Shared → Prop}
end
end L2

namespace Att
open PySem PySem.W PySem.Calls PyProof.Rows

/-! ### the script -/
theorem ints_of_wellAll {P : Params} {h : Heap} : ∀ (ns : List Int) (vs : List Value), WellAll P h vs (ns.map WData.int) → IntsAre vs ns := by
  intro ns
  induction ns with
  | nil =>
    intro vs w
    rw [List.map_nil] at w
    cases w
    exact .nil
  | cons n ns ih =>
    intro vs w
    rw [List.map_cons] at w
    cases w with
    | cons a b =>
      cases a
      exact .cons _ _ (ih _ b)

theorem script_of {l : OpenLaw} {n : Nat} (hn : l.most = some n) {P : Params} {h : Heap} {args : List WData} {vals : List Value}
    (hpre : l.row.toRowW.claim.pre args = true) (hwl : WellAll P h vals args) :
    ∃ a vs ns, vals = [Value.ref a] ∧ args = [WData.list (ns.map WData.int)] ∧ h.get? a = some { cls := .type "list", data := .seq vs.toArray } ∧ IntsAre vs ns ∧ ns.length ≤ n := by
  have hsh : WShape.hasAll [] args [.list .int] = true := (pre_splitW hpre).1
  have hc : l.pre.holds [] { args := args } = true := (pre_splitW hpre).2
  obtain ⟨d, r, rfl, h1, h2⟩ := hasAllW_cons hsh
  obtain rfl := hasAllW_nil h2
  obtain ⟨xs, rfl, h3⟩ := hasW_list h1
  obtain ⟨ns, rfl⟩ := items_int h3
  have hlen : ns.length ≤ n := by
    unfold OpenLaw.pre at hc
    have h4 : (WTm.not (.lt (.lit (.int (n : Int))) (.len (.arg 0)))).holds [] { args := [.list (ns.map .int)] } = true := by
      have h4 := (holds_andW hc).1
      rw [hn] at h4
      exact h4
    have h5 := condW_of h4 (w_not (w_lt w_lit (w_len_list (w_arg rfl))))
    rw [List.length_map] at h5
    refine Nat.le_of_not_lt fun q => ?_
    have q' : (n : Int) < ((ns.length : Nat) : Int) := by omega
    first
      | (rw [decide_eq_true q'] at h5; exact absurd h5 (by decide))
      | (simp at h5; omega)
  cases hwl with
  | cons w1 w2 =>
    cases w2
    cases w1 with
    | list ho hall => exact ⟨_, _, ns, rfl, rfl, ho, ints_of_wellAll ns _ hall, hlen⟩

theorem post_true (l : OpenLaw) (args : List WData) : l.row.toRowW.claim.post args (.bool true) args = true :=
  postW_of (r := l.row.toRowW) (X := (true == true))
    (show WShape.has [] (.bool true) .bool = true by first | rfl | decide | simp [WShape.has, WShape.arms, WShape.armsAll])
    (show (WTm.eq .res (.lit (.bool true))).value [] { args := args, res := some (.bool true), after := args } = some (.bool (true == true)) from w_eq_bool (w_res rfl) w_lit) rfl

/-! ### the attachment: holds_open's last premise (the goal 'hc' behind k_head) from a wpAny of the law's body -/
/-- the same from a codeAny of the CALL (for a layer whose function contracts speak of calls) -/
theorem attach_call {l : OpenLaw} {n : Nat} {q : Program} {loose : List Str} {XP : (Str → Option Value) → Heap → Prop} {YP : World → Heap → Prop} {d : DefRec}
    (hn : l.most = some n) (hdf : d.params.defaults = [])
    (call : ∀ (w : World) (s₀ s₁ : Shared) (mg mb : Str → Option Value) (fa : Addr) (o : Obj) (pm cd doc : Value) (a : Addr) (vs : List Value) (ns : List Int),
      Ground q loose [] XP w s₀ mg mb s₁.heap → YP w s₁.heap →
      s₁.heap.get? fa = some o → o.data = .func (docDef d.name d.params d.body d.scope pm cd doc) → s₁.heap.CodeRec cd d.name → mg d.name = some (.ref fa) →
      s₁.heap.get? a = some { cls := .type "list", data := .seq vs.toArray } → IntsAre vs ns → ns.length ≤ n → s₁.gens = #[] →
      codeAny (model l.prog w) callerA (.call (.ref fa) ⟨[.ref a], []⟩) (fun r s' => r = .ok (.ret (.bool true)) ∧ OldK s₁.heap s'.heap ∧ s'.os = s₁.os ∧ AllBare s'.gens) s₁) :
    WalkO q loose XP YP l.row.toRowW d [] (fun f vs => PySem.call f vs) := by
  intro w s₀ s₁ mg mb G Y fa o pm cd doc dV kV ho hd hcd hD hmg hg args vals as hpre hlay hrd hwl hlo
  obtain rfl : dV = .none := Dflts.none hD hdf
  obtain rfl : kV = .none := Dflts.noKw hD
  obtain ⟨a, vs, ns, rfl, rfl, hobj, hints, hlen⟩ := script_of hn hpre hwl
  refine enter_call (codeAny_mono (call w s₀ s₁ mg mb fa o pm cd doc a vs ns G Y ho (fd_plain hd) hcd hmg hobj hints hlen hg) fun r s' hq => ?_)
  obtain ⟨rfl, h2, h3, h4⟩ := hq
  exact ⟨.inl ⟨.bool true, .bool true, [], rfl, fun _ => rfl, .bool true, post_true l _, fun _ => ⟨List.Pairwise.nil, fun _ hm => (nomatch hm)⟩⟩, h2, h3, h4⟩

/-! ### rules over ANY heap (no ledger) from facts about the written part K: the library's own take a ledger (News) for what they write -/
section
variable {prog : Program} {w : World} {A : Around} {E : Value → Shared → Prop} {s : Shared} {K : Frag}

/-! the whole heap as the ledger: makes every rule that writes through a ledger a rule over any heap -/
def noObjs (h : Heap) : Heap := { h with objs := #[] }
def ledger (h : Heap) (L d : Addr) : List (Addr × Obj) := (List.range h.objs.size).filterMap fun a => if a = L ∨ a = d then none else (h.get? a).map fun o => (a, o)
end
end Att

namespace L2
open PySem PySem.Spec PyProof.Rows

theorem vals_ints : ∀ {vs : List Value} {ns : List Int}, IntsAre vs ns → Vals (ns.map V.int) vs
  | _, _, .nil => .nil
  | _, _, .cons n t h => .cons ⟨t, rfl⟩ (vals_ints h)

/-- nothing is tracked but the script, known to the object (or it is an object of the module) -/
def Only (H : Hp) : Prop := ∀ b, H b = none ∨ ∃ o xs, H b = some (.frz o (.lst xs))

/-- THE HEAD: the law's promise, at the heap behind the top. F, the promise of the law's def, may use that base is part of the heap (so K.In base, base.Ns mainGlobals mg stand in Mod) -/
theorem law_call {P : Program} {w : World} {K : PySem.W.Frag} {mg mb : Str → Option Value} {CX : CXT} {k : Nat} {fa a : Addr} {fd : FuncData} {x : Str} {sp : Sp} {s₁ : Shared} {vs : List Value} {ns : List Int}
    (KX : K.In s₁.heap) (hns : s₁.heap.Ns mainGlobals mg) (hb : s₁.heap.Ns builtinsNs mb) (hbb : ∀ x : Str, x ≠ "__name__" → mb x = bootBuiltins x) (hlim : s₁.heap.NoLimit) (hg : s₁.gens = #[])
    (ha : s₁.heap.get? a = some { cls := .type "list", data := .seq vs.toArray }) (hi : IntsAre vs ns) (hl : ns.length ≤ sizeLine) (hr : Room k callerA)
    (F : ∀ base : Heap, K.In base → base.Ns mainGlobals mg → FnOk P w K mg base CX k fa fd [x] sp) (hbind : ∀ (s : Shared) (u : Value), BindsTo s fd ⟨[u], []⟩ [(x, u)])
    (hsp : ∀ H : Hp, Only H → SqL K H a (ns.map V.int) → sp [.ref a] H (fun v _ => v = .bl true) fun _ _ _ => False)
    (hCX : ∀ H e s', CX [] H s₁ (fun _ _ _ => False) e s' → False) :
    codeAny (model P w) callerA (.call (.ref fa) ⟨[.ref a], []⟩) (fun r s' => r = .ok (.ret (.bool true)) ∧ OldK s₁.heap s'.heap ∧ s'.os = s₁.os ∧ AllBare s'.gens) s₁ := by
  have rv := vals_ints hi
  have lenV := hi.length
  -- from an abstract heap in which nothing but the script may be tracked
  have core : ∀ H : Hp, Only H → SqL K H a (ns.map V.int) → HOk P w H s₁.heap → (∀ b, H b ≠ none → b = a) → (H a ≠ none → K.lookup a = none) →
      codeAny (model P w) callerA (.call (.ref fa) ⟨[.ref a], []⟩) (fun r s' => r = .ok (.ret (.bool true)) ∧ OldK s₁.heap s'.heap ∧ s'.os = s₁.os ∧ AllBare s'.gens) s₁ := by
    intro H hO hS hok hA hK
    have base_of : ∀ {b : Addr} {o : Obj}, s₁.heap.get? b = some o → H b = none → (hidT s₁.heap H).get? b = some o := fun e n => hidT_get e n
    have noA : ∀ {b : Addr} {o : Obj} {es : Array DictEntry} {ep : Nat}, s₁.heap.get? b = some o → o.data = .dict es ep → H b = none := fun {b o es ep} e d => by
      cases q : H b with
      | none => rfl
      | some u =>
        have e' : b = a := hA b (by rw [q]; simp)
        subst e'
        rw [ha] at e; cases e
        have d' : Data.seq vs.toArray _ = Data.dict es ep := d
        cases d'
    have nsK : ∀ {b : Addr} {m : Str → Option Value}, s₁.heap.Ns b m → (hidT s₁.heap H).Ns b m := fun {b m} ⟨o, es, ep, e, d, r⟩ => ⟨o, es, ep, base_of e (noA e d), d, r⟩
    have hKb : K.In (hidT s₁.heap H) := fun b o e => base_of (KX b o e) (by
      cases q : H b with
      | none => rfl
      | some u =>
        have e' : b = a := hA b (by rw [q]; simp)
        subst e'
        rw [hK (by rw [q]; simp)] at e; cases e)
    have hM : Mod K mg (hidT s₁.heap H) := ⟨hKb, nsK hns, ⟨mb, nsK hb, hbb⟩, let ⟨mc, h1, h2⟩ := hlim; ⟨mc, nsK h1, h2⟩⟩
    have e0 : Env0 P w K mg (hidT s₁.heap H) callerA [] s₁ H := ⟨rfl, hM, fun b o e => of_hidT e, Nat.le_of_eq (hidT_size _ _), trivial, fun b hb => absurd (show b ∈ ([] : List Addr) from hb) (by simp), hok, .of_eq hg⟩
    refine codeAny_mono ((F _ hKb (nsK hns)).run callerA [] s₁ H ⟨[.ref a], []⟩ [.ref a] [.ref a] _ _ hr e0 (hbind s₁ (.ref a)) (.cons rfl .nil) (hsp H hO hS)) fun r s' h => ?_
    cases r with
    | error e => exact (hCX H e s' h).elim
    | ok fl =>
      cases fl with
      | next => exact False.elim h
      | brk => exact False.elim h
      | cont => exact False.elim h
      | ret u =>
        obtain ⟨v, H', os, bare, un, hok', r', q⟩ := h
        have q' : v = .bl true := q
        subst q'
        obtain rfl : u = Value.bool true := r'
        refine ⟨rfl, OldK.of_keep fun b o e => ?_, os, bare⟩
        cases q : H b with
        | none => exact un.keep b o e q (by intro z; exact absurd (show b ∈ ([] : List Addr) from z) (by simp)) (by simp)
        | some u =>
          rcases hO b with z | ⟨ob, xs, z⟩
          · rw [q] at z; cases z
          · have z2 := un.frzs b ob _ z
            obtain ⟨e1, _⟩ := hok b _ z
            obtain ⟨e2, _⟩ := hok' b _ z2
            rw [e] at e1; cases e1
            exact e2
  cases hk : K.lookup a with
  | some o =>
    -- the script is one of the module's own objects
    have e := KX a o hk
    rw [ha] at e
    cases e
    refine core (fun _ => none) (fun _ => .inl rfl) (.inr ⟨_, vs.toArray, _, hk, rfl, rfl, rfl, by rw [List.size_toArray, lenV]; exact hl, by simpa using rv⟩) (fun b u z => by have z' : (none : Option HO) = some u := z; cases z') (fun b z => absurd rfl z) fun z => absurd rfl z
  | none =>
    refine core (fun b => if b = a then some (.frz { cls := .type "list", data := .seq vs.toArray } (.lst (ns.map V.int))) else none) (fun b => ?_) (.inl (.inr ⟨{ cls := .type "list", data := .seq vs.toArray }, if_pos rfl⟩)) (fun b u z => ?_) (fun b z => ?_) fun _ => hk
    · by_cases hb : b = a
      · exact .inr ⟨_, _, if_pos hb⟩
      · exact .inl (if_neg hb)
    · by_cases hb : b = a
      · have z' := (if_pos hb).symm.trans z
        cases z'
        subst hb
        exact ⟨ha, by rw [List.length_map]; exact hl, vs, _, rv, ha⟩
      · have z' := (if_neg hb).symm.trans z
        cases z'
    · by_cases hb : b = a
      · exact hb
      · exact absurd (if_neg hb) z
end L2

namespace L2
open PySem PySem.Spec PyProof.Rows

abbrev KOf {K : PySem.W.Frag} {h : Heap} (_ : K.In h) : PySem.W.Frag := K

/-- the goal that k_head leaves (case hc), from the law's promise. F gives the function object fd (K's own) once, then the promise over every base -/
theorem walk_of {l : PySem.W.OpenLaw} {n k : Nat} {q : Program} {loose : List Str} {XP : (Str → Option Value) → Heap → Prop} {YP : World → Heap → Prop} {d : DefRec} {K : Params → PySem.W.Frag} {CX : World → CXT} {sp : World → Sp} {x : Str}
    (hn : l.most = some n) (hn2 : n ≤ sizeLine) (hdf : d.params.defaults = []) (hr : Room k callerA)
    (hY : ∀ (w : World) (h : Heap), YP w h → (K w.params).In h)
    (F : ∀ (w : World) (mg : Str → Option Value) (fa : Addr) (h : Heap), (K w.params).In h → h.Ns mainGlobals mg → mg d.name = some (.ref fa) →
      ∃ fd : FuncData, (∀ (s : Shared) (u : Value), BindsTo s fd ⟨[u], []⟩ [(x, u)]) ∧
        ∀ base : Heap, (K w.params).In base → base.Ns mainGlobals mg → FnOk l.prog w (K w.params) mg base (CX w) k fa fd [x] (sp w))
    (hsp : ∀ (w : World) (H : Hp) (a : Addr) (ns : List Int), ns.length ≤ n → Only H → SqL (K w.params) H a (ns.map V.int) → sp w [.ref a] H (fun v _ => v = .bl true) fun _ _ _ => False)
    (hCX : ∀ (w : World) (H : Hp) (s : Shared) (e : Value) (s' : Shared), CX w [] H s (fun _ _ _ => False) e s' → False) :
    PySem.W.WalkO q loose XP YP l.row.toRowW d [] (fun f vs => PySem.call f vs) := by
  refine Att.attach_call hn hdf fun w s₀ s₁ mg mb fa o pm cd doc a vs ns G Y ho hd hcd hmg hobj hints hlen hg => ?_
  have KX := hY w _ Y
  obtain ⟨fd, hb, hF⟩ := F w mg fa _ KX G.T.g hmg
  exact law_call KX G.T.g G.T.b G.T.builtins G.T.nolimit hg hobj hints (Nat.le_trans hlen hn2) hr hF hb (fun H hO hS => hsp w H a ns hlen hO hS) fun H e s' => hCX w H s₁ e s'
end L2

/- THE LAST THEOREM (shape; LID, My.* are yours):
   My.Adr: a structure of the addresses that your layer names (classes, functions); My.Txt K t: a structure (Prop) of the equations over K;
   My.txt_mk : {K} {implicit addresses ..} (e1 : nsIn K mainGlobals "law" = some (some (.ref f))) (e2 : K.lookup f = some ⟨oc, od, .func (fnOf "law" "law" params body scope dV kV doc pm an cdv ct), sl⟩) (e3 : codeIn K cdv "law" = true) .. : ∃ t, My.Txt K t

set_option maxRecDepth 100000 in
set_option maxHeartbeats 0 in
theorem PySem.Challenge.cw_LID_holds : PySem.Challenge.rw_LID.Holds := by
  w_on; o_law; k_head; (case hw => w_witness2)
  k_fill
  refine L2.walk_of (l := PySem.Challenge.rw_LID) (n := 63) (k := 40) (x := "script") (CX := fun w => ..) (sp := fun _ => My.sp_law) rfl (by decide) rfl ⟨rfl, by decide, by decide⟩ (fun w h Y => PySem.W.kIn_of Y) ?F ?S ?C
  case F =>
    intro w mg fa h KX G hmg
    have T : ∃ t, My.Txt (L2.KOf KX) t := by
      dsimp only [L2.KOf]                          -- K must stand as «<heap const> w.params» for k_is
      refine' My.txt_mk ?e1 ?e2 ?e3 ..
      (case e1 => PySem.W.k_is)                    -- in the order: a name -> its address -> its object -> its parts
      (case e2 => PySem.W.k_is)
      ..
    obtain ⟨t, T⟩ := T
    have e0 := hmg.symm.trans (PySem.W.mg_of KX G T.law)
    cases e0                                       -- fa is the law's own address
    exact ⟨_, fun s u => .of_eq rfl, fun base kb nb => My.law_fn T kb nb⟩     -- if «.of_eq rfl» comes too early: refine' ⟨_, ?b, fun base kb nb => My.law_fn T kb nb⟩; exact fun s u => .of_eq rfl
  case S => exact fun w H a ns hl hO hS => ..
  case C => exact ..
(the tactic k_is has no namespace: write k_is) -/

/-! SHORT WORDS over the layer: a def of the text, its body, what a loop and a test want. -/
namespace L2
open PySem PySem.Spec PyProof.Rows

/-! ### the text by places -/
/-- the j-th statement of a class's body -/
def inClass (s : Stmt) (j : Nat) : Stmt := match s with
  | .ClassDef _ _ _ body _ _ _ _ _ _ _ => body.getD j (.Pass ⟨0, 0, 0, 0⟩)
  | _ => .Pass ⟨0, 0, 0, 0⟩
def defArgs (s : Stmt) : Arguments := match s with
  | .FunctionDef _ a _ _ _ _ _ _ _ _ => a
  | _ => { posonlyargs := [], args := [], vararg := none, kwonlyargs := [], kw_defaults := [], kwarg := none, defaults := [] }
def defBody (s : Stmt) : List Stmt := match s with
  | .FunctionDef _ _ b _ _ _ _ _ _ _ => b
  | _ => []
def defScope (s : Stmt) : Scope := match s with
  | .FunctionDef _ _ _ _ _ _ sc _ _ _ => sc
  | _ => { kind := .function, names := [], isGenerator := false, isCoroutine := false }

/-! ### no exception leaves a def -/
abbrev CX0 : CXT := fun _ _ _ _ _ _ => False
abbrev E0 : XK := fun _ _ _ => False
theorem pass0 {X : Cx} : Passes CX0 X E0 := fun _ _ _ _ _ _ _ h => h.elim

/-! ### a def (or method) of the text as it stands behind the top -/
structure Fun (K : PySem.W.Frag) (x qual : Str) (st : Stmt) (f : Addr) (fd : FuncData) : Prop where
  ex : ∃ (oc : Value) (od : Option Addr) (kV doc pm : Value) (an : Option Addr) (cdv ct : Value) (osl : Array (Option Value)),
    fd = PySem.W.fnOf x qual (defArgs st) (defBody st) (defScope st) .none kV doc pm an cdv ct ∧ K.lookup f = some ⟨oc, od, .func fd, osl⟩ ∧ PySem.W.codeIn K cdv qual = true
  kp : PySem.W.keepIn K (.ref f) = true
section
variable {P : Program} {w : World} {K : PySem.W.Frag} {mg : Str → Option Value} {base : Heap}
/-- THE RULE for a def: its body as a term of rules, and the reading of that term -/
theorem Fun.ok {x qual : Str} {st : Stmt} {f : Addr} {fd : FuncData} {N ps : List Str} {k : Nat} {sp : Sp} (F : Fun K x qual st f fd) (S : FnScope N ps (defScope st)) (len : ∀ vs H Q E, sp vs H Q E → vs.length = ps.length)
    (hbody : ∀ (cdv : Value) (A : Around) (outer : List Env) (s : Shared) (H : Hp) (vs : List V) (Q : VK) (E : XK), Room k (A.deeper (envOfC qual (defScope st) s.heap.objs.size f cdv)) → sp vs H Q E →
      ∃ t, PSs (cxOf CX0 P w K mg base N qual (defScope st) f cdv A outer s H E).nox (defBody st) t ∧ t { nx := fun _ H' => Q .non H', rt := Q } (start N vs) H) : FnOk P w K mg base CX0 (k + 1) f fd ps sp := by
  obtain ⟨oc, od, kV, doc, pm, an, cdv, ct, osl, rfl, lk, hcd⟩ := F.ex
  refine fn_of lk hcd S len fun A outer s H vs Q E hr hsp => ?_
  obtain ⟨t, h, q⟩ := hbody cdv A outer s H vs Q E hr hsp
  exact ⟨t, h.nox, q⟩
/-- how its arguments bind (no defaults): h is «fun _ _ _ _ _ _ us hl => match us, hl with | [_, _], _ => rfl», one _ a parameter -/
theorem Fun.binds {x qual : Str} {st : Stmt} {f : Addr} {fd : FuncData} {ps : List Str} (F : Fun K x qual st f fd)
    (h : ∀ (kV doc pm : Value) (an : Option Addr) (cdv ct : Value) (us : List Value), us.length = ps.length → bindArgs (PySem.W.fnOf x qual (defArgs st) (defBody st) (defScope st) .none kV doc pm an cdv ct) ⟨us, []⟩ = pure (ps.zip us)) : Binds K fd ps [] := by
  obtain ⟨oc, od, kV, doc, pm, an, cdv, ct, osl, rfl, lk, hcd⟩ := F.ex
  exact .all (h kV doc pm an cdv ct)
end
theorem hu_of {A : Around} {k : Nat} (hr : Room k A) : A.units + 1 < cLine := Nat.lt_of_le_of_lt (Nat.add_le_add_left (by decide : 1 ≤ 64) _) hr.units
/-! ### expressions in short: the name that stands in the i-th slot -/
section
variable {X : Cx}
theorem pv (i : Nat) {x : Str} {pos : Pos} (hN : X.N[i]? = some x := by rfl) (hv : Vis X.env.scope x := by first | exact Or.inl rfl | exact Or.inr (Or.inl rfl) | exact Or.inr (Or.inr rfl)) (hd : (x == ("__debug__" : Str)) = false := by decide)
    (hcd : (x == ("__classdict__" : Str)) = false := by decide) : PE X (.Name x pos) (tVar i) := pe_var hN hv hd hcd
end

/-! ### tests -/
theorem iteF {A B : Prop} (h : B) : if false = true then A else B := by
  rw [if_neg Bool.false_ne_true]
  exact h
theorem iteT {A B : Prop} (h : A) : if true = true then A else B := by
  rw [if_pos rfl]
  exact h
/-! ### heaps -/
/-- all that was tracked is as it was -/
def Same (H H' : Hp) : Prop := ∀ b o, H b = some o → H' b = some o
theorem Same.refl (H : Hp) : Same H H := fun _ _ h => h
theorem Same.trans {H H1 H2 : Hp} (a : Same H H1) (b : Same H1 H2) : Same H H2 := fun c o h => b c o (a c o h)
theorem Same.free {H H' : Hp} (e : Same H H') {l : Addr} (h : H' l = Option.none) : H l = Option.none := by
  cases q : H l with
  | none => rfl
  | some o =>
    rw [e l o q] at h
    cases h
theorem Same.seq {K : PySem.W.Frag} {H H' : Hp} {a : Addr} {xs : List V} (e : Same H H') (h : SqL K H a xs) : SqL K H' a xs := by
  rcases h with (h | ⟨o, h⟩) | h
  · exact .inl (.inl (e _ _ h))
  · exact .inl (.inr ⟨o, e _ _ h⟩)
  · exact .inr h

end L2
set_option Elab.async false
set_option linter.all false
set_option maxRecDepth 100000
namespace L2
open PySem PySem.Spec PyProof.Rows
section
variable {X : Cx}
theorem op_mulB : OpR X (binaryOp .Mult) (rI (fun i j => IntMulOk i j) fun i j => .int (i * j)) := opI fun _ _ _ _ _ _ _ hc q => mul_int q hc
theorem op_fdivB : OpR X (binaryOp .FloorDiv) (rI (fun i j => j ≠ 0 ∧ Builtin.divisionGoesByPylong i j = false) fun i j => .int (i.fdiv j)) := opI fun _ _ _ _ _ _ _ hc q => floordiv_int hc.1 q (.inl hc.2)
theorem op_powB : OpR X (binaryOp .Pow) (rI (fun i j => 0 ≤ j ∧ (Builtin.Int.intBits i : Int) * j ≤ 2 ^ 27) fun i j => .int (i ^ j.toNat)) := opI fun _ _ _ _ _ _ _ hc q => pow_int hc.1 hc.2 q
theorem isi_int_int : CallR X (.builtin "isinstance") (fun xs H Q => ∃ i, xs = [.int i, .ty "int"] ∧ Q (.bl true) H) := by
  intro pins s σ H xs us Q I r h
  obtain ⟨i, rfl, q⟩ := h
  obtain ⟨u, w', rfl, ⟨t, rfl⟩, e2⟩ := vals2 r
  cases e2
  exact PySem.call_isinstance (PySem.isinstance_true (Tx := "int") PySem.F.isi_meta_int PySem.F.isi_self_int) ⟨rfl, ⟨.bl true, H, I, rfl, q⟩⟩
theorem isi_int_bool : CallR X (.builtin "isinstance") (fun xs H Q => ∃ i, xs = [.int i, .ty "bool"] ∧ Q (.bl false) H) := by
  intro pins s σ H xs us Q I r h
  obtain ⟨i, rfl, q⟩ := h
  obtain ⟨u, w', rfl, ⟨t, rfl⟩, e2⟩ := vals2 r
  cases e2
  exact PySem.call_isinstance (PySem.isinstance_false_int (T := "bool") (by decide) PySem.F.isi_meta_bool PySem.F.sub_int_bool) ⟨.bl false, H, I.tok _, rfl, q⟩
theorem isi_bl_bool : CallR X (.builtin "isinstance") (fun xs H Q => ∃ i, xs = [.bl i, .ty "bool"] ∧ Q (.bl true) H) := by
  intro pins s σ H xs us Q I r h
  obtain ⟨i, rfl, q⟩ := h
  obtain ⟨u, w', rfl, e1, e2⟩ := vals2 r
  cases e1
  cases e2
  exact PySem.call_isinstance (PySem.isinstance_true (Tx := "bool") PySem.F.isi_meta_bool PySem.F.isi_self_bool) ⟨rfl, ⟨.bl true, H, I, rfl, q⟩⟩
theorem isi_tup_tup : CallR X (.builtin "isinstance") (fun xs H Q => ∃ a ys, xs = [.ref a, .ty "tuple"] ∧ SqT X.K H a ys ∧ Q (.bl true) H) := by
  intro pins s σ H xs us Q I r h
  obtain ⟨a, ys, rfl, hs, q⟩ := h
  obtain ⟨u, w', rfl, e1, e2⟩ := vals2 r
  cases e1
  cases e2
  obtain ⟨its, _, p1, _⟩ := I.tuple hs
  exact PySem.call_isinstance (PySem.isinstance_true (Tx := "tuple") PySem.F.isi_meta_tuple PySem.F.isi_self_tuple) ⟨p1.typeIs, ⟨.bl true, H, I, rfl, q⟩⟩
/-- two tuples of two ints -/
def rEq2 (K : PySem.W.Frag) (g : Bool → Bool) : R2 := fun x y H Q => ∃ a b p q p' q', x = .ref a ∧ y = .ref b ∧ SqT K H a [.int p, .int q] ∧ SqT K H b [.int p', .int q'] ∧ Q (.bl (g (decide (p = p' ∧ q = q')))) H
end
end L2
set_option Elab.async false
set_option linter.all false
set_option maxRecDepth 100000
namespace Sw
open PySem
/-! ### sizes -/
def Bd (n : Nat) (x : Int) : Prop := x.natAbs < 2 ^ n
theorem Bd.mono {m n : Nat} {x : Int} (h : Bd m x) (e : m ≤ n) : Bd n x := Nat.lt_of_lt_of_le h (Nat.pow_le_pow_right (by decide) e)
theorem Bd.of_le {n : Nat} {x y : Int} (h : Bd n y) (e : x.natAbs ≤ y.natAbs) : Bd n x := Nat.lt_of_le_of_lt e h
theorem Bd.neg {n : Nat} {x : Int} (h : Bd n x) : Bd n (-x) := h.of_le (by omega)
theorem Bd.add {k : Nat} {x y : Int} (h : Bd k x) (g : Bd k y) : Bd (k + 1) (x + y) := by
  unfold Bd at *
  rw [Nat.pow_succ]
  generalize 2 ^ k = p at h g ⊢
  omega
theorem Bd.sub {k : Nat} {x y : Int} (h : Bd k x) (g : Bd k y) : Bd (k + 1) (x - y) := by
  unfold Bd at *
  rw [Nat.pow_succ]
  generalize 2 ^ k = p at h g ⊢
  omega
theorem Bd.ok {m n : Nat} {x y : Int} (h : Bd m x) (g : Bd n y) (e : m + n ≤ 134217728 := by decide) : IntMulOk x y :=
  IntMulOk.of_le (intBits_le_iff.mpr h) (intBits_le_iff.mpr g) e
theorem Bd.one : Bd 1 1 := by unfold Bd; decide
theorem Bd.zero : Bd 1 0 := by unfold Bd; decide
/-! ### divisors -/
def gcdI (a b : Int) : Int := ((Int.gcd a b : Nat) : Int)
def absI (i : Int) : Int := if i < 0 then -i else i
/-! ### fractions -/
structure Fr (p q a b : Int) : Prop where
  pos : 0 < q
  low : gcdI p q = 1
  same : p * b = a * q
  bt : p.natAbs ≤ a.natAbs
  bb : q.natAbs ≤ b.natAbs
structure Low (p q : Int) : Prop where
  pos : 0 < q
  low : gcdI p q = 1
theorem Fr.to {p q a b : Int} (h : Fr p q a b) : Low p q := ⟨h.pos, h.low⟩
def frC (a b : Int) : Int := if b < 0 then -gcdI a b else gcdI a b
end Sw
set_option Elab.async false
set_option linter.all false
set_option maxRecDepth 100000
namespace L2
open PySem
inductive Isi (K : PySem.W.Frag) (H : Hp) : V → String → Bool → Prop where
  | ii (i : Int) : Isi K H (.int i) "int" true
  | ib (i : Int) : Isi K H (.int i) "bool" false
  | bb (b : Bool) : Isi K H (.bl b) "bool" true
  | tt (a : Addr) (ys : List V) (h : SqT K H a ys) : Isi K H (.ref a) "tuple" true
theorem call_isi {X : Cx} : CallR X (.builtin "isinstance") (fun xs H Q => ∃ x T b, xs = [x, .ty T] ∧ Isi X.K H x T b ∧ Q (.bl b) H) := by
  intro pins s σ H xs us Q I r h
  obtain ⟨x, T, b, rfl, i, q⟩ := h
  cases i with
  | ii i => exact isi_int_int pins s σ H _ us Q I r ⟨i, rfl, q⟩
  | ib i => exact isi_int_bool pins s σ H _ us Q I r ⟨i, rfl, q⟩
  | bb i => exact isi_bl_bool pins s σ H _ us Q I r ⟨i, rfl, q⟩
  | tt a ys h => exact isi_tup_tup pins s σ H _ us Q I r ⟨a, ys, rfl, h, q⟩
end L2
namespace Sw
open PySem L2
theorem dT {p A B : Prop} [Decidable p] (h : p) (a : A) : if decide p = true then A else B := by rw [if_pos (decide_eq_true h)]; exact a
theorem dF {p A B : Prop} [Decidable p] (h : ¬ p) (b : B) : if decide p = true then A else B := by rw [if_neg (by simp [h])]; exact b
theorem d2 {p A B : Prop} [Decidable p] (h1 : p → A) (h2 : ¬ p → B) : if decide p = true then A else B := by
  by_cases h : p
  · exact dT h (h1 h)
  · exact dF h (h2 h)
theorem nT {p A B : Prop} [Decidable p] (h : ¬ p) (a : A) : if (!decide p) = true then A else B := by rw [if_pos (by simp [h])]; exact a
theorem nF {p A B : Prop} [Decidable p] (h : p) (b : B) : if (!decide p) = true then A else B := by rw [if_neg (by simp [h])]; exact b
theorem vi {a b : Int} (h : a = b) : V.int a = V.int b := by rw [h]
theorem vj {a b : Int} (h : V.int a = V.int b) : a = b := by cases h; rfl
theorem d2I {a b : Int} {A B : Prop} (h1 : a = b → A) (h2 : a ≠ b → B) : if decide (V.int a = V.int b) = true then A else B := d2 (fun h => h1 (vj h)) fun h => h2 fun e => h (vi e)
structure Dn (P : Program) (w : World) (K : PySem.W.Frag) (mg : Str → Option Value) (base : Heap) (k : Nat) (x : Str) (ps : List Str) (sp : Sp) where
  f : Addr
  fd : FuncData
  ok : FnOk P w K mg base CX0 k f fd ps sp
  m : mg x = some (.ref f)
  q : PySem.W.keepIn K (.ref f) = true
  b : Binds K fd ps []
section
variable {X : Cx} {k j : Nat} {x : Str} {ps : List Str} {sp : Sp} {p pos : Pos} {e : Expr} {es : List Expr} {t : TA}
end
/-! ### promises -/
def spDiv : Sp := fun vs H Q _ => ∃ a b : Int, vs = [.int a, .int b] ∧ Q (.int (gcdI a b)) H
def spCell (K : PySem.W.Frag) : Sp := fun vs H Q _ => ∃ (a : Addr) (ns : List Int) (k : Int), vs = [.ref a, .int k] ∧ SqL K H a (ns.map V.int) ∧ 0 ≤ k ∧ ∀ v : Int, Q (.int v) H
def spWhole : Sp := fun vs H Q _ => ∃ v : Int, vs = [.int v] ∧ Q (.bl true) H
def spNum : Sp := fun vs H Q _ => ∃ c : Int, vs = [.int c] ∧ ∀ v : Int, Bd 200 v → Q (.int v) H
def spLaw (K : PySem.W.Frag) : Sp := fun vs H Q _ => ∃ (a : Addr) (ns : List Int), vs = [.ref a] ∧ SqL K H a (ns.map V.int) ∧ ns.length ≤ 63 ∧ ∀ H', Q (.bl true) H'
theorem cell_ok {ns : List Int} {k : Int} (h0 : 0 ≤ k) (h : k < (((ns.map V.int).length : Nat) : Int)) : ∃ v : Int, atI (ns.map V.int) k = some (.int v) := by
  rw [List.length_map] at h
  have hk : k.toNat < ns.length := by omega
  have ek : k = ((k.toNat : Nat) : Int) := by omega
  have q : atI (ns.map V.int) ((k.toNat : Nat) : Int) = some (.int ns[k.toNat]) := atI_nat (by rw [List.getElem?_map, List.getElem?_eq_getElem hk] <;> rfl)
  rw [← ek] at q
  exact ⟨_, q⟩
end Sw
set_option Elab.async false
set_option linter.all false
set_option maxRecDepth 100000
namespace Sw
open PySem L2
theorem cut {t u : TS} {D : Ends} {σ : L2.St} {H : Hp} (I : L2.St → Hp → Prop) (h1 : ∀ N : L2.St → Hp → Prop, (∀ σ H, I σ H → N σ H) → t { D with nx := N } σ H) (h2 : ∀ σ H, I σ H → u D σ H) : tSeq t u D σ H := h1 _ h2
theorem sameT {K : PySem.W.Frag} {H H' : Hp} {a : Addr} {xs : List V} (e : Same H H') (h : SqT K H a xs) : SqT K H' a xs := by
  rcases h with (h | ⟨o, h⟩) | h
  · exact .inl (.inl (e _ _ h))
  · exact .inl (.inr ⟨o, e _ _ h⟩)
  · exact .inr h
theorem same_new {H : Hp} {p : Addr} (h : H p = none) (o : HO) : Same H (upd H p o) := fun b u q => by rw [upd_ne (ne_of_none q h)]; exact q
/-- a new pair -/
def Pair (H : Hp) (Q : VK) (p q : Int) : Prop := ∀ (t : Addr) (H' : Hp), Same H H' → H' t = some (.tup [.int p, .int q]) → Q (.ref t) H'
def spLow : Sp := fun vs H Q _ => ∃ a b : Int, vs = [.int a, .int b] ∧ 0 < b ∧ Bd 8500 b ∧ ∀ p q : Int, Fr p q a b → Pair H Q p q
def spFr : Sp := fun vs H Q _ => ∃ a b : Int, vs = [.int a, .int b] ∧ b ≠ 0 ∧ Bd 8500 b ∧ ∀ p q : Int, Fr p q a b → Pair H Q p q
structure FrIn (K : PySem.W.Frag) (n : Nat) (H : Hp) (t : Addr) (p q : Int) : Prop where
  at_ : SqT K H t [.int p, .int q]
  pos : 0 < q
  bp : Bd n p
  bq : Bd n q
theorem FrIn.same {K : PySem.W.Frag} {n : Nat} {H H' : Hp} {t : Addr} {p q : Int} (h : FrIn K n H t p q) (e : Same H H') : FrIn K n H' t p q := ⟨sameT e h.at_, h.pos, h.bp, h.bq⟩
theorem FrIn.mono {K : PySem.W.Frag} {m n : Nat} {H : Hp} {t : Addr} {p q : Int} (h : FrIn K m H t p q) (e : m ≤ n) : FrIn K n H t p q := ⟨h.at_, h.pos, h.bp.mono e, h.bq.mono e⟩
theorem FrIn.of {K : PySem.W.Frag} {n : Nat} {H : Hp} {t : Addr} {p q a b : Int} (f : Fr p q a b) (ha : Bd n a) (hb : Bd n b) (e : H t = some (.tup [.int p, .int q])) : FrIn K n H t p q := ⟨SqT.of e, f.pos, ha.of_le f.bt, hb.of_le f.bb⟩
def spLess (K : PySem.W.Frag) : Sp := fun vs H Q _ => ∃ (t t' : Addr) (p q p' q' : Int), vs = [.ref t, .ref t'] ∧ FrIn K 4000 H t p q ∧ FrIn K 4000 H t' p' q' ∧ Q (.bl (decide (p * q' < p' * q))) H
def spUp (K : PySem.W.Frag) : Sp := fun vs H Q _ => ∃ (t : Addr) (p q : Int), vs = [.ref t] ∧ FrIn K 8000 H t p q ∧ Q (.int (-((-p).fdiv q))) H
def spDown (K : PySem.W.Frag) : Sp := fun vs H Q _ => ∃ (t : Addr) (p q : Int), vs = [.ref t] ∧ FrIn K 8000 H t p q ∧ Q (.int (p.fdiv q)) H
def spTold (K : PySem.W.Frag) : Sp := fun vs H Q _ => ∃ (t t' : Addr) (p q p' q' : Int), vs = [.ref t, .ref t', .bl (decide (p * q' < p' * q))] ∧ FrIn K 4000 H t p q ∧ FrIn K 4000 H t' p' q' ∧ Q (.bl true) H
def spRounded (K : PySem.W.Frag) : Sp := fun vs H Q _ => ∃ (t : Addr) (p q : Int), vs = [.ref t] ∧ FrIn K 4000 H t p q ∧ Q (.bl true) H
end Sw
set_option Elab.async false
set_option linter.all false
set_option maxRecDepth 100000
namespace Sw
open PySem L2
structure FunD (K : PySem.W.Frag) (x qual : Str) (st : Stmt) (dV : Value) (f : Addr) (fd : FuncData) : Prop where
  ex : ∃ (oc : Value) (od : Option Addr) (kV doc pm : Value) (an : Option Addr) (cdv ct : Value) (osl : Array (Option Value)),
    fd = PySem.W.fnOf x qual (defArgs st) (defBody st) (defScope st) dV kV doc pm an cdv ct ∧ K.lookup f = some ⟨oc, od, .func fd, osl⟩ ∧ PySem.W.codeIn K cdv qual = true
  kp : PySem.W.keepIn K (.ref f) = true
section
variable {P : Program} {w : World} {K : PySem.W.Frag} {mg : Str → Option Value} {base : Heap}
theorem FunD.ok {x qual : Str} {st : Stmt} {dV : Value} {f : Addr} {fd : FuncData} {N ps : List Str} {k : Nat} {sp : Sp} (F : FunD K x qual st dV f fd) (S : FnScope N ps (defScope st)) (len : ∀ vs H Q E, sp vs H Q E → vs.length = ps.length)
    (hbody : ∀ (cdv : Value) (A : Around) (outer : List Env) (s : Shared) (H : Hp) (vs : List V) (Q : VK) (E : XK), Room k (A.deeper (PyProof.Rows.envOfC qual (defScope st) s.heap.objs.size f cdv)) → sp vs H Q E →
      ∃ t, PSs (cxOf CX0 P w K mg base N qual (defScope st) f cdv A outer s H E).nox (defBody st) t ∧ t { nx := fun _ H' => Q .non H', rt := Q } (start N vs) H) : FnOk P w K mg base CX0 (k + 1) f fd ps sp := by
  obtain ⟨oc, od, kV, doc, pm, an, cdv, ct, osl, rfl, lk, hcd⟩ := F.ex
  refine fn_of lk hcd S len fun A outer s H vs Q E hr hsp => ?_
  obtain ⟨t, h, q⟩ := hbody cdv A outer s H vs Q E hr hsp
  exact ⟨t, h.nox, q⟩
theorem FunD.binds {x qual : Str} {st : Stmt} {T : Addr} {f : Addr} {fd : FuncData} {ps : List Str} {o : Obj} {items : Array Value} {n : Nat} {ds : List Value} (F : FunD K x qual st (.ref T) f fd) (ho : K.lookup T = some o) (hs : o.data = .seq items n)
    (h : ∀ (kV doc pm : Value) (an : Option Addr) (cdv ct : Value) (us : List Value), (us ++ ds).length = ps.length → ∃ k : Option (Array Value) → Sem (List (Str × Value)), bindArgs (PySem.W.fnOf x qual (defArgs st) (defBody st) (defScope st) (.ref T) kV doc pm an cdv ct) ⟨us, []⟩ = seqItems? (.ref T) >>= k ∧ k (some items) = pure (ps.zip (us ++ ds))) : Binds K fd ps ds := by
  obtain ⟨oc, od, kV, doc, pm, an, cdv, ct, osl, rfl, lk, hcd⟩ := F.ex
  intro s us KX hl
  obtain ⟨k, h1, h2⟩ := h kV doc pm an cdv ct us hl
  exact PySem.W.binds_K KX rfl ho hs h1 h2
theorem FunD.binds0 {x qual : Str} {st : Stmt} {dV : Value} {f : Addr} {fd : FuncData} {ps : List Str} (F : FunD K x qual st dV f fd)
    (h : ∀ (kV doc pm : Value) (an : Option Addr) (cdv ct : Value) (us : List Value), us.length = ps.length → bindArgs (PySem.W.fnOf x qual (defArgs st) (defBody st) (defScope st) dV kV doc pm an cdv ct) ⟨us, []⟩ = pure (ps.zip us)) : Binds K fd ps [] := by
  obtain ⟨oc, od, kV, doc, pm, an, cdv, ct, osl, rfl, lk, hcd⟩ := F.ex
  exact .all (h kV doc pm an cdv ct)
theorem funD_mk {x qual : Str} {st : Stmt} {f : Addr} {oc dV : Value} {od an : Option Addr} {osl : Array (Option Value)} {kV doc pm cdv ct : Value} (l : K.lookup f = some ⟨oc, od, .func (PySem.W.fnOf x qual (defArgs st) (defBody st) (defScope st) dV kV doc pm an cdv ct), osl⟩)
    (c : PySem.W.codeIn K cdv qual = true) (k : PySem.W.keepIn K (.ref f) = true) : FunD K x qual st dV f (PySem.W.fnOf x qual (defArgs st) (defBody st) (defScope st) dV kV doc pm an cdv ct) := ⟨⟨oc, od, kV, doc, pm, an, cdv, ct, osl, rfl, l, c⟩, k⟩
end
section
variable {X : Cx} {k j : Nat} {x : Str} {ps : List Str} {sp : Sp} {p pos : Pos} {e : Expr} {es : List Expr} {t : TA} {dvs : List V}
end
def spPlus (K : PySem.W.Frag) : Sp := fun vs H Q _ => ∃ (t t' : Addr) (p q p' q' : Int), vs = [.ref t, .ref t'] ∧ FrIn K 4000 H t p q ∧ FrIn K 4000 H t' p' q' ∧ ∀ r s : Int, Fr r s (p * q' + p' * q) (q * q') → Pair H Q r s
def spMinus (K : PySem.W.Frag) : Sp := fun vs H Q _ => ∃ (t t' : Addr) (p q p' q' : Int), vs = [.ref t, .ref t'] ∧ FrIn K 4000 H t p q ∧ FrIn K 4000 H t' p' q' ∧ ∀ r s : Int, Fr r s (p * q' - p' * q) (q * q') → Pair H Q r s
def spProd (K : PySem.W.Frag) : Sp := fun vs H Q _ => ∃ (t t' : Addr) (p q p' q' : Int), vs = [.ref t, .ref t'] ∧ FrIn K 4000 H t p q ∧ FrIn K 4000 H t' p' q' ∧ ∀ r s : Int, Fr r s (p * p') (q * q') → Pair H Q r s
def spQuot (K : PySem.W.Frag) : Sp := fun vs H Q _ => ∃ (t t' : Addr) (p q p' q' : Int), vs = [.ref t, .ref t'] ∧ FrIn K 4000 H t p q ∧ FrIn K 4000 H t' p' q' ∧ p' ≠ 0 ∧ ∀ r s : Int, Fr r s (p * q') (q * p') → Pair H Q r s
def spMade (K : PySem.W.Frag) : Sp := fun vs H Q _ => ∃ (t : Addr) (r s a b : Int), vs = [.ref t, .int a, .int b] ∧ FrIn K 30000 H t r s ∧ gcdI r s = 1 ∧ r * b = a * s ∧ Bd 30000 a ∧ Bd 30000 b ∧ Q (.bl true) H
/-! ### the mathematics of sums -/
end Sw
set_option Elab.async false
set_option linter.all false
set_option maxRecDepth 100000
namespace XH
open PySem
/-! ### what a frame's note and the flight of an exception change -/
structure Mv (fs ch : List Addr) (h h' : Heap) : Prop where
  keep : ∀ b o, b ∉ fs → b ∉ ch → h.get? b = some o → h'.get? b = some o
  slot : ∀ b o, b ∈ fs → b ∉ ch → h.get? b = some o → ∃ sl, h'.get? b = some { o with slots := sl }
  there : ∀ b o, h.get? b = some o → ∃ o', h'.get? b = some o'
theorem Mv.refl (fs ch : List Addr) (h : Heap) : Mv fs ch h h := ⟨fun _ _ _ _ q => q, fun _ o _ _ q => ⟨o.slots, q⟩, fun _ o q => ⟨o, q⟩⟩
theorem Mv.trans {fs c1 c2 ch : List Addr} {h h1 h2 : Heap} (x : Mv fs c1 h h1) (y : Mv fs c2 h1 h2) (k1 : ∀ b, b ∈ c1 → b ∈ ch) (k2 : ∀ b, b ∈ c2 → b ∈ ch) : Mv fs ch h h2 where
  keep := fun b o hf hc q => y.keep b o hf (fun z => hc (k2 b z)) (x.keep b o hf (fun z => hc (k1 b z)) q)
  slot := fun b o hf hc q => by
    obtain ⟨sl, q1⟩ := x.slot b o hf (fun z => hc (k1 b z)) q
    obtain ⟨sl2, q2⟩ := y.slot b _ hf (fun z => hc (k2 b z)) q1
    exact ⟨sl2, q2⟩
  there := fun b o q => by
    obtain ⟨o1, q1⟩ := x.there b o q
    exact y.there b o1 q1
/-- the note in an exception's traceback: none yet, or an entry in such a flight -/
inductive XSt where
  | new
  | fl (v : Value)
def XSt.Is (F : Addr → Prop) (h : Heap) (e : Addr) (vs : Array Value) : XSt → Prop
  | .new => vs[1]? = some .none
  | .fl v => ∃ T oT ts, vs[1]? = some (.ref T) ∧ F T ∧ T ≠ e ∧ h.get? T = some oT ∧ oT.data = .fields ts ∧ ts[3]? = some v
/-- room for its entries, and it came with no other one handled -/
def Fz (vs : Array Value) : Prop := 1 < vs.size ∧ vs[2]? = some .none
theorem Fz.set {vs : Array Value} (h : Fz vs) (v : Value) : Fz (vs.setIfInBounds 1 v) := ⟨by simpa using h.1, by rw [Array.getElem?_setIfInBounds]; simp [h.2]⟩
structure XO (F : Addr → Prop) (h : Heap) (e : Addr) (cls : Value) (dx : Option Addr) (st : XSt) : Prop where
  ex : ∃ oe vs, h.get? e = some oe ∧ oe.cls = cls ∧ oe.dict = dx ∧ oe.data = .fields vs ∧ Fz vs ∧ st.Is F h e vs
  fr : F e
theorem XO.mono {F G : Addr → Prop} {h : Heap} {e : Addr} {cls : Value} {dx : Option Addr} {st : XSt} (x : XO F h e cls dx st) (k : ∀ b, F b → G b) : XO G h e cls dx st := by
  obtain ⟨⟨oe, vs, a, b, c, d, f, g⟩, fr⟩ := x
  refine ⟨⟨oe, vs, a, b, c, d, f, ?_⟩, k _ fr⟩
  cases st with
  | new => exact g
  | fl v =>
    obtain ⟨T, oT, ts, g1, g2, g3⟩ := g
    exact ⟨T, oT, ts, g1, k _ g2, g3⟩
theorem mapf_dict (o : Obj) (f : Array Value → Array Value) : (o.mapFields f).dict = o.dict := by
  obtain ⟨c, d, dt, sl⟩ := o
  cases dt <;> rfl
section
variable {M : Model} {A : Around} {E : Value → Shared → Prop} {s : Shared}
theorem entry_ok {base : Heap} {env : Env} {outer : List Env} {L e : Addr} {oe : Obj} {vs : Array Value} {head : Value} {had : Bool} {Q : Unit → Shared → Prop}
    (hfr : A.frames = some (env :: outer)) (hl : s.heap.FunFrames base (env :: outer)) (hf : env.frame = some L) (he : s.heap.get? e = some oe) (hd : oe.data = .fields vs) (hsz : 1 < vs.size)
    (h : ∀ h' T, Mv ((env :: outer).filterMap (·.frame)) [e] s.heap h' → s.heap.get? T = none → T ≠ e → h'.get? e = some (oe.mapFields (·.setIfInBounds 1 (.ref T))) →
      (∃ oT ts, h'.get? T = some oT ∧ oT.data = .fields ts ∧ ts[3]? = some (rawInt L)) → Q () { s with heap := h' }) :
    wpAny M A (do let a ← frameOf env; let pl ← entryPlaceOf L had; let b ← EntryCells.newEntry head a .none (rawInt L) .none pl; setField (.ref e) 1 b) Q E s := by
  have hne : e ∉ (env :: outer).filterMap (·.frame) := by
    intro hm
    obtain ⟨_, o, ho, hnf⟩ := hl.mem hm
    rw [he] at ho
    cases ho
    exact hnf vs hd
  apply wpAny_bind
  apply wpAny_frameOf_fun hfr hl hf
  intro h1 hs
  apply wpAny_bind
  apply wpAny_entryPlaceOf
  intro pl hpl
  unfold EntryCells.newEntry newFields
  apply wpAny_bind
  refine wpAny_newObj_type ?_ (hpl.sizeOk5 ..)
  have e1 : h1.get? e = some oe := (hs.2.1 e hne).trans he
  generalize hob : ({ cls := .type "traceback", dict := none, data := .fields ([head, .ref L, .none, rawInt L, .none] ++ (if pl.isEmpty then List.replicate 6 Value.none else pl)).toArray } : Obj) = ob
  have e2 := Heap.get?_push_of_some (h := h1) ob e1
  refine wpAny_setField e2 hd hsz ?_
  have hTe : h1.objs.size ≠ e := Nat.ne_of_gt (Heap.lt_size e1)
  have d3 := Obj.data_mapFields hd (·.setIfInBounds 1 (Value.ref h1.objs.size))
  have e3 := Heap.get?_update_self (Obj.mapFields (·.setIfInBounds 1 (Value.ref h1.objs.size))) e2 (Obj.isFreed_of_fields d3)
  have kp : ∀ b o, b ≠ e → h1.get? b = some o → ((h1.push ob).update e (Obj.mapFields (·.setIfInBounds 1 (Value.ref h1.objs.size)))).get? b = some o := by
    intro b o hb q
    rw [Heap.get?_update_other _ _ (Ne.symm hb)]
    exact Heap.get?_push_of_some _ q
  have t3 : ((h1.push ob).update e (Obj.mapFields (·.setIfInBounds 1 (Value.ref h1.objs.size)))).get? h1.objs.size = some ob := by
    rw [Heap.get?_update_other _ _ (Ne.symm hTe)]
    exact Heap.get?_push_size h1 (by rw [← hob]; rfl)
  refine h _ h1.objs.size ⟨?_, ?_, ?_⟩ ?_ hTe e3 ?_
  · intro b o hb hc q
    exact kp b o (fun z => hc (by rw [z]; exact List.mem_singleton.mpr rfl)) ((hs.2.1 b hb).trans q)
  · intro b o hb hc q
    obtain ⟨sl, q1⟩ := hs.2.2 b o q
    exact ⟨sl, kp b _ (fun z => hc (by rw [z]; exact List.mem_singleton.mpr rfl)) q1⟩
  · intro b o q
    by_cases hb : b = e
    · subst hb
      exact ⟨_, e3⟩
    · obtain ⟨sl, q1⟩ := hs.2.2 b o q
      exact ⟨_, kp b _ hb q1⟩
  · exact Heap.get?_none_of_le (by rw [hs.1]; exact Nat.le_refl _)
  · subst hob
    refine ⟨_, _, t3, rfl, ?_⟩
    rcases hpl with rfl | ⟨_, _, _, _, _, _, _, rfl⟩ <;> simp
theorem flight_ok {F : Addr → Prop} {e : Addr} {cls v : Value} {dx fl : Option Addr} {Q : Unit → Shared → Prop} (x : XO F s.heap e cls dx (.fl v))
    (h : ∀ h' T, F T → Mv [] [T] s.heap h' → XO F h' e cls dx (.fl (fl.elim .none fun f => rawInt f)) → Q () { s with heap := h' }) : wpAny M A (setFlight (.ref e) fl) Q E s := by
  obtain ⟨⟨oe, vs, he, hc, hdx, hd, hsz, T, oT, ts, h1, hF, hTe, hT, hdT, h3⟩, fr⟩ := x
  have z3 : 3 < ts.size := (Array.getElem?_eq_some_iff.mp h3).1
  have oth : ∀ b, b ≠ T → (s.heap.update T (Obj.mapFields (·.setIfInBounds 3 (fl.elim Value.none fun f => rawInt f)))).get? b = s.heap.get? b := fun b hb => Heap.get?_update_other _ _ (Ne.symm hb)
  have t4 := Heap.get?_update_self (Obj.mapFields (·.setIfInBounds 3 (fl.elim Value.none fun f => rawInt f))) hT (Obj.isFreed_of_fields (Obj.data_mapFields hdT _))
  unfold setFlight
  apply wpAny_bind
  apply wpAny_field he hd h1
  rw [if_pos (by simp)]
  apply wpAny_setField hT hdT z3
  refine h _ T hF ⟨?_, fun b o hb => absurd hb (by simp), ?_⟩ ⟨⟨oe, vs, (oth e (Ne.symm hTe)).trans he, hc, hdx, hd, hsz, T, _, _, h1, hF, hTe, t4, Obj.data_mapFields hdT _, by simp [z3]⟩, fr⟩
  · intro b o _ hb q
    exact (oth b (fun z => hb (by rw [z]; exact List.mem_singleton.mpr rfl))).trans q
  · intro b o q
    by_cases hb : b = T
    · subst hb
      exact ⟨_, t4⟩
    · exact ⟨o, (oth b hb).trans q⟩
theorem note_ok {F : Addr → Prop} {base : Heap} {env : Env} {outer : List Env} {L e : Addr} {cls : Value} {dx : Option Addr} {st : XSt} {Q : Unit → Shared → Prop}
    (hfr : A.frames = some (env :: outer)) (hl : s.heap.FunFrames base (env :: outer)) (hf : env.frame = some L) (x : XO F s.heap e cls dx st)
    (h : ∀ h' ch, (∀ b ∈ ch, F b) → Mv ((env :: outer).filterMap (·.frame)) ch s.heap h' → XO (fun b => F b ∨ s.heap.get? b = none) h' e cls dx (.fl (rawInt L)) → Q () { s with heap := h' }) : wpAny M A (noteFrame (.ref e) env) Q E s := by
  obtain ⟨⟨oe, vs, he, hc, hdx, hd, hsz, hst⟩, fr⟩ := x
  unfold noteFrame
  simp only [hf]
  cases st with
  | new =>
    apply wpAny_bind
    apply wpAny_field he hd hst
    rw [if_neg (by decide)]
    refine entry_ok hfr hl hf he hd hsz.1 fun h' T mv tn tne he' ⟨oT, ts, hT, hdT, h3⟩ => ?_
    refine h h' [e] (fun b hb => by rw [List.mem_singleton.mp hb]; exact fr) mv ⟨⟨_, _, he', ?_, ?_, Obj.data_mapFields hd _, hsz.set _, T, oT, ts, by simp [hsz.1], .inr tn, tne, hT, hdT, h3⟩, .inl fr⟩
    · rw [Obj.cls_mapFields]; exact hc
    · rw [mapf_dict]; exact hdx
  | fl v =>
    obtain ⟨T, oT, ts, h1, hF, hTe, hT, hdT, h3⟩ := hst
    have z3 : 3 < ts.size := (Array.getElem?_eq_some_iff.mp h3).1
    apply wpAny_bind
    apply wpAny_field he hd h1
    rw [if_pos (by simp)]
    apply wpAny_bind
    apply wpAny_field hT hdT h3
    by_cases hv : (v == rawInt L) = true
    · rw [if_pos hv]
      have ev : v = rawInt L := beq_iff_eq.mp hv
      subst ev
      refine wpAny_pure (h s.heap [] (fun b hb => absurd hb (by simp)) (.refl ..) ⟨⟨oe, vs, he, hc, hdx, hd, hsz, T, oT, ts, h1, .inl hF, hTe, hT, hdT, h3⟩, .inl fr⟩)
    · rw [if_neg hv]
      apply wpAny_bind
      apply wpAny_setField hT hdT z3
      have oth : ∀ b, b ≠ T → (s.heap.update T (Obj.mapFields (·.setIfInBounds 3 Value.none))).get? b = s.heap.get? b := fun b hb => Heap.get?_update_other _ _ (Ne.symm hb)
      have t4 := Heap.get?_update_self (Obj.mapFields (·.setIfInBounds 3 Value.none)) hT (Obj.isFreed_of_fields (Obj.data_mapFields hdT _))
      have nrec : ∀ b o, s.heap.get? b = some o → (∀ vs, o.data ≠ .fields vs) → b ≠ T := by
        intro b o hb hn z
        rw [z, hT] at hb
        cases hb
        exact hn ts hdT
      have mv1 : Mv ((env :: outer).filterMap (·.frame)) [T] s.heap (s.heap.update T (Obj.mapFields (·.setIfInBounds 3 Value.none))) := by
        refine ⟨fun b o _ hb q => (oth b (fun z => hb (by rw [z]; exact List.mem_singleton.mpr rfl))).trans q, fun b o _ hb q => ⟨o.slots, (oth b (fun z => hb (by rw [z]; exact List.mem_singleton.mpr rfl))).trans q⟩, fun b o q => ?_⟩
        by_cases hb : b = T
        · subst hb
          exact ⟨_, t4⟩
        · exact ⟨o, (oth b hb).trans q⟩
      refine entry_ok (s := { s with heap := s.heap.update T (Obj.mapFields (·.setIfInBounds 3 Value.none)) }) hfr (hl.of_keeps fun b o hb hn => ⟨o, (oth b (nrec b o hb hn)).trans hb, rfl⟩) hf ((oth e (Ne.symm hTe)).trans he) hd hsz.1 fun h' T2 mv tn tne he' ⟨oT2, ts2, hT2, hdT2, h32⟩ => ?_
      refine h h' [T, e] ?_ (mv1.trans mv (fun b hb => by simp at hb; simp [hb]) (fun b hb => by simp at hb; simp [hb])) ⟨⟨_, _, he', ?_, ?_, Obj.data_mapFields hd _, hsz.set _, T2, oT2, ts2, by simp [hsz.1], .inr ?_, tne, hT2, hdT2, h32⟩, .inl fr⟩
      · intro b hb
        simp at hb
        rcases hb with rfl | rfl
        · exact hF
        · exact fr
      · rw [Obj.cls_mapFields]; exact hc
      · rw [mapf_dict]; exact hdx
      · cases q : s.heap.get? T2 with
        | none => rfl
        | some o =>
          obtain ⟨o', q'⟩ := mv1.there T2 o q
          rw [q'] at tn
          cases tn
end
end XH
set_option Elab.async false
set_option linter.all false
set_option maxRecDepth 100000
namespace L2
open PySem PySem.Spec PyProof.Rows XH
/-! ### an exception behind a call, in flight: it and its notes are untracked, and were not there ahead of the call -/
structure CXat (P : Program) (w : World) (outer : List Env) (H : Hp) (s : Shared) (a : Addr) (H' : Hp) (cls : Value) (dx : Option Addr) (st : XSt) (s' : Shared) : Prop where
  os : s'.os = s.os
  bare : AllBare s'.gens
  un : Un (frs outer) [] H H' s.heap s'.heap
  hok : HOk P w H' s'.heap
  xo : XO (fun b => s.heap.get? b = none ∧ H' b = none) s'.heap a cls dx st
def CX1 (P : Program) (w : World) : CXT := fun outer H s E e s' => ∃ a H' cls dx st, e = .ref a ∧ CXat P w outer H s a H' cls dx st s' ∧ E cls dx H'
section
variable {P : Program} {w : World} {H H' : Hp} {h h' h0 : Heap} {fs ch : List Addr} {a : Addr} {o : HO}
theorem ObjOk.there (x : ObjOk P w H h a o) : ∃ u, h.get? a = some u := by
  cases o with
  | lst xs => obtain ⟨_, _, _, _, e⟩ := x; exact ⟨_, e⟩
  | tup xs => obtain ⟨_, _, _, _, e, _⟩ := x; exact ⟨_, e⟩
  | dK kvs => obtain ⟨_, _, _, _, _, _, _, e, _⟩ := x; exact ⟨_, e⟩
  | dT kvs => obtain ⟨_, _, _, _, _, _, _, e, _⟩ := x; exact ⟨_, e⟩
  | set S n => obtain ⟨_, _, _, _, e, _⟩ := x; exact ⟨_, e⟩
  | ins C dx fs => obtain ⟨_, _, _, e, _⟩ := x; exact ⟨_, e⟩
  | own y => exact x
  | xd fs => obtain ⟨_, ⟨_, _, _, e, _⟩, _⟩ := x; exact ⟨_, e⟩
  | rng lo hi => obtain ⟨_, _, _, e⟩ := x; exact ⟨_, e⟩
  | frz ob u => obtain ⟨e, _⟩ := x; exact ⟨_, e⟩
  | tbl ps => exact ⟨_, show h.get? a = some _ from x⟩
  | met f y => exact ⟨_, show h.get? a = some _ from x⟩
  | ext φ => obtain ⟨_, ⟨_, e⟩, _⟩ := x; exact ⟨_, e⟩
theorem HOk.none_of (k : HOk P w H h) (q : h.get? a = none) : H a = none := by
  cases r : H a with
  | none => rfl
  | some o =>
    obtain ⟨u, e⟩ := (k a o r).there
    rw [q] at e
    cases e
theorem un_mv (u : Un fs [] H H' h0 h) (m : Mv fs ch h h') (hc : ∀ b ∈ ch, h0.get? b = none) : Un fs [] H H' h0 h' where
  keep := fun b o q n hb hx => m.keep b o hb (fun z => by rw [hc b z] at q; cases q) (u.keep b o q n hb hx)
  slot := fun b o q n hb hx => by
    obtain ⟨sl, q1⟩ := u.slot b o q n hb hx
    obtain ⟨sl2, q2⟩ := m.slot b _ hb (fun z => by rw [hc b z] at q; cases q) q1
    exact ⟨sl2, q2⟩
  free := u.free
  there := fun b o q hx => by
    obtain ⟨o1, q1⟩ := u.there b o q hx
    exact m.there b o1 q1
  tups := u.tups
  frzs := u.frzs
  tbls := u.tbls
theorem hok_mv (k : HOk P w H h) (m : Mv fs ch h h') (hc : ∀ b ∈ ch, H b = none) (hf : ∀ b ∈ fs, H b = none) : HOk P w H h' := fun a o e =>
  (k a o e).stay (fun b u hb q => by
    have t : H b ≠ none := by
      rcases hb with z | z
      · rw [z, e]; exact fun y => nomatch y
      · rw [z]; exact fun y => nomatch y
    exact m.keep b u (fun z => t (hf b z)) (fun z => t (hc b z)) q) (fun _ q => q) fun _ _ q => q
theorem _root_.XH.Mv.wider (m : Mv [] ch h h') : Mv fs ch h h' := ⟨fun b o _ hc q => m.keep b o (by simp) hc q, fun b o _ hc q => ⟨o.slots, m.keep b o (by simp) hc q⟩, m.there⟩
theorem funs_un {base : Heap} (u : Un fs [] H H' h h') : ∀ {l : List Env}, h.FunFrames base l → (∀ b ∈ frs l, b ∈ fs ∧ H b = none) → h'.FunFrames base l
  | [], _, _ => trivial
  | env :: r, ⟨hk, ⟨L, o, hf, hn, ho, hd⟩, hr⟩, hs => by
    have hL : L ∈ frs (env :: r) := by unfold frs; rw [List.filterMap_cons, hf]; exact List.mem_cons_self
    obtain ⟨sl, e⟩ := u.slot L o ho (hs L hL).2 (hs L hL).1 (by simp)
    exact ⟨hk, ⟨L, _, hf, hn, e, hd⟩, funs_un u hr fun b hb => hs b (by unfold frs; rw [List.filterMap_cons, hf]; exact List.mem_cons_of_mem _ hb)⟩
end
section
variable {P : Program} {w : World} {H H' : Hp} {s s' : Shared} {a L : Addr} {cls v : Value} {dx : Option Addr} {st : XSt} {env : Env} {outer : List Env} {base : Heap} {M : Model} {A : Around} {Z : Value → Shared → Prop} {Q : Unit → Shared → Prop}
theorem CXat.frees (c : CXat P w outer H s a H' cls dx st s') (hl : s.heap.FunFrames base outer) (hH : ∀ b ∈ frs outer, H b = none) : ∀ b ∈ frs outer, H' b = none := fun b hb => by
  obtain ⟨_, o, ho, _⟩ := hl.mem hb
  exact c.un.free b o ho (hH b hb) (by simp)
theorem CXat.note (c : CXat P w (env :: outer) H s a H' cls dx st s') (hfr : A.frames = some (env :: outer)) (hf : env.frame = some L) (hl : s.heap.FunFrames base (env :: outer)) (hH : ∀ b ∈ frs (env :: outer), H b = none)
    (h : ∀ s'', CXat P w (env :: outer) H s a H' cls dx (.fl (rawInt L)) s'' → Q () s'') : wpAny M A (noteFrame (.ref a) env) Q Z s' := by
  refine note_ok hfr (funs_un c.un hl fun b hb => ⟨hb, hH b hb⟩) hf c.xo fun h' ch hch mv x => h _ ?_
  refine ⟨c.os, c.bare, un_mv c.un mv fun b hb => (hch b hb).1, hok_mv c.hok mv (fun b hb => (hch b hb).2) (c.frees hl hH), x.mono ?_⟩
  rintro b (q | q)
  · exact q
  · refine ⟨?_, c.hok.none_of q⟩
    cases r : s.heap.get? b with
    | none => rfl
    | some o =>
      obtain ⟨o', r'⟩ := c.un.there b o r (by simp)
      rw [r'] at q
      cases q
theorem CXat.flight {fl : Option Addr} (c : CXat P w outer H s a H' cls dx (.fl v) s') (hl : s.heap.FunFrames base outer) (hH : ∀ b ∈ frs outer, H b = none)
    (h : ∀ s'', CXat P w outer H s a H' cls dx (.fl (fl.elim .none fun f => rawInt f)) s'' → Q () s'') : wpAny M A (setFlight (.ref a) fl) Q Z s' := by
  refine flight_ok c.xo fun h' T hT mv x => h _ ⟨c.os, c.bare, un_mv c.un mv.wider fun b hb => ?_, hok_mv c.hok (mv.wider (fs := frs outer)) (fun b hb => ?_) (c.frees hl hH), x⟩
  · rw [List.mem_singleton.mp hb]; exact hT.1
  · rw [List.mem_singleton.mp hb]; exact hT.2
end
/-- what is wanted of an exception in a body: E speaks of the names, its class, its dict, the heap -/
def XS (X : Cx) (E : St → XK) : Value → Shared → Prop := fun e s' => ∃ σ H0 s0, Inv X [] σ H0 s0 ∧ CX1 X.prog X.w X.stack H0 s0 (E σ) e s'
def PassX (X : Cx) (E : St → XK) : Prop := ∀ (pins : List (Addr × Obj)) (σ : St) (H : Hp) (s : Shared) (e : Value) (s' : Shared), Inv X pins σ H s → CX1 X.prog X.w X.stack H s (E σ) e s' → X.xe e s'
theorem passX {X : Cx} {E : St → XK} : PassX (X.wish (XS X E)) E := fun pins σ H s e s' I c => ⟨σ, H, s, I.unwish.pins_of (fun p hp => absurd hp (by simp)), c⟩
def tCallX (sp : Sp) (dvs : List V) (E : St → XK) (t : TA) : TE := fun σ H Q => t σ H fun vs H1 => sp (vs ++ dvs) H1 Q (E σ)
section
variable {X : Cx} {k : Nat} {f C : Addr} {fd : FuncData} {ps : List Str} {sp : Sp} {dvs : List V} {ds : List Value} {E : St → XK} {x m : Str} {p pos apos : Pos} {e o : Expr} {es : List Expr} {ta : TE} {t : TA}
theorem run_fnX {pins : List (Addr × Obj)} {σ : St} {H : Hp} {s : Shared} {Q : VK} {us : List Value} {vs : List V} (F : FnOk X.prog X.w X.K X.mg X.base (CX1 X.prog X.w) k f fd ps sp) (hr : Room k X.A) (hb : Binds X.K fd ps ds) (hd : Vals dvs ds) (hx : PassX X E)
    (I : Inv X pins σ H s) (r : Vals vs us) (h : sp (vs ++ dvs) H Q (E σ)) : wpAny (model X.prog X.w) X.A (call (.ref f) us) (EP X pins σ Q) X.xe s := by
  have r2 : Vals (vs ++ dvs) (us ++ ds) := r.append hd
  have hl : (us ++ ds).length = ps.length := by rw [← r2.length]; exact F.len _ _ _ _ h
  refine wpAny_call (codeAny_mono (F.run X.A X.stack s H ⟨us, []⟩ (us ++ ds) (vs ++ dvs) Q (E σ) hr I.env0 (hb s us I.kIn hl) r2 h) fun r s' hq => ?_)
  cases r with
  | error e => exact hx pins σ H s e s' I hq
  | ok fl =>
    cases fl with
    | ret u => exact I.after hq
    | next => exact False.elim hq
    | brk => exact False.elim hq
    | cont => exact False.elim hq
end
theorem PSs.toX {X : Cx} {E' : Value → Shared → Prop} {st : List Stmt} {t : TS} (h : PSs (X.wish E') st t) (k : ∀ e s, E' e s → X.xe e s) : PSs X st t := fun pins s σ H D I hw =>
  wpAny_mono (h pins s σ H D (I.wish _) hw) (fun _ _ q => q.unwish) fun e s z => k e s z
section
variable {P : Program} {w : World} {K : PySem.W.Frag} {mg : Str → Option Value} {base : Heap}
theorem leave_ok {N : List Str} {qual : Str} {scope : Scope} {f : Addr} {cd : Value} {A : Around} {outer : List Env} {s : Shared} {H : Hp} {E : XK} {e : Value} {s' : Shared}
    (h : XS (cxOf (CX1 P w) P w K mg base N qual scope f cd A outer s H E) (fun _ => E) e s') : (cxOf (CX1 P w) P w K mg base N qual scope f cd A outer s H E).xe e s' := by
  obtain ⟨σ, H0, s0, I, a, H', cls, dx, st, rfl, c, hE⟩ := h
  show wpAny (model P w) (A.deeper (envOfC qual scope s.heap.objs.size f cd)) (leaving (envOfC qual scope s.heap.objs.size f cd) (.ref a)) (fun _ s'' => CX1 P w outer H s E (.ref a) s'') (fun e' s'' => CX1 P w outer H s E e' s'') s'
  unfold leaving
  apply wpAny_bind
  refine c.note (L := s.heap.objs.size) I.ok.frames rfl I.stack I.stkFree fun s1 c1 => ?_
  refine c1.flight I.stack I.stkFree fun s2 c2 => ?_
  have J := I.call' c2.os c2.un c2.hok c2.bare (fun b z => absurd z (by simp))
  refine ⟨a, H', cls, dx, _, rfl, ⟨J.os, c2.bare, J.base, c2.hok, c2.xo.mono fun b q => ⟨?_, q.2⟩⟩, hE⟩
  cases r : s.heap.get? b with
  | none => rfl
  | some o =>
    obtain ⟨o', r'⟩ := I.base.there b o r (fun z => absurd (show b ∈ ([] : List Addr) from z) (by simp))
    rw [q.1] at r'
    cases r'
/-- THE RULE for a def that may refuse -/
theorem fn_ofX {k : Nat} {f : Addr} {name qual : Str} {params : Arguments} {body : List Stmt} {scope : Scope} {dV kV doc pm cdv ct oc : Value} {an od : Option Addr}
    {osl : Array (Option Value)} {N ps : List Str} {sp : Sp} (lk : K.lookup f = some ⟨oc, od, .func (PySem.W.fnOf name qual params body scope dV kV doc pm an cdv ct), osl⟩) (hcd : PySem.W.codeIn K cdv qual = true) (S : FnScope N ps scope)
    (len : ∀ vs H Q E, sp vs H Q E → vs.length = ps.length)
    (hbody : ∀ (A : Around) (outer : List Env) (s : Shared) (H : Hp) (vs : List V) (Q : VK) (E : XK), Room k (A.deeper (envOfC qual scope s.heap.objs.size f cdv)) → sp vs H Q E →
      ∃ t, PSs ((cxOf (CX1 P w) P w K mg base N qual scope f cdv A outer s H E).wish (XS (cxOf (CX1 P w) P w K mg base N qual scope f cdv A outer s H E) fun _ => E)) body t ∧ t { nx := fun _ H' => Q .non H', rt := Q } (start N vs) H) :
    FnOk P w K mg base (CX1 P w) (k + 1) f (PySem.W.fnOf name qual params body scope dV kV doc pm an cdv ct) ps sp := by
  refine fn_of lk hcd S len fun A outer s H vs Q E hr hsp => ?_
  obtain ⟨t, h, q⟩ := hbody A outer s H vs Q E hr hsp
  exact ⟨t, h.toX fun e s' z => leave_ok z, q⟩
theorem Fun.okX {x qual : Str} {st : Stmt} {f : Addr} {fd : FuncData} {N ps : List Str} {k : Nat} {sp : Sp} (F : Fun K x qual st f fd) (S : FnScope N ps (defScope st)) (len : ∀ vs H Q E, sp vs H Q E → vs.length = ps.length)
    (hbody : ∀ (cdv : Value) (A : Around) (outer : List Env) (s : Shared) (H : Hp) (vs : List V) (Q : VK) (E : XK), Room k (A.deeper (envOfC qual (defScope st) s.heap.objs.size f cdv)) → sp vs H Q E →
      ∃ t, PSs ((cxOf (CX1 P w) P w K mg base N qual (defScope st) f cdv A outer s H E).wish (XS (cxOf (CX1 P w) P w K mg base N qual (defScope st) f cdv A outer s H E) fun _ => E)) (defBody st) t ∧ t { nx := fun _ H' => Q .non H', rt := Q } (start N vs) H) : FnOk P w K mg base (CX1 P w) (k + 1) f fd ps sp := by
  obtain ⟨oc, od, kV, doc, pm, an, cdv, ct, osl, rfl, lk, hcd⟩ := F.ex
  exact fn_ofX lk hcd S len fun A outer s H vs Q E hr hsp => hbody cdv A outer s H vs Q E hr hsp
/-- a promise under which it refuses nothing -/
theorem FnOk.noraise {k : Nat} {f : Addr} {fd : FuncData} {ps : List Str} {sp sp0 : Sp} (F : FnOk P w K mg base (CX1 P w) k f fd ps sp) (h : ∀ vs H Q E, sp0 vs H Q E → sp vs H Q E0) : FnOk P w K mg base CX0 k f fd ps sp0 :=
  ⟨fun vs H Q E q => F.len vs H Q E0 (h _ _ _ _ q), fun A outer s H args us vs Q E hr he hb hv hs => codeAny_mono (F.run A outer s H args us vs Q E0 hr he hb hv (h _ _ _ _ hs)) fun r s' hq => by
    cases r with
    | error e => obtain ⟨_, _, _, _, _, _, _, z⟩ := hq; exact z.elim
    | ok fl => cases fl <;> exact hq⟩
end
/-! ### try -/
abbrev Cx.tried (X : Cx) (pins : List (Addr × Obj)) : Cx := { X with pn := X.pn ++ pins }
abbrev Cx.suite (X : Cx) (pins : List (Addr × Obj)) (a : Addr) : Cx := { X with A := X.A.mark (some (.ref a)), calm := false, pn := X.pn ++ pins, xe := fun _ _ => False }
/-- an exception that was caught or made, tracked -/
def excB (n : Bool) (a : Addr) (cls : Value) (dx : Option Addr) : HO := .ext fun h => ∃ ox vs, h.get? a = some ox ∧ ox.cls = cls ∧ ox.dict = dx ∧ ox.data = .fields vs ∧ vs[2]? = some .none ∧ (n = true → 1 < vs.size ∧ vs[1]? = some .none)
abbrev excO := excB false
theorem excB_ok {P : Program} {w : World} {H : Hp} {h : Heap} {n : Bool} {a : Addr} {cls : Value} {dx : Option Addr} {ox : Obj} {vs : Array Value} (h1 : h.get? a = some ox) (h2 : ox.cls = cls) (h3 : ox.dict = dx) (h4 : ox.data = .fields vs) (h6 : vs[2]? = some .none) (h5 : n = true → 1 < vs.size ∧ vs[1]? = some .none) : ObjOk P w H h a (excB n a cls dx) :=
  ⟨⟨ox, vs, h1, h2, h3, h4, h6, h5⟩, ⟨ox, h1⟩, fun _ _ ⟨oy, ws, q, r⟩ kp => ⟨oy, ws, kp _ q, r⟩⟩
abbrev TH := Ends → St → Value → Option Addr → Hp → Addr → Prop
def PH (X : Cx) (hs : List ExceptHandler) (th : TH) : Prop :=
  ∀ (pins : List (Addr × Obj)) (σ : St) (H0 : Hp) (s0 : Shared) (D : Ends) (a : Addr) (H' : Hp) (cls v : Value) (dx : Option Addr) (s' : Shared), Inv X pins σ H0 s0 → CXat X.prog X.w X.stack H0 s0 a H' cls dx (.fl v) s' → th D σ cls dx H' a →
    wpAny (model X.prog X.w) X.A (handleBy (.ref a) X.env hs) (SP X pins D) X.xe s'
section
variable {X : Cx} {pins : List (Addr × Obj)} {σ : St} {H H' : Hp} {s s' : Shared}
theorem Inv.tried (I : Inv X pins σ H s) : Inv (X.tried pins) [] σ H s :=
  ⟨⟨I.ok.mod, I.ok.kind, I.ok.glob, I.ok.blt, I.ok.above, I.ok.inj, I.ok.has, I.ok.cab, I.ok.hd, I.ok.frames, I.ok.stk, I.ok.exf, I.ok.bs, I.ok.bsz, I.ok.noex, I.ok.exfs, I.ok.funs, I.ok.frf⟩,
    I.os, I.bare, I.base, I.loc, I.cell, I.free, I.freeC, fun p hp => I.pin p (by simpa using hp), I.hok, I.len⟩
theorem Inv.untried (I : Inv (X.tried pins) [] σ H s) : Inv X pins σ H s :=
  ⟨⟨I.ok.mod, I.ok.kind, I.ok.glob, I.ok.blt, I.ok.above, I.ok.inj, I.ok.has, I.ok.cab, I.ok.hd, I.ok.frames, I.ok.stk, I.ok.exf, I.ok.bs, I.ok.bsz, I.ok.noex, I.ok.exfs, I.ok.funs, I.ok.frf⟩,
    I.os, I.bare, I.base, I.loc, I.cell, I.free, I.freeC, fun p hp => I.pin p (by simpa using hp), I.hok, I.len⟩
theorem Inv.insuite (I : Inv X pins σ H s) (a : Addr) : Inv (X.suite pins a) [] σ H s :=
  ⟨⟨I.ok.mod, I.ok.kind, I.ok.glob, I.ok.blt, I.ok.above, I.ok.inj, I.ok.has, I.ok.cab, fun z => (Bool.noConfusion z), I.ok.frames, I.ok.stk, I.ok.exf, I.ok.bs, I.ok.bsz, I.ok.noex, I.ok.exfs, I.ok.funs, I.ok.frf⟩,
    I.os, I.bare, I.base, I.loc, I.cell, I.free, I.freeC, fun p hp => I.pin p (by simpa using hp), I.hok, I.len⟩
theorem Inv.outsuite {a : Addr} (ok : X.Ok) (I : Inv (X.suite pins a) [] σ H s) : Inv X pins σ H s :=
  ⟨ok, I.os, I.bare, I.base, I.loc, I.cell, I.free, I.freeC, fun p hp => I.pin p (by simpa using hp), I.hok, I.len⟩
/-- a name that goes -/
theorem Inv.unbound {n : Str} {i : Nat} {h' : Heap} {m : Str → Option Value} {v : Option Value} {t' : Nat} (I : Inv X pins σ H s) (hi : X.N[i]? = some n) (hN : X.N.Nodup)
    (hm : ∀ (j : Nat) (x : Str) (v : V), X.N[j]? = some x → σ[j]? = some (some v) → Vis X.env.scope x → ∃ u, RelV v u ∧ Look X.env s.heap m x u)
    (hn : h'.Ns X.env.locals (fun x => if x = n then v else m x)) (hs : Heap.SameBut X.env.locals s.heap h') : Inv X pins (σ.set i none) H { s with heap := h', toks := t' } := by
  obtain ⟨m0, hn0, _⟩ := id I.loc
  obtain ⟨oL, _, _, hoL, _⟩ := id hn0
  have cne := I.cne
  have low : ∀ b o, X.s₀.heap.get? b = some o → b ≠ X.env.locals := fun b o e => Nat.ne_of_lt (Nat.lt_of_lt_of_le (Heap.lt_size e) I.ok.above)
  refine ⟨I.ok, I.os, I.bare, ⟨fun b o e n hb hx => ?_, fun b o e n hb hx => ?_, I.base.free, fun b o e hx => ?_, I.base.tups, I.base.frzs, I.base.tbls⟩, ⟨_, hn, fun j y v' e1 e2 e3 => ?_⟩, fun y c e => ?_, I.free, I.freeC, fun p hp => ?_, fun b ob e => ?_, by simpa using I.len⟩
  · exact (hs.2 b (low b o e)).trans (I.base.keep b o e n hb hx)
  · obtain ⟨sl, e1⟩ := I.base.slot b o e n hb hx
    exact ⟨sl, (hs.2 b (low b o e)).trans e1⟩
  · obtain ⟨o', e1⟩ := I.base.there b o e hx
    exact ⟨o', (hs.2 b (low b o e)).trans e1⟩
  · by_cases hj : j = i
    · subst hj
      rw [List.getElem?_set] at e2
      simp at e2
    · rw [List.getElem?_set_ne (Ne.symm hj)] at e2
      obtain ⟨u', r', q⟩ := hm j y v' e1 e2 e3
      refine ⟨u', r', ?_⟩
      rcases q with ⟨k, e⟩ | ⟨k, c, e, z⟩
      · refine .inl ⟨k, ?_⟩
        have : y ≠ n := fun e => hj (nodup_ix hN e1 (e ▸ hi))
        simp [this, e]
      · exact .inr ⟨k, c, e, z.sameBut hs (cne y c e)⟩
  · obtain ⟨w', z⟩ := I.cell y c e
    exact ⟨w', z.sameBut hs (cne y c e)⟩
  · obtain ⟨e, n, ne, nf, d⟩ := I.pin p hp
    exact ⟨(hs.2 p.1 ne).trans e, n, ne, nf, d⟩
  · refine (I.hok b ob e).stay (fun c w' hc q => (hs.2 c ?_).trans q) (fun _ q => q) fun _ _ q => q
    rintro rfl
    rcases hc with rfl | hc
    · rw [I.free] at e; cases e
    · rw [I.free] at hc; cases hc
/-- the exception is tracked from here on -/
theorem un_track {fs : List Addr} {h0 h : Heap} {a : Addr} {o : HO} (u : Un fs [] H H' h0 h) (n0 : h0.get? a = none) (na : H' a = none) : Un fs [] H (upd H' a o) h0 h where
  keep := u.keep
  slot := u.slot
  free := fun b ob q n hx => by
    have : b ≠ a := fun z => by rw [z, n0] at q; cases q
    rw [upd_ne this]
    exact u.free b ob q n hx
  there := u.there
  tups := fun b xs e => by
    have q := u.tups b xs e
    rw [upd_ne (ne_of_none q na)]
    exact q
  frzs := fun b o' w' e => by
    have q := u.frzs b o' w' e
    rw [upd_ne (ne_of_none q na)]
    exact q
  tbls := fun b ps e => by
    obtain ⟨mo, q⟩ := u.tbls b ps e
    exact ⟨mo, by rw [upd_ne (ne_of_none q na)]; exact q⟩
theorem hok_track {P : Program} {w : World} {h : Heap} {a : Addr} {o : HO} (k : HOk P w H h) (na : H a = none) (new : ObjOk P w (upd H a o) h a o) : HOk P w (upd H a o) h := fun b u e => by
  by_cases hb : b = a
  · subst hb; rw [upd_same] at e; cases e; exact new
  · rw [upd_ne hb] at e
    exact (k b u e).stay (fun c v _ q => q) (fun c q => by rw [upd_ne (ne_of_none q na)]; exact q) fun c xs q => by rw [upd_ne (ne_of_none q na)]; exact q
theorem CXat.caught {a : Addr} {cls : Value} {dx : Option Addr} {st : XSt} (I : Inv X pins σ H s) (c : CXat X.prog X.w X.stack H s a H' cls dx st s') : Inv X pins σ (upd H' a (excO a cls dx)) s' := by
  obtain ⟨⟨oe, vs, he, hc, hd, hda, hz, _⟩, n0, na⟩ := c.xo
  refine I.call' c.os (un_track c.un n0 na) (hok_track c.hok na (excB_ok he hc hd hda hz.2 fun z => nomatch z)) c.bare fun b z => absurd z (by simp)
end
section
variable {X : Cx} {body : List Stmt} {h₀ : ExceptHandler} {hs : List ExceptHandler} {pos : Pos} {th : TH}
def tTry (tb : (St → XK) → TS) (th : TH) : TS := fun D σ H => tb (fun σ' cls dx H' => ∀ a, H' a = none → th D σ' cls dx H' a) D σ H
theorem SP.untried {pins : List (Addr × Obj)} {E : Value → Shared → Prop} {D : Ends} {f : Flow} {s' : Shared} (h : SP ((X.tried pins).wish E) [] D f s') : SP X pins D f s' := by
  cases f with
  | next => obtain ⟨σ', H', I, q⟩ := h; exact ⟨σ', H', I.unwish.untried, q⟩
  | brk => obtain ⟨σ', H', I, q⟩ := h; exact ⟨σ', H', I.unwish.untried, q⟩
  | cont => obtain ⟨σ', H', I, q⟩ := h; exact ⟨σ', H', I.unwish.untried, q⟩
  | ret u => obtain ⟨v, σ', H', I, r, q⟩ := h; exact ⟨v, σ', H', I.unwish.untried, r, q⟩
theorem ps_try {tb : (St → XK) → TS} (hstk : X.stack = X.env :: X.outer) (hfm : X.env.frame = some X.env.locals)
    (hb : ∀ (pins : List (Addr × Obj)) (E : St → XK), PSs ((X.tried pins).wish (XS (X.tried pins) E)) body (tb E)) (hh : PH X (h₀ :: hs) th) : PS X (.Try body (h₀ :: hs) [] [] pos) (tTry tb th) := by
  intro pins s σ H D I h
  refine wpAny_Try_except ?_
  refine wpAny_mono (hb pins _ [] s σ H D (I.tried.wish _) h) (fun f s1 q => ?_) fun e s1 hx => ?_
  · have q := q.untried
    cases f with
    | next => exact wpAny_execs_nil q
    | brk => exact q
    | cont => exact q
    | ret u => exact q
  · obtain ⟨σ', H0, s0, I0, a, H', cls, dx, st, rfl, c, hE⟩ := hx
    have c' : CXat X.prog X.w (X.env :: X.outer) H0 s0 a H' cls dx st s1 := hstk ▸ c
    have J := I0.untried
    have fr : X.A.frames = some (X.env :: X.outer) := by rw [← hstk]; exact J.ok.frames
    have st1 : s0.heap.FunFrames X.base (X.env :: X.outer) := by rw [← hstk]; exact J.stack
    have sf : ∀ b ∈ frs (X.env :: X.outer), H0 b = none := by rw [← hstk]; exact J.stkFree
    refine c'.note fr hfm st1 sf fun s2 c2 => ?_
    refine c2.flight st1 sf fun s3 c3 => ?_
    exact hh pins σ' H0 s0 D a H' cls _ dx s3 J (hstk ▸ c3) (hE a c3.xo.fr.2)
theorem ph_nil : PH X [] (fun _ _ _ _ _ _ => False) := fun _ _ _ _ _ _ _ _ _ _ _ _ _ h => h.elim
end
/-- what an except clause asks of its class -/
structure XT (K : PySem.W.Frag) (C : Addr) : Prop where
  ty : PySem.W.typeIn K (.ref C) = some (.type "type")
  cl : (PySem.W.clsIn K C).isSome = true
  ex : PySem.W.subIn K (.ref C) (.type "BaseException") = some true
theorem looks_isType {K : PySem.W.Frag} {M : Model} {h : Heap} {C : Addr} (X : K.In h) (e : (PySem.W.clsIn K C).isSome = true) : PySem.W.Looks M h (isType (.ref C)) true := by
  unfold PySem.W.clsIn at e
  split at e
  · rename_i ho
    intro A' Q' E' s' k q
    unfold isType loadHead
    exact wpAny_bind (wpAny_loadPart (k _ _ (X _ _ ho)) (wpAny_pure q))
  · cases e
end L2
set_option Elab.async false
set_option linter.all false
set_option maxRecDepth 100000
namespace L2
open PySem PySem.Spec PyProof.Rows XH
structure XG (K : PySem.W.Frag) (C : Addr) : Prop where
  ga : PySem.W.findIn K (.ref C) "__getattribute__" = some (some (.builtin "BaseException.__getattribute__"))
  gt : PySem.W.findIn K (.ref C) "__getattr__" = some none
  be : PySem.W.mroIn K C (.type "BaseException") = some true
section
variable {prog : Program} {w : World} {A : Around} {E : Value → Shared → Prop} {K : PySem.W.Frag} {h : Heap} {g : Array GenState} {d : Drawn} {t : Nat} {os : OsState} {x C : Addr} {ox : Obj} {od : Option Obj} {name : Str}
open PySem.W in
theorem exc_check {nameV : Value} {Q : Unit → Shared → Prop} (X : K.In h) (I : InstAt h x ox C od) (G : XG K C) (hq : Q () ⟨h, g, d, t, os⟩) :
    wpAny (model prog w) A (checkBuiltinCall "BaseException.__getattribute__" ⟨[.ref x, nameV], []⟩) Q E ⟨h, g, d, t, os⟩ := by
  have hk : builtinKind "BaseException.__getattribute__" = some .slot := by decide +kernel
  have hs : splitId "BaseException.__getattribute__" = some ("BaseException", "__getattribute__") := by decide +kernel
  have l0 := I.type (M := model prog w)
  have l1 := looks_mroIn (M := model prog w) X G.be
  have ha := F.args_bexc_ga (.ref x) nameV
  have l2 : Looks (model prog w) h (isInstance (.ref x) (.type "BaseException")) true := l0.andThen l1
  simp only [checkBuiltinCall, hk, hs]
  refine wpAny_bind ?_
  unfold isInstance
  have hx := I.at_
  have hc := I.cls
  repeat (first | (with_reducible refine wpAny_loadPart_at hx ?_; rw [hc]) | with_reducible refine l1.at ?_ | wp_step)
  exact hq
open PySem.W in
theorem exc_entry_bind {tk : Tok} {gv a : Value} {Q : Fin → Shared → Prop} (X : K.In h) (I : InstAt h x ox C od) (hf : findObj K C od name = some (.bind gv a))
    (hq : wpAny (model prog w) A (call gv [a, .ref x, .ref C]) (fun v s' => Q (.done (.ret v)) s') E ⟨h, g, d, t, os⟩) :
    wpAny (model prog w) A (Builtin.«object.__getattribute__» ⟨[.ref x, .str name tk], []⟩) Q E ⟨h, g, d, t, os⟩ := by
  have l0 := I.type (M := model prog w)
  have l1 := looks_find (M := model prog w) X I hf
  unfold Builtin.«object.__getattribute__»
  refine wpAny_bind (wpAny_pure (wpAny_bind (wpAny_pure (wpAny_bind (l0.at (wpAny_bind (l1.at ?_)))))))
  show wpAny _ _ (holding [a] (call gv [a, .ref x, .ref C]) >>= ret) _ _ _
  exact wpAny_bind (wpAny_holding (wpAny_mono hq (fun v s' z => wpAny_pure z) fun _ _ z => z))
open PySem.W in
theorem exc_by {tk : Tok} {fill expr : Bool} {Q : Value → Shared → Prop} (X : K.In h) (I : InstAt h x ox C od) (G : XG K C)
    (hq : ∀ A' : Around, wpAny (model prog w) A' (Builtin.«object.__getattribute__» ⟨[.ref x, .str name tk], []⟩) (fun fin s' => match fin with | .done (.ret v) => wpAny (model prog w) A (handedOut v) Q E s' | _ => False) (fun _ _ => False) ⟨h, g, d, t, os⟩) :
    wpAny (model prog w) A (getAttrBy (.ref x) (.str name tk) fill expr) Q E ⟨h, g, d, t, os⟩ := by
  have l0 := I.type (M := model prog w)
  have l1 := looks_findIn (M := model prog w) X G.ga
  have l2 := looks_findIn (M := model prog w) X G.gt
  have fb := F.attrBase_ValueError
  have f3 := fb.ga.bind (.ref x)
  unfold getAttrBy
  refine wpAny_holding (wpAny_bind (l0.at (wpAny_bind (l1.at ?_))))
  have hx2 : (Value.builtin "BaseException.__getattribute__" == Value.builtin "object.__getattribute__") = false := by decide +kernel
  simp only [hx2, Bool.and_false, Bool.false_eq_true, if_false]
  unfold getAttrByItsOwn hookBefore
  refine wpAny_bind ?_
  rw [if_pos (show onTheHeap (.ref C) = true from rfl)]
  refine l2.at ?_
  refine wpAny_bind (wpAny_attempt (wpAny_holding ?_))
  unfold callGetattribute
  rw [if_neg (by cases expr <;> exact Bool.false_ne_true)]
  unfold boundAndCalled
  refine wpAny_bind (wpAny_of_eq f3 ?_)
  refine wpAny_call (codeAny_call_builtin fb.ga.plain F.entry_bexc_ga (exc_check X I G (wpAny_mono (hq _) (fun fin s' z => ?_) fun _ _ z => z.elim)))
  rcases fin with (_ | _ | _ | _) | _ <;> first | exact z.elim | exact z
end
end L2
set_option Elab.async false
set_option linter.all false
set_option maxRecDepth 100000
namespace L2
open PySem PySem.Spec PyProof.Rows XH
section
variable {prog : Program} {w : World} {A : Around} {E : Value → Shared → Prop} {K : PySem.W.Frag}
theorem matches_ok {h : Heap} {g : Array GenState} {d : Drawn} {t : Nat} {os : OsState} {e C C' : Addr} {oe : Obj} {b : Bool} {Q : Bool → Shared → Prop} (KX : K.In h) (he : h.get? e = some oe) (hc : oe.cls = .ref C) (T : XT K C')
    (hsub : PySem.W.subIn K (.ref C) (.ref C') = some b) (hq : Q b ⟨h, g, d, t, os⟩) : wpAny (model prog w) A (excMatches (.ref e) (.ref C')) Q E ⟨h, g, d, t, os⟩ := by
  have l1 := PySem.W.looks_typeIn (M := model prog w) KX T.ty
  have l2 := PySem.W.looks_subIn (M := model prog w) KX T.ex
  have l3 := PySem.W.looks_subIn (M := model prog w) KX hsub
  have l4 := looks_isType (M := model prog w) KX T.cl
  have l5 : PySem.W.Looks (model prog w) h (isInstance (.ref C') (.type "tuple")) false := l1.andThen (PySem.W.Looks.of_pure tc_notTuple)
  have l6 : PySem.W.Looks (model prog w) h (isExcClass (.ref C')) true := by
    unfold isExcClass
    refine l4.andThen ?_
    exact l2
  unfold excMatches
  repeat (first | with_reducible refine wpAny_bind (l5.at ?_) | with_reducible refine wpAny_bind (l6.at ?_) | with_reducible refine wpAny_bind (l3.at ?_) | (with_reducible refine wpAny_loadPart_at he ?_; rw [hc]) | wp_step)
  cases b <;> (wp_walk; exact hq)
end
/-- a name that goes behind its suite -/
def offE (i : Nat) (D : Ends) : Ends := { nx := fun σ H => D.nx (σ.set i none) H, rt := D.rt, bk := fun σ H => D.bk (σ.set i none) H, ct := fun σ H => D.ct (σ.set i none) H }
def tHas (K : PySem.W.Frag) (C' : Addr) (i : Nat) (t : TS) (r : TH) : TH := fun D σ cls dx H a => ∃ C b, cls = .ref C ∧ PySem.W.subIn K (.ref C) (.ref C') = some b ∧
  if b = true then t (offE i D) (σ.set i (some (.ref a))) (upd H a (excO a cls dx)) else r D σ cls dx H a
def tHno (K : PySem.W.Frag) (C' : Addr) (t : TS) (r : TH) : TH := fun D σ cls dx H a => ∃ C b, cls = .ref C ∧ PySem.W.subIn K (.ref C) (.ref C') = some b ∧
  if b = true then t D σ (upd H a (excO a cls dx)) else r D σ cls dx H a
section
variable {X : Cx} {x n : Str} {np pos : Pos} {b0 : Stmt} {suite : List Stmt} {rest : List ExceptHandler} {i : Nat} {C' : Addr} {t : TS} {th : TH}
theorem gone_ok {pins : List (Addr × Obj)} {a : Addr} {D : Ends} {f : Flow} {s : Shared} {M : Model} {A : Around} {E : Value → Shared → Prop} (ok : X.Ok) (hN : X.N.Nodup) (hi : X.N[i]? = some n) (hloc : X.env.scope.names.lookup n = some .local)
    (q : SP (X.suite pins a) [] (offE i D) f s) : wpAny M A (do bindName X.env n .none; unbindBehindTheSuite X.env n pos) (fun _ s' => SP X pins D f s') E s := by
  have hcls : (X.env.scope.kind == .class || (X.env.scope.kind == .module && X.env.locals != X.env.globals)) = false := by rw [ok.kind]; rfl
  cases f with
  | next =>
    obtain ⟨σ, H, I, q⟩ := q
    have J := I.outsuite ok
    obtain ⟨m, hn, hl⟩ := id J.loc
    exact wpAny_nameGoes_keeps hloc hn hcls fun h' v hn' hs => ⟨_, H, J.unbound hi hN hl hn' hs, q⟩
  | brk =>
    obtain ⟨σ, H, I, q⟩ := q
    have J := I.outsuite ok
    obtain ⟨m, hn, hl⟩ := id J.loc
    exact wpAny_nameGoes_keeps hloc hn hcls fun h' v hn' hs => ⟨_, H, J.unbound hi hN hl hn' hs, q⟩
  | cont =>
    obtain ⟨σ, H, I, q⟩ := q
    have J := I.outsuite ok
    obtain ⟨m, hn, hl⟩ := id J.loc
    exact wpAny_nameGoes_keeps hloc hn hcls fun h' v hn' hs => ⟨_, H, J.unbound hi hN hl hn' hs, q⟩
  | ret u =>
    obtain ⟨v, σ, H, I, r, q⟩ := q
    have J := I.outsuite ok
    obtain ⟨m, hn, hl⟩ := id J.loc
    exact wpAny_nameGoes_keeps hloc hn hcls fun h' v' hn' hs => ⟨v, _, H, J.unbound hi hN hl hn' hs, r, q⟩
theorem SP.outsuite {pins : List (Addr × Obj)} {a : Addr} {D : Ends} {f : Flow} {s : Shared} (ok : X.Ok) (h : SP (X.suite pins a) [] D f s) : SP X pins D f s := by
  cases f with
  | next => obtain ⟨σ', H', I, q⟩ := h; exact ⟨σ', H', I.outsuite ok, q⟩
  | brk => obtain ⟨σ', H', I, q⟩ := h; exact ⟨σ', H', I.outsuite ok, q⟩
  | cont => obtain ⟨σ', H', I, q⟩ := h; exact ⟨σ', H', I.outsuite ok, q⟩
  | ret u => obtain ⟨v, σ', H', I, r, q⟩ := h; exact ⟨v, σ', H', I.outsuite ok, r, q⟩
end
/-! ### raise -/
def bmV : List Value := [.type "ValueError", .type "Exception", .type "BaseException", .type "object"]
theorem exc_of {K : PySem.W.Frag} {h : Heap} {C : Addr} {bmB : List Value} {nw : String} (X : K.In h) (q : PySem.W.excIn K C bmB nw = true) :
    ∃ bm N nm qn bs hdct sn sub ab col dd k0 k1 k2 k3 k5 mN, h.get? C = some (excClassObj nm qn C N bs bm hdct sn sub ab col dd k0 k1 k2 k3 k5 nw) ∧ h.Ns N mN ∧ mN "__init__" = none ∧ OwnTail h bmB bm := by
  unfold PySem.W.excIn at q
  split at q
  · rename_i dd cd sl ho
    split at q
    · rename_i C' bm k0 k1 k2 k3 n k5 hm hs
      simp only [Bool.and_eq_true, beq_iff_eq, Bool.not_eq_true'] at q
      obtain ⟨⟨⟨⟨⟨e1, e2⟩, hdel⟩, ht⟩, hok⟩, hni⟩ := q
      subst e1 e2
      obtain ⟨nm, bs, mro, ns, qn, hd, sn, sub, ab, col, del⟩ := cd
      dsimp only at hm hdel hok hni
      subst hm hdel
      obtain ⟨l⟩ := sl
      have hl : l = [k0, k1, k2, k3, some (.builtin n), k5] := hs
      subst hl
      exact ⟨bm, ns, nm, qn, bs, hd, sn, sub, ab, col, dd, k0, k1, k2, k3, k5, _, X _ _ ho, .of_isNs (PySem.W.isNs_of_in X hok), PySem.W.nsMap_none_of_in X hok hni, PySem.W.tail_of_in X ht⟩
    · cases q
  · cases q
def tRaise (C : Addr) (E : St → XK) (t : TA) : TS := fun _ σ H => t σ H fun vs H1 => vs.length ≤ sizeLine ∧ E σ (.ref C) none H1
section
variable {X : Cx} {x : Str} {np cpos pos : Pos} {e₀ : Expr} {rest : List Expr} {C : Addr} {t : TA} {E : St → XK}
theorem made_cx {pins : List (Addr × Obj)} {σ : St} {H : Hp} {s : Shared} {h' : Heap} {e : Addr} {us : List Value} (I : Inv X pins σ H s) (mk : Heap.MadeExcOf s.heap h' e (.ref C) us) : CXat X.prog X.w X.stack H s e H (.ref C) none .new { s with heap := h' } := by
  obtain ⟨t, ht, _, _⟩ := mk.there
  exact ⟨rfl, I.bare, Un.kept mk.keeps, I.hok.kept mk.keeps, ⟨⟨_, _, ht, rfl, rfl, rfl, ⟨by show 1 < 6; decide, rfl⟩, rfl⟩, mk.new, I.hok.none_of mk.new⟩⟩
theorem ps_raise (q : PySem.W.excIn X.K C bmV "ValueError.__new__" = true) (hg : Gl X x) (hm : X.mg x = some (.ref C)) (hc : X.calm = true) (hp : PassX X E) (ha : PA X (e₀ :: rest) t) (hd : (x == ("__debug__" : Str)) = false := by decide)
    (he : starEach (e₀ :: rest) X.env = (false, eval e₀ X.env) :: starEach rest X.env := by rfl) (hpl : (backTo cpos (starEach rest X.env)).any (·.1) = false := by rfl) :
    PS X (.Raise (some (.Call (.Name x np) (e₀ :: rest) [] cpos)) none pos) (tRaise C E t) := by
  intro pins s σ H D I h
  obtain ⟨bm, N, nm, qn, bs, hdct, sn, sub, ab, col, dd, k0, k1, k2, k3, k5, mN, hC, hN, hni, TL⟩ := exc_of I.ok.mod.kin q
  have F := PySem.F.excBase_ValueError
  have W := ha cpos pins s σ H _ I h
  refine wpAny_Raise_call_subT (C := C) (nm := nm) (q := qn) (N := N) (bs := bs) (bm := bm) (hdct := hdct) (sn := sn) (sub := sub) (ab := ab) (col := col) (dd := dd) (k0 := k0) (k1 := k1) (k2 := k2) (k3 := k3) (k5 := k5) (mN := mN)
    F (TL.hasType F.hasBase) (I.ok.hd hc) (by rw [he]; exact hpl) hni (ld_glob I hg hm ⟨rfl, ?_⟩ hd)
  rw [he] at W ⊢
  refine Calls.evalArgs_plain (thn W fun us s2 ⟨vs, H1, I1, r, hl, z⟩ => ⟨rfl, by rw [← r.length]; exact hl, I1.bk _ _ hC, hN.keeps I1.bk, TL.keeps I1.bk, fun h' e mk => ?_⟩)
  exact hp pins σ H1 s2 _ _ I1 ⟨e, H1, .ref C, none, .new, rfl, made_cx I1 mk, z⟩
end
/-! ### isinstance of an exception -/
structure XI (K : PySem.W.Frag) (C : Addr) : Prop where
  gg : XG K C
  cl : (PySem.W.clsIn K C).isSome = true
  at_ : PySem.W.findIn K (.ref C) "__class__" = some (some (.builtin "object.__class__"))
  gt : PySem.W.specialIn K (.builtin "object.__class__") "__get__" = some (some (.builtin "getset_descriptor.__get__"))
  tk : PySem.W.takesIn K (.builtin "object.__class__") = some true
  ob : PySem.W.mroIn K C (.type "object") = some true
theorem findObj_cls {K : PySem.W.Frag} {C : Addr} {od : Option Obj} (x : XI K C) : PySem.W.findObj K C od "__class__" = some (.bind (.builtin "getset_descriptor.__get__") (.builtin "object.__class__")) := by
  obtain ⟨cd, hc⟩ := Option.isSome_iff_exists.mp x.cl
  unfold PySem.W.findObj
  rw [hc, Option.bind_some, x.at_, Option.bind_some]
  simp [x.gt, x.tk]
theorem kitx_exc {K : PySem.W.Frag} {a C : Addr} (x : XI K C) : PySem.W.KitX K (.ref a) (.ref C) (fun h => ∃ ox od, PySem.W.InstAt h a ox C od) where
  ty := fun _ _ _ ⟨_, _, I⟩ => I.type
  it := fun _ _ X _ => looks_isType X x.cl
  ne := fun h tp dd its n sl X htp => by
    refine Bool.eq_false_iff.mpr fun q => ?_
    have e : C = tp := Value.ref.inj (beq_iff_eq.mp q)
    subst e
    have c := x.cl
    unfold PySem.W.clsIn at c
    split at c
    · rename_i ho
      have z := (X _ _ ho).symm.trans htp
      cases z
    · cases c
  ca := fun {_ _ _ _ _ s} X I k => by
    obtain ⟨ox, od, I⟩ := I
    obtain ⟨hh, g, d, t, os⟩ := s
    unfold getAttr? getAttrBy?
    refine wpAny_bind (wpAny_mkText (wpAny_bind (wpAny_attempt (exc_by (h := hh) X I x.gg fun A' => exc_entry_bind X I (findObj_cls x) ?_))))
    exact wpAny_call (PySem.W.class_get (s := ⟨hh, g, d, t + 1, os⟩) (ox := ox) (od := od) X I x.ob (PySem.W.handed_on rfl (wpAny_pure k)))
def XDict (H : Hp) (dx : Option Addr) : Prop := match dx with
  | none => True
  | some d => ∃ fs, H d = some (.xd fs)
theorem inst_of {X : Cx} {pins : List (Addr × Obj)} {σ : St} {H : Hp} {s : Shared} {a C : Addr} {n : Bool} {dx : Option Addr} (I : Inv X pins σ H s) (e : H a = some (excB n a (.ref C) dx)) (d : XDict H dx) : ∃ ox od, PySem.W.InstAt s.heap a ox C od := by
  obtain ⟨⟨ox, vs, h1, h2, h3, h4, _⟩, _⟩ := (show ObjOk X.prog X.w H s.heap a (excB n a (.ref C) dx) from I.hok a _ e)
  have nc : PySem.W.notCls ox = true := by unfold PySem.W.notCls; rw [h4]
  cases dx with
  | none => exact ⟨ox, none, h1, h2, nc, by rw [h3]; trivial⟩
  | some d' =>
    obtain ⟨fs, hd⟩ := d
    obtain ⟨mA, ⟨o, es, ep, e', _⟩, _⟩ := (show ObjOk X.prog X.w H s.heap d' (.xd fs) from I.hok d' _ hd)
    exact ⟨ox, some o, h1, h2, nc, by rw [h3]; exact e'⟩
/-- the answer for a class of the text, for one of Python's own -/
inductive XIs (K : PySem.W.Frag) (C : Addr) : V → Bool → Prop where
  | own {D : Addr} {b : Bool} (h : PySem.W.kitOne K (.ref C) (.ref D) = some b) : XIs K C (.ref D) b
  | ty {T : String} {b : Bool} (h : PySem.W.kitOne K (.ref C) (.type T) = some b) : XIs K C (.ty T) b
theorem call_isiX {X : Cx} {K : PySem.W.Frag} (hK : X.K = K) : CallR X (.builtin "isinstance") (fun xs H Q => ∃ a C dx c b, xs = [.ref a, c] ∧ (∃ n, H a = some (excB n a (.ref C) dx)) ∧ XDict H dx ∧ XI K C ∧ XIs K C c b ∧ Q (.bl b) H) := by
  subst hK
  intro pins s σ H xs us Q I r h
  obtain ⟨a, C, dx, c, b, rfl, ⟨n, e⟩, d, xi, xs, q⟩ := h
  obtain ⟨u, w', rfl, e1, e2⟩ := vals2 r
  cases e1
  cases xs with
  | own h =>
    cases e2
    exact PySem.W.kia_one (kitx_exc xi) I.kIn (inst_of I e d) h (fun z => nomatch z) fun tk => ⟨.bl b, H, I.tok tk, rfl, q⟩
  | ty h =>
    cases e2
    exact PySem.W.kia_one (kitx_exc xi) I.kIn (inst_of I e d) h (fun z => nomatch z) fun tk => ⟨.bl b, H, I.tok tk, rfl, q⟩
end L2
set_option Elab.async false
set_option linter.all false
set_option maxRecDepth 100000
namespace L2
open PySem PySem.Spec PyProof.Rows XH
/-! ### list comprehensions -/
abbrev Cx.block (X : Cx) (scope : Scope) (cl : List (Str × Addr)) (C : Addr) (N : List Str) (own : Str) (fp : List Addr) (s : Shared) (H : Hp) : Cx :=
  { X with env := compEnvC scope cl C X.env, N := N, s₀ := s, H₀ := H, outer := X.stack, stack := X.stack, ex := fp, fn := fun y => y == own, pn := [], xe := fun _ _ => False }
/-- what a comprehension's scope must have; ys: the names it takes from around, at the slots js there -/
structure CompOk (X : Cx) (scope : Scope) (cl : List (Str × Addr)) (own : Str) (ys : List Str) (js : List Nat) : Prop where
  clos : closureFor scope X.env = pure cl
  nocell : (scope.names.all fun p => !(p.2 == .cell)) = true
  kind : scope.kind = .function
  loc : (scope.names.all fun p => !(p.2 == .local) || scope.names.lookup p.1 == some .local) = true
  ownL : scope.names.lookup own = some .local
  sub : ∀ p ∈ cl, X.env.cells.lookup p.1 = some p.2
  has : ((relabel scope X.env).names.all fun p => !(p.2 == .cell || p.2 == .free) || (cl.lookup p.1).isSome) = true
  noown : cl.lookup own = none
  nd : (own :: ys).Nodup
  at_ : ∀ (i : Nat) (y : Str), ys[i]? = some y → ∃ j : Nat, js[i]? = some j ∧ X.N[j]? = some y ∧ (X.env.scope.names.lookup y = some .cell ∨ X.env.scope.names.lookup y = some .free) ∧ ((relabel scope X.env).names.lookup y = some .cell ∨ (relabel scope X.env).names.lookup y = some .free)
  len : js.length = ys.length
def freesOf (js : List Nat) (σ : St) : St := js.map fun j => (σ[j]?).getD none
def compR (js : List Nat) (te : TE) (σ : St) (Q : VK) : It → Hp → Prop := fun J H1 => ∀ p, H1 p = none → ∃ W : Nat → Nat → List V → Hp → Prop, (∃ m, W 0 m [] (upd H1 p (.lst []))) ∧
  ∀ i m ys H2, W i m ys H2 → H2 p = some (.lst ys) ∧ ((J.stop i H2 ∧ Q (.ref p) H2) ∨ (J.go i H2 ∧ ys.length < sizeLine ∧ ∀ x H3, J.yld i H2 x H3 → te (some x :: freesOf js σ) H3 fun y H4 => H4 p = some (.lst ys) ∧ ∃ m', m' < m ∧ W (i + 1) m' (ys ++ [y]) (upd H4 p (.lst (ys ++ [y])))))
def tComp (wi : TI) (js : List Nat) (te : TE) : TE := fun σ H Q => wi σ H (compR js te σ Q)
theorem lookup_all {α : Type} {f : Str × α → Bool} {x : Str} {a : α} : ∀ {l : List (Str × α)}, l.all f = true → l.lookup x = some a → f (x, a) = true := by
  intro l h e
  exact List.all_eq_true.mp h _ (PySem.mem_of_lookup e)
section
variable {prog : Program} {w : World} {A : Around} {R : Result → Shared → Prop} {s : Shared}
theorem compLoop_own {elt target iter : Expr} {scope : Scope} {pos : Pos} {it acc : Value} {env : Env} (I : Nat → Shared → Prop)
    (turn : ∀ n s, I n s → wpAny (model prog w) A (pyNext it) (fun r s1 => match r with
      | none => R (.ok .next) s1
      | some v => wpAny (model prog w) A (letOwnedTupleGo target it v) (fun _ s2 => wpAny (model prog w) A (assign target env v) (fun _ s3 => wpAny (model prog w) A (eval elt env) (fun x s4 =>
          wpAny (model prog w) A (call (.builtin "list.append") [acc, x]) (fun _ s5 => ∃ m, m < n ∧ I m s5) (fun _ _ => False) s4) (fun _ _ => False) s3) (fun _ _ => False) s2) (fun _ _ => False) s1) (fun _ _ => False) s)
    (n : Nat) (h : I n s) : codeAny (model prog w) A (.compLoop (.ListComp elt [⟨target, iter, [], 0⟩] scope pos) 0 it acc env) R s := by
  apply codeAny_loop rfl I ?_ n h
  intro n s hI
  show wpAny _ _ ((compTurn (.ListComp elt [⟨target, iter, [], 0⟩] scope pos) 0 it acc env).onRaise _) _ _ s
  apply wpAny_noted
  rw [compTurn_list1]
  apply wpAny_bind
  apply wpAny_standAt
  apply wpAny_bind
  refine wpAny_mono (turn n s hI) (fun r s1 h1 => ?_) fun _ _ z => z.elim
  cases r with
  | none => exact wpAny_pure h1
  | some v =>
    apply wpAny_bind
    refine wpAny_mono h1 (fun _ s2 h2 => ?_) fun _ _ z => z.elim
    apply wpAny_bind
    refine wpAny_mono h2 (fun _ s3 h3 => ?_) fun _ _ z => z.elim
    apply wpAny_bind
    apply wpAny_bind
    refine wpAny_mono h3 (fun x s4 h4 => ?_) fun _ _ z => z.elim
    apply wpAny_bind
    refine wpAny_mono h4 (fun _ s5 h5 => ?_) fun _ _ z => z.elim
    exact wpAny_pure (wpAny_pure ⟨rfl, h5⟩)
end
section
variable {X : Cx} {scope : Scope} {cl : List (Str × Addr)} {own : Str} {ys : List Str} {js : List Nat} {fp : List Addr} {pins : List (Addr × Obj)} {σ : St} {H : Hp} {s s4 : Shared}
theorem block_start {h1 : Heap} (ok : CompOk X scope cl own ys js) (I : Inv X pins σ H s) (hf : ∀ b ∈ fp, FpOk X pins H b) (hlt : ∀ b ∈ fp, b < s.heap.objs.size) (hns : h1.Ns s.heap.objs.size (fun _ => none))
    (hk : ∀ b o, s.heap.get? b = some o → h1.get? b = some o) (tk : Nat) :
    Inv (X.block scope cl s.heap.objs.size (own :: ys) own fp s H) [] (none :: freesOf js σ) H { s with heap := h1, toks := tk } := by
  have sub : ∀ y c, cl.lookup y = some c → X.env.cells.lookup y = some c := fun y c e => ok.sub (y, c) (PySem.mem_of_lookup e)
  refine ⟨⟨I.ok.mod, ok.kind, I.ok.glob, I.ok.blt, Nat.le_refl _, fun x y c e1 e2 => I.ok.inj x y c (sub x c e1) (sub y c e2), fun x hx => ?_, fun x c e1 e2 => ?_, I.ok.hd, I.ok.frames, .inl rfl, fun b hb => ⟨Nat.ne_of_lt (hlt b hb), fun x c e => (hf b hb).2.2.2.2.1 x c (sub x c e)⟩,
    I.bs, Nat.le_trans I.ok.bsz I.sz, fun b o e hb => ?_, fun b hb z => ?_, I.stack, I.stkFree⟩, rfl, I.bare, Un.kept hk, ⟨_, hns, fun i y v e1 e2 e3 => ?_⟩, fun y c e => ?_, I.hok.fresh (Nat.le_refl _), fun y c e => I.freeC y c (sub y c e), fun p hp => absurd (show p ∈ ([] : List (Addr × Obj)) from hp) (by simp), I.hok.kept hk, ?_⟩
  · have hx' : (relabel scope X.env).names.lookup x = some .cell ∨ (relabel scope X.env).names.lookup x = some .free := hx
    rcases hx' with z | z
    · have q := lookup_all ok.has z
      simp only [beq_self_eq_true, Bool.true_or, Bool.not_true, Bool.false_or] at q
      exact Option.isSome_iff_exists.mp q
    · have q := lookup_all ok.has z
      simp only [beq_self_eq_true, Bool.or_true, Bool.not_true, Bool.false_or] at q
      exact Option.isSome_iff_exists.mp q
  · have e1' : (x == own) = true := e1
    have e : x = own := beq_iff_eq.mp e1'
    have e2' : cl.lookup x = some c := e2
    rw [e, ok.noown] at e2'
    cases e2'
  · rcases (hf b hb).2.2.2.1 with z | z
    · exact I.ok.noex b o e z
    · exact absurd (Nat.lt_of_lt_of_le (Heap.lt_size (I.ok.bs b o e).1) z) (Nat.lt_irrefl _)
  · rcases List.mem_cons.mp (I.stkSub b z) with q | q
    · exact (hf b hb).2.1 q
    · exact (hf b hb).2.2.1 q
  · cases i with
    | zero => cases e2
    | succ i =>
      have e1' : ys[i]? = some y := e1
      obtain ⟨j, hj, hN, hX, hc⟩ := ok.at_ i y e1'
      have e2' : (freesOf js σ)[i]? = some (some v) := e2
      unfold freesOf at e2'
      rw [List.getElem?_map, hj] at e2'
      have hs : σ[j]? = some (some v) := by
        cases q : σ[j]? with
        | none => rw [Option.map_some, q] at e2'; cases e2'
        | some o => rw [Option.map_some, q] at e2'; exact e2'
      obtain ⟨m, hn, hl⟩ := I.loc
      obtain ⟨u, r, l⟩ := hl j y v hN hs (hX.elim (fun z => .inr (.inl z)) fun z => .inr (.inr z))
      refine ⟨u, r, .inr ⟨hc, ?_⟩⟩
      rcases l with ⟨k, _⟩ | ⟨k, c, hcl, hcell⟩
      · have k' : X.env.scope.names.lookup y = some .local := k
        rcases hX with z | z <;> (rw [z] at k'; cases k')
      · have ex : ∃ c', cl.lookup y = some c' := by
          rcases hc with z | z
          · have q := lookup_all ok.has z
            simp only [beq_self_eq_true, Bool.true_or, Bool.not_true, Bool.false_or] at q
            exact Option.isSome_iff_exists.mp q
          · have q := lookup_all ok.has z
            simp only [beq_self_eq_true, Bool.or_true, Bool.not_true, Bool.false_or] at q
            exact Option.isSome_iff_exists.mp q
        obtain ⟨c', hc'⟩ := ex
        have e := sub y c' hc'
        rw [hcl] at e
        cases e
        obtain ⟨oc, hoc, hd⟩ := hcell
        exact ⟨c, hc', oc, hk _ _ hoc, hd⟩
  · obtain ⟨v, oc, hoc, hd⟩ := I.cell y c (sub y c e)
    exact ⟨v, oc, hk _ _ hoc, hd⟩
  · show (none :: freesOf js σ).length = (own :: ys).length
    simp [freesOf, ok.len]
theorem block_end {H' : Hp} {h' : Heap} {σ' : St} (I : Inv X pins σ H s) (hf : ∀ b ∈ fp, FpOk X pins H b) (J : Inv (X.block scope cl s.heap.objs.size (own :: ys) own fp s H) [] σ' H' s4) (hs : Heap.SameBut s.heap.objs.size s4.heap h') :
    Inv X pins σ H' { s4 with heap := h' } := by
  have low : ∀ b o, s.heap.get? b = some o → b ≠ s.heap.objs.size := fun b o e => Nat.ne_of_lt (Heap.lt_size e)
  have B := J.base
  have u : Un (frs X.stack) fp H H' s.heap h' := {
    keep := fun b o q n hb hx => (hs.2 b (low b o q)).trans (B.keep b o q n hb hx)
    slot := fun b o q n hb hx => by
      obtain ⟨sl, e⟩ := B.slot b o q n hb hx
      exact ⟨sl, (hs.2 b (low b o q)).trans e⟩
    free := B.free
    there := fun b o q hx => by
      obtain ⟨o', e⟩ := B.there b o q hx
      exact ⟨o', (hs.2 b (low b o q)).trans e⟩
    tups := B.tups
    frzs := B.frzs
    tbls := B.tbls }
  have hn : H' s.heap.objs.size = none := J.free
  have hk : HOk X.prog X.w H' h' := fun a o e => (J.hok a o e).stay (fun b v hb q => (hs.2 b (by
    intro z
    rcases hb with z' | z'
    · rw [← z', z, hn] at e; cases e
    · rw [z, hn] at z'; cases z')).trans q) (fun _ q => q) fun _ _ q => q
  exact I.call' (s' := { s4 with heap := h' }) (ch := fp) J.os u hk J.bare fun b hb => ⟨(hf b hb).2.2.2.1, (hf b hb).2.1, (hf b hb).2.2.2.2.1, (hf b hb).2.2.2.2.2⟩
end
section
variable {X : Cx} {scope : Scope} {cl : List (Str × Addr)} {own : Str} {ys : List Str} {js : List Nat} {elt iter : Expr} {px pos : Pos} {wi : TI} {te : TE}
end
end L2
set_option Elab.async false
set_option linter.all false
set_option maxRecDepth 100000
namespace L2
open PySem PySem.Spec PyProof.Rows XH PySem.Builtin PySem.Builtin.ObjectAttr
/-! ### an own refusal's __init__: its field -/
/-- the classes above it, as a store asks -/
structure XA (K : PySem.W.Frag) (C S : Addr) : Prop where
  sa : PySem.W.findIn K (.ref C) "__setattr__" = some (some (.builtin "object.__setattr__"))
  mro : (PySem.W.clsIn K C).map (·.mro) = some (.ref C :: .ref S :: bmV)
  dct : PySem.W.hasDictIn K C = true
  ob : PySem.W.mroIn K C (.type "object") = some true
section
variable {prog : Program} {w : World} {A : Around} {E : Value → Shared → Prop} {s : Shared} {K : PySem.W.Frag} {x C S : Addr} {ox : Obj} {od : Option Obj} {name : Str} {v : Value}
end
/-- self.f = e in the __init__ of an own refusal -/
def sFldX (K : PySem.W.Frag) (ta tv : TE) (f : Str) : TS := fun D σ H => tv σ H fun y H1 => ta σ H1 fun x H2 => ∃ a C S n, x = .ref a ∧ H2 a = some (excB n a (.ref C) none) ∧ XA K C S ∧ PySem.W.findIn K (.ref C) f = some none ∧
  ∀ d, H2 d = none → D.nx σ (upd (upd H2 d (.xd [(f, y)])) a (excB n a (.ref C) (some d)))
section
variable {X : Cx} {o value : Expr} {f : Str} {pos pos' : Pos} {ta tv : TE}
end
end L2
set_option Elab.async false
set_option linter.all false
set_option maxRecDepth 100000
namespace L2
open PySem PySem.Spec PyProof.Rows XH
section
variable {X : Cx} {o e value : Expr} {f : Str} {pos pos' : Pos} {ta tv : TE}
/-- e.f of a refusal that has the field -/
structure XF (K : PySem.W.Frag) (C : Addr) (f : Str) : Prop where
  gg : XG K C
  dct : PySem.W.hasDictIn K C = true
  no : PySem.W.findIn K (.ref C) f = some none
def tFldX (K : PySem.W.Frag) (ta : TE) (f : Str) : TE := fun σ H Q => ta σ H fun x H1 => ∃ a C d fs v n, x = .ref a ∧ H1 a = some (excB n a (.ref C) (some d)) ∧ H1 d = some (.xd fs) ∧ XF K C f ∧ fs.lookup f = some v ∧ Q v H1
end
/-! ### a refusal with an __init__ is made -/
structure XCi (K : PySem.W.Frag) (C f : Addr) : Prop where
  ex : ∃ bm N nm q bs hdct sn sub ab col dd k0 k1 k2 k3 k5, K.lookup C = some (excClassObj nm q C N bs bm hdct sn sub ab col dd k0 k1 k2 k3 k5 "ValueError.__new__") ∧ PySem.W.nsOkIn K N = true ∧ PySem.W.nsIn K N "__init__" = some (some (.ref f)) ∧ PySem.W.tailIn K bmV bm = true
  fn : PySem.W.typeIn K (.ref f) = some (.type "function")
  kp : PySem.W.keepIn K (.ref C) = true
section
variable {prog : Program} {w : World} {A : Around} {E : Value → Shared → Prop} {h : Heap} {g : Array GenState} {d : Drawn} {t : Nat} {os : OsState}
variable {nm q : Str} {C N : Addr} {bs bm : List Value} {hdct : Bool} {sn : List Str} {sub : List Value} {ab : Bool} {col : Option Bool} {dd : Option Addr} {k0 k1 k2 k3 k5 : Option Value}
end
def tMakeI (C : Addr) (sp : Sp) (t : TA) : TE := fun σ H Q => t σ H fun vs H1 => vs.length ≤ sizeLine ∧ ∀ a, H1 a = none → sp (.ref a :: vs) (upd H1 a (excB true a (.ref C) none)) (fun v H2 => v = .non ∧ Q (.ref a) H2) E0
def tMakeE (C : Addr) (t : TA) : TE := fun σ H Q => t σ H fun vs H1 => vs.length ≤ sizeLine ∧ ∀ a, H1 a = none → Q (.ref a) (upd H1 a (excB true a (.ref C) none))
section
variable {X : Cx} {x : Str} {p pos : Pos} {e : Expr} {es : List Expr} {C fI : Addr} {t : TA} {k : Nat} {fd : FuncData} {ps : List Str} {sp : Sp}
end
end L2
set_option Elab.async false
set_option linter.all false
set_option maxRecDepth 100000
namespace L2
open PySem PySem.Spec PyProof.Rows XH
section
variable {M : Model} {A : Around} {E : Value → Shared → Prop} {env : Env}
variable {nm q : Str} {C N : Addr} {bs bm : List Value} {hdct : Bool} {sn : List Str} {sub : List Value} {ab : Bool} {col : Option Bool} {dd : Option Addr} {k0 k1 k2 k3 k5 : Option Value} {nw : String}
end
def del (H : Hp) (a : Addr) : Hp := fun b => if b = a then none else H b
def tRaiseI (C : Addr) (sp : Sp) (E : St → XK) (t : TA) : TS := fun _ σ H => t σ H fun vs H1 => vs.length ≤ sizeLine ∧ ∀ a, H1 a = none → sp (.ref a :: vs) (upd H1 a (excB true a (.ref C) none)) (fun v H2 => v = .non ∧ ∃ d, H2 a = some (excB true a (.ref C) (some d)) ∧ E σ (.ref C) (some d) (del H2 a)) E0
section
variable {X : Cx} {x : Str} {np cpos pos : Pos} {e₀ : Expr} {rest : List Expr} {C fI : Addr} {t : TA} {k : Nat} {fd : FuncData} {ps : List Str} {sp : Sp} {E : St → XK}
end
end L2
set_option Elab.async false
set_option linter.all false
set_option maxRecDepth 100000
namespace L2
open PySem PySem.Spec PyProof.Rows XH
/-! ### within an except suite, and in what is called there -/
/-- what is known of the handled exception, if there is one -/
def HdOk (hd : Option Value) (H : Hp) : Prop := ∀ v, hd = some v → ∃ a n cls dx, v = .ref a ∧ H a = some (excB n a cls dx)
theorem HdOk.no {H : Hp} : HdOk none H := fun _ z => nomatch z
section
variable {prog : Program} {w : World} {A : Around} {E : Value → Shared → Prop} {s : Shared}
end
/-! ### iterators under a handled exception -/
structure TurnH (hd : Option Value) (P : Program) (w : World) (K : PySem.W.Frag) (tg : Expr) (J : It) (fp : List Addr) (it : Addr) (tn : Nat → Heap → Prop) : Prop where
  mem : it ∈ fp
  obj : ∀ i h, tn i h → ∀ b ∈ fp, ∃ o, h.get? b = some o ∧ ∀ v, o.data ≠ .cell v
  keep : ∀ i h h', tn i h → (∀ b ∈ fp, ∀ o, h.get? b = some o → h'.get? b = some o) → tn i h'
  item : ∀ (X : Cx), X.prog = P → X.w = w → X.K = K → X.A.handled = hd → ∀ (i : Nat) (pins : List (Addr × Obj)) (s : Shared) (σ : St) (H : Hp) (E : Value → Shared → Prop), Inv X pins σ H s → (∀ b ∈ fp, FpOk X pins H b) → tn i s.heap → J.go i H →
    wpAny (model P w) X.A (pyNext (.ref it)) (fun r s1 => ∃ u, r = some u ∧
      wpAny (model P w) X.A (letOwnedTupleGo tg (.ref it) u) (fun _ s2 => ∃ x H', Inv X pins σ H' s2 ∧ RelV x u ∧ J.yld i H x H' ∧ tn (i + 1) s2.heap ∧ ∀ b ∈ fp, H' b = none) E s1) E s
  done : ∀ (X : Cx), X.prog = P → X.w = w → X.K = K → X.A.handled = hd → ∀ (i : Nat) (pins : List (Addr × Obj)) (s : Shared) (σ : St) (H : Hp) (E : Value → Shared → Prop), Inv X pins σ H s → (∀ b ∈ fp, FpOk X pins H b) → tn i s.heap → J.stop i H →
    wpAny (model P w) X.A (pyNext (.ref it)) (fun r s1 => r = none ∧ Inv X pins σ H s1) E s
  self : ∀ (A : Around) (i : Nat) (s : Shared) (Q : Value → Shared → Prop) (E : Value → Shared → Prop), tn i s.heap → Q (.ref it) s → wpAny (model P w) A (pyIter (.ref it)) Q E s
def PIEH (hd : Option Value) (X : Cx) (pins : List (Addr × Obj)) (σ : St) (tg : Expr) (R : It → Hp → Prop) (itv : Value) (s2 : Shared) : Prop :=
  ∃ (it : Addr) (fp : List Addr) (tn : Nat → Heap → Prop) (J : It) (H' : Hp), itv = .ref it ∧ Inv X pins σ H' s2 ∧ TurnH hd X.prog X.w X.K tg J fp it tn ∧ tn 0 s2.heap ∧ (∀ b ∈ fp, FpOk X pins H' b) ∧ R J H'
def PIH (hd : Option Value) (X : Cx) (tg iter : Expr) (wi : TI) : Prop :=
  ∀ (pins : List (Addr × Obj)) (s : Shared) (σ : St) (H : Hp) (R : It → Hp → Prop), Inv X pins σ H s → wi σ H R →
    wpAny (model X.prog X.w) X.A (eval iter X.env) (fun v s1 => wpAny (model X.prog X.w) X.A (pyIter v) (PIEH hd X pins σ tg R) X.xe s1) X.xe s
def ItrH (hd : Option Value) (lo : Int) (n : Nat) : It := ⟨fun i _ => i < n, fun i H x H' => H' = H ∧ x = .int (lo + i), fun i H => n ≤ i ∧ HdOk hd H⟩
def iRngH (hd : Option Value) (ta : TA) : TI := fun σ H R => ta σ H fun vs H1 => ∃ j : Int, vs = [.int j] ∧ -(2 ^ 62) ≤ j ∧ j < 2 ^ 62 ∧ R (ItrH hd 0 j.toNat) H1
section
variable {X : Cx} {tg : Expr} {hd : Option Value}
end
section
variable {X : Cx} {scope : Scope} {cl : List (Str × Addr)} {own : Str} {ys : List Str} {js : List Nat} {elt iter : Expr} {px pos : Pos} {wi : TI} {te : TE} {hd : Option Value}
end
/-! ### an except suite whose reading knows the exception -/
def tHasA (K : PySem.W.Frag) (C' : Addr) (i : Nat) (t : Addr → TS) (r : TH) : TH := fun D σ cls dx H a => ∃ C b, cls = .ref C ∧ PySem.W.subIn K (.ref C) (.ref C') = some b ∧
  if b = true then t a (offE i D) (σ.set i (some (.ref a))) (upd H a (excO a cls dx)) else r D σ cls dx H a
section
variable {X : Cx} {x n : Str} {np pos : Pos} {b0 : Stmt} {suite : List Stmt} {rest : List ExceptHandler} {i : Nat} {C' : Addr} {tA : Addr → TS} {th : TH}
theorem ph_asA (T : XT X.K C') (hg : Gl X x) (hm : X.mg x = some (.ref C')) (hN : X.N.Nodup) (hi : X.N[i]? = some n) (hloc : X.env.scope.names.lookup n = some .local)
    (hs : ∀ (pins : List (Addr × Obj)) (a : Addr), PSs (X.suite pins a) (b0 :: suite) (tA a)) (hrest : PH X rest th) (hd : (x == ("__debug__" : Str)) = false := by decide) :
    PH X (.ExceptHandler (some (.Name x np)) (some n) (b0 :: suite) pos :: rest) (tHasA X.K C' i tA th) := by
  intro pins σ H0 s0 D a H' cls v dx s' I c h
  obtain ⟨C, b, rfl, hsub, h⟩ := h
  have J : Inv X pins σ H' s' := I.call' c.os c.un c.hok c.bare (fun b z => absurd z (by simp))
  obtain ⟨oe, vs, he, hc, _, _, _⟩ := c.xo.ex
  refine wpAny_handleBy_cons (codeAny_handlers_test (ld_glob (X := X.suite pins a) (J.insuite a) hg hm ?_ hd)) (by intro q; cases q)
  have KX := J.kIn
  obtain ⟨hh, g, d, tk, os⟩ := s'
  refine matches_ok KX he hc T hsub ?_
  cases b with
  | false => exact hrest pins σ H0 s0 D a H' _ v dx _ I c h
  | true =>
    refine codeAny_handlers_suite_as ?_
    refine c.flight I.stack I.stkFree fun s2 c2 => ?_
    have J2 := (c2.caught I).insuite a
    refine store_ok (X := X.suite pins a) (v := V.ref a) J2 hN hi (.inl hloc) (show RelV (V.ref a) (Value.ref a) from rfl) (fun s3 I3 => ?_) (.inr hloc)
    refine wpAny_mono (hs pins a [] s3 _ _ _ I3 h) (fun f s4 q => ?_) fun _ _ z => z.elim
    exact gone_ok I.ok hN hi hloc q
end
/-! ### calls, whatever is handled -/
structure RoomH (hd : Option Value) (k : Nat) (A : Around) : Prop where
  hd : A.handled = hd
  dp : A.depth + 3 * k + 5 < recursionLimit
  un : A.units + 16 * k + 200 < cLine
theorem RoomH.mono {hd : Option Value} {j k : Nat} {A : Around} (r : RoomH hd k A) (h : j ≤ k) : RoomH hd j A := ⟨r.hd, by have := r.dp; omega, by have := r.un; omega⟩
theorem RoomH.deeper {hd : Option Value} {k : Nat} {A : Around} (r : RoomH hd (k + 1) A) (env : Env) : RoomH hd k (A.deeper env) :=
  ⟨r.hd, by have := r.dp; show A.depth + 1 + 3 * k + 5 < _; omega, by have := r.un; show A.units + 3 + 16 * k + 200 < _; omega⟩
theorem RoomH.depth {hd : Option Value} {k : Nat} {A : Around} (r : RoomH hd k A) : A.depth < recursionLimit := by have := r.dp; omega
theorem RoomH.units0 {hd : Option Value} {k : Nat} {A : Around} (r : RoomH hd k A) : A.units < cLine := by have := r.un; omega
theorem RoomH.units {hd : Option Value} {k : Nat} {A : Around} (r : RoomH hd k A) : A.units + 64 < cLine := by have := r.un; omega
theorem Room.h {k : Nat} {A : Around} (r : Room k A) : RoomH none k A := ⟨r.hd, r.dp, r.un⟩
theorem Room.suite {k : Nat} {A : Around} (r : Room k A) (v : Value) : RoomH (some v) k (A.mark (some v)) := ⟨rfl, r.dp, r.un⟩
structure FnH (hd : Option Value) (P : Program) (w : World) (K : PySem.W.Frag) (mg : Str → Option Value) (base : Heap) (k : Nat) (f : Addr) (fd : FuncData) (ps : List Str) (sp : Sp) : Prop where
  len : ∀ vs H Q E, sp vs H Q E → vs.length = ps.length
  run : ∀ (A : Around) (outer : List Env) (s : Shared) (H : Hp) (args : Args) (us : List Value) (vs : List V) (Q : VK) (E : XK), RoomH hd k A → Env0 P w K mg base A outer s H → BindsTo s fd args (ps.zip us) → Vals vs us → sp vs H Q E →
    codeAny (model P w) A (.call (.ref f) args) (CR CX0 outer P w H s Q E) s
section
variable {P : Program} {w : World} {K : PySem.W.Frag} {mg : Str → Option Value} {base : Heap} {hd : Option Value}
theorem FnH.mono {j k : Nat} {f : Addr} {fd : FuncData} {ps : List Str} {sp : Sp} (F : FnH hd P w K mg base j f fd ps sp) (h : j ≤ k) : FnH hd P w K mg base k f fd ps sp :=
  ⟨F.len, fun A outer s H args us vs Q E hr => F.run A outer s H args us vs Q E (hr.mono h)⟩
theorem FnH.calm {k : Nat} {f : Addr} {fd : FuncData} {ps : List Str} {sp : Sp} (F : FnH none P w K mg base k f fd ps sp) : FnOk P w K mg base CX0 k f fd ps sp :=
  ⟨F.len, fun A outer s H args us vs Q E hr => F.run A outer s H args us vs Q E hr.h⟩
theorem FnH.imp {k : Nat} {f : Addr} {fd : FuncData} {ps : List Str} {sp sp' : Sp} (F : FnH hd P w K mg base k f fd ps sp) (h : ∀ vs H Q E, sp' vs H Q E → sp vs H Q E) : FnH hd P w K mg base k f fd ps sp' :=
  ⟨fun vs H Q E q => F.len vs H Q E (h _ _ _ _ q), fun A outer s H args us vs Q E hr he hb hv hs => F.run A outer s H args us vs Q E hr he hb hv (h _ _ _ _ hs)⟩
def cxH (hd : Option Value) (P : Program) (w : World) (K : PySem.W.Frag) (mg : Str → Option Value) (base : Heap) (N : List Str) (qual : Str) (scope : Scope) (f : Addr) (cd : Value) (A : Around) (outer : List Env) (s : Shared) (H : Hp) (E : XK) : Cx :=
  { cxOf CX0 P w K mg base N qual scope f cd A outer s H E with calm := hd.isNone }
end
section
variable {X : Cx} {k : Nat} {f : Addr} {fd : FuncData} {ps : List Str} {sp : Sp} {dvs : List V} {ds : List Value} {x : Str} {p pos : Pos} {e : Expr} {es : List Expr} {t : TA} {hd : Option Value}
end
end L2
set_option Elab.async false
set_option linter.all false
set_option maxRecDepth 100000
namespace Sw
open PySem L2 XH
/-- a def as its callers see it -/
structure Dx (P : Program) (w : World) (K : PySem.W.Frag) (mg : Str → Option Value) (base : Heap) (CX : CXT) (k : Nat) (x : Str) (ps : List Str) (dvs : List V) (sp : Sp) where
  f : Addr
  fd : FuncData
  ok : FnOk P w K mg base CX k f fd ps sp
  m : mg x = some (.ref f)
  q : PySem.W.keepIn K (.ref f) = true
  b : Binds K fd ps []
  bd : ∃ ds, Binds K fd ps ds ∧ Vals dvs ds
def Dx.calm {P : Program} {w : World} {K : PySem.W.Frag} {mg : Str → Option Value} {base : Heap} {k : Nat} {x : Str} {ps : List Str} {dvs : List V} {sp sp0 : Sp} (D : Dx P w K mg base (CX1 P w) k x ps dvs sp) (h : ∀ vs H Q E, sp0 vs H Q E → sp vs H Q E0) : Dx P w K mg base CX0 k x ps dvs sp0 :=
  ⟨D.f, D.fd, D.ok.noraise h, D.m, D.q, D.b, D.bd⟩
section
variable {X : Cx} {k j : Nat} {x : Str} {ps : List Str} {sp : Sp} {p pos : Pos} {e : Expr} {es : List Expr} {t : TA} {dvs : List V} {E : St → XK}
theorem pcall0 (D : Dx X.prog X.w X.K X.mg X.base CX0 k x ps dvs sp) (hr : Room j X.A) (hk : k ≤ j) (hg : Gl X x) (ha : PA X (e :: es) t) (hdb : (x == ("__debug__" : Str)) = false := by decide)
    (he : starEach (e :: es) X.env = (false, eval e X.env) :: starEach es X.env := by rfl) (hpl : (backTo pos (starEach es X.env)).any (·.1) = false := by rfl) :
    PE X (.Call (.Name x p) (e :: es) [] pos) (tCall sp [] E0 t) :=
  pe_call D.ok (hr.mono hk) hg D.m D.q D.b .nil pass0 ha hdb he hpl
end
theorem FunD.okX {P : Program} {w : World} {K : PySem.W.Frag} {mg : Str → Option Value} {base : Heap} {x qual : Str} {st : Stmt} {dV : Value} {f : Addr} {fd : FuncData} {N ps : List Str} {k : Nat} {sp : Sp} (F : FunD K x qual st dV f fd) (S : FnScope N ps (defScope st)) (len : ∀ vs H Q E, sp vs H Q E → vs.length = ps.length)
    (hbody : ∀ (cdv : Value) (A : Around) (outer : List Env) (s : Shared) (H : Hp) (vs : List V) (Q : VK) (E : XK), Room k (A.deeper (PyProof.Rows.envOfC qual (defScope st) s.heap.objs.size f cdv)) → sp vs H Q E →
      ∃ t, PSs ((cxOf (CX1 P w) P w K mg base N qual (defScope st) f cdv A outer s H E).wish (XS (cxOf (CX1 P w) P w K mg base N qual (defScope st) f cdv A outer s H E) fun _ => E)) (defBody st) t ∧ t { nx := fun _ H' => Q .non H', rt := Q } (start N vs) H) : FnOk P w K mg base (CX1 P w) (k + 1) f fd ps sp := by
  obtain ⟨oc, od, kV, doc, pm, an, cdv, ct, osl, rfl, lk, hcd⟩ := F.ex
  exact fn_ofX lk hcd S len fun A outer s H vs Q E hr hsp => hbody cdv A outer s H vs Q E hr hsp
end Sw
set_option Elab.async false
set_option linter.all false
set_option maxRecDepth 100000
namespace Sw
open PySem L2 XH
def spFrZ (c : Addr) : Sp := fun vs H Q E => ∃ a b : Int, vs = [.int a, .int b] ∧ Bd 8500 b ∧ (b ≠ 0 → ∀ p q : Int, Fr p q a b → Pair H Q p q) ∧ (b = 0 → E (.ref c) none H)
def spQuotX (K : PySem.W.Frag) (c : Addr) : Sp := fun vs H Q E => ∃ (t t' : Addr) (p q p' q' : Int), vs = [.ref t, .ref t'] ∧ FrIn K 4000 H t p q ∧ FrIn K 4000 H t' p' q' ∧ (p' ≠ 0 → ∀ r s : Int, Fr r s (p * q') (q * p') → Pair H Q r s) ∧ (p' = 0 → E (.ref c) none H)
def spRef2 (K : PySem.W.Frag) : Sp := fun vs H Q _ => ∃ (t t' : Addr) (p q q' : Int), vs = [.ref t, .ref t'] ∧ FrIn K 4000 H t p q ∧ FrIn K 4000 H t' 0 q' ∧ ∀ H', Same H H' → Q (.bl true) H'
end Sw
set_option Elab.async false
set_option linter.all false
set_option maxRecDepth 100000
namespace Sw
open PySem L2 XH
/-! ### packs -/
structure PackOk (p q p2 q2 a0 b0 n l m : Int) : Prop where
  nn : 0 ≤ n
  lo : 0 ≤ n * (p2 * q * b0) - (p * b0 - a0 * q) * q2
  hi : 0 < n → n * (p2 * q * b0) - (p * b0 - a0 * q) * q2 < p2 * q * b0
  low : Low l m
  same : l * (q * q2 * b0) = (n * (p2 * q * b0) - (p * b0 - a0 * q) * q2) * m
  bn : Bd 2200 n
  bl : Bd 4300 l
  bm : Bd 4300 m
def Have (K : PySem.W.Frag) (H : Hp) (hv : V) (a0 b0 : Int) : Prop := (hv = .non ∧ a0 = 0 ∧ b0 = 1) ∨ ∃ t3, hv = .ref t3 ∧ FrIn K 700 H t3 a0 b0
/-- a new pair of a number and a fraction -/
def PackPair (H : Hp) (Q : VK) (n l m : Int) : Prop := ∀ (tl tt : Addr) (H' : Hp), Same H H' → H' tl = some (.tup [.int l, .int m]) → H' tt = some (.tup [.int n, .ref tl]) → Q (.ref tt) H'
def spPackX (K : PySem.W.Frag) (c : Addr) : Sp := fun vs H Q E => ∃ (t1 t2 : Addr) (hv : V) (p q p2 q2 a0 b0 : Int), vs = [.ref t1, .ref t2, hv] ∧ FrIn K 700 H t1 p q ∧ FrIn K 700 H t2 p2 q2 ∧ Have K H hv a0 b0 ∧
  (0 < p2 → ∀ n l m : Int, PackOk p q p2 q2 a0 b0 n l m → PackPair H Q n l m) ∧ (p2 ≤ 0 → E (.ref c) none H)
def spPack (K : PySem.W.Frag) : Sp := fun vs H Q E => ∃ (t1 t2 : Addr) (hv : V) (p q p2 q2 a0 b0 : Int), vs = [.ref t1, .ref t2, hv] ∧ FrIn K 700 H t1 p q ∧ FrIn K 700 H t2 p2 q2 ∧ Have K H hv a0 b0 ∧ 0 < p2 ∧
  ∀ n l m : Int, PackOk p q p2 q2 a0 b0 n l m → PackPair H Q n l m
def spEnough (K : PySem.W.Frag) : Sp := fun vs H Q _ => ∃ (tt tl t1 t2 t3 : Addr) (p q p2 q2 a0 b0 n l m : Int), vs = [.ref tt, .ref t1, .ref t2, .ref t3] ∧ FrIn K 700 H t1 p q ∧ FrIn K 700 H t2 p2 q2 ∧ FrIn K 700 H t3 a0 b0 ∧
  SqT K H tt [.int n, .ref tl] ∧ SqT K H tl [.int l, .int m] ∧ PackOk p q p2 q2 a0 b0 n l m ∧ Q (.bl true) H
end Sw
namespace L2
open PySem PySem.Spec PyProof.Rows
end L2
namespace Sw
open PySem L2 XH
def spRef3 (K : PySem.W.Frag) : Sp := fun vs H Q _ => ∃ (t1 t2 t3 : Addr) (p q p2 q2 a0 b0 : Int), vs = [.ref t1, .ref t2, .ref t3] ∧ FrIn K 700 H t1 p q ∧ FrIn K 700 H t2 p2 q2 ∧ FrIn K 700 H t3 a0 b0 ∧ p2 ≤ 0 ∧ ∀ H', Same H H' → Q (.bl true) H'
end Sw
set_option Elab.async false
set_option linter.all false
set_option maxRecDepth 100000
namespace Sw
open PySem L2 XH
/-! ### many needs: tops, bottoms, and how many figures of two a bottom has -/
structure Nd where
  t : Addr
  p : Int
  q : Int
  w : Nat
def sT : List Nd → Int
  | [] => 0
  | x :: r => x.p * sB r + sT r * x.q
where sB : List Nd → Int
  | [] => 1
  | x :: r => x.q * sB r
abbrev sB := sT.sB
def sW : List Nd → Nat
  | [] => 0
  | x :: r => x.w + sW r
structure NdOk (K : PySem.W.Frag) (H : Hp) (x : Nd) : Prop where
  fr : FrIn K 60 H x.t x.p x.q
  bp : Bd 41 x.p
  bq : Bd x.w x.q
theorem NdOk.same {K : PySem.W.Frag} {H H' : Hp} {x : Nd} (h : NdOk K H x) (g : Same H H') : NdOk K H' x := ⟨h.fr.same g, h.bp, h.bq⟩
/-- so many packs are enough for the needs so far -/
def Enough (p2 q2 N : Int) (l : List Nd) : Prop := sT l * q2 ≤ N * p2 * sB l
end Sw
set_option Elab.async false
set_option linter.all false
set_option maxRecDepth 100000
namespace Sw
open PySem L2 XH
def spNeeds (K : PySem.W.Frag) : Sp := fun vs H Q _ => ∃ (a : Addr) (ns : List Int), vs = [.ref a] ∧ SqL K H a (ns.map V.int) ∧ ns.length ≤ 63 ∧
  ∀ (l : Addr) (nds : List Nd) (H' : Hp), Same H H' → H' l = some (.lst (nds.map fun x => V.ref x.t)) → (∀ x ∈ nds, NdOk K H' x) → nds.length ≤ 63 → sW nds ≤ 419 → Q (.ref l) H'
theorem take_snoc {α : Type} {l : List α} {i : Nat} {x : α} (h : l[i]? = some x) : l.take (i + 1) = l.take i ++ [x] := by
  rw [List.take_succ, h]
  rfl
end Sw
namespace L2
open PySem PySem.Spec PyProof.Rows
end L2
set_option Elab.async false
set_option linter.all false
set_option maxRecDepth 100000
namespace L2
open PySem PySem.Spec PyProof.Rows XH
theorem call_isiT {X : Cx} {K : PySem.W.Frag} (hK : X.K = K) : CallR X (.builtin "isinstance") (fun xs H Q => ∃ x t T b, xs = [x, .ty T] ∧ TyOf K H x t ∧ PySem.W.kitOne K t (.type T) = some b ∧ Q (.bl b) H) := by
  subst hK
  intro pins s σ H xs us Q I r h
  obtain ⟨x, t, T, b, rfl, ty, e, q⟩ := h
  obtain ⟨u, w', rfl, e1, e2⟩ := vals2 r
  cases e2
  exact isinst_ok I e1 ty e fun tk => ⟨.bl b, H, I.tok tk, rfl, q⟩
end L2
namespace Sw
open PySem L2 XH
/-! ### whatever is handed in: is it a whole number, is it a fraction -/
inductive Wh (K : PySem.W.Frag) (H : Hp) : V → Bool → Prop where
  | mk {x : V} {t : Value} {b1 b2 : Bool} (ty : TyOf K H x t) (h1 : PySem.W.kitOne K t (.type "int") = some b1) (h2 : PySem.W.kitOne K t (.type "bool") = some b2) : Wh K H x (b1 && !b2)
section
variable {K : PySem.W.Frag} {H : Hp}
theorem ty_same {H' : Hp} (g : Same H H') {x : V} {t : Value} (h : TyOf K H x t) : TyOf K H' x t := by
  cases h with
  | non => exact .non
  | bl b => exact .bl b
  | int i => exact .int i
  | str x => exact .str x
  | flt x => exact .flt x
  | lst e => exact .lst (g _ _ e)
  | frz e => exact .frz (g _ _ e)
  | tup e => exact .tup (g _ _ e)
  | dK e => exact .dK (g _ _ e)
  | dT e => exact .dT (g _ _ e)
  | ins e c a n k m => exact .ins (g _ _ e) c a n k m
theorem Wh.same {H' : Hp} (g : Same H H') {x : V} {b : Bool} (h : Wh K H x b) : Wh K H' x b := by
  cases h with
  | mk ty h1 h2 => exact .mk (ty_same g ty) h1 h2
end
def spWh (K : PySem.W.Frag) : Sp := fun vs H Q _ => ∃ (x : V) (b : Bool), vs = [x] ∧ Wh K H x b ∧ Q (.bl b) H
def spFrG (K : PySem.W.Frag) (c : Addr) : Sp := fun vs H Q E => ∃ (x y : V) (bx bY : Bool), vs = [x, y] ∧ Wh K H x bx ∧ Wh K H y bY ∧ ((bx && bY) = true → ∃ a b : Int, x = .int a ∧ y = .int b ∧ Bd 8500 b) ∧
  ((bx && bY) = false ∨ y = .int 0 → E (.ref c) none H) ∧ ∀ a b : Int, x = .int a → y = .int b → b ≠ 0 → ∀ p q : Int, Fr p q a b → Pair H Q p q
/-- why a thing is a fraction or none -/
inductive FrK (K : PySem.W.Frag) (H : Hp) : V → Bool → Prop where
  | no {x : V} {t : Value} (ty : TyOf K H x t) (h : PySem.W.kitOne K t (.type "tuple") = some false) : FrK K H x false
  | len {a : Addr} {ys : List V} (e : H a = some (.tup ys)) (h : ((ys.length : Nat) : Int) ≠ 2) : FrK K H (.ref a) false
  | top {a : Addr} {y z : V} (e : H a = some (.tup [y, z])) (h : Wh K H y false) : FrK K H (.ref a) false
  | bot {a : Addr} {y z : V} (e : H a = some (.tup [y, z])) (h : Wh K H y true) (h' : Wh K H z false) : FrK K H (.ref a) false
  | two {a : Addr} {p q : Int} (e : H a = some (.tup [.int p, .int q])) : FrK K H (.ref a) (decide (1 ≤ q) && decide (gcdI p q = 1))
theorem FrK.same {K : PySem.W.Frag} {H H' : Hp} (g : Same H H') {x : V} {b : Bool} (h : FrK K H x b) : FrK K H' x b := by
  cases h with
  | no ty h => exact .no (ty_same g ty) h
  | len e h => exact .len (g _ _ e) h
  | top e h => exact .top (g _ _ e) (h.same g)
  | bot e h h' => exact .bot (g _ _ e) (h.same g) (h'.same g)
  | two e => exact .two (g _ _ e)
def spIsFr (K : PySem.W.Frag) : Sp := fun vs H Q _ => ∃ (x : V) (b : Bool), vs = [x] ∧ FrK K H x b ∧ Q (.bl b) H
def spToldG (K : PySem.W.Frag) : Sp := fun vs H Q _ => ∃ (x : V) (b : Bool), vs = [x, .bl b] ∧ FrK K H x b ∧ Q (.bl true) H
def spRefG (K : PySem.W.Frag) : Sp := fun vs H Q _ => ∃ (x y : V) (bx bY : Bool), vs = [x, y] ∧ Wh K H x bx ∧ Wh K H y bY ∧ ((bx && bY) = true → ∃ a : Int, x = .int a ∧ y = .int 0) ∧ ∀ H', Same H H' → Q (.bl true) H'
def spNear (K : PySem.W.Frag) : Sp := fun vs H Q _ => ∃ (t : Addr) (p q w : Int), vs = [.ref t, .int w] ∧ FrIn K 8500 H t p q ∧ ∀ (x : V) (H' : Hp), Same H H' → FrK K H' x false → Q x H'
end Sw
set_option Elab.async false
set_option linter.all false
set_option maxRecDepth 100000
namespace L2
open PySem PySem.Spec PyProof.Rows XH
/-- a truth, a number, a text -/
def Smp : V → Prop
  | .bl _ => True
  | .int _ => True
  | .str _ => True
  | _ => False
theorem eqat_smp {A : Around} {s : Shared} {v : V} {u w : Value} (h : Smp v) (r1 : RelV v u) (r2 : RelV v w) : SeqAt.EqAt A s u w true := by
  cases v with
  | bl b =>
    cases r1
    cases r2
    have z := SeqAt.EqAt.bool_bool (A := A) (s := s) b b
    rw [beq_self_eq_true] at z
    exact z
  | int i =>
    obtain ⟨t, rfl⟩ := r1
    obtain ⟨t', rfl⟩ := r2
    have z := SeqAt.EqAt.int_int (A := A) (s := s) i t i t'
    rw [beq_self_eq_true] at z
    exact z
  | str i =>
    obtain ⟨t, rfl⟩ := r1
    obtain ⟨t', rfl⟩ := r2
    have z := SeqAt.EqAt.str_str (A := A) (s := s) i t i t'
    rw [beq_self_eq_true] at z
    exact z
  | _ => exact absurd h (fun z => z)
end L2
set_option Elab.async false
set_option linter.all false
set_option maxRecDepth 100000
namespace Sw
open PySem L2 XH PyProof.Rows
/-! ### defs that are called from a handler too, and refusals' __init__ -/
structure DxH (hd : Option Value) (P : Program) (w : World) (K : PySem.W.Frag) (mg : Str → Option Value) (base : Heap) (k : Nat) (x : Str) (ps : List Str) (sp : Sp) where
  f : Addr
  fd : FuncData
  ok : FnH hd P w K mg base k f fd ps sp
  m : mg x = some (.ref f)
  q : PySem.W.keepIn K (.ref f) = true
  b : Binds K fd ps []
def DxH.calm {P : Program} {w : World} {K : PySem.W.Frag} {mg : Str → Option Value} {base : Heap} {k : Nat} {x : Str} {ps : List Str} {sp : Sp} (D : DxH none P w K mg base k x ps sp) : Dx P w K mg base CX0 k x ps [] sp :=
  ⟨D.f, D.fd, D.ok.calm, D.m, D.q, D.b, ⟨[], D.b, .nil⟩⟩
structure DxI (P : Program) (w : World) (K : PySem.W.Frag) (mg : Str → Option Value) (base : Heap) (k : Nat) (C : Addr) (ps : List Str) (sp : Sp) where
  f : Addr
  fd : FuncData
  ok : FnOk P w K mg base CX0 k f fd ps sp
  ci : XCi K C f
  b : Binds K fd ps []
section
variable {X : Cx} {k j : Nat} {x : Str} {ps : List Str} {sp : Sp} {p np pos cpos : Pos} {e : Expr} {es : List Expr} {t : TA} {hd : Option Value} {C : Addr} {E : L2.St → XK}
end
theorem sUpd {H H' : Hp} {p : Addr} (g : Same H H') (h : H p = none) (o : HO) : Same H (upd H' p o) := fun b u q => by
  rw [upd_ne (ne_of_none q h)]
  exact g b u q
def CompAt (X : Cx) (scope : Scope) (ys : List Str) (js : List Nat) : Prop := ∀ (i : Nat) (y : Str), ys[i]? = some y → ∃ j : Nat, js[i]? = some j ∧ X.N[j]? = some y ∧ (X.env.scope.names.lookup y = some .cell ∨ X.env.scope.names.lookup y = some .free) ∧ ((relabel scope X.env).names.lookup y = some .cell ∨ (relabel scope X.env).names.lookup y = some .free)
theorem atn {X : Cx} {scope : Scope} : CompAt X scope [] [] := fun i y h => by simp at h
theorem atc {X : Cx} {scope : Scope} {ys : List Str} {js : List Nat} {y : Str} {j : Nat} (t : CompAt X scope ys js) (h1 : X.N[j]? = some y := by rfl) (h2 : X.env.scope.names.lookup y = some .cell ∨ X.env.scope.names.lookup y = some .free := by first | exact Or.inl rfl | exact Or.inr rfl)
    (h3 : (relabel scope X.env).names.lookup y = some .cell ∨ (relabel scope X.env).names.lookup y = some .free := by first | exact Or.inl rfl | exact Or.inr rfl) : CompAt X scope (y :: ys) (j :: js) := fun i z h => by
  cases i with
  | zero =>
    cases h
    exact ⟨j, rfl, h1, h2, h3⟩
  | succ i => exact t i z h
/-- the names that a comprehension takes from around -/
inductive Subs (X : Cx) : List (Str × Addr) → Prop where
  | nil : Subs X []
  | cons {y : Str} {c : Addr} {cl : List (Str × Addr)} (h : X.env.cells.lookup y = some c) (t : Subs X cl) : Subs X ((y, c) :: cl)
theorem Subs.all {X : Cx} {cl : List (Str × Addr)} (h : Subs X cl) : ∀ p ∈ cl, X.env.cells.lookup p.1 = some p.2 := by
  induction h with
  | nil => intro p hp; simp at hp
  | cons h _ ih =>
    intro p hp
    rcases List.mem_cons.mp hp with e | e
    · rw [e]; exact h
    · exact ih p e
theorem cok {X : Cx} {scope : Scope} {cl : List (Str × Addr)} {own : Str} {ys : List Str} {js : List Nat} (a : CompAt X scope ys js) (s : Subs X cl) (nd : (own :: ys).Nodup) (len : js.length = ys.length) (clos : closureFor scope X.env = pure cl) (nocell : (scope.names.all fun p => !(p.2 == .cell)) = true) (kind : scope.kind = .function)
    (loc : (scope.names.all fun p => !(p.2 == .local) || scope.names.lookup p.1 == some .local) = true) (ownL : scope.names.lookup own = some .local) (has : ((relabel scope X.env).names.all fun p => !(p.2 == .cell || p.2 == .free) || (cl.lookup p.1).isSome) = true) (noown : cl.lookup own = none) : CompOk X scope cl own ys js :=
  ⟨clos, nocell, kind, loc, ownL, s.all, has, noown, nd, a, len⟩
/-! ### the sixteen refusals -/
def IsX (H : Hp) (a C : Addr) (dx : Option Addr) : Prop := (∃ n, H a = some (excB n a (.ref C) dx)) ∧ XDict H dx
theorem IsX.same {H H' : Hp} {a C : Addr} {dx : Option Addr} (h : IsX H a C dx) (g : Same H H') : IsX H' a C dx := by
  obtain ⟨⟨n, e⟩, d⟩ := h
  refine ⟨⟨n, g _ _ e⟩, ?_⟩
  cases dx with
  | none => trivial
  | some d' =>
    obtain ⟨fs, q⟩ := d
    exact ⟨fs, g _ _ q⟩
def kitAll (K : PySem.W.Frag) (cs : List Addr) (S : Addr) : Bool :=
  (List.range cs.length).all fun i => (List.range cs.length).all (fun j => PySem.W.kitOne K (.ref (cs.getD i 0)) (.ref (cs.getD j 0)) == some (i == j)) && PySem.W.kitOne K (.ref (cs.getD i 0)) (.ref S) == some true && PySem.W.kitOne K (.ref (cs.getD i 0)) (.type "ValueError") == some true
section
variable {K : PySem.W.Frag} {cs : List Addr} {S C D : Addr} {i j : Nat}
end
def spInit (C : Addr) (f : Str) : Sp := fun vs H Q _ => ∃ a y n, vs = [.ref a, y] ∧ H a = some (excB n a (.ref C) none) ∧ ∀ d, H d = none → Q .non (L2.upd (L2.upd H d (.xd [(f, y)])) a (excB n a (.ref C) (some d)))
def spText : Sp := fun vs H Q _ => ∃ c k : Int, vs = [.int c, .int k] ∧ 0 ≤ k ∧ k < 64 ∧ ∀ t, Q (.str t) H
def spKinds (K : PySem.W.Frag) (cs : List Addr) : Sp := fun vs H Q _ => ∃ a C dx i, vs = [.ref a] ∧ IsX H a C dx ∧ cs[i]? = some C ∧ ∀ l H', Same H H' → H' l = some (.lst ((List.range 16).map fun j => V.bl (i == j))) → Q (.ref l) H'
def spAlone (K : PySem.W.Frag) (cs : List Addr) (hd : Option Value) : Sp := fun vs H Q _ => ∃ (a C : Addr) (dx : Option Addr) (i : Nat), vs = [.ref a, .int i] ∧ IsX H a C dx ∧ cs[i]? = some C ∧ HdOk hd H ∧ ∀ H', Same H H' → Q (.bl true) H'
def spBare (cs : List Addr) : Sp := fun vs H Q _ => ∃ t, vs = [.str t] ∧ ∀ (l : Addr) (as : List Addr) (H' : Hp), Same H H' → as.length = 8 → (∀ (i : Nat) (a : Addr), as[i]? = some a → ∃ C, cs[i]? = some C ∧ IsX H' a C none) → H' l = some (.lst (as.map V.ref)) → Q (.ref l) H'
def spRaised : Sp := fun vs H Q _ => ∃ (k n : Int) (t : Str), vs = [.int k, .str t, .int n] ∧ 0 ≤ k ∧ k < 4 ∧ ∀ H', Same H H' → Q (.bl true) H'
end Sw
set_option Elab.async false
set_option linter.all false
set_option maxRecDepth 100000
namespace L2
open PySem PySem.Spec PyProof.Rows XH
/-! ### a text, walked sign by sign -/
def Its (x : Str) : It := ⟨fun i _ => i < x.cps.size, fun i H v H' => H' = H ∧ ∃ c, x.cps[i]? = some c ∧ v = .str ⟨#[c]⟩, fun i _ => i = x.cps.size⟩
def iStr (tl : TE) : TI := fun σ H R => tl σ H fun x H1 => ∃ z, x = .str z ∧ R (Its z) H1
section
variable {X : Cx} {tg : Expr}
end
/-! ### x[lo:hi] of a text -/
def cutS (x : Str) (lo hi : Option Int) : Str := ⟨((x.cps.toList.drop (HT.sIx x.length 0 lo)).take (HT.sIx x.length x.length hi - HT.sIx x.length 0 lo)).toArray⟩
theorem sIx_le (n : Nat) (hi : Option Int) : HT.sIx n n hi ≤ n ∨ HT.sIx n n hi = HT.sIx n n hi := .inr rfl
/-! ### methods of texts -/
open Builtin.Str in
def partV (z y : Str) : List V := match occurrences z y 0 z.length 1 with
  | i :: _ => [.str (strSub z 0 i), .str y, .str (strSub z (i + y.length) z.length)]
  | [] => [.str z, .str Str.empty, .str Str.empty]
end L2
set_option Elab.async false
set_option linter.all false
set_option maxRecDepth 100000
namespace Sw
open PySem PySem.NumText
/-! ### the figures of a number -/
def dg (n : Nat) : List Nat := (Nat.toDigits 10 n).map Char.toNat
/-! ### a number of a text -/
def Fig (l : List Nat) : Prop := 1 ≤ l.length ∧ l.length ≤ 30 ∧ (l.head? ≠ some 48 ∨ l = [48]) ∧ AllDigits l
open Classical in
noncomputable def fig? (l : List Nat) : Option Nat := if Fig l then some (digitsVal l) else none
/-! ### a text cut at a sign -/
def cut1 (c : Nat) (l : List Nat) : List Nat × List Nat := (l.takeWhile (· != c), (l.dropWhile (· != c)).tail)
theorem cut_app {c : Nat} {a b : List Nat} (h : c ∉ a) : cut1 c (a ++ c :: b) = (a, b) := by
  unfold cut1
  have p : ∀ x ∈ a, (x != c) = true := fun x hx => by
    rw [bne_iff_ne]
    exact fun z => h (z ▸ hx)
  rw [List.takeWhile_append_of_pos p, List.dropWhile_append_of_pos p]
  simp
/-! ### what is read -/
noncomputable def pair? (a b : List Nat) : Option (Nat × Nat) := match fig? a, fig? b with
  | some n, some m => if m = 0 then none else some (n, m)
  | _, _ => none
noncomputable def term? (l : List Nat) : Option (Nat × Nat) := if 47 ∈ l then pair? (cut1 47 l).1 (cut1 47 l).2 else pair? l [49]
noncomputable def sum? (x y : Option (Nat × Nat)) : Option (Nat × Nat) := match x, y with
  | some (n, m), some (n', m') => some (n * m' + n' * m, m * m')
  | _, _ => none
noncomputable def loose? (l : List Nat) : Option (Nat × Nat) := if 43 ∈ l then sum? (term? (cut1 43 l).1) (term? (cut1 43 l).2) else term? l
def amtL (p q : Nat) : List Nat := if p % q = 0 then dg (p / q) else if p / q = 0 then dg (p % q) ++ 47 :: dg q else dg (p / q) ++ 43 :: (dg (p % q) ++ 47 :: dg q)
structure Reads (l : List Nat) (p q : Nat) : Prop where
  pos : 0 < q
  low : Nat.gcd p q = 1
  ex : ∃ n m, loose? l = some (n, m) ∧ p * m = n * q
  wr : amtL p q = l
noncomputable def tb? (a : Nat) (r : List Nat) : Option (Nat × Nat) := match fig? (cut1 47 r).1, fig? (cut1 47 r).2 with
  | some t, some b => if t = 0 ∨ b ≤ t ∨ Nat.gcd b t ≠ 1 then none else some (a * b + t, b)
  | _, _ => none
noncomputable def due? (l : List Nat) : Option (Nat × Nat) := if 43 ∈ l then
    (match fig? (cut1 43 l).1 with
     | some a => if a = 0 then none else if 47 ∈ (cut1 43 l).2 then tb? a (cut1 43 l).2 else none
     | none => none)
  else if 47 ∈ l then tb? 0 l else (fig? l).map fun n => (n, 1)
end Sw
set_option Elab.async false
set_option linter.all false
set_option maxRecDepth 100000
namespace L2
open PySem PySem.Spec PyProof.Rows XH
section
variable {X : Cx} {a b e o : Expr} {es : List Expr} {t te to : TE} {ta : TA} {pos apos cpos : Pos} {x y : Str}
/-! ### a text with numbers and texts put in -/
def tFmt (t : TE) : TE := fun σ H Q => t σ H fun x H1 => (∃ i, x = .int i ∧ i.natAbs.log2 < 1920 ∧ Q (.str (toString i)) H1) ∨ ∃ z, x = .str z ∧ z.length ≤ sizeLine ∧ Q (.str z) H1
def PJ (X : Cx) (es : List Expr) (t : Str → TE) : Prop := ∀ (out : Str) (pins : List (Addr × Obj)) (s : Shared) (σ : St) (H : Hp) (Q : VK), Inv X pins σ H s → t out σ H Q →
  wpAny (model X.prog X.w) X.A (joinParts out (evalEach es X.env)) (EP X pins σ Q) X.xe s
def jNil : Str → TE := fun out σ H Q => out.length ≤ sizeLine ∧ Q (.str out) H
def jCons (te : TE) (tr : Str → TE) : Str → TE := fun out σ H Q => te σ H fun x H1 => ∃ y, x = .str y ∧ (out ++ y).length ≤ sizeLine ∧ tr (out ++ y) σ H1 Q
def tJoin (t : Str → TE) : TE := t Str.empty
/-! ### int(text), max(list), values of the file's top -/
/-! ### tuples of numbers that are alike -/
/-! ### a list walked in a comprehension -/
/-! ### split -/
/-! ### replace: the two texts must be made behind something else -/
def PE1 (X : Cx) (e : Expr) (t : TE) : Prop :=
  ∀ (pins : List (Addr × Obj)) (s : Shared) (σ : St) (H : Hp) (Q : VK), Inv X pins σ H s → t σ H Q → wpAny (model X.prog X.w) X.A (eval e X.env) (fun u s' => 1 ≤ s'.toks ∧ EP X pins σ Q u s') X.xe s
def PS1 (X : Cx) (st : Stmt) (t : TS) : Prop :=
  ∀ (pins : List (Addr × Obj)) (s : Shared) (σ : St) (H : Hp) (D : Ends), Inv X pins σ H s → t D σ H → wpAny (model X.prog X.w) X.A (exec st X.env) (fun f s' => 1 ≤ s'.toks ∧ SP X pins D f s') X.xe s
def PEt (X : Cx) (e : Expr) (t : TE) : Prop :=
  ∀ (pins : List (Addr × Obj)) (s : Shared) (σ : St) (H : Hp) (Q : VK), 1 ≤ s.toks → Inv X pins σ H s → t σ H Q → wpAny (model X.prog X.w) X.A (eval e X.env) (EP X pins σ Q) X.xe s
def PSt (X : Cx) (st : Stmt) (t : TS) : Prop :=
  ∀ (pins : List (Addr × Obj)) (s : Shared) (σ : St) (H : Hp) (D : Ends), 1 ≤ s.toks → Inv X pins σ H s → t D σ H → wpAny (model X.prog X.w) X.A (exec st X.env) (SP X pins D) X.xe s
def PSst (X : Cx) (st : List Stmt) (t : TS) : Prop :=
  ∀ (pins : List (Addr × Obj)) (s : Shared) (σ : St) (H : Hp) (D : Ends), 1 ≤ s.toks → Inv X pins σ H s → t D σ H → wpAny (model X.prog X.w) X.A (execs st X.env) (SP X pins D) X.xe s
def tRepl (y z : Str) (to : TE) : TE := fun σ H Q => to σ H fun x H1 => ∃ w : Str, x = .str w ∧ w.length + (w.length + 1) * z.length ≤ 16777216 ∧ Q (.str (Txt.replace w y z)) H1
end
end L2
set_option Elab.async false
set_option linter.all false
set_option maxRecDepth 100000
namespace Sw
open PySem L2 XH PySem.NumText
/-! ### texts and their signs -/
def sL (z : Str) : List Nat := z.cps.toList
def mkS (l : List Nat) : Str := ⟨l.toArray⟩
theorem sL_mk (l : List Nat) : sL (mkS l) = l := by simp [sL, mkS]
theorem mk_sL (z : Str) : mkS (sL z) = z := by simp [sL, mkS]
theorem sL_inj {x y : Str} (h : sL x = sL y) : x = y := by rw [← mk_sL x, ← mk_sL y, h]
theorem sL_len (z : Str) : (sL z).length = z.length := by simp [sL, Str.length]
theorem mk_len (l : List Nat) : (mkS l).length = l.length := by rw [← sL_len, sL_mk]
theorem sL_app (x y : Str) : sL (x ++ y) = sL x ++ sL y := by
  show (x.cps ++ y.cps).toList = _
  rw [Array.toList_append]
  rfl
theorem mk_app (a b : List Nat) : mkS a ++ mkS b = mkS (a ++ b) := sL_inj (by rw [sL_app, sL_mk, sL_mk, sL_mk])
theorem empty_mk : Str.empty = mkS [] := rfl
theorem one_mk (c : Nat) : (⟨#[c]⟩ : Str) = mkS [c] := rfl
/-! ### a text split at a sign -/
theorem join_cons2 (s x y : Str) (r : List Str) : Str.join s (x :: y :: r) = x ++ s ++ Str.join s (y :: r) := rfl
theorem join_inj (c : Nat) : ∀ (xs ys : List Str), xs ≠ [] → ys ≠ [] → (∀ x ∈ xs, c ∉ sL x) → (∀ y ∈ ys, c ∉ sL y) → Str.join (mkS [c]) xs = Str.join (mkS [c]) ys → xs = ys
  | [], _, h, _, _, _, _ => absurd rfl h
  | _, [], _, h, _, _, _ => absurd rfl h
  | [x], [y], _, _, _, _, e => by
    have e' : x = y := e
    rw [e']
  | [x], y :: z :: r, _, _, hx, _, e => by
    exfalso
    have e' : x = y ++ mkS [c] ++ Str.join (mkS [c]) (z :: r) := e
    refine hx x (by simp) ?_
    rw [e', sL_app, sL_app, sL_mk]
    simp
  | x :: z :: r, [y], _, _, _, hy, e => by
    exfalso
    have e' : x ++ mkS [c] ++ Str.join (mkS [c]) (z :: r) = y := e
    refine hy y (by simp) ?_
    rw [← e', sL_app, sL_app, sL_mk]
    simp
  | x :: x' :: r, y :: y' :: r', _, _, hx, hy, e => by
    rw [join_cons2, join_cons2] at e
    have e1 := congrArg sL e
    rw [sL_app, sL_app, sL_app, sL_app, sL_mk, List.append_assoc, List.append_assoc] at e1
    have e2 := congrArg (cut1 c) e1
    simp only [List.cons_append, List.nil_append] at e2
    rw [cut_app (hx x (by simp)), cut_app (hy y (by simp))] at e2
    injection e2 with e3 e4
    have ih := join_inj c (x' :: r) (y' :: r') (by simp) (by simp) (fun z hz => hx z (by simp at hz ⊢; exact .inr hz)) (fun z hz => hy z (by simp at hz ⊢; exact .inr hz)) (sL_inj e4)
    rw [sL_inj e3, ih]
theorem split_ne (x : Str) (c : Nat) : Txt.split x (mkS [c]) ≠ [] := by
  unfold Txt.split
  split
  · simp
  · split
    · simp
    · rw [StrLaws.partsBetween_eq]
      obtain ⟨p, r, e⟩ := StrLaws.partsFrom_ne x (mkS [c]).length 0 (Builtin.Str.occurrences x (mkS [c]) 0 x.length (x.length + 1))
      rw [e]
      simp
theorem split_of {c : Nat} {ws : List Str} (ne : ws ≠ []) (free : ∀ w ∈ ws, c ∉ sL w) : Txt.split (Str.join (mkS [c]) ws) (mkS [c]) = ws :=
  join_inj c _ _ (split_ne _ c) ne (StrLaws.split_free _ c) free (StrLaws.join_split _ _)
/-! ### promises -/
def figT : Str := "0123456789"
def spFigs : Sp := fun vs H Q _ => ∃ z : Str, vs = [.str z] ∧ z.length ≤ 1000000 ∧ (fig? (sL z) = none → Q .non H) ∧ ∀ n : Nat, fig? (sL z) = some n → Q (.int n) H
def spTerm : Sp := fun vs H Q _ => ∃ z : Str, vs = [.str z] ∧ z.length ≤ 900000 ∧ (term? (sL z) = none → ∀ H', Same H H' → Q .non H') ∧ ∀ (n m : Nat) (p q : Int), term? (sL z) = some (n, m) → m ≠ 0 → n < 10 ^ 30 → m < 10 ^ 30 → Fr p q n m → Pair H Q p q
def spLoose : Sp := fun vs H Q _ => ∃ z : Str, vs = [.str z] ∧ z.length ≤ 800000 ∧ (loose? (sL z) = none → ∀ H', Same H H' → Q .non H') ∧
  ∀ (n m : Nat) (p q : Int), loose? (sL z) = some (n, m) → Low p q → p * m = n * q → m ≠ 0 → Bd 400 p → Bd 400 q → Pair H Q p q
def spAmt (K : PySem.W.Frag) : Sp := fun vs H Q _ => ∃ (t : Addr) (p q : Nat), vs = [.ref t] ∧ FrIn K 1900 H t p q ∧ Q (.str (mkS (amtL p q))) H
def spRead (c : Addr) : Sp := fun vs H Q E => ∃ z : Str, vs = [.str z] ∧ z.length ≤ 800000 ∧ (∀ p q : Nat, Reads (sL z) p q → Pair H Q p q) ∧ ((∀ p q, ¬ Reads (sL z) p q) → ∀ H', Same H H' → E (.ref c) none H')
def spReadC : Sp := fun vs H Q _ => ∃ z : Str, vs = [.str z] ∧ z.length ≤ 800000 ∧ ∃ p q : Nat, Reads (sL z) p q ∧ Pair H Q p q
end Sw
namespace Sw
open PySem L2 XH PySem.NumText
theorem lg {n : Nat} (h : n < 2 ^ 1900) : (n : Int).natAbs.log2 < 1920 := by
  rw [Int.natAbs_natCast]
  by_cases z : n = 0
  · subst z; decide
  · exact Nat.lt_trans ((Nat.log2_lt z).mpr h) (by decide)
end Sw
namespace Sw
open PySem L2 XH PySem.NumText
structure Am (p q : Nat) (ns : List Nat) : Prop where
  pos : 0 < q
  low : Nat.gcd p q = 1
  bp : p < 2 ^ 1900
  bq : q < 2 ^ 1900
  ne : ns ≠ []
  spl : Txt.split (Txt.replace (mkS (amtL p q)) (mkS [43]) (mkS [47])) (mkS [47]) = ns.map fun n => mkS (dg n)
  len : (amtL p q).length ≤ 2000
  rl : (Txt.replace (mkS (amtL p q)) (mkS [43]) (mkS [47])).length ≤ 2000
  few : ns.length ≤ 3
  bd : ∀ n ∈ ns, n < 2 ^ 1900
  ok : (∀ n ∈ ns, (dg n).length ≤ 30) → Reads (amtL p q) p q
  no : ∀ n ∈ ns, 30 < (dg n).length → ∀ p' q', ¬ Reads (amtL p q) p' q'
def lenV : V → V
  | .str z => .int z.length
  | v => v
def spGcd : Sp := fun vs H Q _ => ∃ a b : Int, vs = [.int a, .int b] ∧ 0 ≤ a ∧ 0 ≤ b ∧ Q (.int (gcdI a b)) H
def spNumb : Sp := fun vs H Q _ => ∃ (c sm : Int) (far : Bool), vs = [.int c, .int sm, .bl far] ∧ 0 < sm ∧ sm < 100 ∧ ∀ v : Nat, v < 10 ^ 119 → Q (.int v) H
def spRefA : Sp := fun vs H Q _ => ∃ z : Str, vs = [.str z] ∧ z.length ≤ 800000 ∧ (∀ p q, ¬ Reads (sL z) p q) ∧ ∀ H', Q (.bl true) H'
end Sw
namespace Sw
open PySem L2 XH PySem.NumText
def spIsNum : Sp := fun vs H Q _ => ∃ z : Str, vs = [.str z] ∧ z.length ≤ 1000000 ∧ (Fig (sL z) → Q (.bl true) H) ∧ (¬ Fig (sL z) → Q (.bl false) H)
def spDue : Sp := fun vs H Q _ => ∃ z : Str, vs = [.str z] ∧ z.length ≤ 1000 ∧ (due? (sL z) = none → ∀ H', Same H H' → Q .non H') ∧ ∀ p q : Nat, due? (sL z) = some (p, q) → Pair H Q p q
def spShort : Sp := fun vs H Q _ => ∃ c m : Int, vs = [.int c, .int m] ∧ ∀ z : Str, z.length ≤ 40 → ∀ H', Same H H' → Q (.str z) H'
def spSpoilt : Sp := fun vs H Q _ => ∃ (z : Str) (w c : Int), vs = [.str z, .int w, .int c] ∧ z.length ≤ 200 ∧ ∀ z' : Str, z'.length ≤ 402 → Q (.str z') H
def spReadG (K : PySem.W.Frag) (c : Addr) : Sp := fun vs H Q E => ∃ (x : V) (ty : Value) (b : Bool), vs = [x] ∧ TyOf K H x ty ∧ PySem.W.kitOne K ty (.type "str") = some b ∧
  (b = true → ∃ z : Str, x = .str z ∧ z.length ≤ 800000 ∧ (∀ p q : Nat, Reads (sL z) p q → Pair H Q p q) ∧ ((∀ p q, ¬ Reads (sL z) p q) → ∀ H', Same H H' → E (.ref c) none H')) ∧
  (b = false → ∀ H', Same H H' → E (.ref c) none H')
def spRefB (K : PySem.W.Frag) : Sp := fun vs H Q _ => ∃ (x : V) (ty : Value) (b : Bool), vs = [x] ∧ TyOf K H x ty ∧ PySem.W.kitOne K ty (.type "str") = some b ∧
  (b = true → ∃ z : Str, x = .str z ∧ z.length ≤ 800000 ∧ ∀ p q, ¬ Reads (sL z) p q) ∧ ∀ H', Q (.bl true) H'
end Sw
namespace Sw
open PySem L2 XH PySem.NumText
end Sw
namespace Sw
open PySem L2 XH PySem.NumText
end Sw
set_option Elab.async false
set_option linter.all false
set_option maxRecDepth 100000
namespace L2
open PySem PySem.Spec PyProof.Rows XH
/-! ### a dict, walked key by key; while it is walked it is known to the object -/
def Itd (a : Addr) (o : Obj) (kvs : List (Key × V)) : It :=
  ⟨fun i H => H a = some (.frz o (.dK kvs)) ∧ i < kvs.length, fun i H v H' => H' = H ∧ ∃ k x, kvs[i]? = some (k, x) ∧ v = kV k, fun i H => H a = some (.frz o (.dK kvs)) ∧ i = kvs.length⟩
/-- nothing of the kind was known there at the entry -/
def NF (X : Cx) (a : Addr) : Prop := ∀ o u, X.H₀ a ≠ some (.frz o u)
theorem Inv.nf {X : Cx} {pins : List (Addr × Obj)} {σ : St} {H : Hp} {s : Shared} {a : Addr} {kvs : List (Key × V)} (I : Inv X pins σ H s) (h : H a = some (.dK kvs)) : NF X a := fun o u e => by
  have := I.base.frzs a o u e
  rw [h] at this
  cases this
def iDict (X : Cx) (tl : TE) : TI := fun σ H R => tl σ H fun x H1 => ∃ a kvs, x = .ref a ∧ H1 a = some (.dK kvs) ∧ ∀ o, NF X a → R (Itd a o kvs) (upd H1 a (.frz o (.dK kvs)))
section
variable {X : Cx} {tg : Expr}
end
def unf (X : Cx) (P : Hp → Prop) (H : Hp) : Prop := ∃ a o kvs, H a = some (.frz o (.dK kvs)) ∧ NF X a ∧ P (upd H a (.dK kvs))
def unfD (X : Cx) (D : Ends) : Ends := { nx := fun σ => unf X (D.nx σ), bk := fun σ => unf X (D.bk σ), ct := fun σ => unf X (D.ct σ), rt := fun v => unf X (D.rt v) }
end L2
set_option Elab.async false
set_option linter.all false
set_option maxRecDepth 100000
namespace L2
open PySem PySem.Spec PyProof.Rows XH
/-! ### list comprehensions with one test -/
def compIR (js : List Nat) (tc : TT) (te : TE) (σ : St) (Q : VK) : It → Hp → Prop := fun J H1 => ∀ p, H1 p = none → ∃ W : Nat → Nat → List V → Hp → Prop, (∃ m, W 0 m [] (upd H1 p (.lst []))) ∧
  ∀ i m ys H2, W i m ys H2 → H2 p = some (.lst ys) ∧ ((J.stop i H2 ∧ Q (.ref p) H2) ∨ (J.go i H2 ∧ ys.length < sizeLine ∧ ∀ x H3, J.yld i H2 x H3 → tc (some x :: freesOf js σ) H3 fun b H4 =>
    if b = true then te (some x :: freesOf js σ) H4 fun y H5 => H5 p = some (.lst ys) ∧ ∃ m', m' < m ∧ W (i + 1) m' (ys ++ [y]) (upd H5 p (.lst (ys ++ [y]))) else ∃ m', m' < m ∧ W (i + 1) m' ys H4))
def tCompIf (wi : TI) (js : List Nat) (tc : TT) (te : TE) : TE := fun σ H Q => wi σ H (compIR js tc te σ Q)
section
variable {prog : Program} {w : World} {A : Around} {R : Result → Shared → Prop} {s : Shared}
theorem compLoop_if {elt target iter cond : Expr} {scope : Scope} {pos : Pos} {it acc : Value} {env : Env} (I : Nat → Shared → Prop)
    (turn : ∀ n s, I n s → wpAny (model prog w) A (pyNext it) (fun r s1 => match r with
      | none => R (.ok .next) s1
      | some v => wpAny (model prog w) A (letOwnedTupleGo target it v) (fun _ s2 => wpAny (model prog w) A (assign target env v) (fun _ s3 => wpAny (model prog w) A (isTrue cond env (eval cond env)) (fun ok s4 =>
          if ok = true then wpAny (model prog w) A (eval elt env) (fun x s5 => wpAny (model prog w) A (call (.builtin "list.append") [acc, x]) (fun _ s6 => ∃ m, m < n ∧ I m s6) (fun _ _ => False) s5) (fun _ _ => False) s4
          else ∃ m, m < n ∧ I m s4) (fun _ _ => False) s3) (fun _ _ => False) s2) (fun _ _ => False) s1) (fun _ _ => False) s)
    (n : Nat) (h : I n s) : codeAny (model prog w) A (.compLoop (.ListComp elt [⟨target, iter, [cond], 0⟩] scope pos) 0 it acc env) R s := by
  apply codeAny_loop rfl I ?_ n h
  intro n s hI
  show wpAny _ _ ((compTurn (.ListComp elt [⟨target, iter, [cond], 0⟩] scope pos) 0 it acc env).onRaise _) _ _ s
  apply wpAny_noted
  rw [compTurn_list]
  apply wpAny_bind
  apply wpAny_standAt
  apply wpAny_bind
  refine wpAny_mono (turn n s hI) (fun r s1 h1 => ?_) fun _ _ z => z.elim
  cases r with
  | none => exact wpAny_pure h1
  | some v =>
    apply wpAny_bind
    refine wpAny_mono h1 (fun _ s2 h2 => ?_) fun _ _ z => z.elim
    apply wpAny_bind
    refine wpAny_mono h2 (fun _ s3 h3 => ?_) fun _ _ z => z.elim
    apply wpAny_bind
    refine wpAny_mono (wpAny_tests_one h3) (fun ok s4 h4 => ?_) fun _ _ z => z.elim
    cases ok with
    | true =>
      apply wpAny_bind
      apply wpAny_bind
      refine wpAny_mono h4 (fun x s5 h5 => ?_) fun _ _ z => z.elim
      apply wpAny_bind
      refine wpAny_mono h5 (fun _ s6 h6 => ?_) fun _ _ z => z.elim
      exact wpAny_pure (wpAny_pure ⟨rfl, h6⟩)
    | false =>
      have h4' : ∃ m, m < n ∧ I m s4 := h4
      exact wpAny_pure ⟨rfl, h4'⟩
end
section
variable {X : Cx} {scope : Scope} {cl : List (Str × Addr)} {own : Str} {ys : List Str} {js : List Nat} {elt iter cond : Expr} {px pos : Pos} {wi : TI} {te : TE} {tc : TT}
theorem pe_compIf (hc : X.calm = true) (ok : CompOk X scope cl own ys js) (hi : PI X (.Name own px) iter wi)
    (hq : ∀ (C : Addr) (fp : List Addr) (s : Shared) (H : Hp), PT (X.block scope cl C (own :: ys) own fp s H) cond tc)
    (he : ∀ (C : Addr) (fp : List Addr) (s : Shared) (H : Hp), PE (X.block scope cl C (own :: ys) own fp s H) elt te)
    (hs : ∀ x, foldedSetIterable iter X.env x = pure x := by intro _; rfl) : PE X (.ListComp elt [⟨.Name own px, iter, [cond], 0⟩] scope pos) (tCompIf wi js tc te) := by
  intro pins s σ H Q I h
  rw [eval_ListComp]
  have ncell : ∀ y ∈ scope.names, y.2 ≠ .cell := fun y hy z => by
    have q := List.all_eq_true.mp ok.nocell y hy
    rw [z] at q
    simp at q
  have nloc : ∀ y ∈ scope.names, y.2 = .local → scope.names.lookup y.1 = some .local := fun y hy z => by
    have q := List.all_eq_true.mp ok.loc y hy
    rw [z] at q
    simpa using q
  refine wpAny_comprehension_free (use := none) rfl hs ok.clos ok.kind nloc (thn (hi pins s σ H _ I h) fun v s1 h1 => thn h1 fun itv s2 h2 => ?_)
  obtain ⟨it, fp, tn, J, H2, rfl, I2, T, st2, f2, q2⟩ := h2
  obtain ⟨W, ⟨m0, w0⟩, turn⟩ := q2 s2.heap.objs.size (I2.hok.fresh (Nat.le_refl _))
  refine wpAny_newObj_type (wpAny_newFunctionEnv ncell (by intro y hy; simp at hy) (fun h1 hns hsb => ?_) ok.kind)
  have I3 := I2.laid (a := s2.heap.objs.size) (o := .lst []) (h' := s2.heap.push { cls := .type "list", dict := none, data := .seq ([] : List Value).toArray }) (t' := s2.toks) (fun b u q => Heap.get?_push_of_some _ q) (Nat.le_refl _)
    ⟨Nat.zero_le _, [], 0, .nil, Heap.get?_push_size _ rfl⟩
  have fpo : ∀ b ∈ fp, b < s2.heap.objs.size := fun b hb => by
    obtain ⟨o, e, _⟩ := T.obj 0 _ st2 b hb
    exact Heap.lt_size e
  have f3 : ∀ b ∈ fp, FpOk X pins (upd H2 s2.heap.objs.size (.lst [])) b := fun b hb => ⟨by rw [upd_ne (Nat.ne_of_lt (fpo b hb))]; exact (f2 b hb).1, (f2 b hb).2⟩
  generalize hs3 : ({ s2 with heap := s2.heap.push { cls := .type "list", dict := none, data := .seq ([] : List Value).toArray }, toks := s2.toks } : Shared) = s3 at I3
  have e3 : s3.heap = s2.heap.push { cls := .type "list", dict := none, data := .seq ([] : List Value).toArray } := by rw [← hs3]
  have lt3 : ∀ b ∈ fp, b < s3.heap.objs.size := fun b hb => by rw [e3, Heap.size_push]; exact Nat.lt_succ_of_lt (fpo b hb)
  dsimp only at hns hsb ⊢
  rw [← e3] at hns hsb
  have hk : ∀ b o, s3.heap.get? b = some o → h1.get? b = some o := fun b o e => hsb.extBut b o (Nat.ne_of_lt (Heap.lt_size e)) (Heap.get?_push_of_some _ e)
  have J0 := block_start (h1 := h1) ok I3 f3 lt3 hns hk (s2.toks + 0)
  have t0 : tn 0 h1 := T.keep 0 _ _ st2 fun b hb o e => hk b o (by rw [e3]; exact Heap.get?_push_of_some _ e)
  have fpB : ∀ {H' : Hp}, (∀ b ∈ fp, H' b = none) → ∀ b ∈ fp, FpOk (X.block scope cl s3.heap.objs.size (own :: ys) own fp s3 (upd H2 s2.heap.objs.size (.lst []))) [] H' b := fun {H'} hn b hb =>
    ⟨hn b hb, Nat.ne_of_lt (lt3 b hb), fun z => (List.mem_cons.mp (I3.stkSub b z)).elim (f3 b hb).2.1 (f3 b hb).2.2.1, .inl hb, fun x c e => (f3 b hb).2.2.2.2.1 x c (ok.sub (x, c) (PySem.mem_of_lookup e)), fun p hp => absurd (show p ∈ ([] : List (Addr × Obj)) from hp) (by simp)⟩
  have loop : codeAny (model X.prog X.w) X.A (.compLoop (.ListComp elt [⟨.Name own px, iter, [cond], 0⟩] scope pos) 0 (.ref it) (.ref s2.heap.objs.size) (compEnvC scope cl s3.heap.objs.size X.env))
      (compPost (model X.prog X.w) X.A X.xe none (EP X pins σ Q) (.ref s2.heap.objs.size) s3.heap.objs.size) { s3 with heap := h1, toks := s2.toks + 0 } := by
    refine compLoop_if (fun n s' => ∃ i zs o0 H', Inv (X.block scope cl s3.heap.objs.size (own :: ys) own fp s3 (upd H2 s2.heap.objs.size (.lst []))) [] (o0 :: freesOf js σ) H' s' ∧ tn i s'.heap ∧ (∀ b ∈ fp, H' b = none) ∧ W i n zs H') ?_ m0
      ⟨0, [], none, _, J0, t0, fun b hb => (f3 b hb).1, w0⟩
    rintro n s5 ⟨i, zs, o0, H5, I5, t5, n5, w5⟩
    obtain ⟨hD, hw⟩ := turn i n zs H5 w5
    rcases hw with ⟨stop, qn⟩ | ⟨go, hz, step⟩
    · refine thn (T.done (X.block scope cl s3.heap.objs.size (own :: ys) own fp s3 (upd H2 s2.heap.objs.size (.lst []))) rfl rfl rfl hc i [] s5 _ H5 (fun _ _ => False) I5 (fpB n5) t5 stop) fun r s6 ⟨hr, I6⟩ => ?_
      subst hr
      obtain ⟨m, hn, _⟩ := id I6.loc
      exact ⟨m, hn, fun h' hs' => ⟨V.ref s2.heap.objs.size, H5, block_end I3 f3 I6 hs', rfl, qn⟩⟩
    · refine thn (T.item (X.block scope cl s3.heap.objs.size (own :: ys) own fp s3 (upd H2 s2.heap.objs.size (.lst []))) rfl rfl rfl hc i [] s5 _ H5 (fun _ _ => False) I5 (fpB n5) t5 go) fun r s6 ⟨u, hr, h6⟩ => ?_
      subst hr
      refine thn h6 fun _ s7 ⟨x, H7, I7, r7, y7, t7, n7⟩ => ?_
      have I7' := I7.pinned (fpB n7) (T.obj _ _ t7)
      have hst := step x H7 y7
      have own' : (relabel scope X.env).names.lookup own = some .local := lookup_relabel_local ok.ownL
      refine thn (pg_name (X := X.block scope cl s3.heap.objs.size (own :: ys) own fp s3 (upd H2 s2.heap.objs.size (.lst []))) (i := 0) (x := own) (pos := px) ok.nd rfl (.inl own') (.inr own') _ s7 _ H7 x u (fun σ' H' => σ' = some x :: freesOf js σ ∧ H' = H7) I7' r7 ⟨rfl, rfl⟩) fun _ s8 ⟨σ8, H8, I8, e8, eH8⟩ => ?_
      subst e8 eH8
      refine thn (hq _ _ _ _ _ s8 _ H8 _ I8 hst) fun ok s9 ⟨H9, I9, h9⟩ => ?_
      have frame : ∀ {s' : Shared} {H' : Hp}, Inv (X.block scope cl s3.heap.objs.size (own :: ys) own fp s3 (upd H2 s2.heap.objs.size (.lst []))) ([] ++ pinsAt fp s7.heap) (some x :: freesOf js σ) H' s' → tn (i + 1) s'.heap ∧ ∀ b ∈ fp, H' b = none := fun {s' H'} I' =>
        ⟨T.keep _ _ _ t7 fun b hb o e => (I'.pin (b, o) (List.mem_append_right _ (List.mem_append_right _ (mem_pinsAt hb e)))).1, fun b hb => by
          obtain ⟨o, e, d⟩ := T.obj _ _ t7 b hb
          exact (I'.pin (b, o) (List.mem_append_right _ (List.mem_append_right _ (mem_pinsAt hb e)))).2.1⟩
      cases ok with
      | true =>
        refine thn (he _ _ _ _ _ s9 _ H9 _ I9 h9) fun yv s10 ⟨y, H10, I10, r10, hD10, m', hm, w10⟩ => ?_
        refine thn (mt_append _ s10 _ H10 (.ref s2.heap.objs.size) [y] (.ref s2.heap.objs.size) [yv] (fun _ H' => H' = upd H10 s2.heap.objs.size (.lst (zs ++ [y]))) I10 rfl (.cons r10 .nil) ⟨_, zs, y, rfl, rfl, hD10, hz, rfl⟩) fun _ s11 ⟨_, H11, I11, _, e11⟩ => ?_
        subst e11
        exact ⟨m', hm, i + 1, zs ++ [y], some x, _, I11.unpinned, (frame I11).1, (frame I11).2, w10⟩
      | false =>
        obtain ⟨m', hm, w10⟩ := h9
        exact ⟨m', hm, i + 1, zs, some x, _, I9.unpinned, (frame I9).1, (frame I9).2, w10⟩
  subst hs3
  exact codeAny_compStart_list loop (T.self _ 0 _ _ _ t0 loop)
end
end L2
set_option Elab.async false
set_option linter.all false
set_option maxRecDepth 100000
namespace L2
open PySem PySem.Spec PyProof.Rows XH
section
variable {X : Cx} {scope : Scope} {cl : List (Str × Addr)} {own : Str} {ys : List Str} {js : List Nat} {elt iter cond : Expr} {px pos : Pos} {wi : TI} {te : TE} {tc : TT}
end
end L2
set_option Elab.async false
set_option linter.all false
set_option maxRecDepth 100000
namespace L2
open PySem PySem.Spec PyProof.Rows XH
/-! ### setdefault -/
section
variable {X : Cx}
end
/-! ### dicts that are alike -/
section
variable {prog : Program} {w : World} {κ : Type} [DecidableEq κ] {knd : KeyKind prog w κ} {A : Around} {E : Value → Shared → Prop} {s : Shared}
def LEq (prog : Program) (w : World) (A : Around) (s : Shared) (v y : Value) : Prop := ∀ (E : Value → Shared → Prop) (Q : Bool → Shared → Prop), Q true s → wpAny (model prog w) A (eqBool v y) Q E s
end
end L2
set_option Elab.async false
set_option linter.all false
set_option maxRecDepth 100000
namespace L2
open PySem PySem.Spec PyProof.Rows XH
/-! ### list(reversed(xs)) -/
section
variable {prog : Program} {w : World} {A : Around} {R : Result → Shared → Prop} {s : Shared} {I l S : Addr} {items : Array Value}
abbrev RevP (items : Array Value) : Nat → Value → Prop := fun i v => items[items.size - 1 - i]? = some v
end
def tRev (K : PySem.W.Frag) (te : TE) : TE := fun σ H Q => te σ H fun x H1 => ∃ a xs, x = .ref a ∧ SqL K H1 a xs ∧ ∀ l, H1 l = none → Q (.ref l) (upd H1 l (.lst xs.reverse))
section
variable {X : Cx} {e : Expr} {te : TE} {p1 p2 pos pos2 : Pos}
end
end L2
set_option Elab.async false
set_option linter.all false
set_option maxRecDepth 100000
namespace L2
open PySem PySem.Spec PyProof.Rows XH
/-! ### set(xs) of texts and numbers that are all unlike -/
def upTo (ks : Nat → Key) (i : Nat) : Key → Bool := fun k => (List.range i).any fun j => decide (ks j = k)
section
variable {prog : Program} {w : World} {A : Around} {R : Result → Shared → Prop} {I : Addr} {fp wr : List Addr} {G : Array GenState → Array GenState → Prop} {n : Nat} {P : Nat → Value → Prop} {St : Nat → Shared → Prop}
end
section
variable {prog : Program} {w : World} {A : Around} {E : Value → Shared → Prop} {s : Shared}
end
end L2
namespace L2
open PySem PySem.Spec PyProof.Rows XH
/-! ### len(set(xs)) -/
def tLenSet (K : PySem.W.Frag) (te : TE) : TE := fun σ H Q => te σ H fun x H1 => ∃ (a : Addr) (ks : List Key), x = .ref a ∧ SqL K H1 a (ks.map kV) ∧ ks.Nodup ∧ ks.length < 4000 ∧ Q (.int ks.length) H1
section
variable {X : Cx} {e : Expr} {te : TE} {p1 p2 pos pos2 : Pos}
end
end L2
set_option Elab.async false
set_option linter.all false
set_option maxRecDepth 100000
namespace L2
open PySem PySem.Spec PyProof.Rows XH
end L2
namespace Sw
open PySem L2
/-! ### what parts lead to -/
/-- y can be come to from x by pairs -/
inductive Led (ps : List (Str × Str)) (x : Str) : Str → Prop where
  | self : Led ps x x
  | step {y z : Str} : Led ps x y → (y, z) ∈ ps → Led ps x z
/-! ### dicts with one value for all keys -/
def mapK (ks : List Str) (v : V) : List (Key × V) := ks.map fun y => (.inr y, v)
def addS (ks : List Str) (y : Str) : List Str := if y ∈ ks then ks else ks ++ [y]
theorem mem_addS {ks : List Str} {y z : Str} : z ∈ addS ks y ↔ z ∈ ks ∨ z = y := by
  unfold addS
  split
  · rename_i h
    constructor
    · exact .inl
    · rintro (k | rfl)
      · exact k
      · exact h
  · simp
theorem addS_nodup {ks : List Str} {y : Str} (h : ks.Nodup) : (addS ks y).Nodup := by
  unfold addS
  split
  · exact h
  · rename_i n
    rw [List.nodup_append]
    refine ⟨h, by simp, ?_⟩
    intro a ha b hb
    simp at hb
    subst hb
    exact fun e => n (e ▸ ha)
theorem addS_len (ks : List Str) (y : Str) : ks.length ≤ (addS ks y).length ∧ ((addS ks y).length = ks.length → y ∈ ks) ∧ (addS ks y).length ≤ ks.length + 1 := by
  unfold addS
  split
  · rename_i h
    exact ⟨Nat.le_refl _, fun _ => h, Nat.le_succ _⟩
  · simp
/-! ### how many of a list are not yet there -/
def lack (l ks : List Str) : Nat := (l.filter fun y => !decide (y ∈ ks)).length
theorem lack_le (l : List Str) {ks ks' : List Str} (h : ∀ y ∈ ks, y ∈ ks') : lack l ks' ≤ lack l ks := by
  unfold lack
  induction l with
  | nil => exact Nat.le_refl _
  | cons a l ih =>
    by_cases h1 : a ∈ ks
    · simp [h1, h a h1, ih]
    · by_cases h2 : a ∈ ks'
      · simp [h1, h2]; omega
      · simp [h1, h2]; omega
theorem lack_le_len (l ks : List Str) : lack l ks ≤ l.length := List.length_filter_le _ _
theorem lack_lt {l ks ks' : List Str} {y : Str} (h : ∀ z ∈ ks, z ∈ ks') (yl : y ∈ l) (n : y ∉ ks) (y' : y ∈ ks') : lack l ks' < lack l ks := by
  unfold lack
  induction l with
  | nil => simp at yl
  | cons a l ih =>
    have le := lack_le l h
    unfold lack at le
    by_cases e : a = y
    · subst e
      simp [n, y']
      omega
    · have yl' : y ∈ l := by
        rcases List.mem_cons.mp yl with z | z
        · exact absurd z.symm e
        · exact z
      have ih := ih yl'
      by_cases h1 : a ∈ ks
      · simp [h1, h a h1]; exact ih
      · by_cases h2 : a ∈ ks'
        · simp [h1, h2]; omega
        · simp [h1, h2]; exact ih
theorem addS_room {l ks : List Str} {y : Str} (yl : y ∈ l) : (addS ks y).length + lack l (addS ks y) ≤ ks.length + lack l ks := by
  by_cases h : y ∈ ks
  · unfold addS
    rw [if_pos h]
    exact Nat.le_refl _
  · have lt := lack_lt (ks' := addS ks y) (fun z hz => mem_addS.mpr (.inl hz)) yl h (mem_addS.mpr (.inr rfl))
    have := (addS_len ks y).2.2
    omega
/-! ### a list of pairs -/
structure PL (H : Hp) (l : Addr) (ps : List (Str × Str)) : Prop where
  ex : ∃ as : List Addr, as.length = ps.length ∧ H l = some (.lst (as.map V.ref)) ∧ ∀ (i : Nat) (a : Addr) (p : Str × Str), as[i]? = some a → ps[i]? = some p → H a = some (.tup [.str p.1, .str p.2])
theorem PL.same {H H' : Hp} {l : Addr} {ps : List (Str × Str)} (h : PL H l ps) (g : Same H H') : PL H' l ps := by
  obtain ⟨as, h1, h2, h3⟩ := h.ex
  exact ⟨as, h1, g _ _ h2, fun i a p e1 e2 => g _ _ (h3 i a p e1 e2)⟩
def spLed : Sp := fun vs H Q _ => ∃ (l : Addr) (good : Str) (ps : List (Str × Str)), vs = [.ref l, .str good] ∧ PL H l ps ∧ ps.length ≤ 1000 ∧
  ∀ (d : Addr) (H' : Hp) (ks : List Str), Same H H' → H' d = some (.dK (mapK ks (.bl true))) → ks.Nodup → (∀ y, y ∈ ks ↔ Led ps good y) → Q (.ref d) H'
end Sw
namespace Sw
open PySem L2
def lettT : Str := "abcdefghijklmnopqrstuvwxyz"
def spNames0 : Sp := fun vs H Q _ => ∃ n m : Int, vs = [.int n, .int m] ∧ 0 ≤ m ∧ m ≤ 90 ∧ ∀ (l : Addr) (H' : Hp) (zs : List Str), Same H H' → H' l = some (.lst (zs.map V.str)) → (zs.length : Int) = m → Q (.ref l) H'
end Sw
set_option Elab.async false
set_option linter.all false
set_option maxRecDepth 100000
namespace Sw
open PySem L2
/-! ### parts as a dict of dicts -/
def rowsAdd : List (Str × List Str) → Str → Str → List (Str × List Str)
  | [], x, y => [(x, [y])]
  | (a, ys) :: r, x, y => if a = x then (a, addS ys y) :: r else (a, ys) :: rowsAdd r x y
def rowsOf (ps : List (Str × Str)) : List (Str × List Str) := ps.foldl (fun r p => rowsAdd r p.1 p.2) []
def InRow (rows : List (Str × List Str)) (x y : Str) : Prop := ∃ ys, (x, ys) ∈ rows ∧ y ∈ ys
theorem inRow_cons {a : Str} {ys : List Str} {r : List (Str × List Str)} {x y : Str} : InRow ((a, ys) :: r) x y ↔ (a = x ∧ y ∈ ys) ∨ InRow r x y := by
  constructor
  · rintro ⟨zs, h, k⟩
    rcases List.mem_cons.mp h with e | e
    · cases e; exact .inl ⟨rfl, k⟩
    · exact .inr ⟨zs, e, k⟩
  · rintro (⟨rfl, k⟩ | ⟨zs, h, k⟩)
    · exact ⟨ys, by simp, k⟩
    · exact ⟨zs, by simp [h], k⟩
theorem rowsAdd_in : ∀ (rows : List (Str × List Str)) (x y a b : Str), InRow (rowsAdd rows x y) a b ↔ InRow rows a b ∨ (a = x ∧ b = y)
  | [], x, y, a, b => by
    simp only [rowsAdd, inRow_cons]
    constructor
    · rintro (⟨rfl, k⟩ | ⟨_, h, _⟩)
      · exact .inr ⟨rfl, by simpa using k⟩
      · simp at h
    · rintro (⟨_, h, _⟩ | ⟨rfl, rfl⟩)
      · simp at h
      · exact .inl ⟨rfl, by simp⟩
  | (c, ys) :: r, x, y, a, b => by
    have ih := rowsAdd_in r x y a b
    unfold rowsAdd
    by_cases e : c = x
    · subst e
      rw [if_pos rfl, inRow_cons, inRow_cons, mem_addS]
      constructor
      · rintro (⟨rfl, k | rfl⟩ | h)
        · exact .inl (.inl ⟨rfl, k⟩)
        · exact .inr ⟨rfl, rfl⟩
        · exact .inl (.inr h)
      · rintro ((⟨rfl, k⟩ | h) | ⟨rfl, rfl⟩)
        · exact .inl ⟨rfl, .inl k⟩
        · exact .inr h
        · exact .inl ⟨rfl, .inr rfl⟩
    · rw [if_neg e, inRow_cons, inRow_cons, ih]
      constructor
      · rintro (h | h | h)
        · exact .inl (.inl h)
        · exact .inl (.inr h)
        · exact .inr h
      · rintro ((h | h) | h)
        · exact .inl h
        · exact .inr (.inl h)
        · exact .inr (.inr h)
theorem rowsAdd_keys : ∀ (rows : List (Str × List Str)) (x y : Str), (rowsAdd rows x y).map (·.1) = addS (rows.map (·.1)) x
  | [], x, y => by simp [rowsAdd, addS]
  | (c, ys) :: r, x, y => by
    have ih := rowsAdd_keys r x y
    unfold rowsAdd
    by_cases e : c = x
    · subst e
      rw [if_pos rfl]
      simp [addS]
    · rw [if_neg e]
      simp only [List.map_cons, ih]
      unfold addS
      have e' : ¬ x = c := fun z => e z.symm
      simp only [List.mem_cons, e', false_or]
      split <;> rfl
theorem rowsAdd_small {n : Nat} : ∀ {rows : List (Str × List Str)} (x y : Str), rows.length ≤ n → (∀ p ∈ rows, p.2.length ≤ n ∧ p.2.Nodup) → (rowsAdd rows x y).length ≤ n + 1 ∧ ∀ p ∈ rowsAdd rows x y, p.2.length ≤ n + 1 ∧ p.2.Nodup := by
  intro rows x y h1 h2
  have hl : (rowsAdd rows x y).length ≤ rows.length + 1 := by
    have := congrArg List.length (rowsAdd_keys rows x y)
    rw [List.length_map] at this
    have k := (addS_len (rows.map (·.1)) x).2.2
    rw [List.length_map] at k
    omega
  refine ⟨by omega, ?_⟩
  clear hl h1
  induction rows with
  | nil =>
    intro p hp
    simp [rowsAdd] at hp
    subst hp
    simp
  | cons a r ih =>
    obtain ⟨c, ys⟩ := a
    have ih := ih fun p hp => h2 p (by simp [hp])
    have hc := h2 (c, ys) (by simp)
    intro p hp
    unfold rowsAdd at hp
    split at hp
    · rcases List.mem_cons.mp hp with rfl | k
      · have := (addS_len ys y).2.2
        exact ⟨Nat.le_trans this (by have := hc.1; simp at this ⊢; omega), addS_nodup hc.2⟩
      · have := h2 p (by simp [k])
        exact ⟨by omega, this.2⟩
    · rcases List.mem_cons.mp hp with rfl | k
      · exact ⟨by have := hc.1; simp at this ⊢; omega, hc.2⟩
      · exact ih p k
structure RowsOk (rows : List (Str × List Str)) (ps : List (Str × Str)) : Prop where
  mem : ∀ a b, InRow rows a b ↔ (a, b) ∈ ps
  keys : (rows.map (·.1)).Nodup
  few : rows.length ≤ ps.length
  small : ∀ p ∈ rows, p.2.length ≤ ps.length ∧ p.2.Nodup
theorem RowsOk.nil : RowsOk [] [] := ⟨fun a b => ⟨fun ⟨_, h, _⟩ => by simp at h, fun h => by simp at h⟩, by simp, by simp, fun p hp => by simp at hp⟩
theorem RowsOk.add {rows : List (Str × List Str)} {ps : List (Str × Str)} (h : RowsOk rows ps) (p : Str × Str) : RowsOk (rowsAdd rows p.1 p.2) (ps ++ [p]) := by
  obtain ⟨k1, k2⟩ := rowsAdd_small p.1 p.2 h.few h.small
  refine ⟨fun a b => ?_, by rw [rowsAdd_keys]; exact addS_nodup h.keys, by simpa using k1, fun q hq => by simpa using k2 q hq⟩
  rw [rowsAdd_in, h.mem]
  obtain ⟨p1, p2⟩ := p
  simp
/-! ### as it lies in the heap -/
def DRows (H : Hp) : List (Str × List Str) → List Addr → Prop
  | [], [] => True
  | (_, ys) :: rows, r :: rs => H r = some (.dK (mapK ys (.bl true))) ∧ DRows H rows rs
  | _, _ => False
def topK : List (Str × List Str) → List Addr → List (Key × V)
  | (x, _) :: rows, r :: rs => (.inr x, .ref r) :: topK rows rs
  | _, _ => []
theorem DRows.len {H : Hp} : ∀ {rows : List (Str × List Str)} {rs : List Addr}, DRows H rows rs → rs.length = rows.length ∧ (topK rows rs).length = rows.length
  | [], [], _ => ⟨rfl, rfl⟩
  | _ :: _, _ :: _, h => by
    have := DRows.len h.2
    exact ⟨by simp [this.1], by simp [topK, this.2]⟩
  | [], _ :: _, h => h.elim
  | _ :: _, [], h => h.elim
theorem DRows.same {H H' : Hp} (g : Same H H') : ∀ {rows : List (Str × List Str)} {rs : List Addr}, DRows H rows rs → DRows H' rows rs
  | [], [], _ => trivial
  | _ :: _, _ :: _, h => ⟨g _ _ h.1, DRows.same g h.2⟩
  | [], _ :: _, h => h.elim
  | _ :: _, [], h => h.elim
theorem DRows.other {H : Hp} {a : Addr} {o : HO} : ∀ {rows : List (Str × List Str)} {rs : List Addr}, DRows H rows rs → a ∉ rs → DRows (upd H a o) rows rs
  | [], [], _, _ => trivial
  | _ :: _, r :: _, h, n => ⟨by rw [upd_ne (fun e => n (by simp [e]))]; exact h.1, DRows.other h.2 fun k => n (by simp [k])⟩
  | [], _ :: _, h, _ => h.elim
  | _ :: _, [], h, _ => h.elim
theorem DRows.snoc {H : Hp} {x : Str} {ys : List Str} {p : Addr} (e : H p = some (.dK (mapK ys (.bl true)))) : ∀ {rows : List (Str × List Str)} {rs : List Addr}, DRows H rows rs → DRows H (rows ++ [(x, ys)]) (rs ++ [p])
  | [], [], _ => ⟨e, trivial⟩
  | _ :: _, _ :: _, h => ⟨h.1, DRows.snoc e h.2⟩
  | [], _ :: _, h => h.elim
  | _ :: _, [], h => h.elim
structure DD (H : Hp) (d : Addr) (rows : List (Str × List Str)) : Prop where
  ex : ∃ rs : List Addr, DRows H rows rs ∧ H d = some (.dK (topK rows rs)) ∧ rs.Nodup ∧ d ∉ rs
theorem DD.same {H H' : Hp} {d : Addr} {rows : List (Str × List Str)} (h : DD H d rows) (g : Same H H') : DD H' d rows := by
  obtain ⟨rs, h1, h2, h3, h4⟩ := h.ex
  exact ⟨rs, h1.same g, g _ _ h2, h3, h4⟩
def spDict : Sp := fun vs H Q _ => ∃ (l : Addr) (ps : List (Str × Str)), vs = [.ref l] ∧ PL H l ps ∧ ps.length ≤ 1000 ∧ ∀ (d : Addr) (H' : Hp), Same H H' → DD H' d (rowsOf ps) → Q (.ref d) H'
end Sw
set_option Elab.async false
set_option linter.all false
set_option maxRecDepth 100000
namespace Sw
open PySem L2
/-! ### all that is in a good, each with the one ahead of it -/
def optV : Option Str → V
  | none => .non
  | some p => .str p
def aheadK (es : List (Str × Option Str)) : List (Key × V) := es.map fun e => (.inr e.1, optV e.2)
def keysA (es : List (Str × Option Str)) : List Str := es.map (·.1)
structure ABase (ps : List (Str × Str)) (good : Str) (es : List (Str × Option Str)) : Prop where
  first : es[0]? = some (good, none)
  nd : (keysA es).Nodup
  led : ∀ y ∈ keysA es, Led ps good y
  par : ∀ (i : Nat) (y : Str) (o : Option Str), es[i]? = some (y, o) → (o = none → i = 0) ∧ ∀ p, o = some p → (p, y) ∈ ps ∧ ∃ j o', j < i ∧ es[j]? = some (p, o')
  room : (keysA es).length + lack (ps.map (·.2)) (keysA es) ≤ 1001
theorem ABase.start (ps : List (Str × Str)) (good : Str) (few : ps.length ≤ 1000) : ABase ps good [(good, none)] where
  first := rfl
  nd := by simp [keysA]
  led := fun y hy => by simp [keysA] at hy; subst hy; exact .self
  par := fun i y o h => by
    cases i with
    | zero => simp at h; exact ⟨fun _ => rfl, fun p hp => by rw [← h.2] at hp; cases hp⟩
    | succ i => simp at h
  room := by
    have := lack_le_len (ps.map (·.2)) (keysA [(good, none)])
    rw [List.length_map] at this
    show 1 + _ ≤ _
    omega
theorem keysA_snoc (es : List (Str × Option Str)) (b : Str) (o : Option Str) : keysA (es ++ [(b, o)]) = keysA es ++ [b] := by simp [keysA]
theorem ABase.add {ps : List (Str × Str)} {good : Str} {es : List (Str × Option Str)} (h : ABase ps good es) {nm b : Str} (hn : nm ∈ keysA es) (hb : b ∉ keysA es) (hp : (nm, b) ∈ ps) : ABase ps good (es ++ [(b, some nm)]) where
  first := by
    rw [List.getElem?_append_left]
    · exact h.first
    · exact (List.getElem?_eq_some_iff.mp h.first).1
  nd := by
    rw [keysA_snoc, List.nodup_append]
    refine ⟨h.nd, by simp, ?_⟩
    intro u hu v hv
    simp at hv
    subst hv
    exact fun z => hb (z ▸ hu)
  led := fun y hy => by
    rw [keysA_snoc] at hy
    rcases List.mem_append.mp hy with k | k
    · exact h.led y k
    · simp at k
      subst k
      exact .step (h.led nm hn) hp
  par := fun i y o hi => by
    by_cases c : i < es.length
    · rw [List.getElem?_append_left c] at hi
      obtain ⟨h1, h2⟩ := h.par i y o hi
      refine ⟨h1, fun p e => ?_⟩
      obtain ⟨k1, j, o', jl, ej⟩ := h2 p e
      exact ⟨k1, j, o', jl, by rw [List.getElem?_append_left (by omega)]; exact ej⟩
    · rw [List.getElem?_append_right (by omega)] at hi
      have e0 : i - es.length = 0 := by
        rcases Nat.eq_zero_or_pos (i - es.length) with z | z
        · exact z
        · rw [List.getElem?_eq_none (by simp; omega)] at hi; cases hi
      rw [e0] at hi
      simp at hi
      obtain ⟨rfl, rfl⟩ := hi
      refine ⟨(fun z => nomatch z), fun p e => ?_⟩
      cases e
      obtain ⟨q, hq, rfl⟩ := List.mem_map.mp hn
      obtain ⟨j, hj⟩ := List.mem_iff_getElem?.mp hq
      have jl := (List.getElem?_eq_some_iff.mp hj).1
      exact ⟨hp, j, q.2, by omega, by rw [List.getElem?_append_left jl]; exact hj⟩
  room := by
    have := addS_room (ks := keysA es) (show b ∈ ps.map (·.2) from List.mem_map.mpr ⟨_, hp, rfl⟩)
    have e : addS (keysA es) b = keysA es ++ [b] := if_neg hb
    rw [e] at this
    rw [keysA_snoc]
    exact Nat.le_trans this h.room
theorem ABase.good {ps : List (Str × Str)} {good : Str} {es : List (Str × Option Str)} (h : ABase ps good es) : good ∈ keysA es := List.mem_map.mpr ⟨(good, none), List.mem_of_getElem? h.first, rfl⟩
structure AheadOk (ps : List (Str × Str)) (good : Str) (es : List (Str × Option Str)) : Prop where
  base : ABase ps good es
  all : ∀ y, y ∈ keysA es ↔ Led ps good y
def spAhead : Sp := fun vs H Q _ => ∃ (d : Addr) (good : Str) (rows : List (Str × List Str)) (ps : List (Str × Str)), vs = [.ref d, .str good] ∧ DD H d rows ∧ RowsOk rows ps ∧ ps.length ≤ 1000 ∧
  ∀ (ah : Addr) (H' : Hp) (es : List (Str × Option Str)), Same H H' → H' ah = some (.dK (aheadK es)) → AheadOk ps good es → Q (.ref ah) H'
end Sw
set_option Elab.async false
set_option linter.all false
set_option maxRecDepth 100000
namespace Sw
open PySem L2
/-! ### a way down, kept from its end -/
structure Way (ps : List (Str × Str)) (good goal : Str) (c : List Str) : Prop where
  first : c[0]? = some good
  last : c.getLast? = some goal
  nd : c.Nodup
  pair : ∀ (i : Nat) (a b : Str), c[i]? = some a → c[i + 1]? = some b → (a, b) ∈ ps
  alone : goal = good → c = [good]
  few : c.length ≤ 1001
structure Back (ps : List (Str × Str)) (good goal : Str) (es : List (Str × Option Str)) (rc : List Str) (o : Option Str) : Prop where
  nd : rc.Nodup
  pair : ∀ (i : Nat) (a b : Str), rc[i]? = some a → rc[i + 1]? = some b → (b, a) ∈ ps
  first : rc.head? = some goal ∨ (rc = [] ∧ o = some goal)
  nxt : ∀ y, o = some y → ∃ (i : Nat) (oy : Option Str), es[i]? = some (y, oy) ∧ (∀ x ∈ rc, ∃ (j : Nat) (ox : Option Str), i < j ∧ es[j]? = some (x, ox)) ∧ (∀ a, rc.getLast? = some a → (y, a) ∈ ps) ∧ rc.length + i < es.length
  fin : o = none → rc.getLast? = some good
  alone : goal = good → rc = [] ∨ (rc = [good] ∧ o = none)
  few : rc.length ≤ es.length
theorem keysA_at {es : List (Str × Option Str)} {i : Nat} {y : Str} {o : Option Str} (h : es[i]? = some (y, o)) : (keysA es)[i]? = some y := by
  unfold keysA
  rw [List.getElem?_map, h]
  rfl
theorem nd_at {xs : List Str} (nd : xs.Nodup) {i j : Nat} {y : Str} (h1 : xs[i]? = some y) (h2 : xs[j]? = some y) : i = j := by
  obtain ⟨l1, e1⟩ := List.getElem?_eq_some_iff.mp h1
  obtain ⟨l2, e2⟩ := List.getElem?_eq_some_iff.mp h2
  exact (List.getElem_inj nd).mp (e1.trans e2.symm)
theorem ABase.at {ps : List (Str × Str)} {good : Str} {es : List (Str × Option Str)} (h : ABase ps good es) {i j : Nat} {y : Str} {o o' : Option Str} (h1 : es[i]? = some (y, o)) (h2 : es[j]? = some (y, o')) : i = j :=
  nd_at h.nd (keysA_at h1) (keysA_at h2)
theorem Back.start {ps : List (Str × Str)} {good goal : Str} {es : List (Str × Option Str)} (hg : goal ∈ keysA es) : Back ps good goal es [] (some goal) where
  nd := List.nodup_nil
  pair := fun i a b h => by simp at h
  first := .inr ⟨rfl, rfl⟩
  nxt := fun y e => by
    cases e
    obtain ⟨p, hp, rfl⟩ := List.mem_map.mp hg
    obtain ⟨i, hi⟩ := List.mem_iff_getElem?.mp hp
    refine ⟨i, p.2, hi, by simp, by simp, ?_⟩
    have := (List.getElem?_eq_some_iff.mp hi).1
    simpa using this
  fin := fun e => nomatch e
  alone := fun _ => .inl rfl
  few := by simp
theorem Back.step {ps : List (Str × Str)} {good goal : Str} {es : List (Str × Option Str)} (ab : ABase ps good es) {rc : List Str} {y : Str} {oy : Option Str} {i : Nat} (h : Back ps good goal es rc (some y)) (hi : es[i]? = some (y, oy)) : Back ps good goal es (rc ++ [y]) oy := by
  obtain ⟨i', oy', h1, h2, h3, h4⟩ := h.nxt y rfl
  obtain rfl := ab.at hi h1
  have par := ab.par i y oy hi
  have ny : y ∉ rc := fun m => by
    obtain ⟨j, ox, lt, e⟩ := h2 y m
    have := ab.at hi e
    omega
  refine ⟨?_, ?_, ?_, ?_, ?_, ?_, ?_⟩
  · rw [List.nodup_append]
    refine ⟨h.nd, by simp, ?_⟩
    intro u hu v hv
    simp at hv
    subst hv
    exact fun z => ny (z ▸ hu)
  · intro k a b ha hb
    by_cases c : k + 1 < rc.length
    · rw [List.getElem?_append_left (by omega)] at ha
      rw [List.getElem?_append_left c] at hb
      exact h.pair k a b ha hb
    · have kl : k + 1 < (rc ++ [y]).length := (List.getElem?_eq_some_iff.mp hb).1
      simp at kl
      have ke : k + 1 = rc.length := by omega
      rw [List.getElem?_append_right (by omega), ke] at hb
      simp at hb
      subst hb
      rw [List.getElem?_append_left (by omega)] at ha
      refine h3 a ?_
      rw [List.getLast?_eq_getElem?, ← ha]
      congr 1
      omega
  · rcases h.first with k | ⟨rfl, k⟩
    · left
      cases rc with
      | nil => simp at k
      | cons z zs => simpa using k
    · cases k
      left
      rfl
  · intro p e
    obtain ⟨hp, j, o', jl, ej⟩ := par.2 p e
    refine ⟨j, o', ej, ?_, ?_, ?_⟩
    · intro x hx
      rcases List.mem_append.mp hx with k | k
      · obtain ⟨j2, ox, lt, e2⟩ := h2 x k
        exact ⟨j2, ox, by omega, e2⟩
      · simp at k
        subst k
        exact ⟨i, oy, jl, hi⟩
    · intro a ha
      simp at ha
      subst ha
      exact hp
    · simp
      omega
  · intro e
    have i0 := par.1 e
    subst i0
    rw [ab.first] at hi
    cases hi
    simp
  · intro e
    subst e
    rcases h.alone rfl with rfl | ⟨_, k⟩
    · rcases h.first with k | ⟨_, k⟩
      · simp at k
      · cases k
        right
        have := ab.at hi ab.first
        subst this
        rw [ab.first] at hi
        cases hi
        exact ⟨rfl, rfl⟩
    · cases k
  · simp
    omega
theorem Back.way {ps : List (Str × Str)} {good goal : Str} {es : List (Str × Option Str)} (ab : ABase ps good es) {rc : List Str} (h : Back ps good goal es rc none) : Way ps good goal rc.reverse where
  first := by
    have := h.fin rfl
    rw [← List.head?_eq_getElem?, List.head?_reverse]
    exact this
  last := by
    rw [List.getLast?_reverse]
    rcases h.first with k | ⟨_, k⟩
    · exact k
    · cases k
  nd := by
    unfold List.Nodup
    rw [List.pairwise_reverse]
    exact h.nd.imp fun n => Ne.symm n
  pair := fun i a b ha hb => by
    have l : i + 1 < rc.reverse.length := (List.getElem?_eq_some_iff.mp hb).1
    rw [List.length_reverse] at l
    rw [List.getElem?_reverse (by omega)] at ha hb
    refine h.pair (rc.length - 1 - (i + 1)) b a hb ?_
    rw [← ha]
    congr 1
    omega
  alone := fun e => by
    rcases h.alone e with k | ⟨k, _⟩
    · subst k
      have := h.fin rfl
      simp at this
    · rw [k]
      rfl
  few := by
    rw [List.length_reverse]
    have := h.few
    have r := ab.room
    have l : (keysA es).length = es.length := by simp [keysA]
    omega
def optIx (es : List (Str × Option Str)) : Option (Option V) → Nat
  | some (some (.str y)) => (keysA es).idxOf y + 1
  | _ => 0
def spTo : Sp := fun vs H Q _ => ∃ (ah : Addr) (goal good : Str) (ps : List (Str × Str)) (es : List (Str × Option Str)), vs = [.ref ah, .str goal] ∧ H ah = some (.dK (aheadK es)) ∧ ABase ps good es ∧ goal ∈ keysA es ∧
  ∀ (l : Addr) (H' : Hp) (c : List Str), Same H H' → H' l = some (.lst (c.map V.str)) → Way ps good goal c → Q (.ref l) H'
end Sw
set_option Elab.async false
set_option linter.all false
set_option maxRecDepth 100000
namespace L2
open PySem PySem.Spec PyProof.Rows XH
/-! ### x == [] -/
theorem op_eqNil {X : Cx} (hu : X.A.units < cLine) : OpR X (compareOp .Eq) (fun x y H Q => ∃ a b zs, x = .ref a ∧ y = .ref b ∧ SqL X.K H a zs ∧ SqL X.K H b [] ∧ Q (.bl zs.isEmpty) H) := by
  intro pins s σ H x y v u Q I rx ry h
  obtain ⟨a, b, zs, rfl, rfl, h1, h2, hq⟩ := h
  cases rx
  cases ry
  obtain ⟨i1, r1, p1, _⟩ := I.list h1
  obtain ⟨i2, r2, p2, _⟩ := I.list h2
  cases r2
  cases zs with
  | nil =>
    cases r1
    refine SeqAt.eq_listAt (e := fun _ => true) p1.isList p2.isList rfl hu (fun j g1 g2 => absurd g1 (by simp)) ?_
    exact ⟨.bl true, H, I, by show Value.bool _ = Value.bool _; simp, hq⟩
  | cons z zs =>
    cases r1 with
    | cons r rr =>
      refine SeqAt.eq_list_lengthsAt p1.isList p2.isList (by simp) hu ?_
      exact ⟨.bl false, H, I, rfl, hq⟩
/-! ### comprehensions with a test that changes nothing -/
end L2
namespace Sw
open PySem L2 PyProof.Rows
/-! ### dicts of dicts that are alike -/
/-! ### a way down to one of the goals -/
structure Goals (H : Hp) (l : Addr) (gs : List Str) : Prop where
  seq : H l = some (.lst (gs.map V.str))
  few : gs.length ≤ 10
theorem Goals.same {H H' : Hp} {l : Addr} {gs : List Str} (h : Goals H l gs) (g : Same H H') : Goals H' l gs := ⟨g _ _ h.seq, h.few⟩
def inS (gs : List Str) : Key → Bool
  | .inr y => decide (y ∈ gs)
  | _ => false
def spWayDown : Sp := fun vs H Q _ => ∃ (d lg : Addr) (good : Str) (rows : List (Str × List Str)) (ps : List (Str × Str)) (gs : List Str), vs = [.ref d, .str good, .ref lg] ∧ DD H d rows ∧ RowsOk rows ps ∧ ps.length ≤ 1000 ∧ Goals H lg gs ∧
  (∀ (H' : Hp), Same H H' → (∀ g ∈ gs, ¬ Led ps good g) → Q .non H') ∧
  ∀ (l : Addr) (H' : Hp) (c : List Str) (goal : Str), Same H H' → H' l = some (.lst (c.map V.str)) → Way ps good goal c → goal ∈ gs → Led ps good goal → (good ∈ gs → goal = good) → Q (.ref l) H'
end Sw
set_option Elab.async false
set_option linter.all false
set_option maxRecDepth 100000
namespace Sw
open PySem L2 PyProof.Rows
theorem PL.snoc {H : Hp} {l a : Addr} {ps : List (Str × Str)} {x y : Str} (h : PL H l ps) (ha : H a = some (.tup [.str x, .str y])) :
    ∃ xs, H l = some (.lst xs) ∧ xs.length = ps.length ∧ PL (upd H l (.lst (xs ++ [.ref a]))) l (ps ++ [(x, y)]) := by
  obtain ⟨as, h1, h2, h3⟩ := h.ex
  have keep : ∀ {b : Addr} {zs : List V} {o : HO}, H b = some (.tup zs) → (upd H l o) b = some (.tup zs) := fun {b zs o} hb => by
    rw [upd_ne (fun z => by subst z; rw [h2] at hb; cases hb)]
    exact hb
  refine ⟨_, h2, by simp [h1], as ++ [a], by simp [h1], by rw [upd_same, List.map_append]; rfl, fun i b p e1 e2 => ?_⟩
  by_cases hi : i < as.length
  · rw [List.getElem?_append_left hi] at e1
    rw [List.getElem?_append_left (by omega)] at e2
    exact keep (h3 i b p e1 e2)
  · rw [List.getElem?_append_right (by omega)] at e1
    rw [List.getElem?_append_right (by omega)] at e2
    have h0 : i - as.length = 0 := by
      rcases Nat.eq_zero_or_pos (i - as.length) with q | q
      · exact q
      · rw [List.getElem?_eq_none (by simp; omega)] at e1; cases e1
    rw [h0] at e1
    rw [show i - ps.length = 0 by omega] at e2
    simp at e1 e2
    subst e1
    rw [← e2]
    exact keep ha
/-- pairs of names, each of a place -/
theorem PL.of {H : Hp} {l : Addr} {as : List Addr} (e : H l = some (.lst (as.map V.ref))) (h : ∀ (i : Nat) (a : Addr), as[i]? = some a → ∃ xs, H a = some (.tup xs) ∧ ∃ x y : Str, xs = [.str x, .str y]) : ∃ ps, PL H l ps ∧ ps.length = as.length := by
  have : ∀ as : List Addr, (∀ (i : Nat) (a : Addr), as[i]? = some a → ∃ xs, H a = some (.tup xs) ∧ ∃ x y : Str, xs = [.str x, .str y]) → ∃ ps : List (Str × Str), as.length = ps.length ∧ ∀ (i : Nat) (a : Addr) (p : Str × Str), as[i]? = some a → ps[i]? = some p → H a = some (.tup [.str p.1, .str p.2]) := by
    intro as
    induction as with
    | nil => exact fun _ => ⟨[], rfl, fun i a p e => by simp at e⟩
    | cons b as ih =>
      intro h
      obtain ⟨ps, l1, h1⟩ := ih fun i a e => h (i + 1) a (by simpa using e)
      obtain ⟨xs, hb, x, y, rfl⟩ := h 0 b rfl
      refine ⟨(x, y) :: ps, by simp [l1], fun i a p e1 e2 => ?_⟩
      cases i with
      | zero => simp at e1 e2; rw [← e1, ← e2]; exact hb
      | succ i => exact h1 i a p (by simpa using e1) (by simpa using e2)
  obtain ⟨ps, l1, h1⟩ := this as h
  exact ⟨ps, ⟨as, l1, e, h1⟩, l1.symm⟩
theorem cut_ints {ns : List Int} {lo hi : Option Int} {i : Nat} {v : V} (h : (cutV (ns.map V.int) lo hi)[i]? = some v) : ∃ c : Int, v = V.int c := by
  have m := List.mem_of_getElem? h
  unfold cutV at m
  have m := List.mem_of_mem_drop (List.mem_of_mem_take m)
  obtain ⟨c, _, e⟩ := List.mem_map.mp m
  exact ⟨c, e.symm⟩
/-- what is told of a way: None, or a list -/
def Told (H : Hp) (ps : List (Str × Str)) (good : Str) (gs : List Str) (v : V) : Prop :=
  (v = .non ∧ ∀ g ∈ gs, ¬ Led ps good g) ∨ ∃ (l : Addr) (c : List Str) (goal : Str), v = .ref l ∧ H l = some (.lst (c.map V.str)) ∧ Way ps good goal c ∧ goal ∈ gs ∧ Led ps good goal ∧ (good ∈ gs → goal = good)
def spGoes : Sp := fun vs H Q _ => ∃ (v : V) (lp lg : Addr) (good : Str) (ps : List (Str × Str)) (gs : List Str), vs = [v, .ref lp, .str good, .ref lg] ∧ PL H lp ps ∧ ps.length ≤ 1000 ∧ Goals H lg gs ∧ Told H ps good gs v ∧
  ∀ H', Same H H' → Q (.bl true) H'
def spPairs (K : PySem.W.Frag) : Sp := fun vs H Q _ => ∃ (ls ln : Addr) (m : Int) (ns : List Int) (zs : List Str), vs = [.ref ls, .ref ln, .int m] ∧ SqL K H ls (ns.map V.int) ∧ ns.length ≤ 63 ∧ H ln = some (.lst (zs.map V.str)) ∧ (zs.length : Int) = m + 1 ∧ 1 ≤ m ∧ m ≤ 79 ∧
  ∀ (l : Addr) (H' : Hp) (ps : List (Str × Str)), Same H H' → PL H' l ps → ps.length ≤ 1000 → Q (.ref l) H'
end Sw
set_option Elab.async false
set_option linter.all false
set_option maxRecDepth 100000
namespace So
open PySem PyProof.Rows
def gallop' : Bool → Keyed → Array Keyed → Nat → Nat → Nat → StateT SortSt Sem (Option Nat) := sortPriv% PySem.Builtin.gallop
def mergeLo' : Array Keyed → Array Keyed → StateT SortSt Sem (Array Keyed) := sortPriv% PySem.Builtin.mergeLo
def mergeHi' : Array Keyed → Array Keyed → StateT SortSt Sem (Array Keyed) := sortPriv% PySem.Builtin.mergeHi
/-- the key of an entry -/
def kk (κ : KeyKind) (p : Keyed) : κ.α := (κ.keyOf p.1).getD κ.dflt
def Kd (κ : KeyKind) (p : Keyed) : Prop := ∃ a, κ.keyOf p.1 = some a
/-- what a comparison answers, by the keys -/
def LtS (prog : Program) (w : World) (A : Around) (E : Value → Shared → Prop) (s : Shared) (κ : KeyKind) (kd : SortKind) : Prop := ∀ (st : SortSt) (x y : Keyed) (Q : Option Bool → SortSt → Prop), kindOf st = kd → Kd κ x → Kd κ y → Q (some (κ.blt (kk κ x) (kk κ y))) st → wpS (model prog w) A E s (lt' x y) Q st
section
variable {prog : Program} {w : World} {A : Around} {E : Value → Shared → Prop} {s : Shared} {κ : KeyKind} {kd : SortKind}
def bq (κ : KeyKind) (left : Bool) (key x : Keyed) : Bool := if left = true then κ.blt (kk κ x) (kk κ key) else !κ.blt (kk κ key) (kk κ x)
end
end So
set_option Elab.async false
set_option linter.all false
set_option maxRecDepth 100000
namespace So
open PySem PyProof.Rows
def setG (st : SortSt) (g : Nat) : SortSt := SortSt.mk' (kindOf st) (arrOf st) (pendingOf st) g (failedOf st)
def setMinGallop' : Nat → StateT SortSt Sem Unit := sortPriv% PySem.Builtin.setMinGallop
def GEq (st st' : SortSt) : Prop := kindOf st' = kindOf st ∧ arrOf st' = arrOf st ∧ pendingOf st' = pendingOf st ∧ failedOf st' = failedOf st
theorem GEq.refl (st : SortSt) : GEq st st := ⟨rfl, rfl, rfl, rfl⟩
theorem GEq.set {st st' : SortSt} (h : GEq st st') (g : Nat) : GEq st (setG st' g) := ⟨h.1, h.2.1, h.2.2.1, h.2.2.2⟩
/-- not behind -/
def Lq (κ : KeyKind) (p q : Keyed) : Prop := κ.kle (kk κ p) (kk κ q)
section
variable {κ : KeyKind} {kd : SortKind} {a b out : Array Keyed} {ia ib : Nat}
structure Mg (κ : KeyKind) (a b out : Array Keyed) (ia ib : Nat) : Prop where
  perm : (out.toList ++ (a.toList.drop ia ++ b.toList.drop ib)).Perm (a.toList ++ b.toList)
  srt : out.toList.Pairwise (Lq κ)
  lea : ∀ x ∈ out.toList, ∀ y ∈ a.toList.drop ia, Lq κ x y
  leb : ∀ x ∈ out.toList, ∀ y ∈ b.toList.drop ib, Lq κ x y
def MFin (κ : KeyKind) (a b r : Array Keyed) : Prop := r.toList.Perm (a.toList ++ b.toList) ∧ r.toList.Pairwise (Lq κ)
theorem Mg.done (h : Mg κ a b out ia ib) (sa : a.toList.Pairwise (Lq κ)) (sb : b.toList.Pairwise (Lq κ)) (c : a.size ≤ ia ∨ b.size ≤ ib) : MFin κ a b (out ++ a.extract ia ++ b.extract ib) := by
  have xa : (a.extract ia).toList = a.toList.drop ia := by
    rw [Array.toList_extract, List.extract_eq_take_drop, List.take_of_length_le (by simp)]
  have xb : (b.extract ib).toList = b.toList.drop ib := by
    rw [Array.toList_extract, List.extract_eq_take_drop, List.take_of_length_le (by simp)]
  refine ⟨?_, ?_⟩
  · rw [Array.toList_append, Array.toList_append, xa, xb, List.append_assoc]
    exact h.perm
  · rw [Array.toList_append, Array.toList_append, xa, xb, List.append_assoc, List.pairwise_append, List.pairwise_append]
    refine ⟨h.srt, ⟨sa.drop, sb.drop, fun x hx z hz => ?_⟩, fun x hx z hz => ?_⟩
    · rcases c with c | c
      · rw [List.drop_of_length_le (by simpa using c)] at hx
        simp at hx
      · rw [List.drop_of_length_le (by simpa using c)] at hz
        simp at hz
    · rcases List.mem_append.mp hz with k | k
      · exact h.lea x hx z k
      · exact h.leb x hx z k
end
end So
set_option Elab.async false
set_option linter.all false
set_option maxRecDepth 100000
namespace So
open PySem PyProof.Rows
section
variable {prog : Program} {w : World} {A : Around} {E : Value → Shared → Prop} {s : Shared} {κ : KeyKind} {kd : SortKind}
/-- a pair of lists under way: not yet at an end -/
structure Go (κ : KeyKind) (a b : Array Keyed) (m : Nat) (out : Array Keyed) (ia ib : Nat) : Prop where
  mg : Mg κ a b out ia ib
  la : ia + 1 < a.size
  lb : ib < b.size
  far : m ≤ ia + ib
end
end So
set_option Elab.async false
set_option linter.all false
set_option maxRecDepth 100000
namespace So
open PySem PyProof.Rows
section
variable {κ : KeyKind} {kd : SortKind} {a b out : Array Keyed} {na nb : Nat}
structure Mh (κ : KeyKind) (a b out : Array Keyed) (na nb : Nat) : Prop where
  perm : (a.toList.take na ++ (b.toList.take nb ++ out.toList.reverse)).Perm (a.toList ++ b.toList)
  srt : out.toList.reverse.Pairwise (Lq κ)
  gea : ∀ x ∈ out.toList, ∀ y ∈ a.toList.take na, Lq κ y x
  geb : ∀ x ∈ out.toList, ∀ y ∈ b.toList.take nb, Lq κ y x
theorem ext0 (xs : Array Keyed) (n : Nat) : (xs.extract 0 n).toList = xs.toList.take n := by
  rw [Array.toList_extract, List.extract_eq_take_drop]
  simp
theorem Mh.done (h : Mh κ a b out na nb) (sa : a.toList.Pairwise (Lq κ)) (sb : b.toList.Pairwise (Lq κ)) (c : na = 0 ∨ nb = 0) : MFin κ a b (a.extract 0 na ++ b.extract 0 nb ++ out.reverse) := by
  refine ⟨?_, ?_⟩
  · rw [Array.toList_append, Array.toList_append, ext0, ext0, Array.toList_reverse, List.append_assoc]
    exact h.perm
  · rw [Array.toList_append, Array.toList_append, ext0, ext0, Array.toList_reverse, List.append_assoc, List.pairwise_append, List.pairwise_append]
    refine ⟨sa.take, ⟨sb.take, h.srt, fun x hx z hz => h.geb z (List.mem_reverse.mp hz) x hx⟩, fun x hx z hz => ?_⟩
    rcases List.mem_append.mp hz with k | k
    · rcases c with c | c
      · rw [c] at hx; simp at hx
      · rw [c] at k; simp at k
    · exact h.gea z (List.mem_reverse.mp k) x hx
end
structure Gh (κ : KeyKind) (a b : Array Keyed) (m : Nat) (out : Array Keyed) (na nb : Nat) : Prop where
  mh : Mh κ a b out na nb
  la : 0 < na
  lb : 1 < nb
  ha : na ≤ a.size
  hb : nb ≤ b.size
  far : na + nb + m ≤ a.size + b.size
section
variable {prog : Program} {w : World} {A : Around} {E : Value → Shared → Prop} {s : Shared} {κ : KeyKind} {kd : SortKind}
end
end So
set_option Elab.async false
set_option linter.all false
set_option maxRecDepth 100000
namespace So
open PySem PyProof.Rows
section
variable {prog : Program} {w : World} {A : Around} {E : Value → Shared → Prop} {s : Shared} {κ : KeyKind} {kd : SortKind}
end
/-- a stretch written anew -/
theorem writes (P : Nat) : ∀ (l : List Keyed) (c : Nat) (arr : Array Keyed), P + c + l.length ≤ arr.size →
    ((l.zipIdx c).foldl (fun (a : Array Keyed) (q : Keyed × Nat) => a.setIfInBounds (P + q.2) q.1) arr).toList = arr.toList.take (P + c) ++ l ++ arr.toList.drop (P + c + l.length)
  | [], c, arr, h => by simp
  | x :: l, c, arr, h => by
    have hl : P + c < arr.size := by simp at h; omega
    rw [List.zipIdx_cons, List.foldl_cons, writes P l (c + 1) _ (by rw [Array.size_setIfInBounds]; simp at h ⊢; omega)]
    have e : (arr.setIfInBounds (P + c) x).toList = arr.toList.set (P + c) x := by simp
    dsimp only
    rw [e]
    have e1 : P + (c + 1) = P + c + 1 := by omega
    rw [e1]
    have hl' : P + c < arr.toList.length := by simpa using hl
    have t1 : (arr.toList.set (P + c) x).take (P + c + 1) = arr.toList.take (P + c) ++ [x] := by
      rw [List.take_succ, List.take_set_of_le (Nat.le_refl _), List.getElem?_set_self hl']
      rfl
    have t2 : (arr.toList.set (P + c) x).drop (P + c + 1 + l.length) = arr.toList.drop (P + c + (x :: l).length) := by
      rw [List.drop_set_of_lt (by omega)]
      congr 1
      simp
      omega
    rw [t1, t2]
    simp
section
variable {prog : Program} {w : World} {A : Around} {E : Value → Shared → Prop} {s : Shared} {κ : KeyKind} {kd : SortKind}
end
end So
set_option Elab.async false
set_option linter.all false
set_option maxRecDepth 100000
namespace So
open PySem PyProof.Rows
section
variable {prog : Program} {w : World} {A : Around} {E : Value → Shared → Prop} {s : Shared} {κ : KeyKind} {kd : SortKind}
theorem take_snoc {R : List Keyed} {n : Nat} {x : Keyed} (h : R[n]? = some x) : R.take (n + 1) = R.take n ++ [x] := by
  rw [List.take_succ, h]
  rfl
/-- a rising stretch grows -/
theorem rise {R : List Keyed} {n : Nat} {x y : Keyed} (h1 : 1 ≤ n) (hs : (R.take n).Pairwise (Lq κ)) (hy : R[n - 1]? = some y) (hx : R[n]? = some x) (l : Lq κ y x) : (R.take (n + 1)).Pairwise (Lq κ) := by
  have e1 : R.take n = R.take (n - 1) ++ [y] := by
    have := take_snoc hy
    rwa [show n - 1 + 1 = n by omega] at this
  rw [take_snoc hx, List.pairwise_append]
  refine ⟨hs, by simp, fun u hu v hv => ?_⟩
  simp at hv
  rw [hv]
  rw [e1] at hu hs
  rcases List.mem_append.mp hu with k | k
  · exact KeyOrd.kle_trans ((List.pairwise_append.mp hs).2.2 u k y (by simp)) l
  · simp at k
    rw [k]
    exact l
structure Kp (st st' : SortSt) : Prop where
  kind : kindOf st' = kindOf st
  failed : failedOf st' = failedOf st
  pend : pendingOf st' = pendingOf st
/-- keys that do not rise -/
def NI (κ : KeyKind) (L : List Keyed) (n : Nat) : Prop := ((L.map (kk κ)).take n).Pairwise fun a b => κ.blt a b = false
theorem NI.snoc {L : List Keyed} {n : Nat} {x y : Keyed} (h1 : 1 ≤ n) (h : NI κ L n) (hy : L[n - 1]? = some y) (hx : L[n]? = some x) (l : κ.blt (kk κ y) (kk κ x) = false) : NI κ L (n + 1) := by
  have ey : (L.map (kk κ))[n - 1]? = some (kk κ y) := by rw [List.getElem?_map, hy]; rfl
  have ex : (L.map (kk κ))[n]? = some (kk κ x) := by rw [List.getElem?_map, hx]; rfl
  unfold NI at h ⊢
  have e1 : (L.map (kk κ)).take n = (L.map (kk κ)).take (n - 1) ++ [kk κ y] := by
    have := List.take_succ (l := L.map (kk κ)) (i := n - 1)
    rw [show n - 1 + 1 = n by omega, ey] at this
    exact this
  have e2 : (L.map (kk κ)).take (n + 1) = (L.map (kk κ)).take n ++ [kk κ x] := by
    rw [List.take_succ, ex]
    rfl
  rw [e2, List.pairwise_append]
  refine ⟨h, by simp, fun u hu v hv => ?_⟩
  simp at hv
  rw [hv]
  rw [e1] at hu h
  rcases List.mem_append.mp hu with k | k
  · have q := (List.pairwise_append.mp h).2.2 u k (kk κ y) (by simp)
    exact KeyOrd.kle_trans (O := κ.toKeyOrd) l q
  · simp at k
    rw [k]
    exact l
/-- the last ones ahead of the place n are alike -/
def Eqs (κ : KeyKind) (L : List Keyed) (n m : Nat) : Prop := ∃ (D1 D2 S : List Keyed) (a : κ.α), L = D1 ++ (D2 ++ S) ∧ D1.length + D2.length = n ∧ D2.length = m + 1 ∧ ∀ x ∈ D2, kk κ x = a
theorem Kp.trans {a b c : SortSt} (h1 : Kp a b) (h2 : Kp b c) : Kp a c := ⟨h2.kind.trans h1.kind, h2.failed.trans h1.failed, h2.pend.trans h1.pend⟩
theorem Eqs.more {L : List Keyed} {n m : Nat} {x y : Keyed} (h : Eqs κ L n m) (hy : L[n - 1]? = some y) (hx : L[n]? = some x) (e : kk κ x = kk κ y) : Eqs κ L (n + 1) (m + 1) := by
  obtain ⟨D1, D2, S, a, rfl, l1, l2, al⟩ := h
  have my : y ∈ D2 := by
    rw [List.getElem?_append_right (by omega), List.getElem?_append_left (by omega)] at hy
    exact List.mem_of_getElem? hy
  rw [List.getElem?_append_right (by omega), List.getElem?_append_right (by omega)] at hx
  have z : n - D1.length - D2.length = 0 := by omega
  rw [z] at hx
  cases S with
  | nil => simp at hx
  | cons s S =>
    simp at hx
    subst hx
    refine ⟨D1, D2 ++ [s], S, a, by simp, by simp; omega, by simp; omega, fun u hu => ?_⟩
    rcases List.mem_append.mp hu with k | k
    · exact al u k
    · simp at k
      rw [k, e]
      exact al y my
end
end So
set_option Elab.async false
set_option linter.all false
set_option maxRecDepth 100000
namespace So
open PySem PyProof.Rows
section
variable {prog : Program} {w : World} {A : Around} {E : Value → Shared → Prop} {s : Shared} {κ : KeyKind} {kd : SortKind}
end
end So
set_option Elab.async false
set_option linter.all false
set_option maxRecDepth 100000
namespace So
open PySem PyProof.Rows
/-! ### the runs that wait -/
def Pd (κ : KeyKind) : Nat → List (Nat × Nat × Nat) → List (List Keyed) → Prop
  | _, [], [] => True
  | a, p :: ps, r :: rs => p.1 = a ∧ p.2.1 = r.length ∧ 1 ≤ r.length ∧ r.Pairwise (Lq κ) ∧ Pd κ (a + r.length) ps rs
  | _, _, _ => False
section
variable {κ : KeyKind} {kd : SortKind}
theorem Pd.len : ∀ {a : Nat} {ps : List (Nat × Nat × Nat)} {rs : List (List Keyed)}, Pd κ a ps rs → ps.length = rs.length
  | _, [], [], _ => rfl
  | _, _ :: _, _ :: _, h => by simp [Pd.len h.2.2.2.2]
  | _, [], _ :: _, h => h.elim
  | _, _ :: _, [], h => h.elim
theorem Pd.snoc : ∀ {a : Nat} {ps : List (Nat × Nat × Nat)} {rs : List (List Keyed)} {p : Nat × Nat × Nat} {r : List Keyed}, Pd κ a ps rs → p.1 = a + rs.flatten.length → p.2.1 = r.length → 1 ≤ r.length → r.Pairwise (Lq κ) → Pd κ a (ps ++ [p]) (rs ++ [r])
  | _, [], [], p, r, _, h1, h2, h3, h4 => ⟨by simpa using h1, h2, h3, h4, trivial⟩
  | a, q :: ps, u :: rs, p, r, h, h1, h2, h3, h4 => ⟨h.1, h.2.1, h.2.2.1, h.2.2.2.1, Pd.snoc h.2.2.2.2 (by rw [h1]; simp; omega) h2 h3 h4⟩
  | _, [], _ :: _, _, _, h, _, _, _, _ => h.elim
  | _, _ :: _, [], _, _, h, _, _, _, _ => h.elim
/-- two runs beside one another become one -/
theorem Pd.two : ∀ {a : Nat} {ps : List (Nat × Nat × Nat)} {rs : List (List Keyed)} {i : Nat}, Pd κ a ps rs → i + 1 < rs.length →
    ∃ RL X Y RT pa pb, rs = RL ++ X :: Y :: RT ∧ RL.length = i ∧ ps[i]? = some (a + RL.flatten.length, X.length, pa) ∧ ps[i + 1]? = some (a + RL.flatten.length + X.length, Y.length, pb) ∧ 1 ≤ X.length ∧ 1 ≤ Y.length ∧ X.Pairwise (Lq κ) ∧ Y.Pairwise (Lq κ) ∧
      ∀ Z : List Keyed, Z.length = X.length + Y.length → Z.Pairwise (Lq κ) → Pd κ a ((ps.set i (a + RL.flatten.length, X.length + Y.length, pa)).eraseIdx (i + 1)) (RL ++ Z :: RT)
  | _, [], [], i, _, hi => by simp at hi
  | a, p :: q :: ps, X :: Y :: rs, 0, h, _ => by
    obtain ⟨h1, h2, h3, h4, h5, h6, h7, h8, h9⟩ := h
    refine ⟨[], X, Y, rs, p.2.2, q.2.2, rfl, rfl, ?_, ?_, h3, h7, h4, h8, fun Z hz sz => ?_⟩
    · simp
      rw [← h1, ← h2]
    · simp
      rw [← h5, ← h6]
    · refine ⟨by simp, hz.symm, by omega, sz, ?_⟩
      have : a + Z.length = a + X.length + Y.length := by omega
      rw [this]
      simpa using h9
  | a, [p], X :: Y :: rs, _, h, _ => h.2.2.2.2.elim
  | a, p :: ps, r :: rs, i + 1, h, hi => by
    obtain ⟨RL, X, Y, RT, pa, pb, e1, e2, e3, e4, e5, e6, e7, e8, e9⟩ := Pd.two (i := i) h.2.2.2.2 (by simpa using hi)
    refine ⟨r :: RL, X, Y, RT, pa, pb, by rw [e1]; rfl, by simp [e2], ?_, ?_, e5, e6, e7, e8, fun Z hz sz => ?_⟩
    · simpa [Nat.add_assoc] using e3
    · simpa [Nat.add_assoc] using e4
    · have q := e9 Z hz sz
      refine ⟨h.1, h.2.1, h.2.2.1, h.2.2.2.1, ?_⟩
      simpa [Nat.add_assoc] using q
  | _, _ :: _, [_], 0, _, hi => by simp at hi
  | _, [], _ :: _, _, h, _ => h.elim
  | _, _ :: _, [], _, h, _ => h.elim
end
structure Sv (kd : SortKind) (κ : KeyKind) (a0 : List Keyed) (st : SortSt) (rs : List (List Keyed)) (rest : List Keyed) : Prop where
  kind : kindOf st = kd
  failed : failedOf st = none
  arr : (arrOf st).toList = rs.flatten ++ rest
  pd : Pd κ 0 (pendingOf st).toList rs
  perm : (rs.flatten ++ rest).Perm a0
section
variable {prog : Program} {w : World} {A : Around} {E : Value → Shared → Prop} {s : Shared} {κ : KeyKind} {kd : SortKind}
theorem Sv.size {a0 : List Keyed} {st : SortSt} {rs : List (List Keyed)} {rest : List Keyed} (h : Sv kd κ a0 st rs rest) : (pendingOf st).size = rs.length := by
  have := h.pd.len
  simpa using this
end
end So
set_option Elab.async false
set_option linter.all false
set_option maxRecDepth 100000
namespace So
open PySem PyProof.Rows
section
variable {prog : Program} {w : World} {A : Around} {E : Value → Shared → Prop} {s : Shared} {κ : KeyKind} {kd : SortKind}
end
end So
set_option Elab.async false
set_option linter.all false
set_option maxRecDepth 100000
namespace So
open PySem PyProof.Rows
section
variable {prog : Program} {w : World} {A : Around} {E : Value → Shared → Prop} {s : Shared} {κ : KeyKind} {kd : SortKind}
end
end So
set_option Elab.async false
set_option linter.all false
set_option maxRecDepth 100000
namespace So
open PySem PyProof.Rows
section
variable {prog : Program} {w : World} {A : Around} {E : Value → Shared → Prop} {s : Shared} {κ : KeyKind}
end
end So
set_option Elab.async false
set_option linter.all false
set_option maxRecDepth 100000
namespace L2
open PySem PySem.Spec PyProof.Rows XH Sw So
end L2
set_option Elab.async false
set_option linter.all false
set_option maxRecDepth 100000
namespace So
open PySem PySem.Spec PyProof.Rows
/-- not behind, of texts -/
def leS (x y : Str) : Prop := ¬ (y.cps.toList < x.cps.toList)
end So
set_option Elab.async false
set_option linter.all false
set_option maxRecDepth 100000
namespace L2
open PySem PySem.Spec PyProof.Rows XH Sw So
/-- tuples, by the texts that they begin with -/
def tupKind (nm : Addr → Option Str) : PyProof.Rows.KeyKind := { PyProof.Rows.strKind with keyOf := fun v => match v with | .ref a => (nm a).map fun y => y.cps.toList | _ => none }
/-- a tuple of a text and two numbers -/
structure T3 (h : Heap) (a : Addr) (y : Str) (m k : Int) : Prop where
  ex : ∃ (o : Obj) (n : Nat) (t t1 t2 : Tok), h.get? a = some o ∧ o.cls = .type "tuple" ∧ o.data = .seq #[.str y t, .int m t1, .int k t2] n
section
variable {prog : Program} {w : World} {A : Around} {E : Value → Shared → Prop} {s : Shared}
end
end L2
set_option Elab.async false
set_option linter.all false
set_option maxRecDepth 100000
namespace L2
open PySem PySem.Spec PyProof.Rows XH Sw So
end L2
set_option Elab.async false
set_option linter.all false
set_option maxRecDepth 100000
namespace Sw
open PySem L2 XH
/-! ### own classes: their defs as callers see them -/
structure DxM (P : Program) (w : World) (K : PySem.W.Frag) (mg : Str → Option Value) (base : Heap) (CX : CXT) (k : Nat) (f : Addr) (ps : List Str) (dvs : List V) (sp : Sp) where
  fd : FuncData
  ok : FnOk P w K mg base CX k f fd ps sp
  b : Binds K fd ps []
  bd : ∃ ds, Binds K fd ps ds ∧ Vals dvs ds
def DxM.calm {P : Program} {w : World} {K : PySem.W.Frag} {mg : Str → Option Value} {base : Heap} {k : Nat} {f : Addr} {ps : List Str} {dvs : List V} {sp sp0 : Sp} (D : DxM P w K mg base (CX1 P w) k f ps dvs sp) (h : ∀ vs H Q E, sp0 vs H Q E → sp vs H Q E0) : DxM P w K mg base CX0 k f ps dvs sp0 :=
  ⟨D.fd, D.ok.noraise h, D.b, D.bd⟩
/-- o.m(..), the def at f, whatever the class -/
def tMethA (K : PySem.W.Frag) (m : Str) (f : Addr) (sp : Sp) (dvs : List V) (ta : TE) (t : TA) : TE := fun σ H Q => ta σ H fun x H1 => ∃ a C dx fs, x = .ref a ∧ H1 a = some (.ins C dx fs) ∧ Cls K C ∧ Meth K C m f ∧ fs.lookup m = none ∧
  t σ H1 fun vs H2 => sp (x :: (vs ++ dvs)) H2 Q E0
/-- the def m of the class, asked of the class itself -/
structure ClsM (K : PySem.W.Frag) (C : Addr) (m : Str) (f : Addr) : Prop where
  sp : PySem.W.specialIn K (.ref C) "__getattribute__" = some (some (.builtin "type.__getattribute__"))
  rd : PySem.W.readsIn K C (.type "type") = true
  fc : PySem.W.findCls K (.ref C) (.type "type") m = some (.val (.ref f))
  kp : PySem.W.keepIn K (.ref f) = true
section
variable {X : Cx} {k j : Nat} {f C : Addr} {ps : List Str} {sp : Sp} {dvs : List V} {x m : Str} {p pos apos : Pos} {e o : Expr} {es : List Expr} {ta tb : TE} {t : TA}
theorem pmake0 (M : Mk X.K C f) (D : DxM X.prog X.w X.K X.mg X.base CX0 k f ps dvs sp) (hr : Room j X.A) (hk : k + 1 ≤ j) (hg : Gl X x) (hm : X.mg x = some (.ref C)) (ha : PA X (e :: es) t) (hdb : (x == ("__debug__" : Str)) = false := by decide)
    (he : starEach (e :: es) X.env = (false, eval e X.env) :: starEach es X.env := by rfl) (hpl : (backTo pos (starEach es X.env)).any (·.1) = false := by rfl) : PE X (.Call (.Name x p) (e :: es) [] pos) (tMake C sp [] E0 t) :=
  pe_make M D.ok (hr.mono hk) hg hm D.b .nil pass0 ha hdb he hpl
theorem run_meth {pins : List (Addr × Obj)} {σ : St} {H1 : Hp} {s1 : Shared} {Q : VK} {a dx : Addr} {fs : List (Str × V)} {pl : Sem Bool} {ds : List Value} (F : FnOk X.prog X.w X.K X.mg X.base CX0 k f fd ps sp) (hr : Room k X.A) (hb : Binds X.K fd ps ds) (hd : Vals dvs ds) (ha : PA X (e :: es) t)
    (hst : starEach (e :: es) X.env = (false, eval e X.env) :: starEach es X.env) (hpl : (backTo pos (starEach es X.env)).any (·.1) = false)
    (I1 : Inv X pins σ H1 s1) (ea : H1 a = some (.ins C dx fs)) (c : Cls X.K C) (hm : Meth X.K C m f) (l : fs.lookup m = none) (q : t σ H1 fun vs H2 => sp (.ref a :: (vs ++ dvs)) H2 Q E0) :
    wpAny (model X.prog X.w) X.A (getMethod (.ref a) m pl) (fun fx s2 => wpAny (model X.prog X.w) X.A (callWith pos fx.1 fx.2 (backTo pos (starEach (e :: es) X.env)) (backToKw pos (keywordEach [] X.env))) (EP X pins σ Q) X.xe s2) X.xe s1 := by
  refine getmeth_ok I1 ea c hm l ?_
  refine PySem.W.callWith_K (first := [.ref a]) (h₀ := X.base) I1.ok.mod.kin hm.kp (thn (ha pos pins s1 σ H1 _ I1 q) fun us s2 ⟨vs, H2, I2, r, q2⟩ => ⟨I2.kIn, ?_⟩) hst hpl
  exact run_fn (us := .ref a :: us) (vs := .ref a :: vs) F hr hb hd pass0 I2 (.cons rfl r) q2
theorem pmeth0 {pl : Sem Bool} (he : PE X o ta) (D : DxM X.prog X.w X.K X.mg X.base CX0 k f ps dvs sp) (hr : Room j X.A) (hk : k ≤ j) (ha : PA X (e :: es) t)
    (hst : starEach (e :: es) X.env = (false, eval e X.env) :: starEach es X.env := by rfl) (hpl : (backTo pos (starEach es X.env)).any (·.1) = false := by rfl)
    (ht : eval (.Call (.Attribute o m apos) (e :: es) [] pos) X.env = (do
      let ov ← eval o X.env
      standAt apos.atName
      let (f, first) ← holding [ov] (getMethod ov m pl)
      callWith pos f first (backTo pos (starEach (e :: es) X.env)) (backToKw pos (keywordEach [] X.env))) := by rfl) :
    PE X (.Call (.Attribute o m apos) (e :: es) [] pos) (tMethA X.K m f sp [] ta t) := by
  intro pins s σ H Q I h
  refine PySem.W.methodCall_KW (pl := pl) (thn (he pins s σ H _ I h) fun u s1 ⟨x, H1, I1, rx, a, C, dx, fs, ex, ea, c, hm, l, q⟩ => ?_) ht
  subst ex
  obtain rfl : u = Value.ref a := rx
  exact run_meth D.ok (hr.mono hk) D.b .nil ha hst hpl I1 ea c hm l q
theorem pmethZ {pl : Sem Bool} (he : PE X o ta) (D : DxM X.prog X.w X.K X.mg X.base CX0 k f ps dvs sp) (hr : Room j X.A) (hk : k ≤ j)
    (ht : eval (.Call (.Attribute o m apos) [] [] pos) X.env = (do
      let ov ← eval o X.env
      standAt apos.atName
      let (f, first) ← holding [ov] (getMethod ov m pl)
      callWith pos f first (backTo pos (starEach [] X.env)) (backToKw pos (keywordEach [] X.env))) := by rfl) :
    PE X (.Call (.Attribute o m apos) [] [] pos) (tMethA X.K m f sp [] ta tNil) := by
  intro pins s σ H Q I h
  refine PySem.W.methodCall_KW (pl := pl) (thn (he pins s σ H _ I h) fun u s1 ⟨x, H1, I1, rx, a, C, dx, fs, ex, ea, c, hm, l, q⟩ => ?_) ht
  subst ex
  obtain rfl : u = Value.ref a := rx
  refine getmeth_ok I1 ea c hm l ?_
  exact PySem.W.callWith_K0 (first := [.ref a]) I1.kIn hm.kp (run_fn (us := [.ref a]) (vs := [.ref a]) D.ok (hr.mono hk) D.b .nil pass0 I1 (.cons rfl .nil) q)
end
end Sw
set_option Elab.async false
set_option linter.all false
set_option maxRecDepth 100000
namespace Sw
open PySem L2 XH
/-! ### defs of own classes that may refuse -/
/-- o.m(..), the def at f, whatever the class; E: what is wanted of an exception -/
def tMethX (K : PySem.W.Frag) (m : Str) (f : Addr) (sp : Sp) (dvs : List V) (E : L2.St → XK) (ta : TE) (t : TA) : TE := fun σ H Q => ta σ H fun x H1 => ∃ a C dx fs, x = .ref a ∧ H1 a = some (.ins C dx fs) ∧ Cls K C ∧ Meth K C m f ∧ fs.lookup m = none ∧
  t σ H1 fun vs H2 => sp (x :: (vs ++ dvs)) H2 Q (E σ)
section
variable {X : Cx} {k j : Nat} {f C : Addr} {ps : List Str} {sp : Sp} {dvs : List V} {x m : Str} {p pos apos : Pos} {e o : Expr} {es : List Expr} {ta tb : TE} {t : TA} {E : L2.St → XK}
end
end Sw
set_option Elab.async false
set_option linter.all false
set_option maxRecDepth 100000
namespace L2
open PySem PySem.Spec PyProof.Rows XH
section
variable {X : Cx} {scope : Scope} {cl : List (Str × Addr)} {own : Str} {ys : List Str} {js : List Nat} {elt iter : Expr} {px pos : Pos} {wi : TI} {te : TE}
theorem ps_compA {i : Nat} {y : Str} {py spos : Pos} (hN : X.N.Nodup) (hi' : X.N[i]? = some y) (hy : X.env.scope.names.lookup y = some .local) (hc : X.calm = true) (ok : CompOk X scope cl own ys js) (hi : PI X (.Name own px) iter wi)
    (he : ∀ (C : Addr) (fp : List Addr) (s : Shared) (H : Hp), PE (X.block scope cl C (own :: ys) own fp s H) elt te)
    (hsw : swapsWith (.ListComp elt [⟨.Name own px, iter, [], 0⟩] scope pos) (some (.Name y py)) spos.line X.env = pure true := by rfl) (hs : ∀ x, foldedSetIterable iter X.env x = pure x := by intro _; rfl) :
    PS X (.Assign [.Name y py] (.ListComp elt [⟨.Name own px, iter, [], 0⟩] scope pos) spos) (tAsg (tComp wi js te) (gName i)) := by
  intro pins s σ H D I h
  have ncell : ∀ y ∈ scope.names, y.2 ≠ .cell := fun y hy z => by
    have q := List.all_eq_true.mp ok.nocell y hy
    rw [z] at q
    simp at q
  have nloc : ∀ y ∈ scope.names, y.2 = .local → scope.names.lookup y.1 = some .local := fun y hy z => by
    have q := List.all_eq_true.mp ok.loc y hy
    rw [z] at q
    simpa using q
  show wpAny _ _ (exec _ X.env) _ _ _
  rw [exec_Assign_Name_used _ _ _ _ hsw]
  refine wpAny_bind (wpAny_standAt (wpAny_bind ?_))
  show wpAny _ X.A (do let _ ← comprehension (.ListComp elt [⟨.Name own px, iter, [], 0⟩] scope pos) scope X.env _ (newList []) false (eval iter X.env) (some (assign (.Name y py) X.env))) _ _ s
  refine wpAny_bind (wpAny_mono (wpAny_comprehension_free (use := some (assign (.Name y py) X.env)) (Q := fun _ s' => SP X pins D .next s') rfl hs ok.clos ok.kind nloc (thn (hi pins s σ H _ I h) fun v s1 h1 => thn h1 fun itv s2 h2 => ?_)) (fun _ s' hq => wpAny_pure (wpAny_pure hq)) fun _ _ e => e)
  obtain ⟨it, fp, tn, J, H2, rfl, I2, T, st2, f2, q2⟩ := h2
  obtain ⟨W, ⟨m0, w0⟩, turn⟩ := q2 s2.heap.objs.size (I2.hok.fresh (Nat.le_refl _))
  refine wpAny_newObj_type (wpAny_newFunctionEnv ncell (by intro y hy; simp at hy) (fun h1 hns hsb => ?_) ok.kind)
  have I3 := I2.laid (a := s2.heap.objs.size) (o := .lst []) (h' := s2.heap.push { cls := .type "list", dict := none, data := .seq ([] : List Value).toArray }) (t' := s2.toks) (fun b u q => Heap.get?_push_of_some _ q) (Nat.le_refl _)
    ⟨Nat.zero_le _, [], 0, .nil, Heap.get?_push_size _ rfl⟩
  have fpo : ∀ b ∈ fp, b < s2.heap.objs.size := fun b hb => by
    obtain ⟨o, e, _⟩ := T.obj 0 _ st2 b hb
    exact Heap.lt_size e
  have f3 : ∀ b ∈ fp, FpOk X pins (upd H2 s2.heap.objs.size (.lst [])) b := fun b hb => ⟨by rw [upd_ne (Nat.ne_of_lt (fpo b hb))]; exact (f2 b hb).1, (f2 b hb).2⟩
  generalize hs3 : ({ s2 with heap := s2.heap.push { cls := .type "list", dict := none, data := .seq ([] : List Value).toArray }, toks := s2.toks } : Shared) = s3 at I3
  have e3 : s3.heap = s2.heap.push { cls := .type "list", dict := none, data := .seq ([] : List Value).toArray } := by rw [← hs3]
  have lt3 : ∀ b ∈ fp, b < s3.heap.objs.size := fun b hb => by rw [e3, Heap.size_push]; exact Nat.lt_succ_of_lt (fpo b hb)
  dsimp only at hns hsb ⊢
  rw [← e3] at hns hsb
  have hk : ∀ b o, s3.heap.get? b = some o → h1.get? b = some o := fun b o e => hsb.extBut b o (Nat.ne_of_lt (Heap.lt_size e)) (Heap.get?_push_of_some _ e)
  have J0 := block_start (h1 := h1) ok I3 f3 lt3 hns hk (s2.toks + 0)
  have t0 : tn 0 h1 := T.keep 0 _ _ st2 fun b hb o e => hk b o (by rw [e3]; exact Heap.get?_push_of_some _ e)
  have fpB : ∀ {H' : Hp}, (∀ b ∈ fp, H' b = none) → ∀ b ∈ fp, FpOk (X.block scope cl s3.heap.objs.size (own :: ys) own fp s3 (upd H2 s2.heap.objs.size (.lst []))) [] H' b := fun {H'} hn b hb =>
    ⟨hn b hb, Nat.ne_of_lt (lt3 b hb), fun z => (List.mem_cons.mp (I3.stkSub b z)).elim (f3 b hb).2.1 (f3 b hb).2.2.1, .inl hb, fun x c e => (f3 b hb).2.2.2.2.1 x c (ok.sub (x, c) (PySem.mem_of_lookup e)), fun p hp => absurd (show p ∈ ([] : List (Addr × Obj)) from hp) (by simp)⟩
  have loop : codeAny (model X.prog X.w) X.A (.compLoop (.ListComp elt [⟨.Name own px, iter, [], 0⟩] scope pos) 0 (.ref it) (.ref s2.heap.objs.size) (compEnvC scope cl s3.heap.objs.size X.env))
      (compPost (model X.prog X.w) X.A X.xe (some (assign (.Name y py) X.env)) (fun _ s' => SP X pins D .next s') (.ref s2.heap.objs.size) s3.heap.objs.size) { s3 with heap := h1, toks := s2.toks + 0 } := by
    refine compLoop_own (fun n s' => ∃ i zs o0 H', Inv (X.block scope cl s3.heap.objs.size (own :: ys) own fp s3 (upd H2 s2.heap.objs.size (.lst []))) [] (o0 :: freesOf js σ) H' s' ∧ tn i s'.heap ∧ (∀ b ∈ fp, H' b = none) ∧ W i n zs H') ?_ m0
      ⟨0, [], none, _, J0, t0, fun b hb => (f3 b hb).1, w0⟩
    rintro n s5 ⟨i, zs, o0, H5, I5, t5, n5, w5⟩
    obtain ⟨hD, hw⟩ := turn i n zs H5 w5
    rcases hw with ⟨stop, qn⟩ | ⟨go, hz, step⟩
    · refine thn (T.done (X.block scope cl s3.heap.objs.size (own :: ys) own fp s3 (upd H2 s2.heap.objs.size (.lst []))) rfl rfl rfl hc i [] s5 _ H5 (fun _ _ => False) I5 (fpB n5) t5 stop) fun r s6 ⟨hr, I6⟩ => ?_
      subst hr
      obtain ⟨m, hn, _⟩ := id I6.loc
      have J : Inv X pins σ H5 s6 := block_end (h' := s6.heap) I3 f3 I6 (Heap.SameBut.refl _ _)
      have fC := I3.fpOk (Nat.le_refl _) (show H5 s3.heap.objs.size = none from I6.free)
      obtain ⟨k0, k1, k2, k3, k4, k5⟩ := fC
      show wpAny _ X.A (assign (.Name y py) X.env (.ref s2.heap.objs.size)) _ _ _
      refine wpAny_assign_Name (store_ok2 (v := .ref s2.heap.objs.size) J hN hi' (.inl hy) rfl (fun s7 I7 hsb => ?_) (.inr hy))
      obtain ⟨a', sb, ha⟩ := hsb
      have ne : s3.heap.objs.size ≠ a' := by
        rcases ha with z | z
        · rw [z]; exact k1
        · exact fun w => k4 _ _ z w.symm
      exact ⟨m, hn.sameBut sb ne, fun h' hs' => ⟨_, H5, I7.turned (t' := s7.toks) (fun b o hb e => (hs'.2 b hb).trans e) k0 k1 k3 k4 k5, qn⟩⟩
    · refine thn (T.item (X.block scope cl s3.heap.objs.size (own :: ys) own fp s3 (upd H2 s2.heap.objs.size (.lst []))) rfl rfl rfl hc i [] s5 _ H5 (fun _ _ => False) I5 (fpB n5) t5 go) fun r s6 ⟨u, hr, h6⟩ => ?_
      subst hr
      refine thn h6 fun _ s7 ⟨x, H7, I7, r7, y7, t7, n7⟩ => ?_
      have I7' := I7.pinned (fpB n7) (T.obj _ _ t7)
      have hst := step x H7 y7
      have own' : (relabel scope X.env).names.lookup own = some .local := lookup_relabel_local ok.ownL
      refine thn (pg_name (X := X.block scope cl s3.heap.objs.size (own :: ys) own fp s3 (upd H2 s2.heap.objs.size (.lst []))) (i := 0) (x := own) (pos := px) ok.nd rfl (.inl own') (.inr own') _ s7 _ H7 x u (fun σ' H' => σ' = some x :: freesOf js σ ∧ H' = H7) I7' r7 ⟨rfl, rfl⟩) fun _ s8 ⟨σ8, H8, I8, e8, eH8⟩ => ?_
      subst e8 eH8
      refine thn (he _ _ _ _ _ s8 _ H8 _ I8 hst) fun yv s9 ⟨y, H9, I9, r9, hD9, m', hm, w9⟩ => ?_
      refine thn (mt_append _ s9 _ H9 (.ref s2.heap.objs.size) [y] (.ref s2.heap.objs.size) [yv] (fun _ H' => H' = upd H9 s2.heap.objs.size (.lst (zs ++ [y]))) I9 rfl (.cons r9 .nil) ⟨_, zs, y, rfl, rfl, hD9, hz, rfl⟩) fun _ s10 ⟨_, H10, I10, _, e10⟩ => ?_
      subst e10
      refine ⟨m', hm, i + 1, zs ++ [y], some x, _, I10.unpinned, T.keep _ _ _ t7 fun b hb o e => (I10.pin (b, o) (List.mem_append_right _ (List.mem_append_right _ (mem_pinsAt hb e)))).1, fun b hb => ?_, w9⟩
      obtain ⟨o, e, d⟩ := T.obj _ _ t7 b hb
      exact (I10.pin (b, o) (List.mem_append_right _ (List.mem_append_right _ (mem_pinsAt hb e)))).2.1
  subst hs3
  exact codeAny_compStart_list loop (T.self _ 0 _ _ _ t0 loop)
end
end L2
set_option Elab.async false
set_option linter.all false
set_option maxRecDepth 100000
namespace Sw
open PySem L2 XH
/-! ### steps: their fields -/
def stepF (nm l m u s : V) : List (Str × V) := putF "second" s (putF "uses" u (putF "most" m (putF "least" l (putF "name" nm []))))
def warmF (nm l m u s f : V) : List (Str × V) := putF "fill" f (stepF nm l m u s)
/-- all but a stays -/
def Kept (H H' : Hp) (a : Addr) : Prop := ∀ b o, H b = some o → b ≠ a → H' b = some o
theorem Kept.refl (H : Hp) (a : Addr) : Kept H H a := fun _ _ h _ => h
theorem Kept.put {H H' : Hp} {a : Addr} (k : Kept H H' a) (o : HO) : Kept H (upd H' a o) a := fun b u h n => by rw [upd_ne n]; exact k b u h n
theorem Kept.new {H H' : Hp} {a p : Addr} (k : Kept H H' a) (hp : H' p = none) (o : HO) : Kept H (upd H' p o) a := fun b u h n => by
  have e := k b u h n
  rw [upd_ne (ne_of_none e hp)]
  exact e
theorem Kept.trans {H H1 H2 : Hp} {a : Addr} (k : Kept H H1 a) (l : Kept H1 H2 a) : Kept H H2 a := fun b o h n => l b o (k b o h n) n
structure StepC (K : PySem.W.Frag) (C : Addr) : Prop where
  cl : Cls K C
  name : NoAttr K C "name"
  least : NoAttr K C "least"
  most : NoAttr K C "most"
  uses : NoAttr K C "uses"
  second : NoAttr K C "second"
def spStepInit (K : PySem.W.Frag) : Sp := fun vs H Q _ => ∃ (a C dx : Addr) (nm l m : V), vs = [.ref a, nm, l, m, .non, .non] ∧ H a = some (.ins C dx []) ∧ StepC K C ∧
  ∀ (u : Addr) (H' : Hp), u ≠ a → Kept H H' a → H' u = some (.lst []) → H' a = some (.ins C dx (stepF nm l m (.ref u) .non)) → Q .non H'
def spWarmInit (K : PySem.W.Frag) : Sp := fun vs H Q _ => ∃ (a C dx : Addr) (nm l m fl : V), vs = [.ref a, nm, l, m, fl, .non, .non] ∧ H a = some (.ins C dx []) ∧ StepC K C ∧ NoAttr K C "fill" ∧
  ∀ (u : Addr) (H' : Hp), u ≠ a → Kept H H' a → H' u = some (.lst []) → H' a = some (.ins C dx (warmF nm l m (.ref u) .non fl)) → Q .non H'
/-! ### rounds -/
structure Rnd (n p q fp fq sp sq : Int) : Prop where
  lo : p * fp * sq ≤ n * (sp * q * fq)
  hi : (n - 1) * (sp * q * fq) < p * fp * sq
  bd : Bd 2000 n
def spRounds (K : PySem.W.Frag) : Sp := fun vs H Q _ => ∃ (a C dx t tf ts : Addr) (fs : List (Str × V)) (p q fp fq sp sq : Int), vs = [.ref a, .ref tf, .ref ts] ∧ H a = some (.ins C dx fs) ∧ Cls K C ∧ NoAttr K C "fill" ∧ fs.lookup ("fill" : Str) = some (.ref t) ∧
  FrIn K 201 H t p q ∧ FrIn K 201 H tf fp fq ∧ FrIn K 201 H ts sp sq ∧ 0 < sp ∧ ∀ (n : Int) (H' : Hp), Same H H' → Rnd n p q fp fq sp sq → Q (.int n) H'
def spOneRound : Sp := fun vs H Q _ => ∃ a b c : V, vs = [a, b, c] ∧ Q (.int 1) H
def spRight (K : PySem.W.Frag) : Sp := fun vs H Q _ => ∃ (n p q fp fq sp sq : Int) (t tf ts : Addr), vs = [.int n, .ref t, .ref tf, .ref ts] ∧ FrIn K 201 H t p q ∧ FrIn K 201 H tf fp fq ∧ FrIn K 201 H ts sp sq ∧ Rnd n p q fp fq sp sq ∧ Q (.bl true) H
def spOne (K : PySem.W.Frag) (f : Addr) : Sp := fun vs H Q _ => ∃ (a C dx : Addr) (fs : List (Str × V)) (b c : V), vs = [.ref a, b, c] ∧ H a = some (.ins C dx fs) ∧ Cls K C ∧ Meth K C "rounds" f ∧ fs.lookup ("rounds" : Str) = none ∧ Q (.bl true) H
def spNumP : Sp := fun vs H Q _ => ∃ c : Int, vs = [.int c] ∧ ∀ n : Int, 0 < n → Bd 67 n → Q (.int n) H
def spDivP : Sp := fun vs H Q _ => ∃ a b : Int, vs = [.int a, .int b] ∧ 0 ≤ a ∧ 0 ≤ b ∧ Q (.int (gcdI a b)) H
def spLowP : Sp := fun vs H Q _ => ∃ a b : Int, vs = [.int a, .int b] ∧ 0 < a ∧ 0 < b ∧ Bd 8500 b ∧ ∀ p q : Int, Fr p q a b → 0 < p → Pair H Q p q
def spFracP (K : PySem.W.Frag) : Sp := fun vs H Q _ => ∃ (a : Addr) (ns : List Int) (k : Int), vs = [.ref a, .int k] ∧ SqL K H a (ns.map V.int) ∧ 0 ≤ k ∧ ∀ (p q : Int) (t : Addr) (H' : Hp), Same H H' → FrIn K 67 H' t p q → 0 < p → Q (.ref t) H'
end Sw
set_option Elab.async false
set_option linter.all false
set_option maxRecDepth 100000
namespace Sw
open PySem L2 XH PyProof.Rows
/-! ### steps with their uses and second ways -/
structure StF (fs : List (Str × V)) (nm l m u s : V) : Prop where
  name : fs.lookup ("name" : Str) = some nm
  least : fs.lookup ("least" : Str) = some l
  most : fs.lookup ("most" : Str) = some m
  uses : fs.lookup ("uses" : Str) = some u
  second : fs.lookup ("second" : Str) = some s
  word : fs.lookup ("word" : Str) = none
  span : fs.lookup ("span" : Str) = none
  grown : fs.lookup ("grown" : Str) = none
  way : fs.lookup ("grown_way" : Str) = none
abbrev Sec := Option (Int × Int × List Addr)
/-- a second way, or None -/
def SecAt (H : Hp) (s : V) : Sec → Prop
  | none => s = .non
  | some (x, y, vs) => ∃ t l2, s = .ref t ∧ H t = some (.tup [.int x, .int y, .ref l2]) ∧ H l2 = some (.lst (vs.map V.ref))
/-- one that is not in H0 -/
def SecN (H0 H : Hp) (s : V) : Sec → Prop
  | none => s = .non
  | some (x, y, vs) => ∃ t l2, s = .ref t ∧ H t = some (.tup [.int x, .int y, .ref l2]) ∧ H l2 = some (.lst (vs.map V.ref)) ∧ H0 t = none ∧ H0 l2 = none
theorem SecAt.same {H H' : Hp} (g : Same H H') {s : V} : ∀ {c : Sec}, SecAt H s c → SecAt H' s c
  | none, h => h
  | some (_, _, _), ⟨t, l2, h1, h2, h3⟩ => ⟨t, l2, h1, g _ _ h2, g _ _ h3⟩
theorem SecN.same {H0 H H' : Hp} (g : Same H H') {s : V} : ∀ {c : Sec}, SecN H0 H s c → SecN H0 H' s c
  | none, h => h
  | some (_, _, _), ⟨t, l2, h1, h2, h3, h4⟩ => ⟨t, l2, h1, g _ _ h2, g _ _ h3, h4⟩
theorem SecN.put {H0 H : Hp} {b : Addr} {o q : HO} (hb : H0 b = some q) {s : V} : ∀ {c : Sec}, SecN H0 H s c → SecN H0 (upd H b o) s c
  | none, h => h
  | some (_, _, _), ⟨t, l2, h1, h2, h3, h4, h5⟩ => ⟨t, l2, h1, by rw [upd_ne (fun z => by rw [z, hb] at h4; cases h4)]; exact h2, by rw [upd_ne (fun z => by rw [z, hb] at h5; cases h5)]; exact h3, h4, h5⟩
theorem SecN.at_ {H0 H : Hp} {s : V} : ∀ {c : Sec}, SecN H0 H s c → SecAt H s c
  | none, h => h
  | some (_, _, _), ⟨t, l2, h1, h2, h3, _⟩ => ⟨t, l2, h1, h2, h3⟩
/-- what is handed in for the uses -/
def UseAt (H : Hp) (u : V) (us : List Addr) : Prop := (u = .non ∧ us = []) ∨ ∃ l, u = .ref l ∧ H l = some (.lst (us.map V.ref))
def spInit2 (K : PySem.W.Frag) : Sp := fun vs H Q _ => ∃ (a C dx : Addr) (nm : Str) (l m : Int) (uv sv : V) (us : List Addr) (c : Sec), vs = [.ref a, .str nm, .int l, .int m, uv, sv] ∧ H a = some (.ins C dx []) ∧ StepC K C ∧ UseAt H uv us ∧ SecAt H sv c ∧
  ∀ (u : Addr) (s : V) (H' : Hp), Kept H H' a → u ≠ a → H u = none → H' u = some (.lst (us.map V.ref)) → SecN H H' s c → H' a = some (.ins C dx (stepF (.str nm) (.int l) (.int m) (.ref u) s)) → Q .non H'
def spWarm2 (K : PySem.W.Frag) : Sp := fun vs H Q _ => ∃ (a C dx : Addr) (nm : Str) (l m : Int) (fl uv sv : V) (us : List Addr) (c : Sec), vs = [.ref a, .str nm, .int l, .int m, fl, uv, sv] ∧ H a = some (.ins C dx []) ∧ StepC K C ∧ NoAttr K C "fill" ∧ UseAt H uv us ∧ SecAt H sv c ∧
  ∀ (u : Addr) (s : V) (H' : Hp), Kept H H' a → u ≠ a → H u = none → H' u = some (.lst (us.map V.ref)) → SecN H H' s c → H' a = some (.ins C dx (warmF (.str nm) (.int l) (.int m) (.ref u) s fl)) → Q .non H'
def spWord (w : Str) : Sp := fun vs H Q _ => ∃ x, vs = [x] ∧ Q (.str w) H
/-- a length by the factor p / q -/
structure Up (n l p q : Int) : Prop where
  lo : l * p ≤ n * q
  hi : (n - 1) * q < l * p
def Grw (cut : Bool) (l p q n : Int) : Prop := if cut = true then Up n l p q ∧ Bd 2000 n else n = l
def spSpan (K : PySem.W.Frag) (cut : Bool) : Sp := fun vs H Q _ => ∃ (x : V) (l m p q : Int) (tf : Addr), vs = [x, .int l, .int m, .ref tf] ∧ FrIn K 210 H tf p q ∧ Bd 210 l ∧ Bd 210 m ∧
  ∀ (t : Addr) (H' : Hp) (n k : Int), Same H H' → H' t = some (.tup [.int n, .int k]) → Grw cut l p q n → Grw cut m p q k → Q (.ref t) H'
def spGrownLen (K : PySem.W.Frag) : Sp := fun vs H Q _ => ∃ (l p q : Int) (tf : Addr), vs = [.int l, .ref tf] ∧ FrIn K 210 H tf p q ∧ Bd 210 l ∧ ∀ (n : Int) (H' : Hp), Same H H' → Grw true l p q n → Q (.int n) H'
/-- what a step's class must have -/
structure StM (K : PySem.W.Frag) (C fg fw fs ft : Addr) (cut : Bool) : Prop where
  c : StepC K C
  grown : Meth K C "grown" fg
  way : Meth K C "grown_way" fw
  span : Meth K C "span" (if cut = true then ft else fs)
/-- a list of uses -/
structure UL (H : Hp) (us : List Addr) (f : Addr → Str) : Prop where
  tup : ∀ a ∈ us, ∃ m k : Int, H a = some (.tup [.str (f a), .int m, .int k])
  nd : (us.map f).Nodup
  sm : us.length < 64
theorem UL.same {H H' : Hp} {us : List Addr} {f : Addr → Str} (h : UL H us f) (g : Same H H') : UL H' us f := ⟨fun a ha => let ⟨m, k, e⟩ := h.tup a ha; ⟨m, k, g _ _ e⟩, h.nd, h.sm⟩
structure SortOf (us bs : List Addr) (f : Addr → Str) : Prop where
  perm : bs.Perm us
  srt : sortedS (bs.map f) = true
/-- a way that was told: its lengths, and a new list of its uses, sorted -/
structure WayAt (H0 H : Hp) (t : Addr) (cut : Bool) (l m p q : Int) (us : List Addr) (f : Addr → Str) : Prop where
  ex : ∃ (n k : Int) (ls : Addr) (bs : List Addr), H t = some (.tup [.int n, .int k, .ref ls]) ∧ H ls = some (.lst (bs.map V.ref)) ∧ Grw cut l p q n ∧ Grw cut m p q k ∧ SortOf us bs f ∧ H0 ls = none
theorem WayAt.same {H0 H H' : Hp} {t : Addr} {cut : Bool} {l m p q : Int} {us : List Addr} {f : Addr → Str} (h : WayAt H0 H t cut l m p q us f) (g : Same H H') : WayAt H0 H' t cut l m p q us f := by
  obtain ⟨n, k, ls, bs, e1, e2, r⟩ := h.ex
  exact ⟨n, k, ls, bs, g _ _ e1, g _ _ e2, r⟩
def spWayG (K : PySem.W.Frag) (fg fw fs ft : Addr) : Sp := fun vs H Q _ => ∃ (x C dx lu tf : Addr) (l m p q : Int) (us : List Addr) (f : Addr → Str) (ff : List (Str × V)) (cut : Bool), vs = [.ref x, .int l, .int m, .ref lu, .ref tf] ∧ H x = some (.ins C dx ff) ∧ ff.lookup ("span" : Str) = none ∧ StM K C fg fw fs ft cut ∧
  FrIn K 210 H tf p q ∧ Bd 210 l ∧ Bd 210 m ∧ H lu = some (.lst (us.map V.ref)) ∧ UL H us f ∧ ∀ (t : Addr) (H' : Hp), Same H H' → WayAt H H' t cut l m p q us f → Q (.ref t) H'
def spNeverX : Sp := fun _ _ _ _ => False
theorem SecN.self {H0 H : Hp} {a C dx : Addr} {fs : List (Str × V)} {o : HO} {s : V} (ea : H a = some (.ins C dx fs)) : ∀ {c : Sec}, SecN H0 H s c → SecN H0 (upd H a o) s c
  | none, h => h
  | some (_, _, _), ⟨t, l2, h1, h2, h3, h4, h5⟩ => ⟨t, l2, h1, by rw [upd_ne (fun z => by rw [z, ea] at h2; cases h2)]; exact h2, by rw [upd_ne (fun z => by rw [z, ea] at h3; cases h3)]; exact h3, h4, h5⟩
end Sw
set_option Elab.async false
set_option linter.all false
set_option maxRecDepth 100000
namespace L2
open PySem PySem.Spec PyProof.Rows XH
section
variable {X : Cx}
end
end L2
namespace Sw
open PySem L2 XH PySem.NumText
/-! ### a row's words, sign by sign -/
def blS : Str := Str.ofString " "
theorem bl_mk : blS = mkS [32] := by decide
theorem join_snocC (s w c : Str) : ∀ ws : List Str, Str.join s (ws ++ [w ++ c]) = Str.join s (ws ++ [w]) ++ c
  | [] => rfl
  | [x] => by
    show x ++ s ++ (w ++ c) = x ++ s ++ w ++ c
    exact sL_inj (by simp [sL_app])
  | x :: y :: r => by
    have ih := join_snocC s w c (y :: r)
    show x ++ s ++ Str.join s ((y :: r) ++ [w ++ c]) = x ++ s ++ Str.join s ((y :: r) ++ [w]) ++ c
    rw [ih]
    exact sL_inj (by simp [sL_app])
/-- what was walked of the row: its words, the last one perhaps not whole -/
structure Wk (z : Str) (i : Nat) (ws : List Str) (w : Str) : Prop where
  join : Str.join blS (ws ++ [w]) = mkS ((sL z).take i)
  free : ∀ x ∈ ws ++ [w], 32 ∉ sL x
theorem Wk.zero (z : Str) : Wk z 0 [] Str.empty := ⟨rfl, by simp [empty_mk, sL_mk]⟩
theorem Wk.sign {z : Str} {i c : Nat} {ws : List Str} {w : Str} (h : Wk z i ws w) (e : (sL z)[i]? = some c) (n : c ≠ 32) : Wk z (i + 1) ws (w ++ ⟨#[c]⟩) := by
  refine ⟨?_, ?_⟩
  · rw [join_snocC, h.join, List.take_succ, e, one_mk, mk_app]
    rfl
  · intro x hx
    rcases List.mem_append.mp hx with k | k
    · exact h.free x (List.mem_append.mpr (.inl k))
    · simp at k
      subst k
      rw [sL_app, one_mk, sL_mk]
      have := h.free w (by simp)
      simp [this]
      omega
theorem Wk.done {z : Str} {ws : List Str} {w : Str} (h : Wk z (sL z).length ws w) : Txt.split z (mkS [32]) = ws ++ [w] := by
  have j := h.join
  rw [List.take_of_length_le (Nat.le_refl _), mk_sL, bl_mk] at j
  rw [← j]
  exact split_of (by simp) h.free
theorem Wk.few {z : Str} {i : Nat} {ws : List Str} {w : Str} (h : Wk z i ws w) (hi : i ≤ (sL z).length) : ws.length ≤ i ∧ w.length ≤ i := by
  have j := congrArg Str.length h.join
  rw [← StrLaws.glued_eq_join, PySem.size_glued, mk_len, List.length_take, bl_mk, mk_len] at j
  simp at j
  omega
def spSplit : Sp := fun vs H Q _ => ∃ z : Str, vs = [.str z] ∧ z.length ≤ 1000 ∧ (Str.empty ∈ Txt.split z (mkS [32]) → ∀ H', Same H H' → Q .non H') ∧ (Str.empty ∉ Txt.split z (mkS [32]) → ∀ (l : Addr) (H' : Hp), Same H H' → H' l = some (.lst ((Txt.split z (mkS [32])).map V.str)) → Q (.ref l) H')
def spStream : Sp := fun vs H Q _ => ∃ c m : Int, vs = [.int c, .int m] ∧ 0 ≤ m ∧ m ≤ 50 ∧ ∀ (l : Addr) (H' : Hp) (xs : List Int), Same H H' → H' l = some (.lst (xs.map V.int)) → (xs.length : Int) = m → (∀ x ∈ xs, 0 ≤ x ∧ x < 2 ^ 31) → Q (.ref l) H'
def spSign1 : Sp := fun vs H Q _ => ∃ n : Int, vs = [.int n] ∧ ∀ c : Nat, Q (.str ⟨#[c]⟩) H
def spWord6 : Sp := fun vs H Q _ => ∃ c : Int, vs = [.int c] ∧ ∀ (z : Str) (H' : Hp), z.length ≤ 6 → Same H H' → Q (.str z) H'
def spTextN (K : PySem.W.Frag) (n : Nat) : Sp := fun vs H Q _ => ∃ (a : Addr) (ns : List Int), vs = [.ref a] ∧ SqL K H a (ns.map V.int) ∧ ns.length ≤ 63 ∧ ∀ (z : Str) (H' : Hp), z.length ≤ n → Same H H' → Q (.str z) H'
def spNumOf : Sp := fun vs H Q _ => ∃ (z : Str) (lo hi : Int), vs = [.str z, .int lo, .int hi] ∧ z.length ≤ 1000000 ∧ (fig? (sL z) = none → Q .non H) ∧ ∀ n : Nat, fig? (sL z) = some n → Q (if (n : Int) < lo ∨ hi < (n : Int) then .non else .int n) H
def spNear0 : Sp := fun vs H Q _ => ∃ z : Str, vs = [.str z] ∧ z.length ≤ 600 ∧ ∀ n : Int, Q (.int n) H
/-- PA, shut -/
structure PAk (X : Cx) (es : List Expr) (t : TA) : Prop where
  h : PA X es t
/-- PSs, shut -/
structure PSsk (X : Cx) (b : List Stmt) (t : TS) : Prop where
  h : PSs X b t
end Sw
set_option Elab.async false
set_option linter.all false
set_option maxRecDepth 100000
namespace L2
open PySem PySem.Spec PyProof.Rows XH Sw
/-- a thing that is one with itself -/
def Sam : V → Prop := fun z => Smp z ∨ ∃ a, z = .ref a
theorem eqat_sam {A : Around} {s : Shared} {z : V} {u w : Value} (h : Sam z) (r1 : RelV z u) (r2 : RelV z w) : SeqAt.EqAt A s u w true := by
  rcases h with h | ⟨a, rfl⟩
  · exact eqat_smp h r1 r2
  · cases r1
    cases r2
    exact SeqAt.EqAt.same _
theorem vals_sam {A : Around} {s : Shared} : ∀ {zs : List V} {us ws : List Value}, (∀ z ∈ zs, Sam z) → Vals zs us → Vals zs ws → ∀ j (h1 : j < us.length) (h2 : j < ws.length), SeqAt.EqAt A s us[j] ws[j] true
  | _, _, _, _, .nil, .nil, j, h1, _ => absurd h1 (by simp)
  | _, _, _, hs, .cons r1 _, .cons r2 _, 0, _, _ => eqat_sam (hs _ (List.mem_cons_self)) r1 r2
  | _, _, _, hs, .cons _ t1, .cons _ t2, j + 1, h1, h2 => vals_sam (fun z hz => hs z (List.mem_cons_of_mem _ hz)) t1 t2 j (by simpa using h1) (by simpa using h2)
open HT in
/-- t[:n] where that is the whole of it -/
theorem tup_whole {prog : Program} {w : World} {A : Around} {E : Value → Shared → Prop} {s : Shared} {t sl : Addr} {items : Array Value} {vl vu : Value} {lo hi : Option Int} {Q : Value → Shared → Prop} (ht : IsTup s.heap t items) (hs : s.heap.IsSliceOf sl vl vu .none) (pl : IsPart vl lo) (pu : IsPart vu hi)
    (h1 : sIx items.size 0 lo = 0) (h2 : sIx items.size items.size hi = items.size) (h : Q (.ref t) s) : wpAny (model prog w) A (getItem (.ref t) (.ref sl)) Q E s := by
  obtain ⟨os, hos, hcs, hds⟩ := id hs
  have hTs : s.TypeIs (.ref sl) "slice" := ⟨os, hos, hcs⟩
  unfold getItem
  try with_reducible refine wpAny_holding ?_
  first | refine wpAny_bind (wpAny_pure ?_) | skip
  refine wpAny_bind (wpAny_sequenceKey ht.typeIs (by decide) ?_)
  refine wpAny_bind (wpAny_callSpecial?_slot (name := Str.ofString "__getitem__") ht.typeIs PyProof.Rows.slot_tuple_getitem
    (wpAny_call_entry PyProof.Rows.slot_tuple_getitem ht.typeIs entry_tuple_getitem ?_ (args_tuple_getitem _ _)))
  show wpAny _ _ (Builtin.Tuple.tupleItemsOf (.ref t) >>= _) _ _ s
  refine wpAny_bind (tupleItemsOf_ ht ?_)
  refine wpAny_bind (wpAny_typeOf hTs ?_)
  rw [if_pos (by decide)]
  refine wpAny_bind (sliceApplied_gen hs pl pu ?_)
  have yes : (((sIx items.size 0 lo : Nat) : Int) == 0 && (1 : Int) == 1 && (sIx items.size items.size hi - sIx items.size 0 lo) == items.size) = true := by
    rw [h1, h2]
    simp
  show wpAny _ _ (if (((sIx items.size 0 lo : Nat) : Int) == 0 && (1 : Int) == 1 && (sIx items.size items.size hi - sIx items.size 0 lo) == items.size) = true then _ else _) _ _ s
  rw [if_pos yes]
  refine wpAny_bind (m := Builtin.Tuple.tupleIsExact (.ref t)) (wpAny_bind (wpAny_typeOf ht.typeIs (wpAny_pure ?_)))
  rw [if_pos (by decide)]
  exact wpAny_bind (wpAny_rule (wpAny_pure ⟨_, rfl, wpAny_pure h⟩))
def rSlA (K : PySem.W.Frag) : V → Option Int → Option Int → Hp → VK → Prop := fun x lo hi H Q => ∃ a xs, x = .ref a ∧ SqT K H a xs ∧ ((HT.sIx xs.length 0 lo = 0 ∧ HT.sIx xs.length xs.length hi = xs.length) → Q (.ref a) H) ∧
  (¬ (HT.sIx xs.length 0 lo = 0 ∧ HT.sIx xs.length xs.length hi = xs.length) → ∀ p, H p = none → Q (.ref p) (upd H p (.tup (cutV xs lo hi))))
theorem sl_tupA {X : Cx} : SlR X (rSlA X.K) := by
  intro pins s σ H x v vl vu lo hi sl Q I rx hs pl pu h
  obtain ⟨a, xs, e, hx, q1, q2⟩ := h
  by_cases c : HT.sIx xs.length 0 lo = 0 ∧ HT.sIx xs.length xs.length hi = xs.length
  · subst e
    cases rx
    obtain ⟨its, r, ht, hz⟩ := I.tuple hx
    have hlen : its.toArray.size = xs.length := by rw [List.size_toArray]; exact r.length.symm
    refine ⟨"tuple", _, PyProof.Rows.slot_tuple_getitem.lookup, ht.typeIs, ?_⟩
    exact tup_whole ht hs pl pu (by rw [hlen]; exact c.1) (by rw [hlen]; exact c.2) ⟨.ref a, H, I, rfl, q1 c⟩
  · exact sl_tup pins s σ H x v vl vu lo hi sl Q I rx hs pl pu ⟨a, xs, e, hx, c, q2 c⟩
end L2
namespace Sw
open PySem L2 XH PyProof.Rows
structure TyC (K : PySem.W.Frag) (C : Addr) : Prop where
  ha : PySem.W.findIn K (.ref C) "__class__" = some (some (.builtin "object.__class__"))
  hn : PySem.W.specialIn K (.builtin "object.__class__") "__get__" = some (some (.builtin "getset_descriptor.__get__"))
  htk : PySem.W.takesIn K (.builtin "object.__class__") = some true
  hm : PySem.W.mroIn K C (.type "object") = some true
/-- a step as it is -/
structure StA (H : Hp) (x C : Addr) (nm : Str) (l m : Int) (us : List Addr) (c : Sec) : Prop where
  ex : ∃ (dx u : Addr) (s : V) (ff : List (Str × V)), H x = some (.ins C dx ff) ∧ StF ff (.str nm) (.int l) (.int m) (.ref u) s ∧ H u = some (.lst (us.map V.ref)) ∧ SecAt H s c
theorem StA.same {H H' : Hp} {x C : Addr} {nm : Str} {l m : Int} {us : List Addr} {c : Sec} (h : StA H x C nm l m us c) (g : Same H H') : StA H' x C nm l m us c := by
  obtain ⟨dx, u, s, ff, e1, e2, e3, e4⟩ := h.ex
  exact ⟨dx, u, s, ff, g _ _ e1, e2, g _ _ e3, e4.same g⟩
/-- and none of it in H0 -/
structure StN (H0 H : Hp) (x C : Addr) (nm : Str) (l m : Int) (us : List Addr) (c : Sec) : Prop where
  ex : ∃ (dx u : Addr) (s : V) (ff : List (Str × V)), H x = some (.ins C dx ff) ∧ StF ff (.str nm) (.int l) (.int m) (.ref u) s ∧ H u = some (.lst (us.map V.ref)) ∧ SecN H0 H s c ∧ H0 x = none ∧ H0 u = none
theorem StN.same {H0 H H' : Hp} {x C : Addr} {nm : Str} {l m : Int} {us : List Addr} {c : Sec} (h : StN H0 H x C nm l m us c) (g : Same H H') : StN H0 H' x C nm l m us c := by
  obtain ⟨dx, u, s, ff, e1, e2, e3, e4, e5⟩ := h.ex
  exact ⟨dx, u, s, ff, g _ _ e1, e2, g _ _ e3, e4.same g, e5⟩
theorem StN.put {H0 H : Hp} {x C b : Addr} {nm : Str} {l m : Int} {us : List Addr} {c : Sec} {o q : HO} (h : StN H0 H x C nm l m us c) (hb : H0 b = some q) : StN H0 (upd H b o) x C nm l m us c := by
  obtain ⟨dx, u, s, ff, e1, e2, e3, e4, e5, e6⟩ := h.ex
  exact ⟨dx, u, s, ff, by rw [upd_ne (fun z => by rw [z, hb] at e5; cases e5)]; exact e1, e2, by rw [upd_ne (fun z => by rw [z, hb] at e6; cases e6)]; exact e3, e4.put hb, e5, e6⟩
theorem StN.at_ {H0 H : Hp} {x C : Addr} {nm : Str} {l m : Int} {us : List Addr} {c : Sec} (h : StN H0 H x C nm l m us c) : StA H x C nm l m us c := by
  obtain ⟨dx, u, s, ff, e1, e2, e3, e4, _⟩ := h.ex
  exact ⟨dx, u, s, ff, e1, e2, e3, e4.at_⟩
def KC (cS cC cW cR : Addr) (k : Int) (C : Addr) : Prop := (k = 0 ∧ C = cS) ∨ (k = 1 ∧ C = cC) ∨ (k = 2 ∧ C = cW) ∨ (k = 3 ∧ C = cR)
def spMadeS (cS cC cW cR : Addr) : Sp := fun vs H Q _ => ∃ (k l m : Int) (nm : Str) (tl : Addr) (uv sv : V) (us : List Addr) (c : Sec), vs = [.int k, .str nm, .ref tl, uv, sv] ∧ H tl = some (.tup [.int l, .int m]) ∧ UseAt H uv us ∧ SecAt H sv c ∧ 0 ≤ k ∧ k < 4 ∧
  ∀ (x C : Addr) (H' : Hp), Same H H' → KC cS cC cW cR k C → StN H H' x C nm l m us c → Q (.ref x) H'
def spBareS (cS cC cW cR : Addr) : Sp := fun vs H Q _ => ∃ (k l m : Int) (nm : Str) (tl : Addr), vs = [.int k, .str nm, .ref tl] ∧ H tl = some (.tup [.int l, .int m]) ∧ 0 ≤ k ∧ k < 4 ∧
  ∀ (x C : Addr) (H' : Hp), Same H H' → KC cS cC cW cR k C → StN H H' x C nm l m [] none → Q (.ref x) H'
def spKindS (cS cC cW cR : Addr) : Sp := fun vs H Q _ => ∃ (k l m : Int) (nm : Str) (x C : Addr) (us : List Addr) (c : Sec), vs = [.ref x, .int k] ∧ KC cS cC cW cR k C ∧ StA H x C nm l m us c ∧ ∀ H', Same H H' → Q (.bl true) H'
def spValS (K : PySem.W.Frag) : Sp := fun vs H Q _ => ∃ (l m : Int) (nm : Str) (x C tl lu : Addr) (sv : V) (us : List Addr) (c : Sec), vs = [.ref x, .str nm, .ref tl, .ref lu, sv] ∧ StA H x C nm l m us c ∧ StepC K C ∧ H tl = some (.tup [.int l, .int m]) ∧ H lu = some (.lst (us.map V.ref)) ∧ SecAt H sv c ∧ ∀ H', Same H H' → Q (.bl true) H'
abbrev Due := Int × Int × List Addr
def duesOf (l m : Int) (us : List Addr) : Sec → List Due
  | none => [(l, m, us)]
  | some d => [(l, m, us), d]
/-- the ways that are told -/
structure WaysAt (H0 H : Hp) (lw : Addr) (cut : Bool) (p q : Int) (ds : List Due) (f : Addr → Str) : Prop where
  ex : ∃ ts : List Addr, H lw = some (.lst (ts.map V.ref)) ∧ ts.length = ds.length ∧ H0 lw = none ∧ (∀ (i : Nat) (t : Addr) (d : Due), ts[i]? = some t → ds[i]? = some d → WayAt H0 H t cut d.1 d.2.1 p q d.2.2 f) ∧
    ∀ (i j : Nat) (t t' : Addr) (n k n' k' : Int) (ls ls' : Addr), ts[i]? = some t → ts[j]? = some t' → H t = some (.tup [.int n, .int k, .ref ls]) → H t' = some (.tup [.int n', .int k', .ref ls']) → ls ≠ lw ∧ (i ≠ j → ls ≠ ls')
def spGrownS (K : PySem.W.Frag) (fg fw fs ft : Addr) : Sp := fun vs H Q _ => ∃ (x C tf : Addr) (nm : Str) (l m p q : Int) (us : List Addr) (c : Sec) (f : Addr → Str) (cut : Bool), vs = [.ref x, .ref tf] ∧ StA H x C nm l m us c ∧ StM K C fg fw fs ft cut ∧ FrIn K 210 H tf p q ∧
  (∀ d ∈ duesOf l m us c, Bd 210 d.1 ∧ Bd 210 d.2.1 ∧ UL H d.2.2 f) ∧ ∀ (lw : Addr) (H' : Hp), Same H H' → WaysAt H H' lw cut p q (duesOf l m us c) f → Q (.ref lw) H'
theorem UseAt.same {H H' : Hp} (g : Same H H') {u : V} {us : List Addr} (h : UseAt H u us) : UseAt H' u us := by
  rcases h with h | ⟨l, e1, e2⟩
  · exact .inl h
  · exact .inr ⟨l, e1, g _ _ e2⟩
theorem SecN.base {H0 H1 H : Hp} (g : Same H0 H1) {s : V} : ∀ {c : Sec}, SecN H1 H s c → SecN H0 H s c
  | none, h => h
  | some (_, _, _), ⟨t, l2, h1, h2, h3, h4, h5⟩ => ⟨t, l2, h1, h2, h3, g.free h4, g.free h5⟩
theorem StN.base {H0 H1 H : Hp} {x C : Addr} {nm : Str} {l m : Int} {us : List Addr} {c : Sec} (g : Same H0 H1) (h : StN H1 H x C nm l m us c) : StN H0 H x C nm l m us c := by
  obtain ⟨dx, u, s, ff, e1, e2, e3, e4, e5, e6⟩ := h.ex
  exact ⟨dx, u, s, ff, e1, e2, e3, e4.base g, g.free e5, g.free e6⟩
def spGrewS (K : PySem.W.Frag) : Sp := fun vs H Q _ => ∃ (t tl tf : Addr) (kd l m p q n n2 : Int) (r : List V), vs = [.ref t, .ref tl, .ref tf, .int kd] ∧ H t = some (.tup (.int n :: .int n2 :: r)) ∧ r.length ≤ 1 ∧ H tl = some (.tup [.int l, .int m]) ∧ FrIn K 210 H tf p q ∧ Bd 210 l ∧ Bd 210 m ∧
  Grw (decide (kd = 1)) l p q n ∧ Grw (decide (kd = 1)) m p q n2 ∧ ∀ H', Same H H' → Q (.bl true) H'
/-- the ways that are due -/
structure Dues (H : Hp) (ld : Addr) (ds : List Due) : Prop where
  ex : ∃ ts : List Addr, H ld = some (.lst (ts.map V.ref)) ∧ ts.length = ds.length ∧ ∀ (i : Nat) (t : Addr) (d : Due), ts[i]? = some t → ds[i]? = some d → ∃ lu, H t = some (.tup [.int d.1, .int d.2.1, .ref lu]) ∧ H lu = some (.lst (d.2.2.map V.ref))
theorem Dues.same {H H' : Hp} {ld : Addr} {ds : List Due} (h : Dues H ld ds) (g : Same H H') : Dues H' ld ds := by
  obtain ⟨ts, h1, h2, h3⟩ := h.ex
  refine ⟨ts, g _ _ h1, h2, fun i t d e1 e2 => ?_⟩
  obtain ⟨lu, k1, k2⟩ := h3 i t d e1 e2
  exact ⟨lu, g _ _ k1, g _ _ k2⟩
def spWaysS (K : PySem.W.Frag) (fg fw fs ft : Addr) : Sp := fun vs H Q _ => ∃ (x C tf ld : Addr) (nm : Str) (kd l m p q : Int) (us : List Addr) (c : Sec) (f : Addr → Str), vs = [.ref x, .int kd, .ref tf, .ref ld] ∧ StA H x C nm l m us c ∧ StM K C fg fw fs ft (decide (kd = 1)) ∧ FrIn K 210 H tf p q ∧
  Dues H ld (duesOf l m us c) ∧ (∀ d ∈ duesOf l m us c, Bd 210 d.1 ∧ Bd 210 d.2.1 ∧ UL H d.2.2 f) ∧ (∀ d ∈ duesOf l m us c, d.2.2.length ≤ 100) ∧ ∀ H', Same H H' → Q (.bl true) H'
def nmF (H : Hp) (a : Addr) : Str := match H a with | some (.tup (.str y :: _)) => y | _ => Str.empty
def spNumQ : Sp := fun vs H Q _ => ∃ c : Int, vs = [.int c] ∧ ∀ n : Int, 0 < n → Bd 101 n → Q (.int n) H
def spUsesS : Sp := fun vs H Q _ => ∃ (c m : Int) (ln : Addr) (zs : List Str), vs = [.int c, .ref ln, .int m] ∧ H ln = some (.lst (zs.map V.str)) ∧ zs.Nodup ∧ 0 ≤ m ∧ m ≤ 5 ∧ 5 ≤ zs.length ∧
  ∀ (p : Addr) (as : List Addr) (H' : Hp), Same H H' → H p = none → H' p = some (.lst (as.map V.ref)) → as.length ≤ 5 → UL H' as (nmF H') → Q (.ref p) H'
def spWayS (K : PySem.W.Frag) : Sp := fun vs H Q _ => ∃ (a ln : Addr) (ns : List Int) (k : Int) (zs : List Str), vs = [.ref a, .int k, .ref ln] ∧ SqL K H a (ns.map V.int) ∧ 0 ≤ k ∧ H ln = some (.lst (zs.map V.str)) ∧ zs.Nodup ∧ 5 ≤ zs.length ∧
  ∀ (t lu : Addr) (l m : Int) (as : List Addr) (H' : Hp), Same H H' → H lu = none → H' t = some (.tup [.int l, .int m, .ref lu]) → H' lu = some (.lst (as.map V.ref)) → as.length ≤ 5 → UL H' as (nmF H') → Bd 210 l → Bd 210 m → Q (.ref t) H'
def spNames12 : Sp := fun vs H Q _ => ∃ c : Int, vs = [.int c] ∧ ∀ (l : Addr) (zs : List Str) (H' : Hp), Same H H' → H' l = some (.lst (zs.map V.str)) → zs.length = 12 → zs.Nodup → Q (.ref l) H'
def abcT : Str := "abcdefghijklmnopqrstuvwxyz"
/-- the ways that are due, none of their lists at h0 or h1 -/
structure DuesX (H : Hp) (ld : Addr) (ds : List Due) (h0 h1 : Addr) : Prop where
  ex : ∃ ts : List Addr, H ld = some (.lst (ts.map V.ref)) ∧ ld ≠ h0 ∧ ld ≠ h1 ∧ ts.length = ds.length ∧ ∀ (i : Nat) (t : Addr) (d : Due), ts[i]? = some t → ds[i]? = some d → ∃ lu, H t = some (.tup [.int d.1, .int d.2.1, .ref lu]) ∧ H lu = some (.lst (d.2.2.map V.ref)) ∧ lu ≠ h0 ∧ lu ≠ h1
theorem Dues.toX {H0 H : Hp} {ld h0 h1 : Addr} {ds : List Due} (h : Dues H0 ld ds) (g : Same H0 H) (n0 : H0 h0 = none) (n1 : H0 h1 = none) : DuesX H ld ds h0 h1 := by
  obtain ⟨ts, e1, e2, e3⟩ := h.ex
  refine ⟨ts, g _ _ e1, ne_of_none e1 n0, ne_of_none e1 n1, e2, fun i t d k1 k2 => ?_⟩
  obtain ⟨lu, r1, r2⟩ := e3 i t d k1 k2
  exact ⟨lu, g _ _ r1, g _ _ r2, ne_of_none r2 n0, ne_of_none r2 n1⟩
theorem DuesX.keep {H G : Hp} {ld h0 h1 : Addr} {ds : List Due} {x0 x1 : List V} (h : DuesX H ld ds h0 h1) (e0 : H h0 = some (.lst x0)) (e1 : H h1 = some (.lst x1)) (kp : ∀ b o, H b = some o → b ≠ h0 → b ≠ h1 → G b = some o) : Dues G ld ds := by
  obtain ⟨ts, k1, k2, k3, k4, k5⟩ := h.ex
  refine ⟨ts, kp _ _ k1 k2 k3, k4, fun i t d a b => ?_⟩
  obtain ⟨lu, r1, r2, r3, r4⟩ := k5 i t d a b
  exact ⟨lu, kp _ _ r1 (fun z => by rw [z, e0] at r1; cases r1) (fun z => by rw [z, e1] at r1; cases r1), kp _ _ r2 r3 r4⟩
end Sw
set_option Elab.async false
set_option linter.all false
namespace Hm
/-! ### things of a heap, by their numbers; the order of them -/
abbrev Ky := List Int
def ltK : Ky → Ky → Bool
  | [], [] => false
  | [], _ :: _ => true
  | _ :: _, [] => false
  | a :: as, b :: bs => if a = b then ltK as bs else decide (a < b)
theorem ltK_irrefl : ∀ a : Ky, ltK a a = false
  | [] => rfl
  | a :: as => by unfold ltK; rw [if_pos rfl]; exact ltK_irrefl as
theorem ltK_trans : ∀ {a b c : Ky}, ltK a b = true → ltK b c = true → ltK a c = true
  | [], [], _, h, _ => by cases h
  | [], _ :: _, [], _, h => by cases h
  | [], _ :: _, _ :: _, _, _ => rfl
  | _ :: _, [], _, h, _ => by cases h
  | _ :: _, _ :: _, [], _, h => by cases h
  | a :: as, b :: bs, c :: cs, h1, h2 => by
    unfold ltK at h1 h2 ⊢
    by_cases ab : a = b
    · subst ab
      rw [if_pos rfl] at h1
      by_cases ac : a = c
      · rw [if_pos ac] at h2 ⊢
        exact ltK_trans h1 h2
      · rw [if_neg ac] at h2 ⊢
        exact h2
    · rw [if_neg ab] at h1
      have l1 := of_decide_eq_true h1
      by_cases bc : b = c
      · subst bc
        rw [if_neg ab]
        exact h1
      · rw [if_neg bc] at h2
        have l2 := of_decide_eq_true h2
        rw [if_neg (by omega)]
        exact decide_eq_true (by omega)
theorem ltK_total : ∀ {a b : Ky}, ltK a b = false → ltK b a = false → a = b
  | [], [], _, _ => rfl
  | [], _ :: _, h, _ => by cases h
  | _ :: _, [], _, h => by cases h
  | a :: as, b :: bs, h1, h2 => by
    unfold ltK at h1 h2
    by_cases ab : a = b
    · subst ab
      rw [if_pos rfl] at h1 h2
      rw [ltK_total h1 h2]
    · rw [if_neg ab] at h1
      rw [if_neg (Ne.symm ab)] at h2
      have l1 := of_decide_eq_false h1
      have l2 := of_decide_eq_false h2
      omega
theorem ltK_asymm {a b : Ky} (h : ltK a b = true) : ltK b a = false := by
  cases c : ltK b a with
  | false => rfl
  | true =>
    have z := ltK_trans h c
    rw [ltK_irrefl] at z
    cases z
/-- not greater, by one between -/
theorem geK_trans {a b c : Ky} (h1 : ltK a b = false) (h2 : ltK b c = false) : ltK a c = false := by
  cases k : ltK a c with
  | false => rfl
  | true =>
    cases m : ltK b a with
    | true => rw [ltK_trans m k] at h2; cases h2
    | false => rw [ltK_total h1 m] at k; rw [k] at h2; cases h2
theorem geK_lt {a b c : Ky} (h1 : ltK a b = false) (h2 : ltK c b = true) : ltK a c = false := by
  cases k : ltK a c with
  | false => rfl
  | true => rw [ltK_trans k h2] at h1; cases h1
/-! ### the heap -/
def at_ (ks : List Ky) (i : Nat) : Ky := ks.getD i []
def par (i : Nat) : Nat := (i - 1) / 2
def IsHp (ks : List Ky) : Prop := ∀ i, 0 < i → i < ks.length → ltK (at_ ks i) (at_ ks (par i)) = false
def swp (ks : List Ky) (p q : Nat) : List Ky := (ks.set p (at_ ks q)).set q (at_ ks p)
theorem swp_len {ks : List Ky} {p q : Nat} : (swp ks p q).length = ks.length := by unfold swp; simp
theorem at_set {ks : List Ky} {p : Nat} {k : Ky} (hp : p < ks.length) (i : Nat) : at_ (ks.set p k) i = if i = p then k else at_ ks i := by
  unfold at_
  by_cases c : i = p
  · subst c
    rw [if_pos rfl, List.getD_eq_getElem?_getD, List.getElem?_set_self hp]
    rfl
  · rw [if_neg c, List.getD_eq_getElem?_getD, List.getElem?_set_ne (Ne.symm c), List.getD_eq_getElem?_getD]
theorem at_swp {ks : List Ky} {p q : Nat} (hp : p < ks.length) (hq : q < ks.length) (i : Nat) : at_ (swp ks p q) i = if i = q then at_ ks p else if i = p then at_ ks q else at_ ks i := by
  unfold swp
  rw [at_set (by rw [List.length_set]; exact hq), at_set hp]
theorem at_eq {ks : List Ky} {i : Nat} (h : i < ks.length) : at_ ks i = ks[i] := by
  unfold at_
  rw [List.getD_eq_getElem?_getD, List.getElem?_eq_getElem h]
  rfl
/-- as a heap, but for the thing at p, which may be too small -/
structure Rz (ks : List Ky) (p : Nat) : Prop where
  a : ∀ i, 0 < i → i < ks.length → i ≠ p → ltK (at_ ks i) (at_ ks (par i)) = false
  b : ∀ i, 0 < i → i < ks.length → par i = p → 0 < p → ltK (at_ ks i) (at_ ks (par p)) = false
/-- as a heap, but for the thing at p, which may be too great -/
structure Sz (ks : List Ky) (p : Nat) : Prop where
  a : ∀ i, 0 < i → i < ks.length → par i ≠ p → ltK (at_ ks i) (at_ ks (par i)) = false
  b : ∀ i, 0 < i → i < ks.length → par i = p → 0 < p → ltK (at_ ks i) (at_ ks (par p)) = false
theorem par_lt {p : Nat} (h : 0 < p) : par p < p := by unfold par; omega
theorem Rz.done {ks : List Ky} {p : Nat} (h : Rz ks p) (e : p = 0 ∨ ltK (at_ ks p) (at_ ks (par p)) = false) : IsHp ks := fun i i0 il => by
  by_cases c : i = p
  · subst c
    rcases e with e | e
    · omega
    · exact e
  · exact h.a i i0 il c
theorem Rz.step {ks : List Ky} {p : Nat} (h : Rz ks p) (p0 : 0 < p) (pl : p < ks.length) (lt : ltK (at_ ks p) (at_ ks (par p)) = true) : Rz (swp ks p (par p)) (par p) := by
  have pp := par_lt p0
  have ql : par p < ks.length := by omega
  refine ⟨fun i i0 il ne => ?_, fun i i0 il e q0 => ?_⟩
  · rw [swp_len] at il
    rw [at_swp pl ql, at_swp pl ql, if_neg ne]
    by_cases ip : i = p
    · subst ip
      rw [if_pos rfl, if_pos rfl]
      exact ltK_asymm lt
    · rw [if_neg ip]
      by_cases c1 : par i = par p
      · rw [if_pos c1]
        have := h.a i i0 il ip
        rw [c1] at this
        exact geK_lt this lt
      · rw [if_neg c1]
        by_cases c2 : par i = p
        · rw [if_pos c2]
          exact h.b i i0 il c2 p0
        · rw [if_neg c2]
          exact h.a i i0 il ip
  · rw [swp_len] at il
    have qq := par_lt q0
    have n1 : par (par p) ≠ par p := by omega
    have n2 : par (par p) ≠ p := by omega
    rw [at_swp pl ql, at_swp pl ql, if_neg n1, if_neg n2]
    have up := h.a (par p) q0 ql (by omega)
    by_cases iq : i = par p
    · have := par_lt i0
      omega
    · rw [if_neg iq]
      by_cases ip : i = p
      · rw [if_pos ip]
        exact up
      · rw [if_neg ip]
        have := h.a i i0 il ip
        rw [e] at this
        exact geK_trans this up
theorem kids {i p : Nat} (h : par i = p) (i0 : 0 < i) : i = 2 * p + 1 ∨ i = 2 * p + 2 := by unfold par at h; omega
theorem par_l (p : Nat) : par (2 * p + 1) = p := by unfold par; omega
theorem par_r (p : Nat) : par (2 * p + 2) = p := by unfold par; omega
/-- c is the lesser one below p -/
structure Lb (ks : List Ky) (p c : Nat) : Prop where
  lt : c < ks.length
  up : par c = p
  pos : 0 < c
  min : ∀ i, 0 < i → i < ks.length → par i = p → ltK (at_ ks i) (at_ ks c) = false
theorem Sz.none {ks : List Ky} {p : Nat} (h : Sz ks p) (e : ks.length ≤ 2 * p + 1) : IsHp ks := fun i i0 il => h.a i i0 il fun z => by
  have := kids z i0
  omega
theorem Sz.done {ks : List Ky} {p c : Nat} (h : Sz ks p) (l : Lb ks p c) (e : ltK (at_ ks c) (at_ ks p) = false) : IsHp ks := fun i i0 il => by
  by_cases z : par i = p
  · rw [z]
    exact geK_trans (l.min i i0 il z) e
  · exact h.a i i0 il z
theorem Sz.step {ks : List Ky} {p c : Nat} (h : Sz ks p) (l : Lb ks p c) (lt : ltK (at_ ks c) (at_ ks p) = true) : Sz (swp ks p c) c := by
  have cp : p < c := by have := par_lt l.pos; rw [l.up] at this; exact this
  have cl := l.lt
  have pl : p < ks.length := by omega
  refine ⟨fun i i0 il ne => ?_, fun i i0 il e q0 => ?_⟩
  · rw [swp_len] at il
    rw [at_swp pl cl, at_swp pl cl]
    by_cases ic : i = c
    · subst ic
      rw [if_pos rfl, l.up, if_neg (by omega), if_pos rfl]
      exact ltK_asymm lt
    · rw [if_neg ic, if_neg ne]
      by_cases z : par i = p
      · have ip : i ≠ p := by have := par_lt i0; omega
        rw [if_neg ip, if_pos z]
        exact l.min i i0 il z
      · rw [if_neg z]
        by_cases ip : i = p
        · rw [if_pos ip, ip]
          exact h.b c l.pos cl l.up (by omega)
        · rw [if_neg ip]
          exact h.a i i0 il z
  · rw [swp_len] at il
    have ic : i ≠ c := by have := par_lt i0; omega
    have ip : i ≠ p := by have := par_lt i0; omega
    rw [at_swp pl cl, at_swp pl cl, if_neg ic, if_neg ip, l.up, if_neg (by omega), if_pos rfl]
    have := h.a i i0 il (by rw [e]; omega)
    rw [e] at this
    exact this
/-- the first is the least -/
theorem IsHp.least {ks : List Ky} (h : IsHp ks) : ∀ i, i < ks.length → ltK (at_ ks i) (at_ ks 0) = false := by
  intro i
  induction i using Nat.strongRecOn with
  | _ i ih =>
    intro il
    by_cases c : i = 0
    · subst c
      exact ltK_irrefl _
    · have i0 : 0 < i := by omega
      have := par_lt i0
      exact geK_trans (h i i0 il) (ih _ this (by omega))
theorem IsHp.nil : IsHp [] := fun i _ h => by simp at h
theorem at_app {ks : List Ky} {k : Ky} {i : Nat} (h : i < ks.length) : at_ (ks ++ [k]) i = at_ ks i := by
  unfold at_
  rw [List.getD_eq_getElem?_getD, List.getElem?_append_left h, List.getD_eq_getElem?_getD]
theorem IsHp.snoc {ks : List Ky} (h : IsHp ks) (k : Ky) : Rz (ks ++ [k]) ks.length := by
  refine ⟨fun i i0 il ne => ?_, fun i i0 il e q0 => ?_⟩
  · rw [List.length_append, List.length_singleton] at il
    have := par_lt i0
    rw [at_app (by omega), at_app (by omega)]
    exact h i i0 (by omega)
  · rw [List.length_append, List.length_singleton] at il
    have := kids e i0
    omega
/-- the last put in the place of the first -/
theorem IsHp.cut {k : Ky} {ks : List Ky} {l : Ky} (h : IsHp (k :: ks)) (ms : List Ky) (e : k :: ks = ms ++ [l]) (n : ms ≠ []) : Sz (ms.set 0 l) 0 ∧ (ms.set 0 l).Perm ks := by
  cases ms with
  | nil => exact absurd rfl n
  | cons m ms =>
    rw [List.cons_append] at e
    injection e with e1 e2
    subst e1
    rw [List.set_cons_zero]
    refine ⟨⟨fun i i0 il ne => ?_, fun i i0 il e q0 => by omega⟩, ?_⟩
    · have p0 : 0 < par i := by omega
      have pi := par_lt i0
      rw [List.length_cons] at il
      have g : ∀ j, 0 < j → j < ms.length + 1 → at_ (l :: ms) j = at_ (k :: ks) j := fun j j0 jl => by
        obtain ⟨j', rfl⟩ : ∃ j', j = j' + 1 := ⟨j - 1, by omega⟩
        unfold at_
        rw [List.getD_cons_succ, List.getD_cons_succ, e2, List.getD_eq_getElem?_getD, List.getD_eq_getElem?_getD, List.getElem?_append_left (by omega)]
      rw [g i i0 il, g _ p0 (by omega)]
      refine h i i0 ?_
      rw [List.length_cons, e2, List.length_append]
      omega
    · rw [e2]
      have := List.perm_append_comm (l₁ := [l]) (l₂ := ms)
      simpa using this
/-- a rising list -/
def Rs (l : List Ky) : Prop := l.Pairwise fun a b => ltK b a = false
theorem Rs.head {a : Ky} {l : List Ky} (h : Rs (a :: l)) : ∀ b ∈ a :: l, ltK b a = false := fun b hb => by
  rcases List.mem_cons.mp hb with rfl | hb
  · exact ltK_irrefl _
  · exact (List.pairwise_cons.mp h).1 b hb
end Hm
set_option Elab.async false
set_option linter.all false
set_option maxRecDepth 100000
namespace Hm
open PySem PySem.SeqAt PySem.MeetsSeq
/-! ### less than, of tuples of whole numbers -/
def Nums : List Int → List Value → Prop
  | [], [] => True
  | k :: ks, u :: us => (∃ t, u = .int k t) ∧ Nums ks us
  | _, _ => False
theorem Nums.len : ∀ {ks : List Int} {us : List Value}, Nums ks us → ks.length = us.length
  | [], [], _ => rfl
  | _ :: _, _ :: _, h => by rw [List.length_cons, List.length_cons, Nums.len h.2]
  | [], _ :: _, h => h.elim
  | _ :: _, [], h => h.elim
theorem tuple_ltT (x y : Addr) (us ws : List Value) (ks ls : List Int) (m1 m2 : Nat) (d1 d2 : Option Addr) (z1 z2 : Array (Option Value)) (h1 : Nums ks us) (h2 : Nums ls ws) :
    Meets (Builtin.«tuple.__lt__» ⟨[.ref x, .ref y], []⟩)
      (fun A R s => s.heap.get? x = some { cls := .type "tuple", dict := d1, data := .seq us.toArray m1, slots := z1 } ∧ s.heap.get? y = some { cls := .type "tuple", dict := d2, data := .seq ws.toArray m2, slots := z2 } ∧
        R (.ok (.ret (.bool (ltK ks ls)))) s) :=
  .of_wp fun prog w A R s h => by
    obtain ⟨hp, gs, dr, tk, os⟩ := s
    obtain ⟨gx, gy, fin⟩ := h
    have sub := AutoSeq1.sub_tuple_tuple
    wp_walk using AutoSeq1.wpAny_loadPart' gx, AutoSeq1.wpAny_loadPart' gy, wpAny_forIn_list _ (fun rest b s' => b.1 = none ∧ s' = ⟨hp, gs, dr, tk, os⟩ ∧ ∃ ks' ls' us' ws', rest = us'.zip ws' ∧ Nums ks' us' ∧ Nums ls' ws' ∧ us.length + ws'.length = ws.length + us'.length ∧
      R (.ok (.ret (.bool (ltK ks' ls')))) ⟨hp, gs, dr, tk, os⟩) _
    case turn =>
      rintro ⟨p, q⟩ rest b s' ⟨hb, rfl, ks', ls', us', ws', hz, n1, n2, hl, hR⟩
      match ks', us', n1 with
      | [], [], _ => simp at hz
      | k :: ks', u :: us', ⟨⟨t, hu⟩, n1⟩ =>
        match ls', ws', n2 with
        | [], [], _ => simp at hz
        | l :: ls', v :: ws', ⟨⟨t', hv⟩, n2⟩ =>
          rw [List.zip_cons_cons] at hz
          injection hz with e1 e2
          injection e1 with e1 e3
          subst e1 e3 hu hv
          have eq := (EqGives.int k l t t').at
          refine wpAny_bind (eq _ _ prog w _ _ ?_)
          unfold ltK at hR
          by_cases c : k = l
          · rw [if_pos c] at hR
            rw [show (k == l) = true from beq_iff_eq.mpr c]
            wp_walk
            refine ⟨rfl, rfl, ks', ls', us', ws', e2, n1, n2, ?_, hR⟩
            simp at hl
            omega
          · rw [if_neg c] at hR
            rw [show (k == l) = false from beq_eq_false_iff_ne.mpr c]
            have ltr : ∀ {A : Around} {E : Value → Shared → Prop} {s : Shared} {Q : Value → Shared → Prop}, Q (.bool (decide (k < l))) s → wpAny (model prog w) A (richCompare .Lt (.int k t) (.int l t')) Q E s := fun h => wpAny_lt_int h
            wp_walk using ltr
            exact ⟨_, rfl, hR⟩
    case fin =>
      rintro ⟨b1, b2⟩ s' ⟨hb, rfl, ks', ls', us', ws', hz, n1, n2, hl, hR⟩
      simp only at hb
      subst hb
      wp_walk
      refine ⟨_, rfl, ?_⟩
      have e : ltK ks' ls' = decide (us.length < ws.length) := by
        match ks', us', n1 with
        | [], [], _ =>
          match ls', ws', n2 with
          | [], [], _ => exact (decide_eq_false (by simp at hl; omega)).symm
          | _ :: _, _ :: _, _ => exact (decide_eq_true (by simp at hl; omega)).symm
        | _ :: _, _ :: _, _ =>
          match ls', ws', n2 with
          | [], [], _ => exact (decide_eq_false (by simp at hl; omega)).symm
          | _ :: _, _ :: _, _ => simp at hz
      rw [e] at hR
      simpa [Builtin.Tuple.tupleCompareSizes] using hR
    case h =>
      exact ⟨rfl, rfl, ks, ls, us, ws, rfl, h1, h2, Nat.add_comm _ _, fin⟩
section
variable {prog : Program} {w : World} {A : Around} {E : Value → Shared → Prop} {s : Shared}
theorem lt_tupT {x y : Addr} {us ws : List Value} {ks ls : List Int} {Q : Value → Shared → Prop} (gx : s.heap.IsTuple x us.toArray) (gy : s.heap.IsTuple y ws.toArray) (h1 : Nums ks us) (h2 : Nums ls ws) (hu : A.units < cLine) (h : Q (.bool (ltK ks ls)) s) :
    wpAny (model prog w) A (compareOp .Lt (.ref x) (.ref y)) Q E s := by
  obtain ⟨⟨c1, d1, t1, z1⟩, o1, e1, m1, f1⟩ := gx
  obtain ⟨⟨c2, d2, t2, z2⟩, o2, e2, m2, f2⟩ := gy
  simp only at e1 f1 e2 f2
  subst e1 f1 e2 f2
  refine richCompare_meets_room (op := .Lt) ⟨_, o1, rfl⟩ ⟨_, o2, rfl⟩ F.slot_tuple_lt F.entry_tuple_lt (F.args_tuple_lt_2 _ _) (tuple_ltT x y us ws ks ls m1 m2 d1 d2 z1 z2 h1 h2) ⟨o1, o2, ?_⟩ hu
  exact (show Value.bool (ltK ks ls) ≠ Value.notImplemented ∧ Q (.bool (ltK ks ls)) s from ⟨(fun z => nomatch z), h⟩)
end
end Hm
set_option Elab.async false
set_option linter.all false
set_option maxRecDepth 100000
namespace L2
open PySem PySem.Spec PyProof.Rows XH Sw So Hm
/-! ### things: whole numbers, or tuples of such -/
def Th (b : Bool) (H : Hp) (v : V) (k : Ky) : Prop := match b with
  | false => ∃ i : Int, v = .int i ∧ k = [i]
  | true => ∃ a : Addr, v = .ref a ∧ H a = some (.tup (k.map V.int)) ∧ k ≠ [] ∧ k.length ≤ sizeLine
theorem nums_of : ∀ {ks : List Int} {us : List Value}, Vals (ks.map V.int) us → Nums ks us
  | [], _, h => by cases h; trivial
  | k :: ks, _, h => by
    cases h with
    | cons r t => exact ⟨r, nums_of t⟩
theorem ltK_one {i j : Int} : ltK [i] [j] = decide (i < j) := by
  unfold ltK
  by_cases c : i = j
  · rw [if_pos c]
    exact (decide_eq_false (by omega)).symm
  · rw [if_neg c]
/-- x < y, of things -/
theorem op_ltTh {X : Cx} (hu : X.A.units < cLine) : OpR X (compareOp .Lt) (fun x y H Q => ∃ b k l, Th b H x k ∧ Th b H y l ∧ Q (.bl (ltK k l)) H) := by
  intro pins s σ H x y u v Q I rx ry h
  obtain ⟨b, k, l, hx, hy, q⟩ := h
  cases b with
  | false =>
    obtain ⟨i, rfl, rfl⟩ := hx
    obtain ⟨j, rfl, rfl⟩ := hy
    rw [ltK_one] at q
    exact op_lt pins s σ H _ _ u v Q I rx ry ⟨i, j, rfl, rfl, q⟩
  | true =>
    obtain ⟨a, rfl, ea, _⟩ := hx
    obtain ⟨c, rfl, ec, _⟩ := hy
    cases rx
    cases ry
    obtain ⟨us, r1, g1, _⟩ := I.tuple (SqT.of ea)
    obtain ⟨ws, r2, g2, _⟩ := I.tuple (SqT.of ec)
    exact lt_tupT g1 g2 (nums_of r1) (nums_of r2) hu ⟨.bl (ltK k l), H, I, rfl, q⟩
/-- keys of values -/
def thKind (b : Bool) (nm : Addr → Option Ky) : PyProof.Rows.KeyKind where
  α := Ky
  blt := ltK
  irrefl := ltK_irrefl
  trans _ _ _ := ltK_trans
  negTrans a c d h := by
    cases k : ltK a c with
    | true => exact .inl rfl
    | false =>
      cases m : ltK c d with
      | true => exact .inr rfl
      | false => rw [geK_trans k m] at h; cases h
  total _ _ := ltK_total
  keyOf v := match b, v with | false, .int i _ => some [i] | true, .ref a => nm a | _, _ => none
  dflt := []
/-- a tuple of numbers -/
def NumT (h : Heap) (a : Addr) (k : Ky) : Prop := ∃ (o : Obj) (us : List Value) (n : Nat), h.get? a = some o ∧ o.cls = .type "tuple" ∧ o.data = .seq us.toArray n ∧ Nums k us
section
variable {prog : Program} {w : World} {A : Around} {E : Value → Shared → Prop} {s : Shared}
def sk (b : Bool) : SortKind := match b with | false => oneType' | true => tuples' true
end
end L2
set_option Elab.async false
set_option linter.all false
set_option maxRecDepth 100000
namespace L2
open PySem PySem.Spec PyProof.Rows XH Sw So Hm
/-- x != [] -/
theorem op_neNil {X : Cx} (hu : X.A.units < cLine) : OpR X (compareOp .NotEq) (fun x y H Q => ∃ a b zs, x = .ref a ∧ y = .ref b ∧ SqL X.K H a zs ∧ SqL X.K H b [] ∧ Q (.bl (!zs.isEmpty)) H) := by
  intro pins s σ H x y v u Q I rx ry h
  obtain ⟨a, b, zs, rfl, rfl, h1, h2, hq⟩ := h
  cases rx
  cases ry
  obtain ⟨i1, r1, p1, _⟩ := I.list h1
  obtain ⟨i2, r2, p2, _⟩ := I.list h2
  cases r2
  cases zs with
  | nil =>
    cases r1
    refine SeqAt.RcNeAt.lists (e := fun _ => true) p1.isList p2.isList rfl hu (fun j g1 g2 => absurd g1 (by simp)) _ _ _ _ ?_
    exact ⟨.bl false, H, I, by show Value.bool _ = Value.bool _; simp, hq⟩
  | cons z zs =>
    cases r1 with
    | cons r rr =>
      refine SeqAt.RcNeAt.lists_lengths p1.isList p2.isList (by simp) hu _ _ _ _ ?_
      exact ⟨.bl true, H, I, rfl, hq⟩
/-- things alike -/
theorem op_eqTh {X : Cx} (hu : X.A.units < cLine) : OpR X (compareOp .Eq) (fun x y H Q => ∃ b k, Th b H x k ∧ Th b H y k ∧ Q (.bl true) H) := by
  intro pins s σ H x y v u Q I rx ry h
  obtain ⟨b, k, hx, hy, q⟩ := h
  cases b with
  | false =>
    obtain ⟨i, rfl, rfl⟩ := hx
    obtain ⟨j, rfl, e⟩ := hy
    cases e
    refine op_eq pins s σ H _ _ v u Q I rx ry ⟨rfl, ?_⟩
    rw [decide_eq_true rfl]
    exact q
  | true =>
    obtain ⟨a, rfl, ea, _⟩ := hx
    obtain ⟨c, rfl, ec, _⟩ := hy
    cases rx
    cases ry
    obtain ⟨us, r1, g1, _⟩ := I.tuple (SqT.of ea)
    obtain ⟨ws, r2, g2, _⟩ := I.tuple (SqT.of ec)
    have l1 := r1.length
    have l2 := r2.length
    rw [List.length_map] at l1 l2
    refine SeqAt.eq_tupleAt (e := fun _ => true) g1 g2 hu (fun j g1 g2 => ?_) ?_
    · have j1 : j < us.length := by simpa using g1
      have jk : (k.map V.int)[j]? = some (.int k[j]) := by rw [List.getElem?_map, List.getElem?_eq_getElem (by omega)]; rfl
      obtain ⟨p, e1, t1, p1⟩ := r1.get jk
      obtain ⟨q', e2, t2, p2⟩ := r2.get jk
      subst p1 p2
      have f1 : us.toArray[j] = .int k[j] t1 := by
        have := (List.getElem?_eq_some_iff.mp e1).2
        simpa using this
      have f2 : ws.toArray[j] = .int k[j] t2 := by
        have := (List.getElem?_eq_some_iff.mp e2).2
        simpa using this
      rw [f1, f2]
      have z := SeqAt.EqAt.int_int (A := X.A.in1) (s := s) k[j] t1 k[j] t2
      rw [beq_self_eq_true] at z
      exact z
    · refine ⟨.bl true, H, I, ?_, q⟩
      show Value.bool _ = Value.bool _
      have e : us.length = ws.length := by omega
      simp [e]
/-- a list walked in a comprehension whose elements are told by the heap -/
theorem comp_byS {K : PySem.W.Frag} {a : Addr} {xs : List V} {js : List Nat} {te : TE} {σ : L2.St} {H1 : Hp} {Q : VK} (R : Hp → V → Prop) (mono : ∀ H H' y, Same H H' → R H y → R H' y) (keep : ∀ (H : Hp) (p : Addr) (xs ys : List V) (z : V), H p = some (.lst xs) → R H z → R (upd H p (.lst ys)) z) (hS : SqL K H1 a xs) (hz : xs.length ≤ sizeLine)
    (step : ∀ x ∈ xs, ∀ H3, Same H1 H3 → ∀ Q' : VK, (∀ y H4, R H4 y → Same H3 H4 → Q' y H4) → te (some x :: freesOf js σ) H3 Q')
    (fin : ∀ (p : Addr) (ys : List V) (H' : Hp), H1 p = none → ys.length = xs.length → (∀ y ∈ ys, R H' y) → Same H1 H' → H' p = some (.lst ys) → Q (.ref p) H') : compR js te σ Q (Itl K a) H1 := by
  intro p hp
  refine ⟨fun i m ys H2 => i ≤ xs.length ∧ m = xs.length - i ∧ ys.length = i ∧ (∀ y ∈ ys, R H2 y) ∧ Same H1 H2 ∧ H2 p = some (.lst ys), ⟨xs.length, Nat.zero_le _, rfl, rfl, fun y e => by simp at e, Sw.same_new hp _, upd_same⟩, ?_⟩
  rintro i m ys H2 ⟨hi, rfl, hl, hP, g, e⟩
  refine ⟨e, ?_⟩
  have S2 := g.seq hS
  by_cases hin : i < xs.length
  · refine .inr ⟨⟨xs, xs[i], S2, List.getElem?_eq_getElem hin⟩, by omega, fun x H3 hy => ?_⟩
    obtain ⟨rfl, hx⟩ := hy
    have ex := hx xs S2
    refine step x (List.mem_of_getElem? ex) H3 g _ fun y H4 py g4 => ⟨g4 _ _ e, xs.length - (i + 1), by omega, hin, rfl, by simp [hl], fun z hz => ?_, Sw.sUpd (g.trans g4) hp _, upd_same⟩
    have up : ∀ z, R H4 z → R (upd H4 p (.lst (ys ++ [y]))) z := fun z h => keep _ _ _ _ z (g4 _ _ e) h
    rcases List.mem_append.mp hz with h | h
    · exact up z (mono _ _ z g4 (hP z h))
    · simp at h
      rw [h]
      exact up y py
  · have e2 : i = xs.length := by omega
    subst e2
    exact .inl ⟨⟨xs, S2, Nat.le_refl _⟩, fin p ys H2 hp hl hP g e⟩
theorem Same.sqt {K : PySem.W.Frag} {H H' : Hp} {a : Addr} {xs : List V} (e : Same H H') (h : SqT K H a xs) : SqT K H' a xs := by
  rcases h with (h | ⟨o, h⟩) | h
  · exact .inl (.inl (e _ _ h))
  · exact .inl (.inr ⟨o, e _ _ h⟩)
  · exact .inr h
/-- a tuple walked in a comprehension whose test none keeps -/
theorem compIf_tup0 {K : PySem.W.Frag} {a : Addr} {xs : List V} {js : List Nat} {tc : TT} {te : TE} {σ : L2.St} {H1 : Hp} {Q : VK} (hS : SqT K H1 a xs) (hz : xs.length ≤ sizeLine)
    (step : ∀ x ∈ xs, ∀ H3, Same H1 H3 → ∀ R : Bool → Hp → Prop, R false H3 → tc (some x :: freesOf js σ) H3 R)
    (fin : ∀ p H', Same H1 H' → H' p = some (.lst []) → Q (.ref p) H') : compIR js tc te σ Q (Itt K a) H1 := by
  intro p hp
  refine ⟨fun i m ys H2 => i ≤ xs.length ∧ m = xs.length - i ∧ ys = [] ∧ H2 = upd H1 p (.lst []), ⟨xs.length, Nat.zero_le _, rfl, rfl, rfl⟩, ?_⟩
  rintro i m ys H2 ⟨hi, rfl, rfl, rfl⟩
  have g := Sw.same_new hp (.lst [])
  have S2 := g.sqt hS
  refine ⟨upd_same, ?_⟩
  by_cases hin : i < xs.length
  · refine .inr ⟨⟨xs, xs[i], S2, List.getElem?_eq_getElem hin⟩, (by show 0 < sizeLine; decide), fun x H3 hy => ?_⟩
    obtain ⟨rfl, hx⟩ := hy
    have ex := hx xs S2
    exact step x (List.mem_of_getElem? ex) _ g _ (iteF ⟨xs.length - (i + 1), by omega, hin, rfl, rfl, rfl⟩)
  · have e2 : i = xs.length := by omega
    subst e2
    exact .inl ⟨⟨xs, S2, Nat.le_refl _⟩, fin p _ g upd_same⟩
end L2
namespace Sw
open PySem L2 XH Hm
section
variable {X : Cx} {k j : Nat} {f C : Addr} {ps : List Str} {sp : Sp} {dvs : List V} {x m : Str} {p pos apos : Pos} {e o : Expr} {es : List Expr} {ta tb : TE} {t : TA} {E : L2.St → XK}
theorem pmethZ1 {pl : Sem Bool} (D : DxM X.prog X.w X.K X.mg X.base (CX1 X.prog X.w) k f ps dvs sp) (hr : Room j X.A) (hk : k ≤ j) (hx : PassX X E) (he : PE X o ta)
    (ht : eval (.Call (.Attribute o m apos) [] [] pos) X.env = (do
      let ov ← eval o X.env
      standAt apos.atName
      let (f, first) ← holding [ov] (getMethod ov m pl)
      callWith pos f first (backTo pos (starEach [] X.env)) (backToKw pos (keywordEach [] X.env))) := by rfl) :
    PE X (.Call (.Attribute o m apos) [] [] pos) (tMethX X.K m f sp [] E ta tNil) := by
  intro pins s σ H Q I h
  refine PySem.W.methodCall_KW (pl := pl) (thn (he pins s σ H _ I h) fun u s1 ⟨x, H1, I1, rx, a, C, dx, fs, ex, ea, c, hm, l, q⟩ => ?_) ht
  subst ex
  obtain rfl : u = Value.ref a := rx
  refine getmeth_ok I1 ea c hm l ?_
  exact PySem.W.callWith_K0 (first := [.ref a]) I1.kIn hm.kp (run_fnX (us := [.ref a]) (vs := [.ref a]) D.ok (hr.mono hk) D.b .nil hx I1 (.cons rfl .nil) q)
theorem pmethZ2 {pl : Sem Bool} {K : PySem.W.Frag} (hK : X.K = K) (D : DxM X.prog X.w X.K X.mg X.base (CX1 X.prog X.w) k f ps dvs sp) (hr : Room j X.A) (hk : k ≤ j) (he : PE (X.wish (XS X E)) o ta)
    (ht : eval (.Call (.Attribute o m apos) [] [] pos) X.env = (do
      let ov ← eval o X.env
      standAt apos.atName
      let (f, first) ← holding [ov] (getMethod ov m pl)
      callWith pos f first (backTo pos (starEach [] X.env)) (backToKw pos (keywordEach [] X.env))) := by rfl) :
    PE (X.wish (XS X E)) (.Call (.Attribute o m apos) [] [] pos) (tMethX K m f sp [] E ta tNil) := by
  subst hK
  exact pmethZ1 (X := X.wish (XS X E)) D hr hk passX he ht
end
/-! ### a heap that is kept in a list -/
theorem th_at {v : V} : ([("things", v)] : List (Str × V)).lookup ("things" : Str) = some v := by
  rw [List.lookup_cons, beq_self_eq_true]
theorem th_no {v : V} {m : Str} (h : (m == ("things" : Str)) = false) : ([("things", v)] : List (Str × V)).lookup m = none := by
  rw [List.lookup_cons, h]
  rfl
theorem ixN_nat {n j : Nat} (h : j < n) : ixN n (j : Int) = some j := by
  unfold ixN
  rw [if_pos (by omega), if_pos (by omega)]
  rfl
theorem upd_self {H : Hp} {l : Addr} {o : HO} (h : H l = some o) : upd H l o = H := by
  funext b
  by_cases c : b = l
  · subst c
    rw [upd_same, h]
  · rw [upd_ne c]
theorem par_int {p : Nat} (h : 0 < p) : ((p : Int) - 1).fdiv 2 = ((par p : Nat) : Int) := by
  unfold par
  rw [Int.fdiv_eq_ediv_of_nonneg _ (by decide)]
  omega
/-- what lies below p -/
def Bel (us : List V) (f : V → Ky) (p : Nat) (y : V) : Prop := (y = .non ∧ us.length ≤ 2 * p + 1) ∨ ∃ c : Nat, y = .int c ∧ Lb (us.map f) p c
theorem take_snocV {us : List V} {i : Nat} {u : V} (h : us[i]? = some u) : us.take (i + 1) = us.take i ++ [u] := by
  rw [List.take_succ, h]
  rfl
structure HA (C : Addr) (H : Hp) (x dx l : Addr) (us : List V) : Prop where
  o : H x = some (.ins C dx [("things", .ref l)])
  li : H l = some (.lst us)
theorem HA.ne {C : Addr} {H : Hp} {x dx l : Addr} {us : List V} (h : HA C H x dx l us) : x ≠ l := ne_of h.o h.li (by intro e; cases e)
theorem HA.put {C : Addr} {H : Hp} {x dx l : Addr} {us : List V} (h : HA C H x dx l us) (ws : List V) : HA C (upd H l (.lst ws)) x dx l ws := ⟨by rw [upd_ne h.ne]; exact h.o, upd_same⟩
/-- nothing is changed but at l -/
def Fl (l : Addr) (H H' : Hp) : Prop := ∀ a o, a ≠ l → H a = some o → H' a = some o
theorem Fl.refl (l : Addr) (H : Hp) : Fl l H H := fun _ _ _ h => h
theorem Fl.trans {l : Addr} {H H1 H2 : Hp} (a : Fl l H H1) (b : Fl l H1 H2) : Fl l H H2 := fun c o n h => b c o n (a c o n h)
theorem Fl.of {l : Addr} {H H' : Hp} (g : Same H H') : Fl l H H' := fun a o _ h => g a o h
theorem Fl.put (l : Addr) (H : Hp) (o : HO) : Fl l H (upd H l o) := fun a u n h => by rw [upd_ne n]; exact h
theorem _root_.L2.Th.fl {b : Bool} {H H' : Hp} {l : Addr} {us : List V} {v : V} {k : Ky} (h : Th b H v k) (hl : H l = some (.lst us)) (g : Fl l H H') : Th b H' v k := by
  cases b with
  | false => exact h
  | true =>
    obtain ⟨a, e, ea, ne⟩ := h
    exact ⟨a, e, g a _ (ne_of ea hl (by intro z; cases z)) ea, ne⟩
theorem _root_.L2.Th.same {b : Bool} {H H' : Hp} {v : V} {k : Ky} (h : Th b H v k) (g : Same H H') : Th b H' v k := by
  cases b with
  | false => exact h
  | true =>
    obtain ⟨a, e, ea, ne⟩ := h
    exact ⟨a, e, g a _ ea, ne⟩
theorem _root_.L2.Th.keep {b : Bool} {H H' : Hp} {v : V} {k : Ky} (h : Th b H v k) (g : ∀ (a : Addr) (zs : List V), H a = some (.tup zs) → H' a = some (.tup zs)) : Th b H' v k := by
  cases b with
  | false => exact h
  | true =>
    obtain ⟨a, e, ea, ne⟩ := h
    exact ⟨a, e, g a _ ea, ne⟩
def Ths (b : Bool) (H : Hp) (us : List V) (f : V → Ky) : Prop := ∀ u ∈ us, Th b H u (f u)
theorem Ths.fl {b : Bool} {H H' : Hp} {l : Addr} {us vs : List V} {f : V → Ky} (h : Ths b H vs f) (hl : H l = some (.lst us)) (g : Fl l H H') : Ths b H' vs f := fun u hu => (h u hu).fl hl g
theorem Ths.same {b : Bool} {H H' : Hp} {vs : List V} {f : V → Ky} (h : Ths b H vs f) (g : Same H H') : Ths b H' vs f := fun u hu => (h u hu).same g
theorem Ths.perm {b : Bool} {H : Hp} {us vs : List V} {f : V → Ky} (h : Ths b H vs f) (p : us.Perm vs) : Ths b H us f := fun u hu => h u (p.mem_iff.mp hu)
open Classical in
theorem choose_ky {b : Bool} {H : Hp} {vs : List V} (h : ∀ y ∈ vs, ∃ k, Th b H y k) : ∃ f : V → Ky, Ths b H vs f := by
  refine ⟨fun v => if q : ∃ k, Th b H v k then Classical.choose q else [], fun u hu => ?_⟩
  have q := h u hu
  show Th b H u (if q : ∃ k, Th b H u k then Classical.choose q else [])
  rw [dif_pos q]
  exact Classical.choose_spec q
theorem at_map {us : List V} {f : V → Ky} {p : Nat} {u : V} (h : us[p]? = some u) : at_ (us.map f) p = f u := by
  unfold at_
  rw [List.getD_eq_getElem?_getD, List.getElem?_map, h]
  rfl
theorem swp_map {us : List V} {f : V → Ky} {p q : Nat} {u v : V} (hu : us[p]? = some u) (hv : us[q]? = some v) : ((us.set p v).set q u).map f = swp (us.map f) p q := by
  unfold swp
  rw [at_map hu, at_map hv, List.map_set, List.map_set]
theorem swap_perm {us : List V} {p q : Nat} {u v : V} (hu : us[p]? = some u) (hv : us[q]? = some v) : ((us.set p v).set q u).Perm us := by
  obtain ⟨hp, e1⟩ := List.getElem?_eq_some_iff.mp hu
  obtain ⟨hq, e2⟩ := List.getElem?_eq_some_iff.mp hv
  subst e1 e2
  exact List.set_set_perm hp hq
def spSwap (C : Addr) : Sp := fun vs H Q _ => ∃ (x dx l : Addr) (us : List V) (p q : Nat) (u v : V), vs = [.ref x, .int p, .int q] ∧ HA C H x dx l us ∧ us[p]? = some u ∧ us[q]? = some v ∧ Q .non (upd H l (.lst ((us.set p v).set q u)))
def spBelow (C : Addr) : Sp := fun vs H Q _ => ∃ (x dx l : Addr) (us : List V) (p : Nat) (b : Bool) (f : V → Ky), vs = [.ref x, .int p] ∧ HA C H x dx l us ∧ p < us.length ∧ Ths b H us f ∧ (us.length ≤ 2 * p + 1 → Q .non H) ∧ ∀ c : Nat, Lb (us.map f) p c → Q (.int c) H
def spRise (C : Addr) : Sp := fun vs H Q _ => ∃ (x dx l : Addr) (us : List V) (p : Nat) (b : Bool) (f : V → Ky), vs = [.ref x, .int p] ∧ HA C H x dx l us ∧ p < us.length ∧ Ths b H us f ∧ Rz (us.map f) p ∧ ∀ ws : List V, ws.Perm us → IsHp (ws.map f) → Q .non (upd H l (.lst ws))
def spSink (C : Addr) : Sp := fun vs H Q _ => ∃ (x dx l : Addr) (us : List V) (p : Nat) (b : Bool) (f : V → Ky), vs = [.ref x, .int p] ∧ HA C H x dx l us ∧ p < us.length ∧ Ths b H us f ∧ Sz (us.map f) p ∧ ∀ ws : List V, ws.Perm us → IsHp (ws.map f) → Q .non (upd H l (.lst ws))
def spAdd (C : Addr) : Sp := fun vs H Q _ => ∃ (x dx l : Addr) (us : List V) (v : V) (b : Bool) (f : V → Ky), vs = [.ref x, v] ∧ HA C H x dx l us ∧ us.length < sizeLine ∧ Ths b H us f ∧ Th b H v (f v) ∧ IsHp (us.map f) ∧ ∀ ws : List V, ws.Perm (v :: us) → IsHp (ws.map f) → Q .non (upd H l (.lst ws))
def spMany (C : Addr) : Sp := fun vs H Q _ => ∃ (x dx l : Addr) (us : List V), vs = [.ref x] ∧ HA C H x dx l us ∧ Q (.int us.length) H
def TakeOk (H : Hp) (l : Addr) (us : List V) (f : V → Ky) (Q : VK) : Prop := ∀ (v : V) (ws : List V) (H' : Hp), (v :: ws).Perm us → IsHp (ws.map f) → f v = at_ (us.map f) 0 → Fl l H H' → H' l = some (.lst ws) → Q v H'
def spTakeX (C c : Addr) : Sp := fun vs H Q E => ∃ (x dx l : Addr) (us : List V) (b : Bool) (f : V → Ky), vs = [.ref x] ∧ HA C H x dx l us ∧ Ths b H us f ∧ IsHp (us.map f) ∧ (us = [] → ∀ H', Same H H' → E (.ref c) none H') ∧ (us ≠ [] → TakeOk H l us f Q)
def spTake (C : Addr) : Sp := fun vs H Q _ => ∃ (x dx l : Addr) (us : List V) (b : Bool) (f : V → Ky), vs = [.ref x] ∧ HA C H x dx l us ∧ Ths b H us f ∧ IsHp (us.map f) ∧ us ≠ [] ∧ TakeOk H l us f Q
theorem take_of {C c : Addr} {vs : List V} {H : Hp} {Q : VK} {E : XK} (h : spTake C vs H Q E) : spTakeX C c vs H Q E0 := by
  obtain ⟨x, dx, l, us, b, f, e, h1, h2, h3, h4, h5⟩ := h
  exact ⟨x, dx, l, us, b, f, e, h1, h2, h3, fun z => absurd z h4, fun _ => h5⟩
def spHeap (C : Addr) : Sp := fun vs H Q _ => ∃ (x dx r : Addr) (us : List V) (b : Bool) (f : V → Ky), vs = [.ref x, .ref r] ∧ H x = some (.ins C dx []) ∧ H r = some (.lst us) ∧ us.length ≤ sizeLine ∧ Ths b H us f ∧
  ∀ (l : Addr) (ws : List V) (H' : Hp), ws.Perm us → IsHp (ws.map f) → HA C H' x dx l ws → H l = none → (∀ a o, a ≠ x → H a = some o → H' a = some o) → Q .non H'
def spRefused (C : Addr) : Sp := fun vs H Q _ => ∃ (x dx l : Addr), vs = [.ref x] ∧ HA C H x dx l [] ∧ ∀ H', Same H H' → Q (.bl true) H'
def spDrawn : Sp := fun vs H Q _ => ∃ (c m : Int), vs = [.int c, .int m] ∧ 0 ≤ m ∧ m ≤ 1000 ∧ ∀ (p : Addr) (ns : List Int) (H' : Hp), H p = none → Same H H' → ns.length = m.toNat → H' p = some (.lst (ns.map V.int)) → Q (.ref p) H'
def kindB (k : Int) : Bool := decide (k = 1) || decide (k = 3)
def spThing : Sp := fun vs H Q _ => ∃ (c k : Int), vs = [.int c, .int k] ∧ ∀ (v : V) (ky : Ky) (H' : Hp), Same H H' → Th (kindB k) H' v ky → Q v H'
def spAlike : Sp := fun vs H Q _ => ∃ (x y : V) (b : Bool) (k : Ky), vs = [x, y] ∧ Th b H x k ∧ Th b H y k ∧ ∀ H', Same H H' → Q (.bl true) H'
end Sw
set_option Elab.async false
set_option linter.all false
set_option maxRecDepth 100000
namespace Mn
open PySem
/-! ### the least of what is walked, where a comparison asks for the heap -/
section
variable {prog : Program} {w : World} {A : Around} {R : Result → Shared → Prop} {it : Addr} {fp wr : List Addr} {n : Nat} {P : Nat → Value → Prop} {St : Nat → Heap → Prop}
/-- what a comparison answers while the walk goes on -/
def CmpAt (prog : Program) (w : World) (A : Around) (P : Nat → Value → Prop) (St : Nat → Heap → Prop) (bt : Nat → Nat → Bool) : Prop :=
  ∀ (i j k : Nat) (u v : Value) (s : Shared) (Q E : Value → Shared → Prop), St k s.heap → P i u → P j v → Q (.bool (bt i j)) s → wpAny (model prog w) A (richCompare .Lt u v) Q E s
theorem loop_name : (toString "min" ++ toString ".loop" : String) = "min.loop" := by decide
theorem min_go (Wk : Walks prog w A.in1 it fp wr n P St) (bt : Nat → Nat → Bool) (cm : CmpAt prog w A.in1 P St bt) (box : Addr) (nb : box ∉ fp) : ∀ (k j : Nat) (s : Shared) (best : Value) (ep : Nat),
    n - (j + 1) = k → j + 1 ≤ n → St (j + 1) s.heap → P (argBest bt j) best → s.heap.get? box = some { cls := .type "list", dict := none, data := .seq #[best, best] ep, slots := #[] } →
    (∀ v h' tk, P (argBest bt (n - 1)) v → (∀ b o, b ∉ wr → b ≠ box → s.heap.get? b = some o → h'.get? b = some o) → R (.ok (.ret v)) { s with heap := h', toks := tk }) →
    codeAny (model prog w) A (.builtin "min.loop" ⟨[.ref it, .none, .ref box], []⟩) R s := by
  have nw : box ∉ wr := fun z => nb (Wk.sub _ z)
  intro k
  induction k with
  | zero =>
    intro j s best ep ek jn st pb gb fin
    have en : j + 1 = n := by omega
    refine PySem.codeAny_builtin PySem.F.entry_min_loop ?_
    rw [PySem.Around.under_plainId PySem.F.plain_min_loop _]
    refine wpAny_bind (m := seqItems? (.ref box)) (wpAny_seqItems gb rfl ?_)
    refine wpAny_bind (m := tryCatch (pyNext (.ref it)) _) (wpAny_tryCatch (Wk.done s _ _ (en ▸ st) fun h' tk kept => ?_))
    have gb' := kept box _ nw gb
    refine wpAny_bind (m := updateSeq box (fun _ => #[])) (wpAny_updateSeq gb' rfl (wpAny_bind (wpAny_letGo (wpAny_pure ?_))))
    exact fin best _ tk (by rw [← en]; exact pb) fun b o b1 b2 e => (Heap.get?_update_other _ _ (Ne.symm b2)).trans (kept b o b1 e)
  | succ k ih =>
    intro j s best ep ek jn st pb gb fin
    have jl : j + 1 < n := by omega
    refine PySem.codeAny_builtin PySem.F.entry_min_loop ?_
    rw [PySem.Around.under_plainId PySem.F.plain_min_loop _]
    refine wpAny_bind (m := seqItems? (.ref box)) (wpAny_seqItems gb rfl ?_)
    refine wpAny_bind (m := tryCatch (pyNext (.ref it)) _) (wpAny_tryCatch (Wk.item (j + 1) s _ _ jl st fun v h' tk pv st' kept => ?_))
    have gb' := kept box _ nw gb
    refine wpAny_bind (m := tryCatch (holding [v, v] (richCompare .Lt v best >>= _)) _) (wpAny_tryCatch (wpAny_holding (wpAny_bind (cm (j + 1) (argBest bt j) _ v best _ _ _ st' pv pb ?_))))
    refine wpAny_bind (wpAny_holding (wpAny_truthy_bool (wpAny_bind (wpAny_letGo (wpAny_pure ?_)))))
    cases lt : bt (j + 1) (argBest bt j) with
    | true =>
      simp only [if_true]
      refine wpAny_bind (wpAny_updateSeq gb' rfl (wpAny_bind (wpAny_letGo ?_)))
      rw [loop_name]
      refine wpAny_pure ⟨plainId_quiet PySem.F.plain_min_loop _, ih (j + 1) _ v _ (by omega) jl (Wk.frame _ _ _ st' fun b bf o e => (Heap.get?_update_other _ _ (fun z : box = b => nb (by rw [z]; exact bf))).trans e) (by simp only [argBest, lt, if_true]; exact pv) (Heap.get?_update_self _ gb' rfl) fun y h2 t2 py k2 => ?_⟩
      exact fin y h2 t2 py fun b o b1 b2 e => k2 b o b1 b2 ((Heap.get?_update_other _ _ (Ne.symm b2)).trans (kept b o b1 e))
    | false =>
      simp only [Bool.false_eq_true, if_false]
      refine wpAny_bind (wpAny_letGo ?_)
      rw [loop_name]
      refine wpAny_pure ⟨plainId_quiet PySem.F.plain_min_loop _, ih (j + 1) _ best ep (by omega) jl st' (by simp only [argBest, lt, Bool.false_eq_true, if_false]; exact pb) gb' fun y h2 t2 py k2 => ?_⟩
      exact fin y h2 t2 py fun b o b1 b2 e => k2 b o b1 b2 (kept b o b1 e)
theorem min_first (Wk : Walks prog w A.in1 it fp wr n P St) (bt : Nat → Nat → Bool) (cm : CmpAt prog w A.in1 P St bt) (box : Addr) (nb : box ∉ fp) (n0 : 0 < n) {s : Shared} {ep : Nat} (st : St 0 s.heap)
    (gb : s.heap.get? box = some { cls := .type "list", dict := none, data := .seq #[] ep, slots := #[] })
    (fin : ∀ v h' tk, P (argBest bt (n - 1)) v → (∀ b o, b ∉ wr → b ≠ box → s.heap.get? b = some o → h'.get? b = some o) → R (.ok (.ret v)) { s with heap := h', toks := tk }) :
    codeAny (model prog w) A (.builtin "min.loop" ⟨[.ref it, .none, .ref box], []⟩) R s := by
  have nw : box ∉ wr := fun z => nb (Wk.sub _ z)
  refine PySem.codeAny_builtin PySem.F.entry_min_loop ?_
  rw [PySem.Around.under_plainId PySem.F.plain_min_loop _]
  refine wpAny_bind (m := seqItems? (.ref box)) (wpAny_seqItems gb rfl ?_)
  refine wpAny_bind (m := tryCatch (pyNext (.ref it)) _) (wpAny_tryCatch (Wk.item 0 s _ _ n0 st fun v h' tk pv st' kept => ?_))
  have gb' := kept box _ nw gb
  refine wpAny_bind (m := updateSeq box (fun _ => #[v, v])) (wpAny_updateSeq gb' rfl ?_)
  rw [loop_name]
  refine wpAny_pure ⟨plainId_quiet PySem.F.plain_min_loop _, min_go Wk bt cm box nb _ 0 _ v _ rfl n0 (Wk.frame _ _ _ st' fun b bf o e => (Heap.get?_update_other _ _ (fun z : box = b => nb (by rw [z]; exact bf))).trans e) pv (Heap.get?_update_self _ gb' rfl) fun y h2 t2 py k2 => ?_⟩
  exact fin y h2 t2 py fun b o b1 b2 e => k2 b o b1 b2 ((Heap.get?_update_other _ _ (Ne.symm b2)).trans (kept b o b1 e))
end
end Mn
set_option Elab.async false
set_option linter.all false
set_option maxRecDepth 100000
namespace Rm
open PySem PySem.SeqAt PySem.MeetsSeq
/-! ### list.remove, where == asks for the heap -/
theorem size_del (xs : Array Value) (i : Nat) : (xs.eraseIdxIfInBounds i).size ≤ xs.size := by
  unfold Array.eraseIdxIfInBounds
  split
  · rw [Array.size_eraseIdx]
    omega
  · exact Nat.le_refl _
theorem loop_at (l : Addr) (items : Array Value) (ep : Nat) (x : Value) (e : Value → Bool) (j : Nat) (jl : j < items.size) (hit : e items[j] = true) (sm : items.size ≤ sizeLine) : ∀ (k i : Nat),
    j - i = k → i ≤ j → (∀ m (hm : m < items.size), i ≤ m → m < j → e items[m] = false) → Meets (Builtin.«list.remove.loop» ⟨[.ref l, x, rawInt i], []⟩)
      (fun A R s => s.heap.get? l = some { cls := .type "list", dict := none, data := .seq items ep, slots := #[] } ∧ (∀ y, y ∈ items → EqAt A.in1 s y x (e y)) ∧
        R (.ok (.ret .none)) { s with heap := s.heap.update l (Obj.mapSeq fun xs => xs.eraseIdxIfInBounds j) }) := by
  intro k
  induction k with
  | zero =>
    intro i ek ij none prog w A R s h
    obtain ⟨hp, gs, dr, tk, os⟩ := s
    obtain ⟨gl, eq, fin⟩ := h
    have e0 : i = j := by omega
    subst e0
    wp_walk using AutoSeq1.wpAny_loadPart' gl
    rw [show items[((i : Nat) : Int).toNat]? = some items[i] by simp [jl]]
    refine wpAny_bind (eq _ (Array.getElem_mem jl) prog w _ _ ?_)
    rw [hit]
    have sm' : (items.eraseIdxIfInBounds i).size ≤ sizeLine + 1 := Nat.le_trans (size_del items _) (Nat.le_succ_of_le sm)
    wp_walk using (wpAny_updateSeq gl rfl (hz := sm) (_hz' := sm')), AutoSeq1.wpAny_loadPart' gl
    simpa using fin
  | succ k ih =>
    intro i ek ij none prog w A R s h
    obtain ⟨hp, gs, dr, tk, os⟩ := s
    obtain ⟨gl, eq, fin⟩ := h
    have il : i < items.size := by omega
    wp_walk using AutoSeq1.wpAny_loadPart' gl
    rw [show items[((i : Nat) : Int).toNat]? = some items[i] by simp [il]]
    refine wpAny_bind (eq _ (Array.getElem_mem il) prog w _ _ ?_)
    rw [none i il (Nat.le_refl _) (by omega)]
    wp_walk
    rw [show ((i : Int) + 1) = ((i + 1 : Nat) : Int) by push_cast; rfl]
    refine ⟨plainId_quiet plain_remove_loop _, codeAny_builtin entry_remove_loop ?_⟩
    rw [Around.under_plainId plain_remove_loop _]
    exact ih (i + 1) (by omega) (by omega) (fun m hm h1 h2 => none m hm (by omega) h2) prog w A R _ ⟨gl, eq, fin⟩
theorem remove_at (l : Addr) (items : Array Value) (ep : Nat) (x : Value) (e : Value → Bool) (j : Nat) (jl : j < items.size) (hit : e items[j] = true) (sm : items.size ≤ sizeLine) (nh : ∀ m (hm : m < items.size), m < j → e items[m] = false) :
    Meets (Builtin.«list.remove» ⟨[.ref l, x], []⟩)
      (fun A R s => s.heap.get? l = some { cls := .type "list", dict := none, data := .seq items ep, slots := #[] } ∧ (∀ y, y ∈ items → EqAt A.in1 s y x (e y)) ∧
        R (.ok (.ret .none)) { s with heap := s.heap.update l (Obj.mapSeq fun xs => xs.eraseIdxIfInBounds j) }) := by
  intro prog w A R s h
  obtain ⟨hp, gs, dr, tk, os⟩ := s
  obtain ⟨gl, eq, fin⟩ := h
  wp_walk using AutoSeq1.wpAny_loadPart' gl
  refine ⟨plainId_quiet plain_remove_loop _, codeAny_builtin entry_remove_loop ?_⟩
  rw [Around.under_plainId plain_remove_loop _]
  exact loop_at l items ep x e j jl hit sm _ 0 rfl (Nat.zero_le _) (fun m hm _ h2 => nh m hm h2) prog w A R _ ⟨gl, eq, fin⟩
end Rm
set_option Elab.async false
set_option linter.all false
set_option maxRecDepth 100000
namespace L2
open PySem PySem.Spec PyProof.Rows XH Sw So Hm
/-! ### the least of things, one of them taken away -/
theorem best_min (g : Nat → Ky) : ∀ k, argBest (fun i j => ltK (g i) (g j)) k ≤ k ∧ ∀ j, j ≤ k → ltK (g j) (g (argBest (fun i j => ltK (g i) (g j)) k)) = false
  | 0 => ⟨Nat.le_refl _, fun j h => by
    have : j = 0 := by omega
    subst this
    exact ltK_irrefl _⟩
  | k + 1 => by
    obtain ⟨h1, h2⟩ := best_min g k
    unfold argBest
    cases c : ltK (g (k + 1)) (g (argBest (fun i j => ltK (g i) (g j)) k)) with
    | true =>
      rw [if_pos rfl]
      refine ⟨Nat.le_refl _, fun j hj => ?_⟩
      by_cases e : j = k + 1
      · subst e
        exact ltK_irrefl _
      · exact geK_lt (h2 j (by omega)) c
    | false =>
      rw [if_neg (by decide)]
      refine ⟨by omega, fun j hj => ?_⟩
      by_cases e : j = k + 1
      · subst e
        exact c
      · exact h2 j (by omega)
def gK (vs : List V) (f : V → Ky) (i : Nat) : Ky := (vs[i]?.map f).getD []
theorem gK_at {vs : List V} {f : V → Ky} {i : Nat} {x : V} (h : vs[i]? = some x) : gK vs f i = f x := by
  unfold gK
  rw [h]
  rfl
def refsOf (vs : List V) : List Addr := vs.filterMap fun v => match v with | .ref a => some a | _ => none
theorem mem_refs {vs : List V} {a : Addr} : a ∈ refsOf vs ↔ V.ref a ∈ vs := by
  unfold refsOf
  rw [List.mem_filterMap]
  constructor
  · rintro ⟨v, hv, e⟩
    cases v with
    | ref b => cases e; exact hv
    | _ => cases e
  · intro h
    exact ⟨_, h, rfl⟩
/-- a list walked, what its things refer to being kept -/
theorem walks_kept {prog : Program} {w : World} {A : Around} (hh : A.handled = none) (it l : Addr) (ne : l ≠ it) (items : Array Value) (as : List Addr) (h0 : Heap) (na : it ∉ as) :
    Walks prog w A it (it :: l :: as) [it] items.size (fun i v => items[i]? = some v) (fun i h => (h.IsListIter it l i ∧ h.IsList l items) ∧ ∀ a o, a ∈ as → h0.get? a = some o → h.get? a = some o) where
  sub := fun b hb => by simp at hb; simp [hb]
  frame := fun i h h' st hk => ⟨(Walks.list (prog := prog) (w := w) hh it l ne items).frame i h h' st.1 (fun b hb o e => hk b (by simp at hb ⊢; rcases hb with z | z <;> simp [z]) o e), fun a o ha e => hk a (by simp [ha]) o (st.2 a o ha e)⟩
  item := fun i s Q E hi st hQ => (Walks.list (prog := prog) (w := w) hh it l ne items).item i s Q E hi st.1 fun v h' tk p st' kept => hQ v h' tk p ⟨st', fun a o ha e => kept a o (by simp; intro z; exact na (z ▸ ha)) (st.2 a o ha e)⟩ kept
  done := fun s Q E st hQ => (Walks.list (prog := prog) (w := w) hh it l ne items).done s Q E st.1 hQ
  self := fun i s Q E st q => (Walks.list (prog := prog) (w := w) hh it l ne items).self i s Q E st.1 q
theorem call_minTh {X : Cx} (hc : X.calm = true) (hu : X.A.units + 1 < cLine) : CallR X (.builtin "min") (fun xs H Q => ∃ (l : Addr) (vs : List V) (b : Bool) (f : V → Ky), xs = [.ref l] ∧ H l = some (.lst vs) ∧ vs ≠ [] ∧ Ths b H vs f ∧
    ∀ v ∈ vs, (∀ u ∈ vs, ltK (f u) (f v) = false) → Q v H) := by
  intro pins s σ H xs us Q I r h
  obtain ⟨l, vs, b, f, rfl, hl, ne, th, q⟩ := h
  obtain ⟨u, rfl, ru⟩ := vals1 r
  cases ru
  obtain ⟨z, its, n, rv, hlen, hg⟩ := I.lstM hl
  have isl : s.heap.IsList l its.toArray := ⟨_, hg, rfl, n, rfl⟩
  have lt0 : l < s.heap.objs.size := Heap.lt_size hg
  have lpos : 0 < its.length := by rw [← hlen]; exact List.length_pos_iff.mpr ne
  refine call_function_tree PySem.F.kind_min PySem.F.plain_min PySem.F.entry_min (PySem.F.args_min1 _) ?_
  refine wpAny_bind (m := Builtin.Builtins.bindParams "min" ["key", "default"] 0 ⟨[], []⟩) (wpAny_of_eq (show Builtin.Builtins.bindParams "min" ["key", "default"] 0 ⟨[], []⟩ = pure [none, none] from rfl) ?_)
  refine wpAny_bind (m := pure (Value.ref l)) (wpAny_pure ?_)
  refine wpAny_bind (wpAny_pyIter_list isl ?_)
  refine wpAny_bind (wpAny_newObj_type ?_)
  rw [Mn.loop_name]
  have fr : ∀ a, a ∈ refsOf vs → a < s.heap.objs.size := fun a ha => by
    have t := th _ (mem_refs.mp ha)
    cases b with
    | false => obtain ⟨i, e, _⟩ := t; cases e
    | true =>
      obtain ⟨a', e, ea, _⟩ := t
      cases e
      exact I.hok.lt ea
  have Wk := walks_kept (prog := X.prog) (w := X.w) (A := X.A.in1) (I.ok.hd hc) s.heap.objs.size l (Nat.ne_of_lt lt0) its.toArray (refsOf vs) s.heap (fun z => Nat.lt_irrefl _ (fr _ z))
  have at_ : ∀ {i : Nat} {u : Value}, its.toArray[i]? = some u → ∃ x, vs[i]? = some x ∧ RelV x u := fun {i u} e => by
    have e' : its[i]? = some u := by simpa using e
    have il : i < vs.length := by rw [hlen]; exact (List.getElem?_eq_some_iff.mp e').1
    obtain ⟨u', h1, h2⟩ := rv.get (List.getElem?_eq_getElem il)
    rw [e'] at h1
    cases h1
    exact ⟨_, List.getElem?_eq_getElem il, h2⟩
  have cm : Mn.CmpAt X.prog X.w X.A.in1 (fun i v => its.toArray[i]? = some v) (fun i h => (h.IsListIter s.heap.objs.size l i ∧ h.IsList l its.toArray) ∧ ∀ a o, a ∈ refsOf vs → s.heap.get? a = some o → h.get? a = some o) (fun i j => ltK (gK vs f i) (gK vs f j)) := by
    intro i j k u v s' Q' E' st hu' hv' q'
    obtain ⟨x, ex, rx⟩ := at_ hu'
    obtain ⟨y, ey, ry⟩ := at_ hv'
    replace q' : Q' (.bool (ltK (gK vs f i) (gK vs f j))) s' := q'
    rw [gK_at ex, gK_at ey] at q'
    have tx := th x (List.mem_of_getElem? ex)
    have ty := th y (List.mem_of_getElem? ey)
    have mx := List.mem_of_getElem? ex
    have my := List.mem_of_getElem? ey
    cases b with
    | false =>
      obtain ⟨a, rfl, e1⟩ := tx
      obtain ⟨c, rfl, e2⟩ := ty
      obtain ⟨t1, rfl⟩ := rx
      obtain ⟨t2, rfl⟩ := ry
      rw [e1, e2, ltK_one] at q'
      exact wpAny_lt_int q'
    | true =>
      obtain ⟨a, rfl, ea, _⟩ := tx
      obtain ⟨c, rfl, ec, _⟩ := ty
      cases rx
      cases ry
      obtain ⟨us1, r1, ⟨o1, g1, c1, n1, d1⟩, _⟩ := I.tuple (SqT.of ea)
      obtain ⟨us2, r2, ⟨o2, g2, c2, n2, d2⟩, _⟩ := I.tuple (SqT.of ec)
      exact lt_tupT ⟨o1, st.2 a o1 (mem_refs.mpr mx) g1, c1, n1, d1⟩ ⟨o2, st.2 c o2 (mem_refs.mpr my) g2, c2, n2, d2⟩ (nums_of r1) (nums_of r2) hu q'
  refine wpAny_pure ⟨plainId_quiet PySem.F.plain_min_loop _, Mn.min_first Wk (fun i j => ltK (gK vs f i) (gK vs f j)) cm _ ?_ (by simpa using lpos) ?_ (Heap.get?_push_size _ rfl) fun v h' tk pv kept => ?_⟩
  · intro z
    have sz : (s.heap.push { cls := .type "list_iterator", data := .fields #[.ref l, .int 0 0] }).objs.size = s.heap.objs.size + 1 := Heap.size_push ..
    rcases List.mem_cons.mp z with z | z
    · exact absurd (sz.symm.trans z) (Nat.succ_ne_self _)
    · rcases List.mem_cons.mp z with z | z
      · have e : s.heap.objs.size + 1 = l := sz.symm.trans z
        rw [← e] at lt0
        exact Nat.not_succ_lt_self lt0
      · have e := fr _ z
        have e2 : s.heap.objs.size + 1 < s.heap.objs.size := by rw [← sz]; exact e
        exact Nat.not_succ_lt_self e2
  · refine ⟨⟨⟨_, Heap.get?_push_of_some _ (Heap.get?_push_size _ rfl), rfl, rfl⟩, (isl.push _).push _⟩, fun a o _ e => Heap.get?_push_of_some _ (Heap.get?_push_of_some _ e)⟩
  · have bm := best_min (gK vs f) (its.toArray.size - 1)
    obtain ⟨x, ex, rx⟩ := at_ pv
    have hk : ∀ b o, s.heap.get? b = some o → h'.get? b = some o := fun b o e => by
      have bl := Heap.lt_size e
      refine kept b o (by simp; exact Nat.ne_of_lt bl) ?_ (Heap.get?_push_of_some _ (Heap.get?_push_of_some _ e))
      have sz : (s.heap.push { cls := .type "list_iterator", data := .fields #[.ref l, .int 0 0] }).objs.size = s.heap.objs.size + 1 := Heap.size_push ..
      intro z
      have e : b = s.heap.objs.size + 1 := z.trans sz
      rw [e] at bl
      exact Nat.not_succ_lt_self bl
    refine ⟨x, H, I.kept (h' := h') (t' := tk) hk, rx, q x (List.mem_of_getElem? ex) fun u hu' => ?_⟩
    obtain ⟨j, hj⟩ := List.mem_iff_getElem?.mp hu'
    have jl := (List.getElem?_eq_some_iff.mp hj).1
    have := bm.2 j (by rw [List.size_toArray, ← hlen]; omega)
    rwa [gK_at hj, gK_at ex] at this
theorem all_eqK : ∀ (ks ls : List Int), ((List.range (min ks.length ls.length)).all (fun j => ks.getD j 0 == ls.getD j 0) && (ks.length == ls.length)) = decide (ks = ls) := by
  intro ks ls
  by_cases e : ks = ls
  · subst e
    simp
  · rw [decide_eq_false e]
    cases c : ((List.range (min ks.length ls.length)).all (fun j => ks.getD j 0 == ls.getD j 0) && (ks.length == ls.length)) with
    | false => rfl
    | true =>
      rw [Bool.and_eq_true, List.all_eq_true] at c
      obtain ⟨c1, c2⟩ := c
      have len : ks.length = ls.length := beq_iff_eq.mp c2
      refine absurd (List.ext_getElem len fun j h1 h2 => ?_) e
      have := beq_iff_eq.mp (c1 j (List.mem_range.mpr (by omega)))
      rw [List.getD_eq_getElem?_getD, List.getD_eq_getElem?_getD, List.getElem?_eq_getElem h1, List.getElem?_eq_getElem h2] at this
      exact this
theorem th_eqat {X : Cx} {pins : List (Addr × Obj)} {s : Shared} {σ : St} {H : Hp} {A : Around} {b : Bool} {x y : V} {k l : Ky} {u v : Value} (I : Inv X pins σ H s) (hu : A.units < cLine) (hx : Th b H x k) (hy : Th b H y l) (rx : RelV x u) (ry : RelV y v) : SeqAt.EqAt A s u v (decide (k = l)) := by
  cases b with
  | false =>
    obtain ⟨i, rfl, rfl⟩ := hx
    obtain ⟨j, rfl, rfl⟩ := hy
    obtain ⟨t1, rfl⟩ := rx
    obtain ⟨t2, rfl⟩ := ry
    have q := SeqAt.EqAt.int_int (A := A) (s := s) i t1 j t2
    have e : (i == j) = decide ([i] = [j]) := by
      by_cases c : i = j
      · subst c
        simp
      · rw [decide_eq_false (by simpa using c)]
        exact beq_eq_false_iff_ne.mpr c
    rw [e] at q
    exact q
  | true =>
    obtain ⟨a, rfl, ea, _⟩ := hx
    obtain ⟨c, rfl, ec, _⟩ := hy
    cases rx
    cases ry
    by_cases ac : a = c
    · subst ac
      rw [ea] at ec
      have e : k = l := by
        injection ec with ec
        injection ec with ec
        exact List.map_inj_right (fun _ _ z => by injection z) |>.mp ec
      rw [decide_eq_true e]
      exact SeqAt.EqAt.same _
    · obtain ⟨us, r1, g1, _⟩ := I.tuple (SqT.of ea)
      obtain ⟨ws, r2, g2, _⟩ := I.tuple (SqT.of ec)
      have l1 := r1.length
      have l2 := r2.length
      rw [List.length_map] at l1 l2
      have q := SeqAt.RcAt.tuples (A := A) (e := fun j => k.getD j 0 == l.getD j 0) g1 g2 hu (fun j h1 h2 => ?_)
      · refine SeqAt.EqAt.of_refs ac ?_
        rw [← all_eqK, l1, l2]
        simpa using q
      · have j1 : j < k.length := by rw [l1]; simpa using h1
        have j2 : j < l.length := by rw [l2]; simpa using h2
        have jk : (k.map V.int)[j]? = some (.int k[j]) := by rw [List.getElem?_map, List.getElem?_eq_getElem j1]; rfl
        have jl : (l.map V.int)[j]? = some (.int l[j]) := by rw [List.getElem?_map, List.getElem?_eq_getElem j2]; rfl
        obtain ⟨p, e1, t1, p1⟩ := r1.get jk
        obtain ⟨q', e2, t2, p2⟩ := r2.get jl
        subst p1 p2
        have f1 : us.toArray[j] = .int k[j] t1 := by
          have := (List.getElem?_eq_some_iff.mp e1).2
          simpa using this
        have f2 : ws.toArray[j] = .int l[j] t2 := by
          have := (List.getElem?_eq_some_iff.mp e2).2
          simpa using this
        rw [f1, f2]
        have z := SeqAt.EqAt.int_int (A := A.in1) (s := s) k[j] t1 l[j] t2
        have e3 : (k[j] == l[j]) = (k.getD j 0 == l.getD j 0) := by
          rw [List.getD_eq_getElem?_getD, List.getD_eq_getElem?_getD, List.getElem?_eq_getElem j1, List.getElem?_eq_getElem j2]
          rfl
        rw [e3] at z
        exact z
def rRemove : V → List V → Hp → VK → Prop := fun x vs H Q => ∃ (l : Addr) (xs : List V) (y : V) (b : Bool) (f : V → Ky), x = .ref l ∧ vs = [y] ∧ H l = some (.lst xs) ∧ Ths b H xs f ∧ y ∈ xs ∧ ∀ (xs' : List V) (z : V), (z :: xs').Perm xs → f z = f y → Q .non (upd H l (.lst xs'))
def keyW (f : V → Ky) : Value → Ky
  | .int i _ => f (.int i)
  | .ref a => f (.ref a)
  | _ => []
theorem keyW_of {b : Bool} {H : Hp} {f : V → Ky} {x : V} {u : Value} (h : Th b H x (f x)) (r : RelV x u) : keyW f u = f x := by
  cases b with
  | false =>
    obtain ⟨i, rfl, _⟩ := h
    obtain ⟨t, rfl⟩ := r
    rfl
  | true =>
    obtain ⟨a, rfl, _⟩ := h
    cases r
    rfl
theorem first_at {α : Type} (p : α → Bool) : ∀ {xs : List α}, (∃ x ∈ xs, p x = true) → ∃ (j : Nat) (h : j < xs.length), p xs[j] = true ∧ ∀ m (hm : m < xs.length), m < j → p xs[m] = false
  | [], h => by obtain ⟨x, hx, _⟩ := h; simp at hx
  | a :: xs, h => by
    cases c : p a with
    | true => exact ⟨0, by simp, c, fun m _ hm => by omega⟩
    | false =>
      obtain ⟨x, hx, px⟩ := h
      have mx : x ∈ xs := by
        rcases List.mem_cons.mp hx with e | e
        · rw [e, c] at px; cases px
        · exact e
      obtain ⟨j, hj, h1, h2⟩ := first_at p ⟨x, mx, px⟩
      refine ⟨j + 1, by simp; exact hj, by simpa using h1, fun m hm hlt => ?_⟩
      cases m with
      | zero => exact c
      | succ m => simpa using h2 m (by simpa using hm) (by omega)
theorem perm_del {α : Type} : ∀ (xs : List α) (j : Nat) (h : j < xs.length), (xs[j] :: xs.eraseIdx j).Perm xs
  | [], _, h => by simp at h
  | a :: xs, 0, _ => by simp
  | a :: xs, j + 1, h => by
    have := perm_del xs j (by simpa using h)
    simp only [List.getElem_cons_succ, List.eraseIdx_cons_succ]
    exact (List.Perm.swap _ _ _).trans (this.cons a)
theorem mt_remove {X : Cx} (hu : X.A.units + 1 < cLine) : MtM X "list.remove" rRemove := by
  intro pins s σ H x vs v us Q I rx rv h
  obtain ⟨l, xs, y, b, f, rfl, rfl, hH, th, my, q⟩ := h
  cases rx
  obtain ⟨u, rfl, ru⟩ := rv.one
  obtain ⟨z, its, n, r, hl, e⟩ := I.lstM hH
  have ty := th y my
  obtain ⟨i, hi⟩ := List.mem_iff_getElem?.mp my
  obtain ⟨j, jl, hit, nh⟩ := first_at (fun w => decide (keyW f w = f y)) (xs := its) (by
    obtain ⟨w, h1, h2⟩ := r.get hi
    exact ⟨w, List.mem_of_getElem? h1, decide_eq_true (keyW_of ty h2)⟩)
  have jx : j < xs.length := by rw [hl]; exact jl
  obtain ⟨w, h1, h2⟩ := r.get (List.getElem?_eq_getElem jx)
  have ew : its[j] = w := by
    have := List.getElem?_eq_getElem jl
    rw [h1] at this
    exact (Option.some.inj this).symm
  have fz : f xs[j] = f y := by
    have := of_decide_eq_true hit
    rwa [ew, keyW_of (th _ (List.getElem_mem _)) h2] at this
  refine call_meets PySem.F.slot_list_remove ⟨_, e, rfl⟩ PySem.F.entry_list_remove (PySem.F.args_list_remove_2 _ _) (Rm.remove_at l its.toArray n u (fun w => decide (keyW f w = f y)) j (by simpa using jl) (by simpa using hit) (by rw [List.size_toArray, ← hl]; exact z) (fun m hm hlt => by simpa using nh m (by simpa using hm) hlt)) ⟨e, fun w hw => ?_, ?_⟩
  · obtain ⟨m, hm⟩ := List.mem_iff_getElem?.mp (show w ∈ its by simpa using hw)
    have ml : m < xs.length := by rw [hl]; exact (List.getElem?_eq_some_iff.mp hm).1
    obtain ⟨w', k1, k2⟩ := r.get (List.getElem?_eq_getElem ml)
    rw [hm] at k1
    cases k1
    have t1 := th _ (List.getElem_mem ml)
    rw [keyW_of t1 k2]
    exact th_eqat I hu t1 ty k2 ru
  · refine ⟨.non, _, I.lset (its' := its.eraseIdx j) (ys := xs.eraseIdx j) hH e ?_ ?_ ?_, rfl, q (xs.eraseIdx j) xs[j] ?_ fz⟩
    · simp [Array.eraseIdxIfInBounds, jl]
    · exact Vals.eraseIdx j r
    · exact Nat.le_trans (len_erase xs j) z
    · exact perm_del xs j jx
end L2
set_option Elab.async false
set_option linter.all false
set_option maxRecDepth 100000
namespace L2
open PySem PySem.Spec PyProof.Rows XH Sw So Hm
theorem sam_th {b : Bool} {H : Hp} {v : V} {k : Ky} (h : Th b H v k) : Sam v := by
  cases b with
  | false => obtain ⟨i, rfl, _⟩ := h; exact .inl trivial
  | true => obtain ⟨a, rfl, _⟩ := h; exact .inr ⟨a, rfl⟩
/-- != of two lists of the same things -/
theorem op_neVs {X : Cx} (hu : X.A.units < cLine) : OpR X (compareOp .NotEq) (fun x y H Q => ∃ (a b : Addr) (zs : List V), x = .ref a ∧ y = .ref b ∧ SqL X.K H a zs ∧ SqL X.K H b zs ∧ (∀ z ∈ zs, Sam z) ∧ Q (.bl false) H) := by
  intro pins s σ H x y v u Q I rx ry h
  obtain ⟨a, b, zs, rfl, rfl, h1, h2, hs, hq⟩ := h
  cases rx
  cases ry
  obtain ⟨i1, r1, p1, _⟩ := I.list h1
  obtain ⟨i2, r2, p2, _⟩ := I.list h2
  refine SeqAt.RcNeAt.lists (e := fun _ => true) p1.isList p2.isList (by simp [← r1.length, ← r2.length]) hu (fun j g1 g2 => ?_) _ _ _ _ ⟨.bl false, H, I, by show Value.bool _ = Value.bool _; simp, hq⟩
  exact vals_sam (A := X.A.in1) (s := s) hs r1 r2 j (by simpa using g1) (by simpa using g2)
end L2
namespace Sw
open PySem L2 XH Hm
section
variable {X : Cx} {k j : Nat} {f C : Addr} {ps : List Str} {sp : Sp} {dvs : List V} {x m : Str} {p pos apos : Pos}
theorem pmakeZd (M : Mk X.K C f) (D : DxM X.prog X.w X.K X.mg X.base CX0 k f ps dvs sp) (hr : Room j X.A) (hk : k + 1 ≤ j) (hg : Gl X x) (hm : X.mg x = some (.ref C)) (hdb : (x == ("__debug__" : Str)) = false := by decide) : PE X (.Call (.Name x p) [] [] pos) (tMake C sp dvs E0 tNil) := by
  obtain ⟨ds, hb, hv⟩ := D.bd
  exact pe_make0 M D.ok (hr.mono hk) hg hm hb hv pass0 hdb
end
theorem _root_.L2.Th.fun {b : Bool} {H : Hp} {v : V} {k l : Ky} (h1 : Th b H v k) (h2 : Th b H v l) : k = l := by
  cases b with
  | false =>
    obtain ⟨i, rfl, rfl⟩ := h1
    obtain ⟨j, e, rfl⟩ := h2
    cases e
    rfl
  | true =>
    obtain ⟨a, rfl, e1, _⟩ := h1
    obtain ⟨c, e, e2, _⟩ := h2
    cases e
    rw [e1] at e2
    injection e2 with e2
    injection e2 with e2
    exact (List.map_inj_right (fun _ _ z => by injection z)).mp e2
theorem map_keys {b : Bool} {H : Hp} {us : List V} {f g : V → Ky} (h1 : Ths b H us f) (h2 : Ths b H us g) : us.map f = us.map g := List.map_congr_left fun u hu => (h1 u hu).fun (h2 u hu)
/-- the least of the heap is the least of the list -/
theorem least_both {ks : List Ky} {k : Ky} {ls : List Ky} (hh : IsHp ks) (pr : ks.Perm ls) (m : k ∈ ls) (mn : ∀ l ∈ ls, ltK l k = false) : at_ ks 0 = k := by
  have l0 : 0 < ks.length := by
    rw [pr.length_eq]
    exact List.length_pos_of_mem m
  have m0 : at_ ks 0 ∈ ls := by rw [at_eq l0]; exact pr.mem_iff.mp (List.getElem_mem _)
  obtain ⟨i, hi, e⟩ := List.mem_iff_getElem.mp (pr.mem_iff.mpr m)
  have := hh.least i hi
  rw [at_eq hi, e] at this
  exact ltK_total (mn _ m0) this
/-! ### a heap and the list of the same things -/
structure Dk (C : Addr) (b : Bool) (H : Hp) (x dx l r : Addr) (ws vs : List V) : Prop where
  ha : HA C H x dx l ws
  hr : H r = some (.lst vs)
  rl : r ≠ l
  ex : ∃ f : V → Ky, Ths b H ws f ∧ Ths b H vs f ∧ IsHp (ws.map f) ∧ (ws.map f).Perm (vs.map f)
theorem Dk.len {C : Addr} {b : Bool} {H : Hp} {x dx l r : Addr} {ws vs : List V} (h : Dk C b H x dx l r ws vs) : ws.length = vs.length := by
  obtain ⟨f, _, _, _, p⟩ := h.ex
  have := p.length_eq
  simpa using this
/-- what is no list is kept -/
def KL (H H' : Hp) : Prop := ∀ a o, H a = some o → (∀ zs, o ≠ .lst zs) → H' a = some o
theorem KL.same {H H' : Hp} (g : Same H H') : KL H H' := fun a o h _ => g a o h
theorem KL.trans {H H1 H2 : Hp} (a : KL H H1) (b : KL H1 H2) : KL H H2 := fun c o h n => b c o (a c o h n) n
theorem KL.put {H : Hp} {l : Addr} {us : List V} (h : H l = some (.lst us)) (ws : List V) : KL H (upd H l (.lst ws)) := fun a o e n => by
  have : a ≠ l := fun z => by rw [z, h] at e; exact n us (Option.some.inj e).symm
  rw [upd_ne this]
  exact e
theorem _root_.L2.Th.kl {b : Bool} {H H' : Hp} {v : V} {k : Ky} (h : Th b H v k) (g : KL H H') : Th b H' v k := h.keep fun a zs e => g a _ e fun _ z => by cases z
theorem Ths.kl {b : Bool} {H H' : Hp} {us : List V} {f : V → Ky} (h : Ths b H us f) (g : KL H H') : Ths b H' us f := fun u hu => (h u hu).kl g
theorem Dk.keep {C : Addr} {b : Bool} {H H' : Hp} {x dx l r : Addr} {ws vs : List V} (h : Dk C b H x dx l r ws vs) (g : KL H H') (hl : H' l = some (.lst ws)) (hr : H' r = some (.lst vs)) : Dk C b H' x dx l r ws vs := by
  obtain ⟨f, h1, h2, h3, h4⟩ := h.ex
  exact ⟨⟨g _ _ h.ha.o (fun _ z => by cases z), hl⟩, hr, h.rl, f, h1.kl g, h2.kl g, h3, h4⟩
theorem Dk.same {C : Addr} {b : Bool} {H H' : Hp} {x dx l r : Addr} {ws vs : List V} (h : Dk C b H x dx l r ws vs) (g : Same H H') : Dk C b H' x dx l r ws vs := h.keep (KL.same g) (g _ _ h.ha.li) (g _ _ h.hr)
/-- nothing is changed but at l and r -/
def Fl2 (l r : Addr) (H H' : Hp) : Prop := ∀ a o, a ≠ l → a ≠ r → H a = some o → H' a = some o
def kB (k : Int) : Bool := !decide (k = 0)
def spHeap2 (C : Addr) : Sp := fun vs H Q _ => ∃ (x dx : Addr) (rv : V) (us : List V) (b : Bool) (f : V → Ky), vs = [.ref x, rv] ∧ H x = some (.ins C dx []) ∧ ((rv = .non ∧ us = []) ∨ ∃ r, rv = .ref r ∧ H r = some (.lst us)) ∧ us.length ≤ sizeLine ∧ Ths b H us f ∧
  ∀ (l : Addr) (ws : List V) (H' : Hp), ws.Perm us → IsHp (ws.map f) → HA C H' x dx l ws → H l = none → (∀ a o, a ≠ x → H a = some o → H' a = some o) → Q .non H'
def spThing2 : Sp := fun vs H Q _ => ∃ (c k : Int), vs = [.int c, .int k] ∧ 0 ≤ k ∧ k < 4 ∧ ∀ (v : V) (ky : Ky) (H' : Hp), Same H H' → Th (kB k) H' v ky → Q v H'
def spDone (C : Addr) : Sp := fun vs H Q _ => ∃ (x dx l r : Addr) (ws us : List V) (c k : Int), vs = [.ref x, .ref r, .int c, .int k] ∧ 0 ≤ k ∧ k < 4 ∧ Dk C (kB k) H x dx l r ws us ∧ us.length ≤ 1000 ∧
  ∀ (ws' us' : List V) (H' : Hp), Fl2 l r H H' → Dk C (kB k) H' x dx l r ws' us' → us'.length ≤ us.length + 1 → Q (.bl true) H'
theorem seq_of {K : PySem.W.Frag} {H H' : Hp} {a : Addr} {xs : List V} (h : SqL K H a xs) (g : ∀ o, H a = some o → H' a = some o) : SqL K H' a xs := by
  rcases h with (h | ⟨o, h⟩) | h
  · exact .inl (.inl (g _ h))
  · exact .inl (.inr ⟨o, g _ h⟩)
  · exact .inr h
/-- one side: a heap, its list, its kind -/
structure Sd where
  x : Addr
  dx : Addr
  l : Addr
  r : Addr
  k : Int
  ws : List V
  vs : List V
structure Sides (C : Addr) (H : Hp) (h ks ls : Addr) (n : Nat) (T : List Sd) : Prop where
  eh : H h = some (.lst (T.map fun t => V.ref t.x))
  ek : H ks = some (.lst (T.map fun t => V.int t.k))
  el : H ls = some (.lst (T.map fun t => V.ref t.r))
  hk : h ≠ ks
  hl : h ≠ ls
  kl : ks ≠ ls
  ok : ∀ t ∈ T, 0 ≤ t.k ∧ t.k < 4 ∧ Dk C (kB t.k) H t.x t.dx t.l t.r t.ws t.vs ∧ t.vs.length ≤ n ∧ t.l ∉ [h, ks, ls] ∧ t.r ∉ [h, ks, ls]
  nd : T.Pairwise fun s t => s.l ≠ t.l ∧ s.l ≠ t.r ∧ s.r ≠ t.l ∧ s.r ≠ t.r
theorem Sides.same {C : Addr} {H H' : Hp} {h ks ls : Addr} {n : Nat} {T : List Sd} (s : Sides C H h ks ls n T) (g : Same H H') : Sides C H' h ks ls n T :=
  ⟨g _ _ s.eh, g _ _ s.ek, g _ _ s.el, s.hk, s.hl, s.kl, fun t ht => let ⟨a, b, c, d⟩ := s.ok t ht; ⟨a, b, c.same g, d⟩, s.nd⟩
theorem Sides.mono {C : Addr} {H : Hp} {h ks ls : Addr} {n m : Nat} {T : List Sd} (s : Sides C H h ks ls n T) (nm : n ≤ m) : Sides C H h ks ls m T :=
  ⟨s.eh, s.ek, s.el, s.hk, s.hl, s.kl, fun t ht => let ⟨a, b, c, d, e⟩ := s.ok t ht; ⟨a, b, c, Nat.le_trans d nm, e⟩, s.nd⟩
/-- where a side's things lie -/
def Sd.at (t : Sd) : List Addr := [t.l, t.r]
theorem Sides.lst {C : Addr} {H : Hp} {h ks ls : Addr} {n : Nat} {T : List Sd} (s : Sides C H h ks ls n T) {t : Sd} (ht : t ∈ T) {a : Addr} (ha : a ∈ t.at) : ∃ zs, H a = some (.lst zs) := by
  obtain ⟨_, _, D, _⟩ := s.ok t ht
  rcases List.mem_cons.mp ha with z | z
  · exact ⟨_, z ▸ D.ha.li⟩
  · rw [List.mem_singleton.mp z]
    exact ⟨_, D.hr⟩
theorem ne_nil {H : Hp} {a b : Addr} {o : HO} (h : H a = some o) (n : H b = none) : a ≠ b := fun z => by rw [z, n] at h; cases h
/-- one side changes -/
theorem Sides.step {C : Addr} {H H' : Hp} {h ks ls : Addr} {n : Nat} {T1 T2 : List Sd} {t : Sd} {ws us : List V} (s : Sides C H h ks ls n (T1 ++ t :: T2)) (fl : Fl2 t.l t.r H H') (D : Dk C (kB t.k) H' t.x t.dx t.l t.r ws us) (lu : us.length ≤ n + 1) :
    Sides C H' h ks ls (n + 1) (T1 ++ ⟨t.x, t.dx, t.l, t.r, t.k, ws, us⟩ :: T2) := by
  have mt : t ∈ T1 ++ t :: T2 := by simp
  obtain ⟨a0, a4, D0, _, al, ar⟩ := s.ok t mt
  have out : ∀ {b : Addr} {o : HO}, b ∈ [h, ks, ls] → H b = some o → H' b = some o := fun {b o} hb e => fl b o (fun z => al (z ▸ hb)) (fun z => ar (z ▸ hb)) e
  have kl : KL H H' := fun a o e n => fl a o (fun z => by rw [z, D0.ha.li] at e; exact n _ (Option.some.inj e).symm) (fun z => by rw [z, D0.hr] at e; exact n _ (Option.some.inj e).symm) e
  have oth : ∀ u ∈ T1 ++ T2, u.l ≠ t.l ∧ u.l ≠ t.r ∧ u.r ≠ t.l ∧ u.r ≠ t.r := fun u hu => by
    obtain ⟨p1, p2, p3⟩ := List.pairwise_append.mp s.nd
    rcases List.mem_append.mp hu with z | z
    · exact p3 u z t (by simp)
    · obtain ⟨q1, q2, q3, q4⟩ := (List.pairwise_cons.mp p2).1 u z
      exact ⟨Ne.symm q1, Ne.symm q3, Ne.symm q2, Ne.symm q4⟩
  refine ⟨?_, ?_, ?_, s.hk, s.hl, s.kl, fun u hu => ?_, ?_⟩
  · rw [out (by simp) s.eh]
    simp
  · rw [out (by simp) s.ek]
    simp
  · rw [out (by simp) s.el]
    simp
  · rcases List.mem_append.mp hu with z | z
    · obtain ⟨b0, b4, Du, lu', bl, br⟩ := s.ok u (by simp [z])
      obtain ⟨q1, q2, q3, q4⟩ := oth u (by simp [z])
      exact ⟨b0, b4, Du.keep kl (fl _ _ q1 q2 Du.ha.li) (fl _ _ q3 q4 Du.hr), by omega, bl, br⟩
    · rcases List.mem_cons.mp z with z | z
      · subst z
        exact ⟨a0, a4, D, lu, al, ar⟩
      · obtain ⟨b0, b4, Du, lu', bl, br⟩ := s.ok u (by simp [z])
        obtain ⟨q1, q2, q3, q4⟩ := oth u (by simp [z])
        exact ⟨b0, b4, Du.keep kl (fl _ _ q1 q2 Du.ha.li) (fl _ _ q3 q4 Du.hr), by omega, bl, br⟩
  · have nd := s.nd
    rw [List.pairwise_append, List.pairwise_cons] at nd ⊢
    refine ⟨nd.1, ⟨fun u hu => nd.2.1.1 u hu, nd.2.1.2⟩, fun u hu v hv => ?_⟩
    rcases List.mem_cons.mp hv with z | z
    · subst z
      exact nd.2.2 u hu t (by simp)
    · exact nd.2.2 u hu v (by simp [z])
/-- one side more -/
theorem Sides.more {C : Addr} {H H' : Hp} {h ks ls : Addr} {n : Nat} {T : List Sd} {x dx l r : Addr} {k : Int} {ws us : List V} (s : Sides C H h ks ls n T) (kl : KL H H') (keep : ∀ a zs, a ∉ [h, ks, ls] → (∃ t ∈ T, a ∈ t.at) → H a = some (.lst zs) → H' a = some (.lst zs))
    (eh : H' h = some (.lst ((T.map fun t => V.ref t.x) ++ [.ref x]))) (ek : H' ks = some (.lst ((T.map fun t => V.int t.k) ++ [.int k]))) (el : H' ls = some (.lst ((T.map fun t => V.ref t.r) ++ [.ref r]))) (k0 : 0 ≤ k) (k4 : k < 4) (D : Dk C (kB k) H' x dx l r ws us) (lu : us.length ≤ n)
    (nl : H l = none) (nr : H r = none) : Sides C H' h ks ls n (T ++ [⟨x, dx, l, r, k, ws, us⟩]) := by
  have fresh : ∀ {b : Addr}, b ∈ [h, ks, ls] → H b ≠ none := fun {b} hb => by
    rcases List.mem_cons.mp hb with z | z
    · rw [z, s.eh]; exact nofun
    · rcases List.mem_cons.mp z with z | z
      · rw [z, s.ek]; exact nofun
      · rw [List.mem_singleton.mp z, s.el]; exact nofun
  refine ⟨by rw [eh]; simp, by rw [ek]; simp, by rw [el]; simp, s.hk, s.hl, s.kl, fun u hu => ?_, ?_⟩
  · rcases List.mem_append.mp hu with z | z
    · obtain ⟨b0, b4, Du, lu', bl, br⟩ := s.ok u z
      exact ⟨b0, b4, Du.keep kl (keep _ _ bl ⟨u, z, by simp [Sd.at]⟩ Du.ha.li) (keep _ _ br ⟨u, z, by simp [Sd.at]⟩ Du.hr), lu', bl, br⟩
    · rw [List.mem_singleton.mp z]
      exact ⟨k0, k4, D, lu, fun q => fresh q nl, fun q => fresh q nr⟩
  · refine List.pairwise_append.mpr ⟨s.nd, List.pairwise_singleton _ _, fun u hu v hv => ?_⟩
    rw [List.mem_singleton.mp hv]
    obtain ⟨_, _, Du, _⟩ := s.ok u hu
    exact ⟨ne_nil Du.ha.li nl, ne_nil Du.ha.li nr, ne_nil Du.hr nl, ne_nil Du.hr nr⟩
end Sw
set_option Elab.async false
set_option linter.all false
set_option maxRecDepth 100000
namespace Lk56
open PySem L2 Sw XH PyProof.Rows Hm
def top (i : Nat) : Stmt := PySem.Challenge.pw_stovework_k56_heap_deeds.main.body.getD i (.Pass ⟨0, 0, 0, 0⟩)
def clsAt (s : Stmt) (i : Nat) : Stmt := match s with | .ClassDef _ _ _ body _ _ _ _ _ _ _ => body.getD i (.Pass ⟨0, 0, 0, 0⟩) | _ => s
abbrev sHeap_swap : Stmt := clsAt (top 8) 7
abbrev sHeap_lesser_below : Stmt := clsAt (top 8) 6
abbrev sHeap_rise : Stmt := clsAt (top 8) 4
abbrev sHeap_sink : Stmt := clsAt (top 8) 5
abbrev sHeap_add : Stmt := clsAt (top 8) 1
abbrev sHeap_many : Stmt := clsAt (top 8) 3
abbrev sHeap_take_least : Stmt := clsAt (top 8) 2
abbrev sHeap_init : Stmt := clsAt (top 8) 0
abbrev s_law_cell_at : Stmt := top 10
abbrev s_law_whole : Stmt := top 11
abbrev s_law_drawn : Stmt := top 12
abbrev s_law_thing : Stmt := top 13
abbrev s_law_alike : Stmt := top 14
abbrev s_law_empty : Stmt := top 15
abbrev s_law_done : Stmt := top 16
abbrev slaw : Stmt := top 17
structure Bn (K : PySem.W.Frag) (mg : Str → Option Value) (c_EmptyHeap c_Heap c_NoNet c_NoNumber c_NoPlan c_StoveError c_TooFew f_Heap_swap f_Heap_lesser_below f_Heap_rise f_Heap_sink f_Heap_add f_Heap_many f_Heap_take_least f_Heap_init : Addr) : Prop where
  b_len : mg "len" = none
  b_isinstance : mg "isinstance" = none
  b_int : mg "int" = none
  b_bool : mg "bool" = none
  b_tuple : mg "tuple" = none
  b_range : mg "range" = none
  b_min : mg "min" = none
  b_list : mg "list" = none
  b_ValueError : mg "ValueError" = none
  m_EmptyHeap : mg "EmptyHeap" = some (.ref c_EmptyHeap)
  m_Heap : mg "Heap" = some (.ref c_Heap)
  m_NoNet : mg "NoNet" = some (.ref c_NoNet)
  m_NoNumber : mg "NoNumber" = some (.ref c_NoNumber)
  m_NoPlan : mg "NoPlan" = some (.ref c_NoPlan)
  m_StoveError : mg "StoveError" = some (.ref c_StoveError)
  m_TooFew : mg "TooFew" = some (.ref c_TooFew)
  x_EmptyHeap : PySem.W.excIn K c_EmptyHeap bmV "ValueError.__new__" = true
  i_EmptyHeap : XI K c_EmptyHeap
  t_StoveError : XT K c_StoveError
  s_EmptyHeap_StoveError : PySem.W.subIn K (.ref c_EmptyHeap) (.ref c_StoveError) = some true
  k_EmptyHeap_NoNet : PySem.W.kitOne K (.ref c_EmptyHeap) (.ref c_NoNet) = some false
  k_EmptyHeap_NoPlan : PySem.W.kitOne K (.ref c_EmptyHeap) (.ref c_NoPlan) = some false
  k_EmptyHeap_TooFew : PySem.W.kitOne K (.ref c_EmptyHeap) (.ref c_TooFew) = some false
  k_EmptyHeap_NoNumber : PySem.W.kitOne K (.ref c_EmptyHeap) (.ref c_NoNumber) = some false
  k_EmptyHeap_EmptyHeap : PySem.W.kitOne K (.ref c_EmptyHeap) (.ref c_EmptyHeap) = some true
  k_EmptyHeap_ValueError : PySem.W.kitOne K (.ref c_EmptyHeap) (.type "ValueError") = some true
  cl_Heap : Cls K c_Heap
  mk_Heap : Mk K c_Heap f_Heap_init
  me_Heap_add : Meth K c_Heap "add" f_Heap_add
  me_Heap_take_least : Meth K c_Heap "take_least" f_Heap_take_least
  me_Heap_many : Meth K c_Heap "many" f_Heap_many
  me_Heap_rise : Meth K c_Heap "rise" f_Heap_rise
  me_Heap_sink : Meth K c_Heap "sink" f_Heap_sink
  me_Heap_lesser_below : Meth K c_Heap "lesser_below" f_Heap_lesser_below
  me_Heap_swap : Meth K c_Heap "swap" f_Heap_swap
  na_Heap_things : NoAttr K c_Heap "things"
section
variable {P : Program} {w : World} {K : PySem.W.Frag} {mg : Str → Option Value} {base : Heap} {f : Addr} {fd : FuncData} {c_EmptyHeap c_Heap c_NoNet c_NoNumber c_NoPlan c_StoveError c_TooFew f_Heap_swap f_Heap_lesser_below f_Heap_rise f_Heap_sink f_Heap_add f_Heap_many f_Heap_take_least f_Heap_init : Addr}
theorem scHeap_swap : FnScope ["self", "one", "other", "thing"] ["self", "one", "other"] (defScope sHeap_swap) := ⟨rfl, rfl, rfl, by decide +kernel, rfl, by decide +kernel, by decide +kernel⟩
set_option maxHeartbeats 4000000 in
theorem okHeap_swap {dV : Value} (F : FunD K "swap" "Heap.swap" sHeap_swap dV f fd) (B : Bn K mg c_EmptyHeap c_Heap c_NoNet c_NoNumber c_NoPlan c_StoveError c_TooFew f_Heap_swap f_Heap_lesser_below f_Heap_rise f_Heap_sink f_Heap_add f_Heap_many f_Heap_take_least f_Heap_init)  : FnOk P w K mg base CX0 1 f fd ["self", "one", "other"] (spSwap c_Heap) := by
  have sc := scHeap_swap
  refine F.ok sc (fun vs H Q E h => ?_) (fun cdv A outer s H vs Q E hr h => ?_)
  · obtain ⟨x, dx, l, us, p, q, u, v, rfl, _⟩ := h
    rfl
  obtain ⟨x, dx, l, us, p, q, u, v, rfl, ha, hu, hv, k⟩ := h
  refine ⟨_, (pss_cons (ps_set (i := 3) sc.nd rfl (Or.inl rfl) (pe_ix ix_list (pe_fld (pv 0) rfl) (pv 1) (fun _ _ => rfl))) (pss_cons (ps_asg (pe_ix ix_list (pe_fld (pv 0) rfl) (pv 2) (fun _ _ => rfl)) (pg_sub (pe_fld (pv 0) rfl) (pv 1) set_list)) (pss_one (ps_asg (pv 3) (pg_sub (pe_fld (pv 0) rfl) (pv 2) set_list))))), ?_⟩
  have pl := (List.getElem?_eq_some_iff.mp hu).1
  have ql := (List.getElem?_eq_some_iff.mp hv).1
  refine ⟨_, rfl, x, _, dx, _, _, rfl, ha.o, B.cl_Heap, B.na_Heap_things, th_at, _, rfl, l, _, _, u, rfl, rfl, SqL.of ha.li, atI_nat hu, ?_⟩
  refine ⟨_, rfl, x, _, dx, _, _, rfl, ha.o, B.cl_Heap, B.na_Heap_things, th_at, _, rfl, l, _, _, v, rfl, rfl, SqL.of ha.li, atI_nat hv, _, rfl, x, _, dx, _, _, rfl, ha.o, B.cl_Heap, B.na_Heap_things, th_at, _, rfl, l, us, _, p, rfl, rfl, ha.li, ixN_nat pl, ?_⟩
  have ha2 := ha.put (us.set p v)
  refine ⟨_, rfl, _, rfl, x, _, dx, _, _, rfl, ha2.o, B.cl_Heap, B.na_Heap_things, th_at, _, rfl, l, _, _, q, rfl, rfl, ha2.li, ixN_nat (by rw [List.length_set]; exact ql), ?_⟩
  rw [upd_upd]
  exact k

theorem scHeap_lesser_below : FnScope ["self", "place", "left", "right"] ["self", "place"] (defScope sHeap_lesser_below) := ⟨rfl, rfl, rfl, by decide +kernel, rfl, by decide +kernel, by decide +kernel⟩
set_option maxHeartbeats 4000000 in
theorem okHeap_lesser_below {dV : Value} (F : FunD K "lesser_below" "Heap.lesser_below" sHeap_lesser_below dV f fd) (B : Bn K mg c_EmptyHeap c_Heap c_NoNet c_NoNumber c_NoPlan c_StoveError c_TooFew f_Heap_swap f_Heap_lesser_below f_Heap_rise f_Heap_sink f_Heap_add f_Heap_many f_Heap_take_least f_Heap_init)  : FnOk P w K mg base CX0 1 f fd ["self", "place"] (spBelow c_Heap) := by
  have sc := scHeap_lesser_below
  refine F.ok sc (fun vs H Q E h => ?_) (fun cdv A outer s H vs Q E hr h => ?_)
  · obtain ⟨x, dx, l, us, p, b, f, rfl, _⟩ := h
    rfl
  obtain ⟨x, dx, l, us, p, b, f, rfl, ha, pl, th, k0, k1⟩ := h
  refine ⟨_, (pss_cons (ps_set (i := 2) sc.nd rfl (Or.inl rfl) (pe_op op_add (pe_op op_mulB pe_int (pv 1)) pe_int)) (pss_cons (ps_set (i := 3) sc.nd rfl (Or.inl rfl) (pe_op op_add (pv 2) pe_int)) (pss_cons (ps_if (pt_cmpR op_ge (pv 2) (pe_callB call_len_seq rfl B.b_len boot_len (pa_cons (pe_fld (pv 0) rfl) pa_nil)) (nomark _)) (pss_one (ps_ret pe_non)) pss_nil) (pss_cons (ps_if (PW.pt (pw_and (pt_cmpR op_lt (pv 3) (pe_callB call_len_seq rfl B.b_len boot_len (pa_cons (pe_fld (pv 0) rfl) pa_nil)) (nomark _)) (pw_and1 (pt_cmpR (op_ltTh hr.units0) (pe_ix ix_list (pe_fld (pv 0) rfl) (pv 3) (fun _ _ => rfl)) (pe_ix ix_list (pe_fld (pv 0) rfl) (pv 2) (fun _ _ => rfl)) (nomark _))))) (pss_one (ps_ret (pv 3))) pss_nil) (pss_one (ps_ret (pv 2))))))), ?_⟩
  refine ⟨_, rfl, _, _, rfl, rfl, IntMulOk.of_left (by decide), _, _, rfl, rfl, _, rfl, _, _, rfl, rfl, ?_⟩
  have e1 : (2 * (p : Int) + 1) = ((2 * p + 1 : Nat) : Int) := by omega
  have e2 : (2 * (p : Int) + 1 + 1) = ((2 * p + 2 : Nat) : Int) := by omega
  rw [e1] at *
  refine ⟨_, rfl, _, rfl, x, _, dx, _, _, rfl, ha.o, B.cl_Heap, B.na_Heap_things, th_at, l, _, rfl, .inl (SqL.of ha.li), _, _, rfl, rfl, _, rfl, d2 (fun c => k0 (by omega)) (fun c => ?_)⟩
  have l1 : 2 * p + 1 < us.length := by omega
  obtain ⟨u, hu⟩ : ∃ u, us[2 * p + 1]? = some u := ⟨_, List.getElem?_eq_getElem l1⟩
  have ml : (us.map f).length = us.length := List.length_map _
  have left : (∀ i, i = 2 * p + 2 → i < us.length → ltK (at_ (us.map f) i) (f u) = false) → Lb (us.map f) p (2 * p + 1) := fun h => ⟨by omega, par_l p, by omega, fun i i0 il e => by
    rcases kids e i0 with z | z
    · rw [z]
      exact ltK_irrefl _
    · rw [at_map hu]
      exact h i z (by omega)⟩
  refine ⟨_, rfl, _, rfl, x, _, dx, _, _, rfl, ha.o, B.cl_Heap, B.na_Heap_things, th_at, l, _, rfl, .inl (SqL.of ha.li), _, _, rfl, rfl, _, rfl, d2 (fun c2 => ?_) (fun c2 => ?_)⟩
  · have l2 : 2 * p + 2 < us.length := by omega
    obtain ⟨v, hv⟩ : ∃ v, us[2 * p + 2]? = some v := ⟨_, List.getElem?_eq_getElem l2⟩
    have hv' : atI us (((2 * p + 1 : Nat) : Int) + 1) = some v := by
      have := atI_nat hv
      rwa [show ((2 * p + 2 : Nat) : Int) = ((2 * p + 1 : Nat) : Int) + 1 by omega] at this
    refine ⟨_, rfl, x, _, dx, _, _, rfl, ha.o, B.cl_Heap, B.na_Heap_things, th_at, _, rfl, l, _, _, v, rfl, rfl, SqL.of ha.li, hv', _, rfl, x, _, dx, _, _, rfl, ha.o, B.cl_Heap, B.na_Heap_things, th_at, _, rfl, l, _, _, u, rfl, rfl, SqL.of ha.li, atI_nat hu, b, f v, f u, th v (List.mem_of_getElem? hv), th u (List.mem_of_getElem? hu), _, rfl, ?_⟩
    cases lt : ltK (f v) (f u) with
    | true =>
      refine iteT ⟨_, rfl, ?_⟩
      have := k1 (2 * p + 2) ⟨by omega, par_r p, by omega, fun i i0 il e => by
        rcases kids e i0 with z | z
        · rw [z, at_map hu, at_map hv]
          exact ltK_asymm lt
        · rw [z]
          exact ltK_irrefl _⟩
      rwa [show ((2 * p + 2 : Nat) : Int) = ((2 * p + 1 : Nat) : Int) + 1 by omega] at this
    | false =>
      refine iteF ⟨_, rfl, k1 _ (left fun i e il => ?_)⟩
      rw [e, at_map hv]
      exact lt
  · exact ⟨_, rfl, k1 _ (left fun i e il => by omega)⟩

theorem scHeap_rise : FnScope ["self", "place", "above"] ["self", "place"] (defScope sHeap_rise) := ⟨rfl, rfl, rfl, by decide +kernel, rfl, by decide +kernel, by decide +kernel⟩
set_option maxHeartbeats 4000000 in
theorem okHeap_rise {dV : Value} (F : FunD K "rise" "Heap.rise" sHeap_rise dV f fd) (B : Bn K mg c_EmptyHeap c_Heap c_NoNet c_NoNumber c_NoPlan c_StoveError c_TooFew f_Heap_swap f_Heap_lesser_below f_Heap_rise f_Heap_sink f_Heap_add f_Heap_many f_Heap_take_least f_Heap_init) (DHeap_swap : DxM P w K mg base CX0 1 f_Heap_swap ["self", "one", "other"] [] (spSwap c_Heap)) : FnOk P w K mg base CX0 2 f fd ["self", "place"] (spRise c_Heap) := by
  have sc := scHeap_rise
  refine F.ok sc (fun vs H Q E h => ?_) (fun cdv A outer s H vs Q E hr h => ?_)
  · obtain ⟨x, dx, l, us, p, b, f, rfl, _⟩ := h
    rfl
  obtain ⟨x, dx, l, us, p, b, f, rfl, ha, pl, th, rz, k⟩ := h
  refine ⟨_, (pss_cons (ps_set (i := 2) sc.nd rfl (Or.inl rfl) (pe_op op_fdivB (pe_op op_sub (pv 1) pe_int) pe_int)) (pss_one (ps_while PassesOwn.never (PW.pt (pw_and (pt_cmpR op_gt (pv 1) pe_int (nomark _)) (pw_and1 (pt_cmpR (op_ltTh hr.units0) (pe_ix ix_list (pe_fld (pv 0) rfl) (pv 1) (fun _ _ => rfl)) (pe_ix ix_list (pe_fld (pv 0) rfl) (pv 2) (fun _ _ => rfl)) (nomark _))))) (pss_cons (ps_expr (pmeth0 (pv 0) DHeap_swap hr (by decide) (pa_cons (pv 1) (pa_cons (pv 2) pa_nil)))) (pss_cons (ps_set (i := 1) sc.nd rfl (Or.inl rfl) (pv 2)) (pss_one (ps_set (i := 2) sc.nd rfl (Or.inl rfl) (pe_op op_fdivB (pe_op op_sub (pv 1) pe_int) pe_int)))))))), ?_⟩
  refine ⟨_, rfl, _, _, rfl, rfl, _, _, rfl, rfl, ⟨by decide, PyProof.noPylong_small (by decide)⟩, ?_⟩
  refine ⟨fun m σ H' => ∃ (p : Nat) (ws : List V), σ = [some (.ref x), some (.int p), some (.int (((p : Int) - 1).fdiv 2))] ∧ H' = upd H l (.lst ws) ∧ p < ws.length ∧ ws.Perm us ∧ Rz (ws.map f) p ∧ p = m, ⟨p, p, us, rfl, (upd_self ha.li).symm, pl, .refl _, rz, rfl⟩, ?_⟩
  rintro m σ H' ⟨p, ws, rfl, rfl, pl, pr, rz, rfl⟩
  have hb := ha.put ws
  have th' : Ths b (upd H l (.lst ws)) ws f := (th.fl ha.li (Fl.put l H _)).perm pr
  refine ⟨_, rfl, _, _, rfl, rfl, _, rfl, d2 (fun c => ?_) (fun c => ?_)⟩
  · have p0 : 0 < p := by omega
    have pp := par_lt p0
    have ep := par_int p0
    obtain ⟨u, hu⟩ : ∃ u, ws[p]? = some u := ⟨_, List.getElem?_eq_getElem pl⟩
    obtain ⟨v, hv⟩ : ∃ v, ws[par p]? = some v := ⟨_, List.getElem?_eq_getElem (by omega)⟩
    have hv' : atI ws (((p : Int) - 1).fdiv 2) = some v := by rw [ep]; exact atI_nat hv
    refine ⟨_, rfl, x, _, dx, _, _, rfl, hb.o, B.cl_Heap, B.na_Heap_things, th_at, _, rfl, l, _, _, u, rfl, rfl, SqL.of hb.li, atI_nat hu, _, rfl, x, _, dx, _, _, rfl, hb.o, B.cl_Heap, B.na_Heap_things, th_at, _, rfl, l, _, _, v, rfl, rfl, SqL.of hb.li, hv', b, f u, f v, th' u (List.mem_of_getElem? hu), th' v (List.mem_of_getElem? hv), _, rfl, ?_⟩
    cases lt : ltK (f u) (f v) with
    | true =>
      refine iteT ⟨fun σ' H'' => ∃ (q : Nat) (zs : List V), q < p ∧ σ' = [some (.ref x), some (.int q), some (.int (((q : Int) - 1).fdiv 2))] ∧ H'' = upd H l (.lst zs) ∧ q < zs.length ∧ zs.Perm us ∧ Rz (zs.map f) q, fun σ' H'' ⟨q, zs, h1, h2, h3, h4, h5, h6⟩ => ⟨q, h1, q, zs, h2, h3, h4, h5, h6, rfl⟩, ?_⟩
      refine ⟨_, rfl, x, _, dx, _, rfl, hb.o, B.cl_Heap, B.me_Heap_swap, th_no (by decide), _, rfl, _, rfl, x, dx, l, ws, p, par p, u, v, by rw [ep]; rfl, hb, hu, hv, ?_⟩
      refine ⟨_, rfl, _, rfl, _, _, rfl, rfl, _, _, rfl, rfl, ⟨by decide, PyProof.noPylong_small (by decide)⟩, ?_⟩
      refine ⟨par p, _, pp, by rw [ep]; rfl, upd_upd, by rw [List.length_set, List.length_set]; omega, (swap_perm hu hv).trans pr, ?_⟩
      rw [swp_map hu hv]
      have pl' : p < (ws.map f).length := by rw [List.length_map]; exact pl
      exact rz.step p0 pl' (by rw [at_map hu, at_map hv]; exact lt)
    | false => exact iteF (k ws pr (rz.done (.inr (by rw [at_map hu, at_map hv]; exact lt))))
  · exact k ws pr (rz.done (.inl (by omega)))

theorem scHeap_sink : FnScope ["self", "place", "below"] ["self", "place"] (defScope sHeap_sink) := ⟨rfl, rfl, rfl, by decide +kernel, rfl, by decide +kernel, by decide +kernel⟩
set_option maxHeartbeats 4000000 in
theorem okHeap_sink {dV : Value} (F : FunD K "sink" "Heap.sink" sHeap_sink dV f fd) (B : Bn K mg c_EmptyHeap c_Heap c_NoNet c_NoNumber c_NoPlan c_StoveError c_TooFew f_Heap_swap f_Heap_lesser_below f_Heap_rise f_Heap_sink f_Heap_add f_Heap_many f_Heap_take_least f_Heap_init) (DHeap_swap : DxM P w K mg base CX0 1 f_Heap_swap ["self", "one", "other"] [] (spSwap c_Heap)) (DHeap_lesser_below : DxM P w K mg base CX0 1 f_Heap_lesser_below ["self", "place"] [] (spBelow c_Heap)) : FnOk P w K mg base CX0 2 f fd ["self", "place"] (spSink c_Heap) := by
  have sc := scHeap_sink
  refine F.ok sc (fun vs H Q E h => ?_) (fun cdv A outer s H vs Q E hr h => ?_)
  · obtain ⟨x, dx, l, us, p, b, f, rfl, _⟩ := h
    rfl
  obtain ⟨x, dx, l, us, p, b, f, rfl, ha, pl, th, sz, k⟩ := h
  refine ⟨_, (pss_cons (ps_set (i := 2) sc.nd rfl (Or.inl rfl) (pmeth0 (pv 0) DHeap_lesser_below hr (by decide) (pa_cons (pv 1) pa_nil))) (pss_one (ps_while PassesOwn.never (PW.pt (pw_and (pt_cmpR op_notN (pv 2) pe_non (nomark _)) (pw_and1 (pt_cmpR (op_ltTh hr.units0) (pe_ix ix_list (pe_fld (pv 0) rfl) (pv 2) (fun _ _ => rfl)) (pe_ix ix_list (pe_fld (pv 0) rfl) (pv 1) (fun _ _ => rfl)) (nomark _))))) (pss_cons (ps_expr (pmeth0 (pv 0) DHeap_swap hr (by decide) (pa_cons (pv 1) (pa_cons (pv 2) pa_nil)))) (pss_cons (ps_set (i := 1) sc.nd rfl (Or.inl rfl) (pv 2)) (pss_one (ps_set (i := 2) sc.nd rfl (Or.inl rfl) (pmeth0 (pv 0) DHeap_lesser_below hr (by decide) (pa_cons (pv 1) pa_nil))))))))), ?_⟩
  refine cut (fun σ H' => H = H' ∧ ∃ y : V, σ = [some (.ref x), some (.int p), some y] ∧ Bel us f p y) (fun N hN => ?_) ?_
  · exact ⟨_, rfl, x, _, dx, _, rfl, ha.o, B.cl_Heap, B.me_Heap_lesser_below, th_no (by decide), _, rfl, x, dx, l, us, p, b, f, rfl, ha, pl, th, fun c => hN _ _ ⟨rfl, _, rfl, .inl ⟨rfl, c⟩⟩, fun c lb => hN _ _ ⟨rfl, _, rfl, .inr ⟨c, rfl, lb⟩⟩⟩
  rintro σ H' ⟨rfl, y, rfl, hy⟩
  refine ⟨fun m σ H' => ∃ (p : Nat) (ws : List V) (y : V), σ = [some (.ref x), some (.int p), some y] ∧ H' = upd H l (.lst ws) ∧ p < ws.length ∧ ws.Perm us ∧ Sz (ws.map f) p ∧ Bel ws f p y ∧ m = us.length - p, ⟨_, p, us, y, rfl, (upd_self ha.li).symm, pl, .refl _, sz, hy, rfl⟩, ?_⟩
  clear hy
  rintro m σ H' ⟨p, ws, y, rfl, rfl, pl, pr, sz, hy, rfl⟩
  have hb := ha.put ws
  have th' : Ths b (upd H l (.lst ws)) ws f := (th.fl ha.li (Fl.put l H _)).perm pr
  rcases hy with ⟨rfl, c⟩ | ⟨c, rfl, lb⟩
  · refine ⟨_, rfl, rfl, _, rfl, nF rfl (k ws pr (sz.none (by rw [List.length_map]; exact c)))⟩
  · have cl : c < ws.length := by have := lb.lt; rwa [List.length_map] at this
    have pc : p < c := by have := par_lt lb.pos; rwa [lb.up] at this
    obtain ⟨u, hu⟩ : ∃ u, ws[p]? = some u := ⟨_, List.getElem?_eq_getElem pl⟩
    obtain ⟨v, hv⟩ : ∃ v, ws[c]? = some v := ⟨_, List.getElem?_eq_getElem cl⟩
    refine ⟨_, rfl, rfl, _, rfl, nT (by intro z; cases z) ?_⟩
    refine ⟨_, rfl, x, _, dx, _, _, rfl, hb.o, B.cl_Heap, B.na_Heap_things, th_at, _, rfl, l, _, _, v, rfl, rfl, SqL.of hb.li, atI_nat hv, _, rfl, x, _, dx, _, _, rfl, hb.o, B.cl_Heap, B.na_Heap_things, th_at, _, rfl, l, _, _, u, rfl, rfl, SqL.of hb.li, atI_nat hu, b, f v, f u, th' v (List.mem_of_getElem? hv), th' u (List.mem_of_getElem? hu), _, rfl, ?_⟩
    cases lt : ltK (f v) (f u) with
    | true =>
      refine iteT ⟨fun σ' H'' => ∃ (q : Nat) (zs : List V) (y : V), us.length - q < us.length - p ∧ σ' = [some (.ref x), some (.int q), some y] ∧ H'' = upd H l (.lst zs) ∧ q < zs.length ∧ zs.Perm us ∧ Sz (zs.map f) q ∧ Bel zs f q y, fun σ' H'' ⟨q, zs, y, h1, h2, h3, h4, h5, h6, h7⟩ => ⟨us.length - q, h1, q, zs, y, h2, h3, h4, h5, h6, h7, rfl⟩, ?_⟩
      refine ⟨_, rfl, x, _, dx, _, rfl, hb.o, B.cl_Heap, B.me_Heap_swap, th_no (by decide), _, rfl, _, rfl, x, dx, l, ws, p, c, u, v, rfl, hb, hu, hv, ?_⟩
      rw [upd_upd]
      have hc := ha.put ((ws.set p v).set c u)
      have pr' := (swap_perm hu hv).trans pr
      have thc : Ths b (upd H l (.lst ((ws.set p v).set c u))) ((ws.set p v).set c u) f := (th.fl ha.li (Fl.put l H _)).perm pr'
      have cl' : c < ((ws.set p v).set c u).length := by rw [List.length_set, List.length_set]; exact cl
      have sz' : Sz (((ws.set p v).set c u).map f) c := by
        rw [swp_map hu hv]
        exact sz.step lb (by rw [at_map hu, at_map hv]; exact lt)
      have wl : ws.length = us.length := pr.length_eq
      have dec : us.length - c < us.length - p := by omega
      refine ⟨_, rfl, ?_⟩
      exact ⟨_, rfl, x, _, dx, _, rfl, hc.o, B.cl_Heap, B.me_Heap_lesser_below, th_no (by decide), _, rfl, x, dx, l, _, c, b, f, rfl, hc, cl', thc, fun z => ⟨c, _, _, dec, rfl, rfl, cl', pr', sz', .inl ⟨rfl, z⟩⟩, fun z lz => ⟨c, _, _, dec, rfl, rfl, cl', pr', sz', .inr ⟨z, rfl, lz⟩⟩⟩
    | false => exact iteF (k ws pr (sz.done lb (by rw [at_map hu, at_map hv]; exact lt)))

theorem scHeap_add : FnScope ["self", "thing"] ["self", "thing"] (defScope sHeap_add) := ⟨rfl, rfl, rfl, by decide +kernel, rfl, by decide +kernel, by decide +kernel⟩
set_option maxHeartbeats 4000000 in
theorem okHeap_add {dV : Value} (F : FunD K "add" "Heap.add" sHeap_add dV f fd) (B : Bn K mg c_EmptyHeap c_Heap c_NoNet c_NoNumber c_NoPlan c_StoveError c_TooFew f_Heap_swap f_Heap_lesser_below f_Heap_rise f_Heap_sink f_Heap_add f_Heap_many f_Heap_take_least f_Heap_init) (DHeap_rise : DxM P w K mg base CX0 2 f_Heap_rise ["self", "place"] [] (spRise c_Heap)) : FnOk P w K mg base CX0 3 f fd ["self", "thing"] (spAdd c_Heap) := by
  have sc := scHeap_add
  refine F.ok sc (fun vs H Q E h => ?_) (fun cdv A outer s H vs Q E hr h => ?_)
  · obtain ⟨x, dx, l, us, v, b, f, rfl, _⟩ := h
    rfl
  obtain ⟨x, dx, l, us, v, b, f, rfl, ha, hl, th, tv, hp, k⟩ := h
  refine ⟨_, (pss_cons (ps_expr (pe_bm PySem.F.plainAttrs_list PySem.F.slot_list_append PySem.F.type_list_append mt_append (pe_fld (pv 0) rfl) (pa_cons (pv 1) pa_nil))) (pss_one (ps_expr (pmeth0 (pv 0) DHeap_rise hr (by decide) (pa_cons (pe_op op_sub (pe_callB call_len_seq rfl B.b_len boot_len (pa_cons (pe_fld (pv 0) rfl) pa_nil)) pe_int) pa_nil))))), ?_⟩
  refine ⟨_, rfl, x, _, dx, _, _, rfl, ha.o, B.cl_Heap, B.na_Heap_things, th_at, .inl ⟨rfl, _, SqL.of ha.li⟩, _, rfl, l, us, v, rfl, rfl, ha.li, hl, ?_⟩
  have hb := ha.put (us ++ [v])
  refine ⟨_, rfl, x, _, dx, _, rfl, hb.o, B.cl_Heap, B.me_Heap_rise, th_no (by decide), _, rfl, x, _, dx, _, _, rfl, hb.o, B.cl_Heap, B.na_Heap_things, th_at, l, _, rfl, .inl (SqL.of hb.li), _, _, rfl, rfl, x, dx, l, us ++ [v], us.length, b, f, ?_, hb, by simp, fun u hu => ?_, ?_, fun ws pr hh => ?_⟩
  · show [V.ref x, V.int (((us ++ [v]).length : Int) - 1)] = _
    rw [List.length_append, List.length_singleton, show ((us.length + 1 : Nat) : Int) - 1 = (us.length : Int) by omega]
  · rcases List.mem_append.mp hu with z | z
    · exact (th u z).fl ha.li (Fl.put l H _)
    · simp at z
      rw [z]
      exact tv.fl ha.li (Fl.put l H _)
  · rw [List.map_append, List.map_singleton]
    have := hp.snoc (f v)
    rwa [List.length_map] at this
  · rw [upd_upd]
    exact k ws (pr.trans (by simpa using (List.perm_append_comm (l₁ := us) (l₂ := [v])))) hh

theorem scHeap_many : FnScope ["self"] ["self"] (defScope sHeap_many) := ⟨rfl, rfl, rfl, by decide +kernel, rfl, by decide +kernel, by decide +kernel⟩
set_option maxHeartbeats 4000000 in
theorem okHeap_many {dV : Value} (F : FunD K "many" "Heap.many" sHeap_many dV f fd) (B : Bn K mg c_EmptyHeap c_Heap c_NoNet c_NoNumber c_NoPlan c_StoveError c_TooFew f_Heap_swap f_Heap_lesser_below f_Heap_rise f_Heap_sink f_Heap_add f_Heap_many f_Heap_take_least f_Heap_init)  : FnOk P w K mg base CX0 1 f fd ["self"] (spMany c_Heap) := by
  have sc := scHeap_many
  refine F.ok sc (fun vs H Q E h => ?_) (fun cdv A outer s H vs Q E hr h => ?_)
  · obtain ⟨x, dx, l, us, rfl, _⟩ := h
    rfl
  obtain ⟨x, dx, l, us, rfl, ha, k⟩ := h
  refine ⟨_, (pss_one (ps_ret (pe_callB call_len_seq rfl B.b_len boot_len (pa_cons (pe_fld (pv 0) rfl) pa_nil)))), ?_⟩
  exact ⟨_, rfl, x, _, dx, _, _, rfl, ha.o, B.cl_Heap, B.na_Heap_things, th_at, l, _, rfl, .inl (SqL.of ha.li), k⟩

theorem scHeap_take_least : FnScope ["self", "least", "last"] ["self"] (defScope sHeap_take_least) := ⟨rfl, rfl, rfl, by decide +kernel, rfl, by decide +kernel, by decide +kernel⟩
set_option maxHeartbeats 4000000 in
theorem okHeap_take_least {dV : Value} (F : FunD K "take_least" "Heap.take_least" sHeap_take_least dV f fd) (B : Bn K mg c_EmptyHeap c_Heap c_NoNet c_NoNumber c_NoPlan c_StoveError c_TooFew f_Heap_swap f_Heap_lesser_below f_Heap_rise f_Heap_sink f_Heap_add f_Heap_many f_Heap_take_least f_Heap_init) (DHeap_sink : DxM P w K mg base CX0 2 f_Heap_sink ["self", "place"] [] (spSink c_Heap)) : FnOk P w K mg base (CX1 P w) 3 f fd ["self"] (spTakeX c_Heap c_EmptyHeap) := by
  have sc := scHeap_take_least
  refine F.okX sc (fun vs H Q E h => ?_) (fun cdv A outer s H vs Q E hr h => ?_)
  · obtain ⟨x, dx, l, us, b, f, rfl, _⟩ := h
    rfl
  obtain ⟨x, dx, l, us, b, f, rfl, ha, th, hp, ke, kn⟩ := h
  refine ⟨_, (pss_cons (ps_if (pt_cmpR (op_eqNil hr.units0) (pe_fld (pv 0) rfl) (pe_lst pa_nil) (nomark _)) (pss_one (ps_raise B.x_EmptyHeap rfl B.m_EmptyHeap rfl passX (pa_cons pe_str pa_nil))) pss_nil) (pss_cons (ps_set (i := 1) sc.nd rfl (Or.inl rfl) (pe_ix ix_list (pe_fld (pv 0) rfl) pe_int (fun _ _ => rfl))) (pss_cons (ps_set (i := 2) sc.nd rfl (Or.inl rfl) (pe_bm0 PySem.F.plainAttrs_list PySem.F.slot_list_pop PySem.F.type_list_pop mt_pop (pe_fld (pv 0) rfl))) (pss_cons (ps_if (pt_cmpR (op_neNil hr.units0) (pe_fld (pv 0) rfl) (pe_lst pa_nil) (nomark _)) (pss_cons (ps_asg (pv 2) (pg_sub (pe_fld (pv 0) rfl) pe_int set_list)) (pss_one (ps_expr (pmeth0 (pv 0) DHeap_sink hr (by decide) (pa_cons pe_int pa_nil))))) pss_nil) (pss_one (ps_ret (pv 1))))))), ?_⟩
  refine ⟨_, rfl, x, _, dx, _, _, rfl, ha.o, B.cl_Heap, B.na_Heap_things, th_at, (by show 0 ≤ sizeLine; decide), fun e ne => ?_⟩
  have g1 := same_new ne (.lst [])
  have hb : HA c_Heap (upd H e (.lst [])) x dx l us := ⟨g1 _ _ ha.o, g1 _ _ ha.li⟩
  have el : e ≠ l := fun z => by rw [z, ha.li] at ne; cases ne
  refine ⟨l, e, us, rfl, rfl, SqL.of hb.li, SqL.of upd_same, _, rfl, ?_⟩
  cases us with
  | nil => exact iteT ⟨by show 1 ≤ sizeLine; decide, ke rfl _ g1⟩
  | cons u us =>
    refine iteF ?_
    have kn := kn (by simp)
    refine ⟨_, rfl, x, _, dx, _, _, rfl, hb.o, B.cl_Heap, B.na_Heap_things, th_at, l, _, _, u, rfl, rfl, SqL.of hb.li, atI_nat (j := 0) rfl, ?_⟩
    obtain ⟨ms, y, ey⟩ : ∃ ms y, u :: us = ms ++ [y] := ⟨(u :: us).dropLast, (u :: us).getLast (by simp), (List.dropLast_concat_getLast (by simp)).symm⟩
    have dl : (u :: us).dropLast = ms := by rw [ey]; simp
    have ly : (u :: us)[(u :: us).length - 1]? = some y := by rw [ey]; simp
    refine ⟨_, rfl, x, _, dx, _, _, rfl, hb.o, B.cl_Heap, B.na_Heap_things, th_at, .inl ⟨rfl, _, SqL.of hb.li⟩, l, _, y, rfl, rfl, hb.li, ly, ?_⟩
    rw [dl]
    have hc := hb.put ms
    refine ⟨_, rfl, x, _, dx, _, _, rfl, hc.o, B.cl_Heap, B.na_Heap_things, th_at, (by show 0 ≤ sizeLine; decide), fun e2 ne2 => ?_⟩
    have g2 := same_new ne2 (.lst [])
    have hd : HA c_Heap (upd (upd (upd H e (.lst [])) l (.lst ms)) e2 (.lst [])) x dx l ms := ⟨g2 _ _ hc.o, g2 _ _ hc.li⟩
    have fl : Fl l H (upd (upd (upd H e (.lst [])) l (.lst ms)) e2 (.lst [])) := ((Fl.of g1).trans (Fl.put l _ _)).trans (Fl.of g2)
    have uy : (u :: us).map f = ms.map f ++ [f y] := by rw [ey]; simp
    refine ⟨l, e2, ms, rfl, rfl, SqL.of hd.li, SqL.of upd_same, _, rfl, ?_⟩
    by_cases mz : ms = []
    · subst mz
      refine iteF ⟨_, rfl, ?_⟩
      have : us = [] := by
        have := congrArg List.length ey
        simp at this
        exact this
      subst this
      exact kn u [] _ (.refl _) IsHp.nil rfl fl hd.li
    · have mi : (!ms.isEmpty) = true := by
        cases ms with
        | nil => exact absurd rfl mz
        | cons => rfl
      rw [mi]
      have ml : 0 < ms.length := List.length_pos_iff.mpr mz
      have he := hd.put (ms.set 0 y)
      have thy : Ths b (upd (upd (upd (upd H e (.lst [])) l (.lst ms)) e2 (.lst [])) l (.lst (ms.set 0 y))) (ms.set 0 y) f := fun z hz => by
        refine (th z ?_).fl ha.li (fl.trans (Fl.put l _ _))
        rw [ey]
        rcases List.mem_or_eq_of_mem_set hz with q | q
        · simp [q]
        · simp [q]
      obtain ⟨sz, pr⟩ := IsHp.cut (k := f u) (ks := us.map f) (l := f y) (ms := ms.map f) hp uy (by simp [mz])
      refine iteT ⟨_, rfl, _, rfl, x, _, dx, _, _, rfl, hd.o, B.cl_Heap, B.na_Heap_things, th_at, l, _, _, 0, rfl, rfl, hd.li, ixN_nat ml, ?_⟩
      refine ⟨_, rfl, x, _, dx, _, rfl, he.o, B.cl_Heap, B.me_Heap_sink, th_no (by decide), x, dx, l, ms.set 0 y, 0, b, f, rfl, he, by rw [List.length_set]; exact ml, thy, by rw [List.map_set]; exact sz, fun ws pw hw => ?_⟩
      rw [upd_upd]
      refine ⟨_, rfl, kn u ws _ ?_ hw rfl (fl.trans (Fl.put l _ _)) upd_same⟩
      refine List.Perm.cons u (pw.trans ?_)
      cases ms with
      | nil => exact absurd rfl mz
      | cons m ms =>
        rw [List.cons_append] at ey
        injection ey with e1 e2
        rw [List.set_cons_zero, e2]
        simpa using (List.perm_append_comm (l₁ := [y]) (l₂ := ms))

theorem scHeap_init : FnScope ["self", "rows", "thing"] ["self", "rows"] (defScope sHeap_init) := ⟨rfl, rfl, rfl, by decide +kernel, rfl, by decide +kernel, by decide +kernel⟩
set_option maxHeartbeats 4000000 in
theorem okHeap_init {dV : Value} (F : FunD K "__init__" "Heap.__init__" sHeap_init dV f fd) (B : Bn K mg c_EmptyHeap c_Heap c_NoNet c_NoNumber c_NoPlan c_StoveError c_TooFew f_Heap_swap f_Heap_lesser_below f_Heap_rise f_Heap_sink f_Heap_add f_Heap_many f_Heap_take_least f_Heap_init) (DHeap_add : DxM P w K mg base CX0 3 f_Heap_add ["self", "thing"] [] (spAdd c_Heap)) : FnOk P w K mg base CX0 4 f fd ["self", "rows"] (spHeap2 c_Heap) := by
  have sc := scHeap_init
  refine F.ok sc (fun vs H Q E h => ?_) (fun cdv A outer s H vs Q E hr h => ?_)
  · obtain ⟨x, dx, rv, us, b, f, rfl, _⟩ := h
    rfl
  obtain ⟨x, dx, rv, us, b, f, rfl, ex, hrv, hz, th, k⟩ := h
  refine ⟨_, (pss_cons (ps_fld (pv 0) (pe_lst pa_nil) rfl) (pss_one (ps_if (pt_cmpR op_notN (pv 1) pe_non (nomark _)) (pss_one (ps_for PassesOwn.never rfl (pi_list (pv 1)) (pg_name (i := 2) sc.nd rfl (Or.inl rfl)) (pss_one (ps_expr (pmeth0 (pv 0) DHeap_add hr (by decide) (pa_cons (pv 2) pa_nil)))))) pss_nil))), ?_⟩
  refine ⟨(by show 0 ≤ sizeLine; decide), fun l nl => ?_⟩
  have g1 := same_new nl (.lst [])
  have xl : x ≠ l := fun z => by rw [← z, ex] at nl; cases nl
  refine ⟨_, rfl, x, _, dx, _, rfl, g1 _ _ ex, B.cl_Heap, B.na_Heap_things, (by decide), ?_⟩
  have ha : HA c_Heap (upd (upd H l (.lst [])) x (.ins c_Heap dx [("things", .ref l)])) x dx l [] := ⟨upd_same, by rw [upd_ne (Ne.symm xl)]; exact upd_same⟩
  have fr : ∀ a o, a ≠ x → H a = some o → (upd (upd H l (.lst [])) x (.ins c_Heap dx [("things", .ref l)])) a = some o := fun a o n h => by rw [upd_ne n]; exact g1 _ _ h
  rcases hrv with ⟨rfl, rfl⟩ | ⟨r, rfl, er⟩
  · refine ⟨_, rfl, rfl, _, rfl, nF rfl ?_⟩
    exact k l [] _ (.refl _) IsHp.nil ha nl fr
  have rl : r ≠ l := fun z => by rw [← z, er] at nl; cases nl
  have rx : r ≠ x := ne_of er ex (by intro z; cases z)
  refine ⟨_, rfl, rfl, _, rfl, nT (by intro z; cases z) ?_⟩
  have er' := fr r _ rx er
  have th' : Ths b (upd (upd H l (.lst [])) x (.ins c_Heap dx [("things", .ref l)])) us f := fun u hu => (th u hu).keep fun a zs h => fr a _ (ne_of h ex (by intro z; cases z)) h
  change L2.tFor _ _ _ _ _ (upd (upd H l (.lst [])) x (.ins c_Heap dx [("things", .ref l)]))
  generalize upd (upd H l (.lst [])) x (.ins c_Heap dx [("things", .ref l)]) = H1 at ha fr er' th' ⊢
  refine ⟨_, rfl, r, rfl, ⟨_, SqL.of er'⟩, for_list (xs := us) (fun i σ H' => ∃ (ws : List V) (o : Option V), σ = [some (.ref x), some (.ref r), o] ∧ H' = upd H1 l (.lst ws) ∧ ws.Perm (us.take i) ∧ IsHp (ws.map f)) ⟨[], none, rfl, (upd_self ha.li).symm, by simp, IsHp.nil⟩ ?_ ?_ ?_⟩
  · rintro i σ H' _ ⟨ws, o, rfl, rfl, _, _⟩
    exact SqL.of (by rw [upd_ne rl]; exact er')
  · rintro i u σ H' hu ⟨ws, o, rfl, rfl, pr, hh⟩
    have hb := ha.put ws
    have il := (List.getElem?_eq_some_iff.mp hu).1
    have tk := take_snocV hu
    have th2 : Ths b (upd H1 l (.lst ws)) us f := th'.fl ha.li (Fl.put l H1 _)
    refine ⟨_, rfl, x, _, dx, _, rfl, hb.o, B.cl_Heap, B.me_Heap_add, th_no (by decide), _, rfl, x, dx, l, ws, u, b, f, rfl, hb, ?_, fun z hz => th2 z (List.mem_of_mem_take (pr.mem_iff.mp hz)), th2 u (List.mem_of_getElem? hu), hh, fun zs pz hz => ⟨zs, _, rfl, upd_upd, ?_, hz⟩⟩
    · have := pr.length_eq
      rw [List.length_take] at this
      omega
    · rw [tk]
      exact pz.trans ((List.Perm.cons u pr).trans (by simpa using (List.perm_append_comm (l₁ := [u]) (l₂ := us.take i))))
  · rintro σ H' ⟨ws, o, rfl, rfl, pr, hh⟩
    rw [List.take_length] at pr
    refine k l ws _ pr hh (ha.put ws) nl fun a o n h => ?_
    have al : a ≠ l := fun z => by rw [z, nl] at h; cases h
    rw [upd_ne al]
    exact fr a o n h

theorem sc_law_cell_at : FnScope ["_law_script", "_law_k"] ["_law_script", "_law_k"] (defScope s_law_cell_at) := ⟨rfl, rfl, rfl, by decide +kernel, rfl, by decide +kernel, by decide +kernel⟩
set_option maxHeartbeats 4000000 in
theorem ok_law_cell_at {dV : Value} (F : FunD K "_law_cell_at" "_law_cell_at" s_law_cell_at dV f fd) (B : Bn K mg c_EmptyHeap c_Heap c_NoNet c_NoNumber c_NoPlan c_StoveError c_TooFew f_Heap_swap f_Heap_lesser_below f_Heap_rise f_Heap_sink f_Heap_add f_Heap_many f_Heap_take_least f_Heap_init)  : FnOk P w K mg base CX0 1 f fd ["_law_script", "_law_k"] (spCell K) := by
  have sc := sc_law_cell_at
  refine F.ok sc (fun vs H Q E h => ?_) (fun cdv A outer s H vs Q E hr h => ?_)
  · obtain ⟨a, ns, k, rfl, _⟩ := h
    rfl
  obtain ⟨a, ns, k, rfl, hS, h0, q⟩ := h
  refine ⟨_, (pss_cons (ps_if (pt_cmpR op_lt (pv 1) (pe_callB call_len_seq rfl B.b_len boot_len (pa_cons (pv 0) pa_nil)) (nomark _)) (pss_one (ps_ret (pe_ix ix_list (pv 0) (pv 1) (fun _ _ => rfl)))) pss_nil) (pss_one (ps_ret pe_int))), ?_⟩
  refine ⟨_, rfl, _, rfl, a, _, rfl, .inl hS, _, _, rfl, rfl, _, rfl, d2 (fun c => ?_) (fun c => ?_)⟩
  · obtain ⟨v, hv⟩ := cell_ok h0 c
    exact ⟨_, rfl, _, rfl, a, _, _, _, rfl, rfl, hS, hv, q v⟩
  · exact q 0

theorem sc_law_whole : FnScope ["_law_found"] ["_law_found"] (defScope s_law_whole) := ⟨rfl, rfl, rfl, by decide +kernel, rfl, by decide +kernel, by decide +kernel⟩
set_option maxHeartbeats 4000000 in
theorem ok_law_whole {dV : Value} (F : FunD K "_law_whole" "_law_whole" s_law_whole dV f fd) (B : Bn K mg c_EmptyHeap c_Heap c_NoNet c_NoNumber c_NoPlan c_StoveError c_TooFew f_Heap_swap f_Heap_lesser_below f_Heap_rise f_Heap_sink f_Heap_add f_Heap_many f_Heap_take_least f_Heap_init)  : FnOk P w K mg base CX0 1 f fd ["_law_found"] spWhole := by
  have sc := sc_law_whole
  refine F.ok sc (fun vs H Q E h => ?_) (fun cdv A outer s H vs Q E hr h => ?_)
  · obtain ⟨v, rfl, _⟩ := h
    rfl
  obtain ⟨v, rfl, q⟩ := h
  refine ⟨_, (pss_one (ps_ret (pe_and (pe_callB call_isi rfl B.b_isinstance boot_isinstance (pa_cons (pv 0) (pa_cons (pe_bltn (v := .ty "int") rfl B.b_int boot_int rfl) pa_nil))) (pe_one (pe_not (pe_callB call_isi rfl B.b_isinstance boot_isinstance (pa_cons (pv 0) (pa_cons (pe_bltn (v := .ty "bool") rfl B.b_bool boot_bool rfl) pa_nil)))))))), ?_⟩
  refine ⟨_, rfl, _, _, _, rfl, .ii v, _, rfl, iteT ⟨_, rfl, _, _, _, rfl, .ib v, _, rfl, q⟩⟩

theorem sc_law_drawn : FnScope ["_law_cell", "_law_many", "_law_found", "_law_number", "_law_k"] ["_law_cell", "_law_many"] (defScope s_law_drawn) := ⟨rfl, rfl, rfl, by decide +kernel, rfl, by decide +kernel, by decide +kernel⟩
set_option maxHeartbeats 4000000 in
theorem ok_law_drawn {dV : Value} (F : FunD K "_law_drawn" "_law_drawn" s_law_drawn dV f fd) (B : Bn K mg c_EmptyHeap c_Heap c_NoNet c_NoNumber c_NoPlan c_StoveError c_TooFew f_Heap_swap f_Heap_lesser_below f_Heap_rise f_Heap_sink f_Heap_add f_Heap_many f_Heap_take_least f_Heap_init)  : FnOk P w K mg base CX0 1 f fd ["_law_cell", "_law_many"] spDrawn := by
  have sc := sc_law_drawn
  refine F.ok sc (fun vs H Q E h => ?_) (fun cdv A outer s H vs Q E hr h => ?_)
  · obtain ⟨c, m, rfl, _⟩ := h
    rfl
  have m0 : (2147483629 : Int) ≠ 0 := by decide
  obtain ⟨c, m, rfl, m0', m1, k⟩ := h
  refine ⟨_, (pss_cons (ps_set (i := 2) sc.nd rfl (Or.inl rfl) (pe_lst pa_nil)) (pss_cons (ps_set (i := 3) sc.nd rfl (Or.inl rfl) (pe_op op_modN (pv 0) pe_int)) (pss_cons (ps_for PassesOwn.never rfl (pi_range1 rfl B.b_range (pa_cons (pv 1) pa_nil)) (pg_name (i := 4) sc.nd rfl (Or.inl rfl)) (pss_cons (ps_set (i := 3) sc.nd rfl (Or.inl rfl) (pe_op op_modN (pe_op op_add (pe_op op_add (pe_op op_add (pe_op op_mulB (pv 3) pe_int) (pe_op op_mulB (pe_op op_fdivB (pv 3) pe_int) pe_int)) pe_int) (pe_op op_mulB (pv 4) (pv 4))) pe_int)) (pss_one (ps_expr (pe_bm PySem.F.plainAttrs_list PySem.F.slot_list_append PySem.F.type_list_append mt_append (pv 2) (pa_cons (pv 3) pa_nil)))))) (pss_one (ps_ret (pv 2)))))), ?_⟩
  refine ⟨(by show 0 ≤ sizeLine; decide), fun l nl => ?_⟩
  refine ⟨_, rfl, _, _, rfl, rfl, m0, ?_⟩
  have nb : ∀ a : Int, 0 ≤ a.fmod 2147483629 ∧ a.fmod 2147483629 < 2147483629 := fun a => ⟨Int.fmod_nonneg_of_pos a (by decide), Int.fmod_lt_of_pos a (by decide)⟩
  refine ⟨_, rfl, m, rfl, (by omega), (by omega), for_range (fun i σ H' => ∃ (ns : List Int) (n : Int) (o : Option V), σ = [some (.int c), some (.int m), some (.ref l), some (.int n), o] ∧ 0 ≤ n ∧ n < 2147483629 ∧ ns.length = i ∧ Same H H' ∧ H' l = some (.lst (ns.map V.int))) ⟨[], _, none, rfl, (nb c).1, (nb c).2, rfl, same_new nl _, upd_same⟩ ?_ ?_⟩
  · rintro i σ H' hi ⟨ns, n, o, rfl, n0, n1, hl, g, el⟩
    refine ⟨_, rfl, _, _, rfl, rfl, IntMulOk.of_right (by decide), _, rfl, _, _, rfl, rfl, ⟨by decide, PyProof.noPylong_small (by decide)⟩, _, _, rfl, rfl, IntMulOk.of_right (by decide), _, _, rfl, rfl, _, _, rfl, rfl, _, rfl, _, rfl, _, _, rfl, rfl, IntMulOk.of_left (intBits_le_64 (by omega) (by omega)), _, _, rfl, rfl, _, _, rfl, rfl, m0, ?_⟩
    refine ⟨_, rfl, .inl ⟨rfl, _, SqL.of el⟩, _, rfl, l, _, _, rfl, rfl, el, (by rw [List.length_map, hl]; have : sizeLine = 16777216 := sizeLine_eq; omega), ?_⟩
    refine ⟨ns ++ [(n * 69621 + n.fdiv 127 * 7 + 40692 + (0 + (i : Int)) * (0 + (i : Int))).fmod 2147483629], _, _, rfl, (nb _).1, (nb _).2, by simp [hl], sUpd g nl _, ?_⟩
    rw [List.map_append]
    exact upd_same
  · rintro σ H' ⟨ns, n, o, rfl, n0, n1, hl, g, el⟩
    exact ⟨_, rfl, k l ns H' nl g hl el⟩

theorem sc_law_thing : FnScope ["_law_cell", "_law_kind", "_law_number", "_law_xs"] ["_law_cell", "_law_kind"] (defScope s_law_thing) := ⟨rfl, rfl, rfl, by decide +kernel, rfl, by decide +kernel, by decide +kernel⟩
set_option maxHeartbeats 4000000 in
theorem ok_law_thing {dV : Value} (F : FunD K "_law_thing" "_law_thing" s_law_thing dV f fd) (B : Bn K mg c_EmptyHeap c_Heap c_NoNet c_NoNumber c_NoPlan c_StoveError c_TooFew f_Heap_swap f_Heap_lesser_below f_Heap_rise f_Heap_sink f_Heap_add f_Heap_many f_Heap_take_least f_Heap_init) (D_law_drawn : Dx P w K mg base CX0 1 "_law_drawn" ["_law_cell", "_law_many"] [] spDrawn) : FnOk P w K mg base CX0 2 f fd ["_law_cell", "_law_kind"] spThing2 := by
  have sc := sc_law_thing
  refine F.ok sc (fun vs H Q E h => ?_) (fun cdv A outer s H vs Q E hr h => ?_)
  · obtain ⟨c, k, rfl, _⟩ := h
    rfl
  obtain ⟨c, k, rfl, k0, k4, q⟩ := h
  refine ⟨_, (pss_cons (ps_set (i := 2) sc.nd rfl (Or.inl rfl) (pe_op op_add (pe_op op_sub (pe_op op_modN (pe_op op_fdivB (pv 0) pe_int) (pe_op op_sub (pe_op op_mulB pe_int (pe_op op_powB pe_int pe_int)) pe_int)) (pe_op op_powB pe_int pe_int)) pe_int)) (pss_cons (ps_if (pt_cmpR op_lt (pe_op op_modN (pv 0) pe_int) pe_int (nomark _)) (pss_one (ps_set (i := 2) sc.nd rfl (Or.inl rfl) (pe_op op_sub (pe_op op_modN (pe_op op_fdivB (pv 0) pe_int) pe_int) pe_int))) pss_nil) (pss_cons (ps_if (pt_cmpR op_eq (pv 1) pe_int (nomark _)) (pss_one (ps_ret (pv 2))) pss_nil) (pss_cons (ps_set (i := 3) sc.nd rfl (Or.inl rfl) (pcall0 D_law_drawn hr (by decide) rfl (pa_cons (pv 0) (pa_cons pe_int pa_nil)))) (pss_one (ps_ret (pe_slice sl_tupA (pe_tup (pa_cons (pv 2) (pa_cons (pe_op op_sub (pe_op op_modN (pe_ix ix_list (pv 3) pe_int (fun _ _ => rfl)) pe_int) pe_int) (pa_cons (pe_op op_sub (pe_op op_modN (pe_ix ix_list (pv 3) pe_int (fun _ _ => rfl)) pe_int) pe_int) pa_nil)))) (po_some (pe_op op_sub pe_int (pv 1))) po_none))))))), ?_⟩
  have z0 : (2 * 10 ^ 60 - 1 : Int) ≠ 0 := by decide
  refine ⟨_, rfl, _, _, rfl, rfl, ⟨by decide, PyProof.noPylong_small (by decide)⟩, _, _, rfl, rfl, ⟨by decide, by decide⟩, _, _, rfl, rfl, IntMulOk.of_left (by decide), _, _, rfl, rfl, _, _, rfl, rfl, z0, _, _, rfl, rfl, ⟨by decide, by decide⟩, _, _, rfl, rfl, _, _, rfl, rfl, ?_⟩
  try dsimp only [gName, tNext]
  refine cut (fun σ H' => H = H' ∧ ∃ n : Int, σ = [some (.int c), some (.int k), some (.int n), none]) (fun N hN => ?_) ?_
  · refine ⟨_, rfl, _, _, rfl, rfl, (by show (8 : Int) ≠ 0; decide), _, _, rfl, rfl, _, rfl, d2 (fun _ => ?_) (fun _ => hN _ _ ⟨rfl, _, rfl⟩)⟩
    exact ⟨_, rfl, _, _, rfl, rfl, ⟨by decide, PyProof.noPylong_small (by decide)⟩, _, _, rfl, rfl, (by show (7 : Int) ≠ 0; decide), _, _, rfl, rfl, hN _ _ ⟨rfl, _, rfl⟩⟩
  rintro σ H' ⟨rfl, n, rfl⟩
  refine ⟨_, rfl, rfl, _, rfl, d2I (fun kz => ?_) (fun kz => ?_)⟩
  · exact ⟨_, rfl, q _ [n] _ (.refl _) (by rw [kz]; exact ⟨n, rfl, rfl⟩)⟩
  have kb : kB k = true := by unfold kB; simp [kz]
  rw [kb] at q
  refine ⟨_, rfl, c, 2, rfl, (by decide), (by decide), fun p ns H1 np g1 ln el => ?_⟩
  obtain ⟨a, b, rfl⟩ : ∃ a b, ns = [a, b] := by
    match ns, ln with
    | [a, b], _ => exact ⟨a, b, rfl⟩
  refine ⟨_, rfl, _, rfl, p, _, _, _, rfl, rfl, SqL.of el, rfl, _, _, rfl, rfl, (by show (3 : Int) ≠ 0; decide), _, _, rfl, rfl, _, rfl, p, _, _, _, rfl, rfl, SqL.of el, rfl, _, _, rfl, rfl, (by show (3 : Int) ≠ 0; decide), _, _, rfl, rfl, (by show 3 ≤ sizeLine; decide), fun t nt => ?_⟩
  have g2 := g1.trans (same_new nt (.tup [.int n, .int (a.fmod 3 - 1), .int (b.fmod 3 - 1)]))
  refine ⟨_, rfl, _, _, rfl, rfl, _, rfl, t, [.int n, .int (a.fmod 3 - 1), .int (b.fmod 3 - 1)], rfl, SqT.of upd_same, fun w => ?_, fun w p2 np2 => ?_⟩
  · have kk : k = 3 := by
      have : k = 1 ∨ k = 2 ∨ k = 3 := by omega
      rcases this with rfl | rfl | rfl
      · exact absurd w.1 (by show ¬ HT.sIx 3 0 (some (3 - 1)) = 0; decide)
      · exact absurd w.1 (by show ¬ HT.sIx 3 0 (some (3 - 2)) = 0; decide)
      · rfl
    exact q _ [n, a.fmod 3 - 1, b.fmod 3 - 1] _ g2 ⟨t, rfl, upd_same, by simp, by show 3 ≤ sizeLine; decide⟩
  · have : k = 1 ∨ k = 2 ∨ k = 3 := by omega
    rcases this with rfl | rfl | rfl
    · exact q _ [b.fmod 3 - 1] _ (g2.trans (same_new np2 _)) ⟨p2, rfl, upd_same, by simp, by show 1 ≤ sizeLine; decide⟩
    · exact q _ [a.fmod 3 - 1, b.fmod 3 - 1] _ (g2.trans (same_new np2 _)) ⟨p2, rfl, upd_same, by simp, by show 2 ≤ sizeLine; decide⟩
    · exact absurd ⟨rfl, rfl⟩ w

theorem sc_law_alike : FnScope ["_law_found", "_law_due"] ["_law_found", "_law_due"] (defScope s_law_alike) := ⟨rfl, rfl, rfl, by decide +kernel, rfl, by decide +kernel, by decide +kernel⟩
set_option maxHeartbeats 4000000 in
theorem ok_law_alike {dV : Value} (F : FunD K "_law_alike" "_law_alike" s_law_alike dV f fd) (B : Bn K mg c_EmptyHeap c_Heap c_NoNet c_NoNumber c_NoPlan c_StoveError c_TooFew f_Heap_swap f_Heap_lesser_below f_Heap_rise f_Heap_sink f_Heap_add f_Heap_many f_Heap_take_least f_Heap_init) (D_law_whole : Dx P w K mg base CX0 1 "_law_whole" ["_law_found"] [] spWhole) : FnOk P w K mg base CX0 2 f fd ["_law_found", "_law_due"] spAlike := by
  have sc := sc_law_alike
  refine F.ok sc (fun vs H Q E h => ?_) (fun cdv A outer s H vs Q E hr h => ?_)
  · obtain ⟨x, y, b, k, rfl, _⟩ := h
    rfl
  obtain ⟨x, y, b, k, rfl, hx, hy, q⟩ := h
  refine ⟨_, (pss_cons (ps_if (pt_val (pe_callB (call_isiT (K := K) rfl) rfl B.b_isinstance boot_isinstance (pa_cons (pv 1) (pa_cons (pe_bltn (v := .ty "tuple") rfl B.b_tuple boot_tuple rfl) pa_nil)))) (pss_cons (ps_if (PW.pt (pw_or (pt_not (pt_val (pe_callB (call_isiT (K := K) rfl) rfl B.b_isinstance boot_isinstance (pa_cons (pv 0) (pa_cons (pe_bltn (v := .ty "tuple") rfl B.b_tuple boot_tuple rfl) pa_nil))))) (pw_or1 (pt_cmpR (op_neNil hr.units0) (pe_compIf (own := "_law_part") (ys := []) (js := []) rfl (cok atn .nil (by decide) rfl rfl rfl rfl rfl rfl rfl rfl) (pi_tup (pv 0)) (fun C fp s H => (pt_not (pt_val (pcall0 D_law_whole hr (by decide) rfl (pa_cons (pv 0) pa_nil))))) (fun C fp s H => (pv 0))) (pe_lst pa_nil) (nomark _))))) (pss_one (ps_ret pe_bl)) pss_nil) (pss_one (ps_ret (pe_cmpR (op_eqTh hr.units0) (pv 0) (pv 1) (nomark _))))) pss_nil) (pss_one (ps_ret (pe_and (pcall0 D_law_whole hr (by decide) rfl (pa_cons (pv 0) pa_nil)) (pe_one (pe_cmpR (op_eqTh hr.units0) (pv 0) (pv 1) (nomark _))))))), ?_⟩
  cases b with
  | false =>
    obtain ⟨i, rfl, rfl⟩ := hx
    obtain ⟨j, rfl, e⟩ := hy
    cases e
    refine ⟨_, rfl, _, _, _, false, rfl, .int _, rfl, _, rfl, iteF ?_⟩
    exact ⟨_, rfl, i, rfl, true, rfl, iteT ⟨_, rfl, _, rfl, false, [i], ⟨i, rfl, rfl⟩, ⟨i, rfl, rfl⟩, q _ (.refl _)⟩⟩
  | true =>
    obtain ⟨a, rfl, ea, ne⟩ := hx
    obtain ⟨c, rfl, ec, _⟩ := hy
    refine ⟨_, rfl, _, _, _, true, rfl, .tup ec, rfl, _, rfl, iteT ?_⟩
    have lk : (k.map V.int).length ≤ sizeLine := by rw [List.length_map]; exact ne.2
    refine ⟨_, rfl, _, _, _, true, rfl, .tup ea, rfl, _, rfl, iteF ?_⟩
    refine ⟨_, rfl, a, rfl, ⟨_, SqT.of ea⟩, compIf_tup0 (SqT.of ea) lk (fun z hz H3 g R r => ?_) fun p H' g ep => ?_⟩
    · obtain ⟨i, _, rfl⟩ := List.mem_map.mp hz
      exact ⟨_, rfl, i, rfl, true, rfl, r⟩
    · refine ⟨(by show 0 ≤ sizeLine; decide), fun e ne' => ?_⟩
      have g2 := same_new ne' (.lst [])
      refine ⟨p, e, [], rfl, rfl, SqL.of (g2 _ _ ep), SqL.of upd_same, _, rfl, iteF ?_⟩
      exact ⟨_, rfl, _, rfl, true, k, ⟨a, rfl, g2 _ _ (g _ _ ea), ne⟩, ⟨c, rfl, g2 _ _ (g _ _ ec), ne⟩, q _ (g.trans g2)⟩

theorem sc_law_empty : FnScope ["_law_heap", "e"] ["_law_heap"] (defScope s_law_empty) := ⟨rfl, rfl, rfl, by decide +kernel, rfl, by decide +kernel, by decide +kernel⟩
set_option maxHeartbeats 4000000 in
theorem ok_law_empty {dV : Value} (F : FunD K "_law_empty" "_law_empty" s_law_empty dV f fd) (B : Bn K mg c_EmptyHeap c_Heap c_NoNet c_NoNumber c_NoPlan c_StoveError c_TooFew f_Heap_swap f_Heap_lesser_below f_Heap_rise f_Heap_sink f_Heap_add f_Heap_many f_Heap_take_least f_Heap_init) (XHeap_take_least : DxM P w K mg base (CX1 P w) 3 f_Heap_take_least ["self"] [] (spTakeX c_Heap c_EmptyHeap)) : FnOk P w K mg base CX0 4 f fd ["_law_heap"] (spRefused c_Heap) := by
  have sc := sc_law_empty
  refine F.ok sc (fun vs H Q E h => ?_) (fun cdv A outer s H vs Q E hr h => ?_)
  · obtain ⟨x, dx, l, rfl, _⟩ := h
    rfl
  obtain ⟨x, dx, l, rfl, ha, k⟩ := h
  refine ⟨_, (pss_cons (ps_try rfl rfl (fun pins E => (pss_one (ps_expr (pmethZ2 (K := K) rfl XHeap_take_least hr (by decide) (pv 0))))) (ph_asA B.t_StoveError rfl B.m_StoveError sc.nd (i := 1) rfl rfl (fun pins a => (pss_cons (ps_if (PW.pt (pw_or (pt_val (pe_callB (call_isiX (K := K) rfl) rfl B.b_isinstance boot_isinstance (pa_cons (pv 1) (pa_cons (pe_glob (v := V.ref c_NoNet) rfl B.m_NoNet rfl) pa_nil)))) (pw_or (pt_val (pe_callB (call_isiX (K := K) rfl) rfl B.b_isinstance boot_isinstance (pa_cons (pv 1) (pa_cons (pe_glob (v := V.ref c_NoPlan) rfl B.m_NoPlan rfl) pa_nil)))) (pw_or (pt_val (pe_callB (call_isiX (K := K) rfl) rfl B.b_isinstance boot_isinstance (pa_cons (pv 1) (pa_cons (pe_glob (v := V.ref c_TooFew) rfl B.m_TooFew rfl) pa_nil)))) (pw_or1 (pt_val (pe_callB (call_isiX (K := K) rfl) rfl B.b_isinstance boot_isinstance (pa_cons (pv 1) (pa_cons (pe_glob (v := V.ref c_NoNumber) rfl B.m_NoNumber rfl) pa_nil))))))))) (pss_one (ps_ret pe_bl)) pss_nil) (pss_one (ps_ret (pe_and (pe_callB (call_isiX (K := K) rfl) rfl B.b_isinstance boot_isinstance (pa_cons (pv 1) (pa_cons (pe_glob (v := V.ref c_EmptyHeap) rfl B.m_EmptyHeap rfl) pa_nil))) (pe_one (pe_callB (call_isiX (K := K) rfl) rfl B.b_isinstance boot_isinstance (pa_cons (pv 1) (pa_cons (pe_bltn (v := .ty "ValueError") rfl B.b_ValueError PyProof.Rows.Boot.«ValueError» rfl) pa_nil))))))))) ph_nil)) (pss_one (ps_ret pe_bl))), ?_⟩
  refine ⟨_, rfl, x, _, dx, _, rfl, ha.o, B.cl_Heap, B.me_Heap_take_least, th_no (by decide), x, dx, l, [], false, fun _ => [], rfl, ha, fun u hu => by simp at hu, IsHp.nil, fun _ H' g a na => ⟨c_EmptyHeap, true, rfl, B.s_EmptyHeap_StoveError, iteT ?_⟩, fun z => absurd rfl z⟩
  refine ⟨_, rfl, a, c_EmptyHeap, none, _, false, rfl, ⟨_, upd_same⟩, True.intro, B.i_EmptyHeap, .own B.k_EmptyHeap_NoNet, false, rfl, iteF ⟨_, rfl, a, c_EmptyHeap, none, _, false, rfl, ⟨_, upd_same⟩, True.intro, B.i_EmptyHeap, .own B.k_EmptyHeap_NoPlan, false, rfl, iteF ⟨_, rfl, a, c_EmptyHeap, none, _, false, rfl, ⟨_, upd_same⟩, True.intro, B.i_EmptyHeap, .own B.k_EmptyHeap_TooFew, false, rfl, iteF ⟨_, rfl, a, c_EmptyHeap, none, _, false, rfl, ⟨_, upd_same⟩, True.intro, B.i_EmptyHeap, .own B.k_EmptyHeap_NoNumber, false, rfl, iteF ?_⟩⟩⟩⟩
  refine ⟨_, rfl, a, c_EmptyHeap, none, _, true, rfl, ⟨_, upd_same⟩, True.intro, B.i_EmptyHeap, .own B.k_EmptyHeap_EmptyHeap, true, rfl, iteT ⟨_, rfl, a, c_EmptyHeap, none, _, true, rfl, ⟨_, upd_same⟩, True.intro, B.i_EmptyHeap, .ty B.k_EmptyHeap_ValueError, ?_⟩⟩
  exact k _ (g.trans (same_new na _))

theorem sc_law_done : FnScope ["_law_heap", "_law_rows", "_law_cell", "_law_kind", "_law_deed", "_law_thing_here", "_law_least", "_law_found"] ["_law_heap", "_law_rows", "_law_cell", "_law_kind"] (defScope s_law_done) := ⟨rfl, rfl, rfl, by decide +kernel, rfl, by decide +kernel, by decide +kernel⟩
set_option maxHeartbeats 4000000 in
theorem ok_law_done {dV : Value} (F : FunD K "_law_done" "_law_done" s_law_done dV f fd) (B : Bn K mg c_EmptyHeap c_Heap c_NoNet c_NoNumber c_NoPlan c_StoveError c_TooFew f_Heap_swap f_Heap_lesser_below f_Heap_rise f_Heap_sink f_Heap_add f_Heap_many f_Heap_take_least f_Heap_init) (DHeap_add : DxM P w K mg base CX0 3 f_Heap_add ["self", "thing"] [] (spAdd c_Heap)) (DHeap_many : DxM P w K mg base CX0 1 f_Heap_many ["self"] [] (spMany c_Heap)) (DHeap_take_least : DxM P w K mg base CX0 3 f_Heap_take_least ["self"] [] (spTake c_Heap)) (D_law_whole : Dx P w K mg base CX0 1 "_law_whole" ["_law_found"] [] spWhole) (D_law_thing : Dx P w K mg base CX0 2 "_law_thing" ["_law_cell", "_law_kind"] [] spThing2) (D_law_alike : Dx P w K mg base CX0 2 "_law_alike" ["_law_found", "_law_due"] [] spAlike) (D_law_empty : Dx P w K mg base CX0 4 "_law_empty" ["_law_heap"] [] (spRefused c_Heap)) : FnOk P w K mg base CX0 5 f fd ["_law_heap", "_law_rows", "_law_cell", "_law_kind"] (spDone c_Heap) := by
  have sc := sc_law_done
  refine F.ok sc (fun vs H Q E h => ?_) (fun cdv A outer s H vs Q E hr h => ?_)
  · obtain ⟨x, dx, l, r, ws, us, c, k, rfl, _⟩ := h
    rfl
  obtain ⟨x, dx, l, r, ws, us, c, k, rfl, k0, k4, D, lu, q⟩ := h
  refine ⟨_, (pss_cons (ps_set (i := 4) sc.nd rfl (Or.inl rfl) (pe_op op_modN (pv 2) pe_int)) (pss_cons (ps_if (pt_cmpR op_eq (pv 4) pe_int (nomark _)) (pss_cons (ps_set (i := 5) sc.nd rfl (Or.inl rfl) (pcall0 D_law_thing hr (by decide) rfl (pa_cons (pe_op op_fdivB (pv 2) pe_int) (pa_cons (pv 3) pa_nil)))) (pss_cons (ps_expr (pe_bm PySem.F.plainAttrs_list PySem.F.slot_list_append PySem.F.type_list_append mt_append (pv 1) (pa_cons (pv 5) pa_nil))) (pss_one (ps_ret (pe_cmpR op_isN (pmeth0 (pv 0) DHeap_add hr (by decide) (pa_cons (pv 5) pa_nil)) pe_non (nomark _)))))) pss_nil) (pss_cons (ps_if (pt_cmpR op_eq (pv 4) pe_int (nomark _)) (pss_cons (ps_if (pt_cmpR (op_eqNil hr.units0) (pv 1) (pe_lst pa_nil) (nomark _)) (pss_one (ps_ret (pcall0 D_law_empty hr (by decide) rfl (pa_cons (pv 0) pa_nil)))) pss_nil) (pss_cons (ps_set (i := 6) sc.nd rfl (Or.inl rfl) (pe_callB (call_minTh rfl (hu_of hr)) rfl B.b_min boot_min (pa_cons (pv 1) pa_nil))) (pss_cons (ps_expr (pe_bm PySem.F.plainAttrs_list PySem.F.slot_list_remove PySem.F.type_list_remove (mt_remove (hu_of hr)) (pv 1) (pa_cons (pv 6) pa_nil))) (pss_one (ps_ret (pcall0 D_law_alike hr (by decide) rfl (pa_cons (pmethZ (pv 0) DHeap_take_least hr (by decide)) (pa_cons (pv 6) pa_nil)))))))) pss_nil) (pss_cons (ps_set (i := 7) sc.nd rfl (Or.inl rfl) (pmethZ (pv 0) DHeap_many hr (by decide))) (pss_one (ps_ret (pe_and (pcall0 D_law_whole hr (by decide) rfl (pa_cons (pv 7) pa_nil)) (pe_one (pe_cmpR op_eq (pv 7) (pe_callB call_len_seq rfl B.b_len boot_len (pa_cons (pv 1) pa_nil)) (nomark _)))))))))), ?_⟩
  have sl : sizeLine = 16777216 := sizeLine_eq
  have lw := D.len
  refine ⟨_, rfl, _, _, rfl, rfl, (by show (3 : Int) ≠ 0; decide), ?_⟩
  refine ⟨_, rfl, rfl, _, rfl, d2I (fun _ => ?_) (fun _ => ?_)⟩
  · refine ⟨_, rfl, _, _, rfl, rfl, ⟨by decide, PyProof.noPylong_small (by decide)⟩, _, rfl, _, k, rfl, k0, k4, fun v ky H1 g1 tv => ?_⟩
    have D1 := D.same g1
    refine ⟨_, rfl, .inl ⟨rfl, _, SqL.of D1.hr⟩, _, rfl, r, us, v, rfl, rfl, D1.hr, (by omega), ?_⟩
    have kl := KL.put D1.hr (us ++ [v])
    have ha2 : HA c_Heap (upd H1 r (.lst (us ++ [v]))) x dx l ws := ⟨kl _ _ D1.ha.o (fun _ z => by cases z), by rw [upd_ne (Ne.symm D1.rl)]; exact D1.ha.li⟩
    have tv2 := tv.kl kl
    obtain ⟨f, f1, f2, f3, f4⟩ := D1.ex
    obtain ⟨g, hg⟩ : ∃ g : V → Ky, Ths (kB k) H1 (v :: (ws ++ us)) g := choose_ky fun y hy => by
      rcases List.mem_cons.mp hy with e | e
      · rw [e]; exact ⟨ky, tv⟩
      · rcases List.mem_append.mp e with e | e
        · exact ⟨_, f1 y e⟩
        · exact ⟨_, f2 y e⟩
    have gw : Ths (kB k) H1 ws g := fun u hu => hg u (by simp [hu])
    have gu : Ths (kB k) H1 us g := fun u hu => hg u (by simp [hu])
    have gv : Th (kB k) H1 v (g v) := hg v (by simp)
    rw [map_keys f1 gw] at f3 f4
    rw [map_keys f2 gu] at f4
    refine ⟨_, rfl, x, _, dx, _, rfl, ha2.o, B.cl_Heap, B.me_Heap_add, th_no (by decide), _, rfl, x, dx, l, ws, v, kB k, g, rfl, ha2, (by omega), gw.kl kl, gv.kl kl, f3, fun ws' pw hw => ⟨rfl, ?_⟩⟩
    rw [decide_eq_true rfl]
    have ha3 := ha2.put ws'
    have kl2 := KL.put ha2.li ws'
    refine q ws' (us ++ [v]) _ (fun a o n1 n2 e => by rw [upd_ne n1, upd_ne n2]; exact g1 _ _ e) ⟨ha3, by rw [upd_ne D1.rl]; exact upd_same, D1.rl, g, fun u hu => ?_, fun u hu => ?_, hw, ?_⟩ (by simp)
    · exact ((hg u (by rcases List.mem_cons.mp (pw.mem_iff.mp hu) with e | e <;> simp [e])).kl kl).kl kl2
    · exact ((hg u (by rcases List.mem_append.mp hu with e | e; simp [e]; simp at e; simp [e])).kl kl).kl kl2
    · refine (pw.map g).trans ?_
      rw [List.map_cons, List.map_append, List.map_singleton]
      exact (f4.cons (g v)).trans (by simpa using (List.perm_append_comm (l₁ := [g v]) (l₂ := us.map g)))
  refine ⟨_, rfl, rfl, _, rfl, d2I (fun _ => ?_) (fun _ => ?_)⟩
  · refine ⟨_, rfl, (by show 0 ≤ sizeLine; decide), fun e ne => ?_⟩
    have g1 := same_new ne (.lst [])
    have D1 := D.same g1
    have e1 : upd H e (.lst []) e = some (.lst []) := upd_same
    generalize upd H e (.lst []) = H1 at g1 D1 e1 ⊢
    refine ⟨r, e, us, rfl, rfl, SqL.of D1.hr, SqL.of e1, _, rfl, ?_⟩
    by_cases uz : us = []
    · subst uz
      have wz : ws = [] := List.eq_nil_of_length_eq_zero lw
      subst wz
      refine iteT ⟨_, rfl, x, dx, l, rfl, D1.ha, fun H2 g2 => ?_⟩
      exact q [] [] _ (fun a o _ _ e => g2 _ _ (g1 _ _ e)) (D1.same g2) (by simp)
    · have ui : us.isEmpty = false := by
        cases us with
        | nil => exact absurd rfl uz
        | cons => rfl
      rw [ui]
      obtain ⟨f, f1, f2, f3, f4⟩ := D1.ex
      refine iteF ⟨_, rfl, r, us, kB k, f, rfl, D1.hr, uz, f2, fun v mv mn => ?_⟩
      refine ⟨_, rfl, .inl ⟨rfl, _, SqL.of D1.hr⟩, _, rfl, r, us, v, kB k, f, rfl, rfl, D1.hr, f2, mv, fun us' z pz fz => ?_⟩
      have kl := KL.put D1.hr us'
      have ha2 : HA c_Heap (upd H1 r (.lst us')) x dx l ws := ⟨kl _ _ D1.ha.o (fun _ z => by cases z), by rw [upd_ne (Ne.symm D1.rl)]; exact D1.ha.li⟩
      have wn : ws ≠ [] := fun z => by
        rw [z] at lw
        exact uz (List.eq_nil_of_length_eq_zero lw.symm)
      refine ⟨_, rfl, x, _, dx, _, rfl, ha2.o, B.cl_Heap, B.me_Heap_take_least, th_no (by decide), x, dx, l, ws, kB k, f, rfl, ha2, f1.kl kl, f3, wn, fun v' ws' H3 pv hv fv fl el => ?_⟩
      have lb := least_both f3 f4 (List.mem_map.mpr ⟨v, mv, rfl⟩) (fun y hy => by
        obtain ⟨u, hu, rfl⟩ := List.mem_map.mp hy
        exact mn u hu)
      have fe : f v' = f v := fv.trans lb
      have mv' : v' ∈ ws := pv.mem_iff.mp (by simp)
      have kl3 : KL (upd H1 r (.lst us')) H3 := fun a o e n => fl a o (fun z => by rw [z, ha2.li] at e; exact n ws (Option.some.inj e).symm) e
      have kl13 := kl.trans kl3
      refine ⟨_, rfl, v', v, kB k, f v, rfl, fe ▸ (f1 v' mv').kl kl13, (f2 v mv).kl kl13, fun H4 g4 => ?_⟩
      have kl14 := kl13.trans (KL.same g4)
      have r3 : H3 r = some (.lst us') := fl _ _ D1.rl upd_same
      refine q ws' us' _ (fun a o n1 n2 e => g4 _ _ (fl a o n1 (by rw [upd_ne n2]; exact g1 _ _ e))) ⟨⟨g4 _ _ (fl _ _ ha2.ne ha2.o), g4 _ _ el⟩, g4 _ _ r3, D1.rl, f, fun u hu => (f1 u (pv.mem_iff.mp (by simp [hu]))).kl kl14, fun u hu => (f2 u (pz.mem_iff.mp (by simp [hu]))).kl kl14, hv, ?_⟩ (by have := pz.length_eq; simp at this; omega)
      have p1 := ((pv.map f).trans f4).trans (pz.map f).symm
      rw [List.map_cons, List.map_cons, fe, fz] at p1
      exact p1.cons_inv
  · refine ⟨_, rfl, x, _, dx, _, rfl, D.ha.o, B.cl_Heap, B.me_Heap_many, th_no (by decide), x, dx, l, ws, rfl, D.ha, ?_⟩
    refine ⟨_, rfl, _, rfl, true, rfl, iteT ⟨_, rfl, _, rfl, r, us, rfl, .inl (SqL.of D.hr), rfl, ?_⟩⟩
    rw [decide_eq_true (by rw [lw])]
    exact q ws us H (fun _ _ _ _ e => e) D (by omega)

theorem sclaw : FnScope ["_law_script", "_law_heaps", "_law_kinds", "_law_lists", "_law_side", "_law_cell", "_law_kind", "_law_rows", "_law_handed"] ["_law_script"] (defScope slaw) := ⟨rfl, rfl, rfl, by decide +kernel, rfl, by decide +kernel, by decide +kernel⟩
set_option maxHeartbeats 4000000 in
theorem oklaw {dV : Value} (F : FunD K "law" "law" slaw dV f fd) (B : Bn K mg c_EmptyHeap c_Heap c_NoNet c_NoNumber c_NoPlan c_StoveError c_TooFew f_Heap_swap f_Heap_lesser_below f_Heap_rise f_Heap_sink f_Heap_add f_Heap_many f_Heap_take_least f_Heap_init) (DHeap_init : DxM P w K mg base CX0 4 f_Heap_init ["self", "rows"] [.non] (spHeap2 c_Heap)) (D_law_cell_at : Dx P w K mg base CX0 1 "_law_cell_at" ["_law_script", "_law_k"] [] (spCell K)) (D_law_drawn : Dx P w K mg base CX0 1 "_law_drawn" ["_law_cell", "_law_many"] [] spDrawn) (D_law_thing : Dx P w K mg base CX0 2 "_law_thing" ["_law_cell", "_law_kind"] [] spThing2) (D_law_done : Dx P w K mg base CX0 5 "_law_done" ["_law_heap", "_law_rows", "_law_cell", "_law_kind"] [] (spDone c_Heap)) : FnOk P w K mg base CX0 7 f fd ["_law_script"] (spLaw K) := by
  have sc := sclaw
  refine F.ok sc (fun vs H Q E h => ?_) (fun cdv A outer s H vs Q E hr h => ?_)
  · obtain ⟨a, ns, rfl, _⟩ := h
    rfl
  obtain ⟨a, ns, rfl, hS, h63, qq⟩ := h
  refine ⟨_, (pss_cons (ps_set (i := 1) sc.nd rfl (Or.inl rfl) (pe_lst pa_nil)) (pss_cons (ps_set (i := 2) sc.nd rfl (Or.inl rfl) (pe_lst pa_nil)) (pss_cons (ps_set (i := 3) sc.nd rfl (Or.inl rfl) (pe_lst pa_nil)) (pss_cons (ps_for PassesOwn.never rfl (pi_range1 rfl B.b_range (pa_cons pe_int pa_nil)) (pg_name (i := 4) sc.nd rfl (Or.inl rfl)) (pss_cons (ps_set (i := 5) sc.nd rfl (Or.inl rfl) (pcall0 D_law_cell_at hr (by decide) rfl (pa_cons (pv 0) (pa_cons (pv 4) pa_nil)))) (pss_cons (ps_set (i := 6) sc.nd rfl (Or.inr rfl) (pe_op op_modN (pv 5) pe_int)) (pss_cons (ps_compA (own := "_law_x") (ys := ["_law_kind"]) (js := [6]) sc.nd (i := 7) rfl rfl rfl (cok (atc atn) (.cons rfl .nil) (by decide) rfl rfl rfl rfl rfl rfl rfl rfl) (pi_list (pcall0 D_law_drawn hr (by decide) rfl (pa_cons (pe_op op_fdivB (pv 5) pe_int) (pa_cons (pe_op op_modN (pe_op op_fdivB (pv 5) pe_int) pe_int) pa_nil)))) (fun C fp s H => (pcall0 D_law_thing hr (by decide) rfl (pa_cons (pv 0) (pa_cons (pv 1) pa_nil))))) (pss_cons (ps_set (i := 8) sc.nd rfl (Or.inl rfl) (pe_callTy call_list_of rfl B.b_list boot_list (pa_cons (pv 7) pa_nil))) (pss_cons (ps_if (pt_cmpR (op_eqNil hr.units0) (pv 7) (pe_lst pa_nil) (nomark _)) (pss_one (ps_expr (pe_bm PySem.F.plainAttrs_list PySem.F.slot_list_append PySem.F.type_list_append mt_append (pv 1) (pa_cons (pmakeZd B.mk_Heap DHeap_init hr (by decide) rfl B.m_Heap) pa_nil)))) (pss_one (ps_expr (pe_bm PySem.F.plainAttrs_list PySem.F.slot_list_append PySem.F.type_list_append mt_append (pv 1) (pa_cons (pmake0 B.mk_Heap DHeap_init hr (by decide) rfl B.m_Heap (pa_cons (pv 8) pa_nil)) pa_nil))))) (pss_cons (ps_if (pt_cmpR (op_neVs hr.units0) (pv 8) (pv 7) (nomark _)) (pss_one (ps_ret pe_bl)) pss_nil) (pss_cons (ps_expr (pe_bm PySem.F.plainAttrs_list PySem.F.slot_list_append PySem.F.type_list_append mt_append (pv 8) (pa_cons (pcall0 D_law_thing hr (by decide) rfl (pa_cons pe_int (pa_cons (pv 6) pa_nil))) pa_nil))) (pss_cons (ps_expr (pe_bm PySem.F.plainAttrs_list PySem.F.slot_list_append PySem.F.type_list_append mt_append (pv 2) (pa_cons (pv 6) pa_nil))) (pss_one (ps_expr (pe_bm PySem.F.plainAttrs_list PySem.F.slot_list_append PySem.F.type_list_append mt_append (pv 3) (pa_cons (pv 7) pa_nil))))))))))))) (pss_cons (ps_for PassesOwn.never rfl (pi_list (pe_slice sl_list (pv 0) (po_some pe_int) (po_some pe_int))) (pg_name (i := 5) sc.nd rfl (Or.inl rfl)) (pss_cons (ps_set (i := 4) sc.nd rfl (Or.inl rfl) (pe_op op_modN (pe_op op_fdivB (pv 5) pe_int) pe_int)) (pss_one (ps_if (pt_not (pt_val (pcall0 D_law_done hr (by decide) rfl (pa_cons (pe_ix ix_list (pv 1) (pv 4) (fun _ _ => rfl)) (pa_cons (pe_ix ix_list (pv 3) (pv 4) (fun _ _ => rfl)) (pa_cons (pv 5) (pa_cons (pe_ix ix_list (pv 2) (pv 4) (fun _ _ => rfl)) pa_nil))))))) (pss_one (ps_ret pe_bl)) pss_nil)))) (pss_one (ps_ret pe_bl))))))), ?_⟩
  have sl : sizeLine = 16777216 := sizeLine_eq
  refine ⟨(by show 0 ≤ sizeLine; decide), fun h nh => ?_⟩
  refine ⟨(by show 0 ≤ sizeLine; decide), fun ks nk => ?_⟩
  refine ⟨(by show 0 ≤ sizeLine; decide), fun ls nl => ?_⟩
  have g0 := ((same_new nh (.lst [])).trans (same_new nk (.lst []))).trans (same_new nl (.lst []))
  have hk : h ≠ ks := fun z => by rw [← z, upd_same] at nk; cases nk
  have hl : h ≠ ls := fun z => by rw [← z, upd_ne hk, upd_same] at nl; cases nl
  have kl : ks ≠ ls := fun z => by rw [← z, upd_same] at nl; cases nl
  have an : ∀ o, H a = some o → a ≠ h ∧ a ≠ ks ∧ a ≠ ls := fun o e => ⟨ne_nil e nh, ne_nil ((same_new nh _) _ _ e) nk, ne_nil (((same_new nh _).trans (same_new nk _)) _ _ e) nl⟩
  have eh : upd (upd (upd H h (.lst [])) ks (.lst [])) ls (.lst []) h = some (.lst []) := by rw [upd_ne hl, upd_ne hk]; exact upd_same
  have ek : upd (upd (upd H h (.lst [])) ks (.lst [])) ls (.lst []) ks = some (.lst []) := by rw [upd_ne kl]; exact upd_same
  have el : upd (upd (upd H h (.lst [])) ks (.lst [])) ls (.lst []) ls = some (.lst []) := upd_same
  have s0 : Sides c_Heap (upd (upd (upd H h (.lst [])) ks (.lst [])) ls (.lst [])) h ks ls 7 [] := ⟨eh, ek, el, hk, hl, kl, fun s hs => by simp at hs, List.Pairwise.nil⟩
  have a0 : ∀ o, H a = some o → upd (upd (upd H h (.lst [])) ks (.lst [])) ls (.lst []) a = some o := fun o e => g0 _ _ e
  try dsimp only [gName, tNext]
  generalize upd (upd (upd H h (.lst [])) ks (.lst [])) ls (.lst []) = H0 at s0 a0 ⊢
  clear g0 nh nk nl eh ek el hk hl kl
  refine cut (fun σ H' => ∃ (o4 o5 o6 o7 o8 : Option V) (T : List Sd), σ = [some (.ref a), some (.ref h), some (.ref ks), some (.ref ls), o4, o5, o6, o7, o8] ∧ T.length = 2 ∧ Sides c_Heap H' h ks ls 7 T ∧ ∀ o, H a = some o → H' a = some o) (fun N hN => ?_) ?_
  · refine ⟨2, rfl, (by decide), (by decide), for_range (n := 2) (fun i σ H' => ∃ (o4 o5 o6 o7 o8 : Option V) (T : List Sd), σ = [some (.ref a), some (.ref h), some (.ref ks), some (.ref ls), o4, o5, o6, o7, o8] ∧ T.length = i ∧ Sides c_Heap H' h ks ls 7 T ∧ ∀ o, H a = some o → H' a = some o) ⟨none, none, none, none, none, [], rfl, rfl, s0, a0⟩ ?_ ?_⟩
    · rintro i σ H1 hi ⟨o4, o5, o6, o7, o8, T, rfl, lT, sd, a1⟩
      refine ⟨_, rfl, _, rfl, a, ns, _, rfl, seq_of hS a1, (by omega), fun c => ?_⟩
      refine ⟨_, rfl, _, _, rfl, rfl, (by show (4 : Int) ≠ 0; decide), ?_⟩
      have k0 := Int.fmod_nonneg_of_pos c (show (0 : Int) < 4 by decide)
      have k4 := Int.fmod_lt_of_pos c (show (0 : Int) < 4 by decide)
      try dsimp only [gName, tNext]
      generalize c.fmod 4 = kd at k0 k4 ⊢
      have mono : ∀ (H H' : Hp) (y : V), Same H H' → (∃ k, Th (kB kd) H y k) → ∃ k, Th (kB kd) H' y k := fun H H' y g ⟨k, t⟩ => ⟨k, t.same g⟩
      have keep : ∀ (H : Hp) (p : Addr) (xs ys : List V) (z : V), H p = some (.lst xs) → (∃ k, Th (kB kd) H z k) → ∃ k, Th (kB kd) (upd H p (.lst ys)) z k := fun H p xs ys z e ⟨k, t⟩ => ⟨k, t.fl e (Fl.put p H _)⟩
      have m0 := Int.fmod_nonneg_of_pos (c.fdiv 4) (show (0 : Int) < 8 by decide)
      have m1 := Int.fmod_lt_of_pos (c.fdiv 4) (show (0 : Int) < 8 by decide)
      refine cut (fun σ H' => Same H1 H' ∧ ∃ (r : Addr) (vs : List V), H1 r = none ∧ σ = [some (.ref a), some (.ref h), some (.ref ks), some (.ref ls), some (.int (0 + (i : Int))), some (.int c), some (.int kd), some (.ref r), o8] ∧ H' r = some (.lst vs) ∧ vs.length ≤ 7 ∧ ∀ y ∈ vs, ∃ k, Th (kB kd) H' y k) (fun N hN => ?_) ?_
      · refine ⟨_, rfl, _, _, rfl, rfl, ⟨by decide, PyProof.noPylong_small (by decide)⟩, _, rfl, _, _, rfl, rfl, ⟨by decide, PyProof.noPylong_small (by decide)⟩, _, _, rfl, rfl, (by show (8 : Int) ≠ 0; decide), _, _, rfl, m0, (by omega), fun p0 ms H2 np0 g2 lm ep0 => ?_⟩
        refine ⟨p0, rfl, ⟨_, SqL.of ep0⟩, comp_byS (fun H y => ∃ k, Th (kB kd) H y k) mono keep (SqL.of ep0) (by rw [List.length_map]; omega) (fun x hx H3 g3 Q' h' => ?_) fun p ys H' np hl' hP g ep => ?_⟩
        · obtain ⟨j, _, rfl⟩ := List.mem_map.mp hx
          exact ⟨_, rfl, _, rfl, j, kd, rfl, k0, k4, fun v ky H' g t => h' v H' ⟨ky, t⟩ g⟩
        · rw [List.length_map] at hl'
          exact hN _ _ ⟨g2.trans g, p, ys, g2.free np, rfl, ep, by omega, hP⟩
      rintro σ H2 ⟨g2, r, vs, nr, rfl, er, lv, tv⟩
      obtain ⟨f, th⟩ := choose_ky tv
      clear tv mono keep m0 m1
      refine ⟨_, rfl, r, vs, rfl, .inl (SqL.of er), fun hd nhd => ?_⟩
      have g3 := same_new nhd (.lst vs)
      have g13 := g2.trans g3
      have er3 := g3 _ _ er
      have th3 := th.same g3
      have ed3 : upd H2 hd (.lst vs) hd = some (.lst vs) := upd_same
      have nd1 : H1 hd = none := g2.free nhd
      have dr : hd ≠ r := Ne.symm (ne_nil er nhd)
      try dsimp only [gName, tNext]
      generalize upd H2 hd (.lst vs) = H3 at g3 g13 er3 th3 ed3 ⊢
      clear g3 g2 nhd er th
      have sd3 := sd.same g13
      have lT' : T.length < 2 := by omega
      refine cut (fun σ H' => σ = [some (.ref a), some (.ref h), some (.ref ks), some (.ref ls), some (.int (0 + (i : Int))), some (.int c), some (.int kd), some (.ref r), some (.ref hd)] ∧ ∃ (x dx l : Addr) (ws : List V), (∀ a o, a ≠ h → H3 a = some o → H' a = some o) ∧ H' h = some (.lst ((T.map fun t => V.ref t.x) ++ [.ref x])) ∧ HA c_Heap H' x dx l ws ∧ ws.Perm vs ∧ IsHp (ws.map f) ∧ H3 l = none) (fun N hN => ?_) ?_
      · have made : ∀ (Hm : Hp) (x dx l : Addr) (ws : List V) (H' : Hp), Same H3 Hm → Hm x = none → Hm dx = none → dx ≠ x → ws.Perm vs → IsHp (ws.map f) → HA c_Heap H' x dx l ws → (upd (upd Hm dx (.own x)) x (.ins c_Heap dx [])) l = none → (∀ a o, a ≠ x → (upd (upd Hm dx (.own x)) x (.ins c_Heap dx [])) a = some o → H' a = some o) →
            H' h = some (.lst (T.map fun t => V.ref t.x)) ∧ (∀ a o, a ≠ h → H3 a = some o → upd H' h (.lst ((T.map fun t => V.ref t.x) ++ [.ref x])) a = some o) ∧ HA c_Heap (upd H' h (.lst ((T.map fun t => V.ref t.x) ++ [.ref x]))) x dx l ws ∧ H3 l = none := fun Hm x dx l ws H' gm nx nd nxd pw hw ha nl fr => by
          have nx' : (upd Hm dx (.own x)) x = none := by rw [upd_ne (Ne.symm nxd)]; exact nx
          have gq := gm.trans ((same_new nd (.own x)).trans (same_new nx' (.ins c_Heap dx [])))
          have all : ∀ a o, H3 a = some o → H' a = some o := fun a o e => fr a o (ne_nil (gm _ _ e) nx) (gq _ _ e)
          have l3 : H3 l = none := gq.free nl
          have hlne : h ≠ l := ne_nil sd3.eh l3
          have hx : h ≠ x := ne_nil (gm _ _ sd3.eh) nx
          exact ⟨all _ _ sd3.eh, fun a o n e => by rw [upd_ne n]; exact all a o e, ⟨by rw [upd_ne (Ne.symm hx)]; exact ha.o, by rw [upd_ne (Ne.symm hlne)]; exact ha.li⟩, l3⟩
        refine ⟨_, rfl, (by show 0 ≤ sizeLine; decide), fun e ne => ?_⟩
        have ge := same_new ne (.lst [])
        have ee : upd H3 e (.lst []) e = some (.lst []) := upd_same
        generalize upd H3 e (.lst []) = He at ge ee ⊢
        have lenh : (T.map fun t => V.ref t.x).length < sizeLine := by rw [List.length_map]; omega
        refine ⟨r, e, vs, rfl, rfl, SqL.of (ge _ _ er3), SqL.of ee, _, rfl, ?_⟩
        by_cases vz : vs = []
        · subst vz
          refine iteT ⟨_, rfl, .inl ⟨rfl, _, SqL.of (ge _ _ sd3.eh)⟩, fun x dx nx nd nxd => ⟨x, dx, .non, [], kB kd, f, rfl, upd_same, .inl ⟨rfl, rfl⟩, (by show 0 ≤ sizeLine; decide), fun u hu => by simp at hu, fun l ws H' pw hw ha nl fr => ⟨rfl, ?_⟩⟩⟩
          obtain ⟨q1, q2, q3, q4⟩ := made He x dx l ws H' ge nx nd nxd pw hw ha nl fr
          exact ⟨h, _, _, rfl, rfl, q1, lenh, hN _ _ ⟨rfl, x, dx, l, ws, q2, upd_same, q3, pw, hw, q4⟩⟩
        · have vi : vs.isEmpty = false := by
            cases vs with
            | nil => exact absurd rfl vz
            | cons => rfl
          rw [vi]
          refine iteF ⟨_, rfl, .inl ⟨rfl, _, SqL.of (ge _ _ sd3.eh)⟩, _, rfl, fun x dx nx nd nxd => ?_⟩
          have nx' : (upd He dx (.own x)) x = none := by rw [upd_ne (Ne.symm nxd)]; exact nx
          have gq := (same_new nd (.own x)).trans (same_new nx' (.ins c_Heap dx []))
          refine ⟨x, dx, .ref hd, vs, kB kd, f, rfl, upd_same, .inr ⟨hd, rfl, gq _ _ (ge _ _ ed3)⟩, (by omega), th3.same (ge.trans gq), fun l ws H' pw hw ha nl fr => ⟨rfl, ?_⟩⟩
          obtain ⟨q1, q2, q3, q4⟩ := made He x dx l ws H' ge nx nd nxd pw hw ha nl fr
          exact ⟨h, _, _, rfl, rfl, q1, lenh, hN _ _ ⟨rfl, x, dx, l, ws, q2, upd_same, q3, pw, hw, q4⟩⟩
      rintro σ H5 ⟨rfl, x, dx, l, ws, f5, eh5, ha5, pw, hw, l3⟩
      have rh : r ≠ h := Ne.symm (ne_nil sd.eh nr)
      have dh : hd ≠ h := Ne.symm (ne_nil sd.eh nd1)
      have dk : hd ≠ ks := Ne.symm (ne_nil sd.ek nd1)
      have dl : hd ≠ ls := Ne.symm (ne_nil sd.el nd1)
      have rk : r ≠ ks := Ne.symm (ne_nil sd.ek nr)
      have rls : r ≠ ls := Ne.symm (ne_nil sd.el nr)
      have lh : h ≠ l := ne_nil sd3.eh l3
      have lk : ks ≠ l := ne_nil sd3.ek l3
      have ll : ls ≠ l := ne_nil sd3.el l3
      have ld : hd ≠ l := ne_nil ed3 l3
      have lr : r ≠ l := ne_nil er3 l3
      have er5 := f5 _ _ rh er3
      have ed5 := f5 _ _ dh ed3
      have ek5 := f5 _ _ (Ne.symm sd.hk) sd3.ek
      have el5 := f5 _ _ (Ne.symm sd.hl) sd3.el
      have kl5 : KL H3 H5 := fun b o e n => f5 b o (fun z => by rw [z, sd3.eh] at e; exact n _ (Option.some.inj e).symm) e
      have th5 := th3.kl kl5
      refine ⟨_, rfl, _, rfl, hd, r, vs, rfl, rfl, SqL.of ed5, SqL.of er5, fun z hz => sam_th (th5 z hz), _, rfl, iteF ?_⟩
      refine ⟨_, rfl, .inl ⟨rfl, _, SqL.of ed5⟩, _, rfl, 0, kd, rfl, k0, k4, fun v ky H6 g6 tv => ?_⟩
      refine ⟨hd, vs, v, rfl, rfl, g6 _ _ ed5, (by omega), ?_⟩
      have kl7 := KL.put (g6 _ _ ed5) (vs ++ [v])
      have f7 : ∀ b o, b ≠ hd → H5 b = some o → upd H6 hd (.lst (vs ++ [v])) b = some o := fun b o n e => by rw [upd_ne n]; exact g6 _ _ e
      have kl57 := (KL.same g6).trans kl7
      generalize upd H6 hd (.lst (vs ++ [v])) = H7 at kl7 f7 kl57 ⊢
      have ek7 := f7 _ _ (Ne.symm dk) ek5
      refine ⟨_, rfl, .inl ⟨rfl, _, SqL.of ek7⟩, _, rfl, ks, _, _, rfl, rfl, ek7, (by rw [List.length_map]; omega), ?_⟩
      have kl8 := KL.put ek7 ((T.map fun t => V.int t.k) ++ [.int kd])
      have f8 : ∀ b o, b ≠ ks → H7 b = some o → upd H7 ks (.lst ((T.map fun t => V.int t.k) ++ [.int kd])) b = some o := fun b o n e => by rw [upd_ne n]; exact e
      have ek8 : upd H7 ks (.lst ((T.map fun t => V.int t.k) ++ [.int kd])) ks = some (.lst ((T.map fun t => V.int t.k) ++ [.int kd])) := upd_same
      generalize upd H7 ks (.lst ((T.map fun t => V.int t.k) ++ [.int kd])) = H8 at kl8 f8 ek8 ⊢
      have el8 := f8 _ _ (Ne.symm sd.kl) (f7 _ _ (Ne.symm dl) el5)
      refine ⟨_, rfl, .inl ⟨rfl, _, SqL.of el8⟩, _, rfl, ls, _, _, rfl, rfl, el8, (by rw [List.length_map]; omega), ?_⟩
      have kl9 := KL.put el8 ((T.map fun t => V.ref t.r) ++ [.ref r])
      have f9 : ∀ b o, b ≠ ls → H8 b = some o → upd H8 ls (.lst ((T.map fun t => V.ref t.r) ++ [.ref r])) b = some o := fun b o n e => by rw [upd_ne n]; exact e
      have el9 : upd H8 ls (.lst ((T.map fun t => V.ref t.r) ++ [.ref r])) ls = some (.lst ((T.map fun t => V.ref t.r) ++ [.ref r])) := upd_same
      generalize upd H8 ls (.lst ((T.map fun t => V.ref t.r) ++ [.ref r])) = H9 at kl9 f9 el9 ⊢
      have f59 : ∀ b o, b ≠ hd → b ≠ ks → b ≠ ls → H5 b = some o → H9 b = some o := fun b o n1 n2 n3 e => f9 _ _ n3 (f8 _ _ n2 (f7 _ _ n1 e))
      have kl59 := (kl57.trans kl8).trans kl9
      have D : Dk c_Heap (kB kd) H9 x dx l r ws vs := ⟨⟨kl59 _ _ ha5.o (fun _ z => by cases z), f59 _ _ (Ne.symm ld) (Ne.symm lk) (Ne.symm ll) ha5.li⟩, f59 _ _ (Ne.symm dr) rk rls er5, lr, f, (th5.kl kl59).perm pw, th5.kl kl59, hw, pw.map f⟩
      refine ⟨_, _, _, _, _, T ++ [⟨x, dx, l, r, kd, ws, vs⟩], rfl, by simp [lT], sd.more (((KL.same g13).trans kl5).trans kl59) (fun b zs nb ⟨t, ht, hb⟩ e => ?_) (f59 _ _ (Ne.symm dh) sd.hk sd.hl eh5) (f9 _ _ sd.kl ek8) el9 k0 k4 D lv (g13.free l3) nr, fun o e => ?_⟩
      · have e3 := g13 _ _ e
        exact f59 _ _ (ne_nil e nd1) (fun z => nb (by simp [z])) (fun z => nb (by simp [z])) (f5 _ _ (fun z => nb (by simp [z])) e3)
      · obtain ⟨n1, n2, n3⟩ := an o e
        have e1 := a1 o e
        exact f59 _ _ (ne_nil e1 nd1) n2 n3 (f5 _ _ n1 (g13 _ _ e1))
    · rintro σ H1 ⟨o4, o5, o6, o7, o8, T, rfl, lT, sd, a1⟩
      exact hN _ _ ⟨o4, o5, o6, o7, o8, T, rfl, lT, sd, a1⟩
  rintro σ H1 ⟨o4, o5, o6, o7, o8, T, rfl, lT, sd, a1⟩
  have cl : (cutV (ns.map V.int) (some 2) (some 62)).length ≤ 63 := Nat.le_trans (cutV_length _ _ _) (by rw [List.length_map]; exact h63)
  refine ⟨_, rfl, _, rfl, _, rfl, a, _, rfl, seq_of hS a1, fun p np => ?_⟩
  have gp := same_new np (.lst (cutV (ns.map V.int) (some 2) (some 62)))
  have ep : upd H1 p (.lst (cutV (ns.map V.int) (some 2) (some 62))) p = some (.lst (cutV (ns.map V.int) (some 2) (some 62))) := upd_same
  have sdp := sd.same gp
  have pn : ∀ t ∈ T, p ≠ t.l ∧ p ≠ t.r := fun t ht => by
    obtain ⟨_, _, D, _⟩ := sd.ok t ht
    exact ⟨Ne.symm (ne_nil D.ha.li np), Ne.symm (ne_nil D.hr np)⟩
  generalize upd H1 p (.lst (cutV (ns.map V.int) (some 2) (some 62))) = H2 at gp ep sdp ⊢
  refine ⟨p, rfl, ⟨_, SqL.of ep⟩, for_list (xs := cutV (ns.map V.int) (some 2) (some 62)) (fun i σ H' => i ≤ 63 ∧ ∃ (o4 o5 o6 o7 o8 : Option V) (T : List Sd), σ = [some (.ref a), some (.ref h), some (.ref ks), some (.ref ls), o4, o5, o6, o7, o8] ∧ T.length = 2 ∧ Sides c_Heap H' h ks ls (7 + i) T ∧ H' p = some (.lst (cutV (ns.map V.int) (some 2) (some 62))) ∧ ∀ t ∈ T, p ≠ t.l ∧ p ≠ t.r) ⟨by omega, o4, o5, o6, o7, o8, T, rfl, lT, sdp, ep, pn⟩ ?_ ?_ ?_⟩
  · rintro i σ H' _ ⟨_, _, _, _, _, _, _, rfl, _, _, e, _⟩
    exact SqL.of e
  · clear lT sd sdp pn o4 o5 o6 o7 o8 T a1 gp ep
    rintro i u σ H3 hu ⟨i63, o4, o5, o6, o7, o8, T, rfl, lT, sd, ep, pn⟩
    obtain ⟨c, rfl⟩ := cut_ints hu
    have il := (List.getElem?_eq_some_iff.mp hu).1
    have s0 := Int.fmod_nonneg_of_pos (c.fdiv 3) (show (0 : Int) < 2 by decide)
    have s2 := Int.fmod_lt_of_pos (c.fdiv 3) (show (0 : Int) < 2 by decide)
    refine ⟨_, rfl, _, _, rfl, rfl, ⟨by decide, PyProof.noPylong_small (by decide)⟩, _, _, rfl, rfl, (by show (2 : Int) ≠ 0; decide), ?_⟩
    try dsimp only [gName, tNext]
    obtain ⟨T1, t, T2, e, j, ej, e1⟩ : ∃ T1 t T2, T = T1 ++ t :: T2 ∧ ∃ j : Nat, (c.fdiv 3).fmod 2 = (j : Int) ∧ T1.length = j := by
      match T, lT with
      | [t0, t1], _ =>
        by_cases z : (c.fdiv 3).fmod 2 = 0
        · exact ⟨[], t0, [t1], rfl, 0, z, rfl⟩
        · exact ⟨[t0], t1, [], rfl, 1, by omega, rfl⟩
    subst e
    rw [ej] at *
    have mt : t ∈ T1 ++ t :: T2 := by simp
    obtain ⟨t0, t4, D, tl, tA, tB⟩ := sd.ok t mt
    have at_j : ∀ (g : Sd → V), ((T1 ++ t :: T2).map g)[j]? = some (g t) := fun g => by
      rw [List.map_append, List.getElem?_append_right (by rw [List.length_map]; omega), List.length_map, e1, Nat.sub_self]
      rfl
    obtain ⟨pl, pr⟩ := pn t mt
    refine ⟨_, rfl, _, rfl, h, _, _, _, rfl, rfl, SqL.of sd.eh, atI_nat (at_j fun t => V.ref t.x), _, rfl, _, rfl, ls, _, _, _, rfl, rfl, SqL.of sd.el, atI_nat (at_j fun t => V.ref t.r), _, rfl, _, rfl, _, rfl, ks, _, _, _, rfl, rfl, SqL.of sd.ek, atI_nat (at_j fun t => V.int t.k), t.x, t.dx, t.l, t.r, t.ws, t.vs, c, t.k, rfl, t0, t4, D, (by omega), fun ws' us' H4 fl D' lu => ⟨true, rfl, iteF ?_⟩⟩
    refine ⟨by omega, _, _, _, _, _, T1 ++ ⟨t.x, t.dx, t.l, t.r, t.k, ws', us'⟩ :: T2, rfl, ?_, sd.step fl D' (by omega), fl _ _ pl pr ep, fun u hu => ?_⟩
    · rw [← lT]
      simp
    · rcases List.mem_append.mp hu with z | z
      · exact pn u (by simp [z])
      · rcases List.mem_cons.mp z with z | z
        · subst z
          exact ⟨pl, pr⟩
        · exact pn u (by simp [z])
  · rintro σ H' ⟨_, _, _, _, _, _, _, rfl, _, _, _, _⟩
    exact qq _

end
set_option maxHeartbeats 4000000 in
theorem all_mk {l : PySem.W.OpenLaw} {w : World} {K : PySem.W.Frag} {h : Heap} {mg : Str → Option Value} {fa f_law_cell_at f_law_whole f_law_drawn f_law_thing f_law_alike f_law_empty f_law_done flaw c_EmptyHeap c_Heap c_NoNet c_NoNumber c_NoPlan c_StoveError c_TooFew f_Heap_swap f_Heap_lesser_below f_Heap_rise f_Heap_sink f_Heap_add f_Heap_many f_Heap_take_least f_Heap_init : Addr} (X : K.In h) (G : h.Ns mainGlobals mg) (hfa : mg "law" = some (.ref fa))
    {od_law_cell_at an_law_cell_at : Option Addr} {sl_law_cell_at : Array (Option Value)} {oc_law_cell_at kV_law_cell_at dc_law_cell_at pm_law_cell_at cd_law_cell_at ct_law_cell_at : Value}
    {od_law_whole an_law_whole : Option Addr} {sl_law_whole : Array (Option Value)} {oc_law_whole kV_law_whole dc_law_whole pm_law_whole cd_law_whole ct_law_whole : Value}
    {od_law_drawn an_law_drawn : Option Addr} {sl_law_drawn : Array (Option Value)} {oc_law_drawn kV_law_drawn dc_law_drawn pm_law_drawn cd_law_drawn ct_law_drawn : Value}
    {od_law_thing an_law_thing : Option Addr} {sl_law_thing : Array (Option Value)} {oc_law_thing kV_law_thing dc_law_thing pm_law_thing cd_law_thing ct_law_thing : Value}
    {od_law_alike an_law_alike : Option Addr} {sl_law_alike : Array (Option Value)} {oc_law_alike kV_law_alike dc_law_alike pm_law_alike cd_law_alike ct_law_alike : Value}
    {od_law_empty an_law_empty : Option Addr} {sl_law_empty : Array (Option Value)} {oc_law_empty kV_law_empty dc_law_empty pm_law_empty cd_law_empty ct_law_empty : Value}
    {od_law_done an_law_done : Option Addr} {sl_law_done : Array (Option Value)} {oc_law_done kV_law_done dc_law_done pm_law_done cd_law_done ct_law_done : Value}
    {odlaw anlaw : Option Addr} {sllaw : Array (Option Value)} {oclaw kVlaw dclaw pmlaw cdlaw ctlaw : Value}
    {odHeap_swap anHeap_swap : Option Addr} {slHeap_swap : Array (Option Value)} {ocHeap_swap kVHeap_swap dcHeap_swap pmHeap_swap cdHeap_swap ctHeap_swap : Value}
    {odHeap_lesser_below anHeap_lesser_below : Option Addr} {slHeap_lesser_below : Array (Option Value)} {ocHeap_lesser_below kVHeap_lesser_below dcHeap_lesser_below pmHeap_lesser_below cdHeap_lesser_below ctHeap_lesser_below : Value}
    {odHeap_rise anHeap_rise : Option Addr} {slHeap_rise : Array (Option Value)} {ocHeap_rise kVHeap_rise dcHeap_rise pmHeap_rise cdHeap_rise ctHeap_rise : Value}
    {odHeap_sink anHeap_sink : Option Addr} {slHeap_sink : Array (Option Value)} {ocHeap_sink kVHeap_sink dcHeap_sink pmHeap_sink cdHeap_sink ctHeap_sink : Value}
    {odHeap_add anHeap_add : Option Addr} {slHeap_add : Array (Option Value)} {ocHeap_add kVHeap_add dcHeap_add pmHeap_add cdHeap_add ctHeap_add : Value}
    {odHeap_many anHeap_many : Option Addr} {slHeap_many : Array (Option Value)} {ocHeap_many kVHeap_many dcHeap_many pmHeap_many cdHeap_many ctHeap_many : Value}
    {odHeap_take_least anHeap_take_least : Option Addr} {slHeap_take_least : Array (Option Value)} {ocHeap_take_least kVHeap_take_least dcHeap_take_least pmHeap_take_least cdHeap_take_least ctHeap_take_least : Value}
    {odHeap_init anHeap_init : Option Addr} {slHeap_init : Array (Option Value)} {ocHeap_init kVHeap_init dcHeap_init pmHeap_init cdHeap_init ctHeap_init : Value}
    {THeap_init : Addr} {ToHeap_init : Value} {TdHeap_init : Option Addr} {TnHeap_init : Nat} {TsHeap_init : Array (Option Value)}
    (a_law_cell_at : PySem.W.nsIn K mainGlobals "_law_cell_at" = some (some (.ref f_law_cell_at)))
    (l_law_cell_at : K.lookup f_law_cell_at = some ⟨oc_law_cell_at, od_law_cell_at, .func (PySem.W.fnOf "_law_cell_at" "_law_cell_at" (defArgs s_law_cell_at) (defBody s_law_cell_at) (defScope s_law_cell_at) .none kV_law_cell_at dc_law_cell_at pm_law_cell_at an_law_cell_at cd_law_cell_at ct_law_cell_at), sl_law_cell_at⟩) (c_law_cell_at : PySem.W.codeIn K cd_law_cell_at "_law_cell_at" = true) (k_law_cell_at : PySem.W.keepIn K (.ref f_law_cell_at) = true)
    (a_law_whole : PySem.W.nsIn K mainGlobals "_law_whole" = some (some (.ref f_law_whole)))
    (l_law_whole : K.lookup f_law_whole = some ⟨oc_law_whole, od_law_whole, .func (PySem.W.fnOf "_law_whole" "_law_whole" (defArgs s_law_whole) (defBody s_law_whole) (defScope s_law_whole) .none kV_law_whole dc_law_whole pm_law_whole an_law_whole cd_law_whole ct_law_whole), sl_law_whole⟩) (c_law_whole : PySem.W.codeIn K cd_law_whole "_law_whole" = true) (k_law_whole : PySem.W.keepIn K (.ref f_law_whole) = true)
    (a_law_drawn : PySem.W.nsIn K mainGlobals "_law_drawn" = some (some (.ref f_law_drawn)))
    (l_law_drawn : K.lookup f_law_drawn = some ⟨oc_law_drawn, od_law_drawn, .func (PySem.W.fnOf "_law_drawn" "_law_drawn" (defArgs s_law_drawn) (defBody s_law_drawn) (defScope s_law_drawn) .none kV_law_drawn dc_law_drawn pm_law_drawn an_law_drawn cd_law_drawn ct_law_drawn), sl_law_drawn⟩) (c_law_drawn : PySem.W.codeIn K cd_law_drawn "_law_drawn" = true) (k_law_drawn : PySem.W.keepIn K (.ref f_law_drawn) = true)
    (a_law_thing : PySem.W.nsIn K mainGlobals "_law_thing" = some (some (.ref f_law_thing)))
    (l_law_thing : K.lookup f_law_thing = some ⟨oc_law_thing, od_law_thing, .func (PySem.W.fnOf "_law_thing" "_law_thing" (defArgs s_law_thing) (defBody s_law_thing) (defScope s_law_thing) .none kV_law_thing dc_law_thing pm_law_thing an_law_thing cd_law_thing ct_law_thing), sl_law_thing⟩) (c_law_thing : PySem.W.codeIn K cd_law_thing "_law_thing" = true) (k_law_thing : PySem.W.keepIn K (.ref f_law_thing) = true)
    (a_law_alike : PySem.W.nsIn K mainGlobals "_law_alike" = some (some (.ref f_law_alike)))
    (l_law_alike : K.lookup f_law_alike = some ⟨oc_law_alike, od_law_alike, .func (PySem.W.fnOf "_law_alike" "_law_alike" (defArgs s_law_alike) (defBody s_law_alike) (defScope s_law_alike) .none kV_law_alike dc_law_alike pm_law_alike an_law_alike cd_law_alike ct_law_alike), sl_law_alike⟩) (c_law_alike : PySem.W.codeIn K cd_law_alike "_law_alike" = true) (k_law_alike : PySem.W.keepIn K (.ref f_law_alike) = true)
    (a_law_empty : PySem.W.nsIn K mainGlobals "_law_empty" = some (some (.ref f_law_empty)))
    (l_law_empty : K.lookup f_law_empty = some ⟨oc_law_empty, od_law_empty, .func (PySem.W.fnOf "_law_empty" "_law_empty" (defArgs s_law_empty) (defBody s_law_empty) (defScope s_law_empty) .none kV_law_empty dc_law_empty pm_law_empty an_law_empty cd_law_empty ct_law_empty), sl_law_empty⟩) (c_law_empty : PySem.W.codeIn K cd_law_empty "_law_empty" = true) (k_law_empty : PySem.W.keepIn K (.ref f_law_empty) = true)
    (a_law_done : PySem.W.nsIn K mainGlobals "_law_done" = some (some (.ref f_law_done)))
    (l_law_done : K.lookup f_law_done = some ⟨oc_law_done, od_law_done, .func (PySem.W.fnOf "_law_done" "_law_done" (defArgs s_law_done) (defBody s_law_done) (defScope s_law_done) .none kV_law_done dc_law_done pm_law_done an_law_done cd_law_done ct_law_done), sl_law_done⟩) (c_law_done : PySem.W.codeIn K cd_law_done "_law_done" = true) (k_law_done : PySem.W.keepIn K (.ref f_law_done) = true)
    (alaw : PySem.W.nsIn K mainGlobals "law" = some (some (.ref flaw)))
    (llaw : K.lookup flaw = some ⟨oclaw, odlaw, .func (PySem.W.fnOf "law" "law" (defArgs slaw) (defBody slaw) (defScope slaw) .none kVlaw dclaw pmlaw anlaw cdlaw ctlaw), sllaw⟩) (claw : PySem.W.codeIn K cdlaw "law" = true) (klaw : PySem.W.keepIn K (.ref flaw) = true)
    (zb_len : PySem.W.nsIn K mainGlobals "len" = some none)
    (zb_isinstance : PySem.W.nsIn K mainGlobals "isinstance" = some none)
    (zb_int : PySem.W.nsIn K mainGlobals "int" = some none)
    (zb_bool : PySem.W.nsIn K mainGlobals "bool" = some none)
    (zb_tuple : PySem.W.nsIn K mainGlobals "tuple" = some none)
    (zb_range : PySem.W.nsIn K mainGlobals "range" = some none)
    (zb_min : PySem.W.nsIn K mainGlobals "min" = some none)
    (zb_list : PySem.W.nsIn K mainGlobals "list" = some none)
    (zb_ValueError : PySem.W.nsIn K mainGlobals "ValueError" = some none)
    (zm_EmptyHeap : PySem.W.nsIn K mainGlobals "EmptyHeap" = some (some (.ref c_EmptyHeap)))
    (zm_Heap : PySem.W.nsIn K mainGlobals "Heap" = some (some (.ref c_Heap)))
    (zm_NoNet : PySem.W.nsIn K mainGlobals "NoNet" = some (some (.ref c_NoNet)))
    (zm_NoNumber : PySem.W.nsIn K mainGlobals "NoNumber" = some (some (.ref c_NoNumber)))
    (zm_NoPlan : PySem.W.nsIn K mainGlobals "NoPlan" = some (some (.ref c_NoPlan)))
    (zm_StoveError : PySem.W.nsIn K mainGlobals "StoveError" = some (some (.ref c_StoveError)))
    (zm_TooFew : PySem.W.nsIn K mainGlobals "TooFew" = some (some (.ref c_TooFew)))
    (atHeap_swap : PySem.W.findIn K (.ref c_Heap) "swap" = some (some (.ref f_Heap_swap)))
    (lHeap_swap : K.lookup f_Heap_swap = some ⟨ocHeap_swap, odHeap_swap, .func (PySem.W.fnOf "swap" "Heap.swap" (defArgs sHeap_swap) (defBody sHeap_swap) (defScope sHeap_swap) .none kVHeap_swap dcHeap_swap pmHeap_swap anHeap_swap cdHeap_swap ctHeap_swap), slHeap_swap⟩) (cHeap_swap : PySem.W.codeIn K cdHeap_swap "Heap.swap" = true) (kHeap_swap : PySem.W.keepIn K (.ref f_Heap_swap) = true)
    (atHeap_lesser_below : PySem.W.findIn K (.ref c_Heap) "lesser_below" = some (some (.ref f_Heap_lesser_below)))
    (lHeap_lesser_below : K.lookup f_Heap_lesser_below = some ⟨ocHeap_lesser_below, odHeap_lesser_below, .func (PySem.W.fnOf "lesser_below" "Heap.lesser_below" (defArgs sHeap_lesser_below) (defBody sHeap_lesser_below) (defScope sHeap_lesser_below) .none kVHeap_lesser_below dcHeap_lesser_below pmHeap_lesser_below anHeap_lesser_below cdHeap_lesser_below ctHeap_lesser_below), slHeap_lesser_below⟩) (cHeap_lesser_below : PySem.W.codeIn K cdHeap_lesser_below "Heap.lesser_below" = true) (kHeap_lesser_below : PySem.W.keepIn K (.ref f_Heap_lesser_below) = true)
    (atHeap_rise : PySem.W.findIn K (.ref c_Heap) "rise" = some (some (.ref f_Heap_rise)))
    (lHeap_rise : K.lookup f_Heap_rise = some ⟨ocHeap_rise, odHeap_rise, .func (PySem.W.fnOf "rise" "Heap.rise" (defArgs sHeap_rise) (defBody sHeap_rise) (defScope sHeap_rise) .none kVHeap_rise dcHeap_rise pmHeap_rise anHeap_rise cdHeap_rise ctHeap_rise), slHeap_rise⟩) (cHeap_rise : PySem.W.codeIn K cdHeap_rise "Heap.rise" = true) (kHeap_rise : PySem.W.keepIn K (.ref f_Heap_rise) = true)
    (atHeap_sink : PySem.W.findIn K (.ref c_Heap) "sink" = some (some (.ref f_Heap_sink)))
    (lHeap_sink : K.lookup f_Heap_sink = some ⟨ocHeap_sink, odHeap_sink, .func (PySem.W.fnOf "sink" "Heap.sink" (defArgs sHeap_sink) (defBody sHeap_sink) (defScope sHeap_sink) .none kVHeap_sink dcHeap_sink pmHeap_sink anHeap_sink cdHeap_sink ctHeap_sink), slHeap_sink⟩) (cHeap_sink : PySem.W.codeIn K cdHeap_sink "Heap.sink" = true) (kHeap_sink : PySem.W.keepIn K (.ref f_Heap_sink) = true)
    (atHeap_add : PySem.W.findIn K (.ref c_Heap) "add" = some (some (.ref f_Heap_add)))
    (lHeap_add : K.lookup f_Heap_add = some ⟨ocHeap_add, odHeap_add, .func (PySem.W.fnOf "add" "Heap.add" (defArgs sHeap_add) (defBody sHeap_add) (defScope sHeap_add) .none kVHeap_add dcHeap_add pmHeap_add anHeap_add cdHeap_add ctHeap_add), slHeap_add⟩) (cHeap_add : PySem.W.codeIn K cdHeap_add "Heap.add" = true) (kHeap_add : PySem.W.keepIn K (.ref f_Heap_add) = true)
    (atHeap_many : PySem.W.findIn K (.ref c_Heap) "many" = some (some (.ref f_Heap_many)))
    (lHeap_many : K.lookup f_Heap_many = some ⟨ocHeap_many, odHeap_many, .func (PySem.W.fnOf "many" "Heap.many" (defArgs sHeap_many) (defBody sHeap_many) (defScope sHeap_many) .none kVHeap_many dcHeap_many pmHeap_many anHeap_many cdHeap_many ctHeap_many), slHeap_many⟩) (cHeap_many : PySem.W.codeIn K cdHeap_many "Heap.many" = true) (kHeap_many : PySem.W.keepIn K (.ref f_Heap_many) = true)
    (atHeap_take_least : PySem.W.findIn K (.ref c_Heap) "take_least" = some (some (.ref f_Heap_take_least)))
    (lHeap_take_least : K.lookup f_Heap_take_least = some ⟨ocHeap_take_least, odHeap_take_least, .func (PySem.W.fnOf "take_least" "Heap.take_least" (defArgs sHeap_take_least) (defBody sHeap_take_least) (defScope sHeap_take_least) .none kVHeap_take_least dcHeap_take_least pmHeap_take_least anHeap_take_least cdHeap_take_least ctHeap_take_least), slHeap_take_least⟩) (cHeap_take_least : PySem.W.codeIn K cdHeap_take_least "Heap.take_least" = true) (kHeap_take_least : PySem.W.keepIn K (.ref f_Heap_take_least) = true)
    (atHeap_init : PySem.W.findIn K (.ref c_Heap) "__init__" = some (some (.ref f_Heap_init)))
    (lHeap_init : K.lookup f_Heap_init = some ⟨ocHeap_init, odHeap_init, .func (PySem.W.fnOf "__init__" "Heap.__init__" (defArgs sHeap_init) (defBody sHeap_init) (defScope sHeap_init) (.ref THeap_init) kVHeap_init dcHeap_init pmHeap_init anHeap_init cdHeap_init ctHeap_init), slHeap_init⟩) (cHeap_init : PySem.W.codeIn K cdHeap_init "Heap.__init__" = true) (kHeap_init : PySem.W.keepIn K (.ref f_Heap_init) = true)
    (dHeap_init : K.lookup THeap_init = some ⟨ToHeap_init, TdHeap_init, .seq #[.none] TnHeap_init, TsHeap_init⟩)
    (zx_EmptyHeap : PySem.W.excIn K c_EmptyHeap bmV "ValueError.__new__" = true)
    (zi_EmptyHeap : XI K c_EmptyHeap)
    (zt_StoveError : XT K c_StoveError)
    (zs_EmptyHeap_StoveError : PySem.W.subIn K (.ref c_EmptyHeap) (.ref c_StoveError) = some true)
    (zk_EmptyHeap_NoNet : PySem.W.kitOne K (.ref c_EmptyHeap) (.ref c_NoNet) = some false)
    (zk_EmptyHeap_NoPlan : PySem.W.kitOne K (.ref c_EmptyHeap) (.ref c_NoPlan) = some false)
    (zk_EmptyHeap_TooFew : PySem.W.kitOne K (.ref c_EmptyHeap) (.ref c_TooFew) = some false)
    (zk_EmptyHeap_NoNumber : PySem.W.kitOne K (.ref c_EmptyHeap) (.ref c_NoNumber) = some false)
    (zk_EmptyHeap_EmptyHeap : PySem.W.kitOne K (.ref c_EmptyHeap) (.ref c_EmptyHeap) = some true)
    (zk_EmptyHeap_ValueError : PySem.W.kitOne K (.ref c_EmptyHeap) (.type "ValueError") = some true)
    (zcl_Heap : Cls K c_Heap)
    (zmk_Heap : Mk K c_Heap f_Heap_init)
    (zme_Heap_add : Meth K c_Heap "add" f_Heap_add)
    (zme_Heap_take_least : Meth K c_Heap "take_least" f_Heap_take_least)
    (zme_Heap_many : Meth K c_Heap "many" f_Heap_many)
    (zme_Heap_rise : Meth K c_Heap "rise" f_Heap_rise)
    (zme_Heap_sink : Meth K c_Heap "sink" f_Heap_sink)
    (zme_Heap_lesser_below : Meth K c_Heap "lesser_below" f_Heap_lesser_below)
    (zme_Heap_swap : Meth K c_Heap "swap" f_Heap_swap)
    (zna_Heap_things : NoAttr K c_Heap "things")
    : ∃ fd : FuncData, (∀ (s : Shared) (v : Value), BindsTo s fd ⟨[v], []⟩ [("_law_script", v)]) ∧ ∀ base : Heap, K.In base → base.Ns mainGlobals mg → FnOk l.prog w K mg base CX0 7 fa fd ["_law_script"] (spLaw K) := by
  have e := hfa.symm.trans (PySem.W.mg_of X G alaw)
  cases e
  have B : Bn K mg c_EmptyHeap c_Heap c_NoNet c_NoNumber c_NoPlan c_StoveError c_TooFew f_Heap_swap f_Heap_lesser_below f_Heap_rise f_Heap_sink f_Heap_add f_Heap_many f_Heap_take_least f_Heap_init := ⟨PySem.W.mg_none_of X G zb_len, PySem.W.mg_none_of X G zb_isinstance, PySem.W.mg_none_of X G zb_int, PySem.W.mg_none_of X G zb_bool, PySem.W.mg_none_of X G zb_tuple, PySem.W.mg_none_of X G zb_range, PySem.W.mg_none_of X G zb_min, PySem.W.mg_none_of X G zb_list, PySem.W.mg_none_of X G zb_ValueError, PySem.W.mg_of X G zm_EmptyHeap, PySem.W.mg_of X G zm_Heap, PySem.W.mg_of X G zm_NoNet, PySem.W.mg_of X G zm_NoNumber, PySem.W.mg_of X G zm_NoPlan, PySem.W.mg_of X G zm_StoveError, PySem.W.mg_of X G zm_TooFew, zx_EmptyHeap, zi_EmptyHeap, zt_StoveError, zs_EmptyHeap_StoveError, zk_EmptyHeap_NoNet, zk_EmptyHeap_NoPlan, zk_EmptyHeap_TooFew, zk_EmptyHeap_NoNumber, zk_EmptyHeap_EmptyHeap, zk_EmptyHeap_ValueError, zcl_Heap, zmk_Heap, zme_Heap_add, zme_Heap_take_least, zme_Heap_many, zme_Heap_rise, zme_Heap_sink, zme_Heap_lesser_below, zme_Heap_swap, zna_Heap_things⟩
  have FHeap_swap := funD_mk (st := sHeap_swap) lHeap_swap cHeap_swap kHeap_swap
  have FHeap_lesser_below := funD_mk (st := sHeap_lesser_below) lHeap_lesser_below cHeap_lesser_below kHeap_lesser_below
  have FHeap_rise := funD_mk (st := sHeap_rise) lHeap_rise cHeap_rise kHeap_rise
  have FHeap_sink := funD_mk (st := sHeap_sink) lHeap_sink cHeap_sink kHeap_sink
  have FHeap_add := funD_mk (st := sHeap_add) lHeap_add cHeap_add kHeap_add
  have FHeap_many := funD_mk (st := sHeap_many) lHeap_many cHeap_many kHeap_many
  have FHeap_take_least := funD_mk (st := sHeap_take_least) lHeap_take_least cHeap_take_least kHeap_take_least
  have FHeap_init := funD_mk (st := sHeap_init) lHeap_init cHeap_init kHeap_init
  have F_law_cell_at := funD_mk (st := s_law_cell_at) l_law_cell_at c_law_cell_at k_law_cell_at
  have F_law_whole := funD_mk (st := s_law_whole) l_law_whole c_law_whole k_law_whole
  have F_law_drawn := funD_mk (st := s_law_drawn) l_law_drawn c_law_drawn k_law_drawn
  have F_law_thing := funD_mk (st := s_law_thing) l_law_thing c_law_thing k_law_thing
  have F_law_alike := funD_mk (st := s_law_alike) l_law_alike c_law_alike k_law_alike
  have F_law_empty := funD_mk (st := s_law_empty) l_law_empty c_law_empty k_law_empty
  have F_law_done := funD_mk (st := s_law_done) l_law_done c_law_done k_law_done
  have Flaw := funD_mk (st := slaw) llaw claw klaw
  refine ⟨PySem.W.fnOf "law" "law" (defArgs slaw) (defBody slaw) (defScope slaw) .none kVlaw dclaw pmlaw anlaw cdlaw ctlaw, ?bind, fun base _ _ => ?ok⟩
  case bind => exact fun s v => .of_eq rfl
  case ok =>
    have bHeap_swap := FHeap_swap.binds0 (ps := ["self", "one", "other"]) fun _ _ _ _ _ _ us hl => match us, hl with | [_, _, _], _ => rfl
    have DHeap_swap : DxM l.prog w K mg base CX0 1 f_Heap_swap ["self", "one", "other"] [] (spSwap c_Heap) := ⟨_, okHeap_swap FHeap_swap B , bHeap_swap, ⟨[], bHeap_swap, .nil⟩⟩
    have bHeap_lesser_below := FHeap_lesser_below.binds0 (ps := ["self", "place"]) fun _ _ _ _ _ _ us hl => match us, hl with | [_, _], _ => rfl
    have DHeap_lesser_below : DxM l.prog w K mg base CX0 1 f_Heap_lesser_below ["self", "place"] [] (spBelow c_Heap) := ⟨_, okHeap_lesser_below FHeap_lesser_below B , bHeap_lesser_below, ⟨[], bHeap_lesser_below, .nil⟩⟩
    have bHeap_rise := FHeap_rise.binds0 (ps := ["self", "place"]) fun _ _ _ _ _ _ us hl => match us, hl with | [_, _], _ => rfl
    have DHeap_rise : DxM l.prog w K mg base CX0 2 f_Heap_rise ["self", "place"] [] (spRise c_Heap) := ⟨_, okHeap_rise FHeap_rise B DHeap_swap, bHeap_rise, ⟨[], bHeap_rise, .nil⟩⟩
    have bHeap_sink := FHeap_sink.binds0 (ps := ["self", "place"]) fun _ _ _ _ _ _ us hl => match us, hl with | [_, _], _ => rfl
    have DHeap_sink : DxM l.prog w K mg base CX0 2 f_Heap_sink ["self", "place"] [] (spSink c_Heap) := ⟨_, okHeap_sink FHeap_sink B DHeap_swap DHeap_lesser_below, bHeap_sink, ⟨[], bHeap_sink, .nil⟩⟩
    have bHeap_add := FHeap_add.binds0 (ps := ["self", "thing"]) fun _ _ _ _ _ _ us hl => match us, hl with | [_, _], _ => rfl
    have DHeap_add : DxM l.prog w K mg base CX0 3 f_Heap_add ["self", "thing"] [] (spAdd c_Heap) := ⟨_, okHeap_add FHeap_add B DHeap_rise, bHeap_add, ⟨[], bHeap_add, .nil⟩⟩
    have bHeap_many := FHeap_many.binds0 (ps := ["self"]) fun _ _ _ _ _ _ us hl => match us, hl with | [_], _ => rfl
    have DHeap_many : DxM l.prog w K mg base CX0 1 f_Heap_many ["self"] [] (spMany c_Heap) := ⟨_, okHeap_many FHeap_many B , bHeap_many, ⟨[], bHeap_many, .nil⟩⟩
    have bHeap_take_least := FHeap_take_least.binds0 (ps := ["self"]) fun _ _ _ _ _ _ us hl => match us, hl with | [_], _ => rfl
    have XHeap_take_least : DxM l.prog w K mg base (CX1 l.prog w) 3 f_Heap_take_least ["self"] [] (spTakeX c_Heap c_EmptyHeap) := ⟨_, okHeap_take_least FHeap_take_least B DHeap_sink, bHeap_take_least, ⟨[], bHeap_take_least, .nil⟩⟩
    have DHeap_take_least : DxM l.prog w K mg base CX0 3 f_Heap_take_least ["self"] [] (spTake c_Heap) := XHeap_take_least.calm (fun _ _ _ _ => take_of)
    have DHeap_init : DxM l.prog w K mg base CX0 4 f_Heap_init ["self", "rows"] [.non] (spHeap2 c_Heap) := ⟨_, okHeap_init FHeap_init B DHeap_add, FHeap_init.binds (ps := ["self", "rows"]) (ds := []) dHeap_init rfl fun _ _ _ _ _ _ us hl => match us, hl with | [_, _], _ => ⟨_, rfl, rfl⟩, ⟨[.none], FHeap_init.binds (ps := ["self", "rows"]) (ds := [.none]) dHeap_init rfl fun _ _ _ _ _ _ us hl => match us, hl with | [_], _ => ⟨_, rfl, rfl⟩ | [], h => absurd h (by simp) | _ :: _ :: _, h => absurd h (by simp), .cons rfl .nil⟩⟩
    have b_law_cell_at := F_law_cell_at.binds0 (ps := ["_law_script", "_law_k"]) fun _ _ _ _ _ _ us hl => match us, hl with | [_, _], _ => rfl
    have D_law_cell_at : Dx l.prog w K mg base CX0 1 "_law_cell_at" ["_law_script", "_law_k"] [] (spCell K) := ⟨f_law_cell_at, _, ok_law_cell_at F_law_cell_at B , PySem.W.mg_of X G a_law_cell_at, k_law_cell_at, b_law_cell_at, ⟨[], b_law_cell_at, .nil⟩⟩
    have b_law_whole := F_law_whole.binds0 (ps := ["_law_found"]) fun _ _ _ _ _ _ us hl => match us, hl with | [_], _ => rfl
    have D_law_whole : Dx l.prog w K mg base CX0 1 "_law_whole" ["_law_found"] [] spWhole := ⟨f_law_whole, _, ok_law_whole F_law_whole B , PySem.W.mg_of X G a_law_whole, k_law_whole, b_law_whole, ⟨[], b_law_whole, .nil⟩⟩
    have b_law_drawn := F_law_drawn.binds0 (ps := ["_law_cell", "_law_many"]) fun _ _ _ _ _ _ us hl => match us, hl with | [_, _], _ => rfl
    have D_law_drawn : Dx l.prog w K mg base CX0 1 "_law_drawn" ["_law_cell", "_law_many"] [] spDrawn := ⟨f_law_drawn, _, ok_law_drawn F_law_drawn B , PySem.W.mg_of X G a_law_drawn, k_law_drawn, b_law_drawn, ⟨[], b_law_drawn, .nil⟩⟩
    have b_law_thing := F_law_thing.binds0 (ps := ["_law_cell", "_law_kind"]) fun _ _ _ _ _ _ us hl => match us, hl with | [_, _], _ => rfl
    have D_law_thing : Dx l.prog w K mg base CX0 2 "_law_thing" ["_law_cell", "_law_kind"] [] spThing2 := ⟨f_law_thing, _, ok_law_thing F_law_thing B D_law_drawn, PySem.W.mg_of X G a_law_thing, k_law_thing, b_law_thing, ⟨[], b_law_thing, .nil⟩⟩
    have b_law_alike := F_law_alike.binds0 (ps := ["_law_found", "_law_due"]) fun _ _ _ _ _ _ us hl => match us, hl with | [_, _], _ => rfl
    have D_law_alike : Dx l.prog w K mg base CX0 2 "_law_alike" ["_law_found", "_law_due"] [] spAlike := ⟨f_law_alike, _, ok_law_alike F_law_alike B D_law_whole, PySem.W.mg_of X G a_law_alike, k_law_alike, b_law_alike, ⟨[], b_law_alike, .nil⟩⟩
    have b_law_empty := F_law_empty.binds0 (ps := ["_law_heap"]) fun _ _ _ _ _ _ us hl => match us, hl with | [_], _ => rfl
    have D_law_empty : Dx l.prog w K mg base CX0 4 "_law_empty" ["_law_heap"] [] (spRefused c_Heap) := ⟨f_law_empty, _, ok_law_empty F_law_empty B XHeap_take_least, PySem.W.mg_of X G a_law_empty, k_law_empty, b_law_empty, ⟨[], b_law_empty, .nil⟩⟩
    have b_law_done := F_law_done.binds0 (ps := ["_law_heap", "_law_rows", "_law_cell", "_law_kind"]) fun _ _ _ _ _ _ us hl => match us, hl with | [_, _, _, _], _ => rfl
    have D_law_done : Dx l.prog w K mg base CX0 5 "_law_done" ["_law_heap", "_law_rows", "_law_cell", "_law_kind"] [] (spDone c_Heap) := ⟨f_law_done, _, ok_law_done F_law_done B DHeap_add DHeap_many DHeap_take_least D_law_whole D_law_thing D_law_alike D_law_empty, PySem.W.mg_of X G a_law_done, k_law_done, b_law_done, ⟨[], b_law_done, .nil⟩⟩
    exact oklaw Flaw B DHeap_init D_law_cell_at D_law_drawn D_law_thing D_law_done
theorem walk {l : PySem.W.OpenLaw} {q : Program} {loose : List Str} {XP : (Str → Option Value) → Heap → Prop} {YP : World → Heap → Prop} {d : DefRec} {K : Params → PySem.W.Frag} (hn : l.most = some 63) (hdf : d.params.defaults = [])
    (hY : ∀ (w : World) (h : Heap), YP w h → (K w.params).In h)
    (F : ∀ (w : World) (mg : Str → Option Value) (fa : Addr) (h : Heap), (K w.params).In h → h.Ns mainGlobals mg → mg d.name = some (.ref fa) →
      ∃ fd : FuncData, (∀ (s : Shared) (u : Value), BindsTo s fd ⟨[u], []⟩ [("_law_script", u)]) ∧ ∀ base : Heap, (K w.params).In base → base.Ns mainGlobals mg → FnOk l.prog w (K w.params) mg base CX0 7 fa fd ["_law_script"] (spLaw (K w.params))) :
    PySem.W.WalkO q loose XP YP l.row.toRowW d [] (fun f vs => PySem.call f vs) :=
  L2.walk_of (n := 63) (k := 7) (x := "_law_script") (CX := fun _ => CX0) (sp := fun w => spLaw (K w.params)) hn (by decide) hdf ⟨rfl, by decide, by decide⟩ hY F (fun _ _ a ns hl _ hS => ⟨a, ns, rfl, hS, hl, fun _ => rfl⟩) fun _ _ _ _ _ z => z
end Lk56
open PySem PySem.W PyProof.Rows
set_option maxRecDepth 100000 in
set_option maxHeartbeats 0 in
theorem PySem.Challenge.cw_stovework_k56_heap_deeds_holds : PySem.Challenge.rw_stovework_k56_heap_deeds.Holds := by
  w_on; o_law; k_head; (case hw => w_witness2)
  k_fill
  refine Lk56.walk (l := PySem.Challenge.rw_stovework_k56_heap_deeds) rfl rfl (fun w h Y => PySem.W.kIn_of Y) ?F
  case F =>
    intro w mg fa h KX G hmg
    refine' Lk56.all_mk KX G hmg ?h0 ?h1 ?h2 ?h3 ?h4 ?h5 ?h6 ?h7 ?h8 ?h9 ?h10 ?h11 ?h12 ?h13 ?h14 ?h15 ?h16 ?h17 ?h18 ?h19 ?h20 ?h21 ?h22 ?h23 ?h24 ?h25 ?h26 ?h27 ?h28 ?h29 ?h30 ?h31 ?h32 ?h33 ?h34 ?h35 ?h36 ?h37 ?h38 ?h39 ?h40 ?h41 ?h42 ?h43 ?h44 ?h45 ?h46 ?h47 ?h48 ?h49 ?h50 ?h51 ?h52 ?h53 ?h54 ?h55 ?h56 ?h57 ?h58 ?h59 ?h60 ?h61 ?h62 ?h63 ?h64 ?h65 ?h66 ?h67 ?h68 ?h69 ?h70 ?h71 ?h72 ?h73 ?h74 ?h75 ?h76 ?h77 ?h78 ?h79 ?h80 ?h81 ?h82 ?h83 ?h84 ?h85 ?h86 ?h87 ?h88 ?h89 ?h90 ?h91 ?h92 ?h93 ?h94 ?h95 ?h96 ?h97 ?h98 ?h99 ?h100
    (case h0 => k_is)
    (case h1 => k_is)
    (case h2 => k_is)
    (case h3 => k_is)
    (case h4 => k_is)
    (case h5 => k_is)
    (case h6 => k_is)
    (case h7 => k_is)
    (case h8 => k_is)
    (case h9 => k_is)
    (case h10 => k_is)
    (case h11 => k_is)
    (case h12 => k_is)
    (case h13 => k_is)
    (case h14 => k_is)
    (case h15 => k_is)
    (case h16 => k_is)
    (case h17 => k_is)
    (case h18 => k_is)
    (case h19 => k_is)
    (case h20 => k_is)
    (case h21 => k_is)
    (case h22 => k_is)
    (case h23 => k_is)
    (case h24 => k_is)
    (case h25 => k_is)
    (case h26 => k_is)
    (case h27 => k_is)
    (case h28 => k_is)
    (case h29 => k_is)
    (case h30 => k_is)
    (case h31 => k_is)
    (case h32 => k_is)
    (case h33 => k_is)
    (case h34 => k_is)
    (case h35 => k_is)
    (case h36 => k_is)
    (case h37 => k_is)
    (case h38 => k_is)
    (case h39 => k_is)
    (case h40 => k_is)
    (case h41 => k_is)
    (case h42 => k_is)
    (case h43 => k_is)
    (case h44 => k_is)
    (case h45 => k_is)
    (case h46 => k_is)
    (case h47 => k_is)
    (case h48 => k_is)
    (case h49 => k_is)
    (case h50 => k_is)
    (case h51 => k_is)
    (case h52 => k_is)
    (case h53 => k_is)
    (case h54 => k_is)
    (case h55 => k_is)
    (case h56 => k_is)
    (case h57 => k_is)
    (case h58 => k_is)
    (case h59 => k_is)
    (case h60 => k_is)
    (case h61 => k_is)
    (case h62 => k_is)
    (case h63 => k_is)
    (case h64 => k_is)
    (case h65 => k_is)
    (case h66 => k_is)
    (case h67 => k_is)
    (case h68 => k_is)
    (case h69 => k_is)
    (case h70 => k_is)
    (case h71 => k_is)
    (case h72 => k_is)
    (case h73 => k_is)
    (case h74 => k_is)
    (case h75 => k_is)
    (case h76 => k_is)
    (case h77 => k_is)
    (case h78 => k_is)
    (case h79 => k_is)
    (case h80 => k_is)
    (case h81 => kernel_rfl)
    (case h82 => exact ⟨⟨by k_is, by k_is, by k_is⟩, by kernel_rfl, by k_is, by k_is, by k_is, by k_is⟩)
    (case h83 => exact ⟨by k_is, by kernel_rfl, by k_is⟩)
    (case h84 => k_is)
    (case h85 => kernel_rfl)
    (case h86 => kernel_rfl)
    (case h87 => kernel_rfl)
    (case h88 => kernel_rfl)
    (case h89 => kernel_rfl)
    (case h90 => kernel_rfl)
    (case h91 => exact ⟨by k_is, by k_is, by k_is, by k_is⟩)
    (case h92 => exact ⟨by k_is, by k_is, by k_is, by k_is⟩)
    (case h93 => exact ⟨by k_is, by k_is, by k_is⟩)
    (case h94 => exact ⟨by k_is, by k_is, by k_is⟩)
    (case h95 => exact ⟨by k_is, by k_is, by k_is⟩)
    (case h96 => exact ⟨by k_is, by k_is, by k_is⟩)
    (case h97 => exact ⟨by k_is, by k_is, by k_is⟩)
    (case h98 => exact ⟨by k_is, by k_is, by k_is⟩)
    (case h99 => exact ⟨by k_is, by k_is, by k_is⟩)
    (case h100 => unfold L2.NoAttr; k_is)
