import PyProof.Rows.All
import Wide.All
import OpenK.AllK
import Wide.FinOn
import Lean
import PyProof.EqAt
import PyProof.EqKinds
import PyProof.TupleCall
import PyProof.NeKinds
import PyProof.StationsW
import PyProof.RulesAs
import PyProof.ExcArgsOwn
import PyProof.CompFree
import PyProof.ExcInit
import PyProof.ConsumeWalk
import PyProof.Rows.SeqGen
import PyProof.StrWalks
import PyProof.SliceStr2
import PyProof.MeetsStr
import KE.KIntText
import PyProof.Rows.FStr
import PyProof.StrCalls6
import PyProof.StrBlockL
import PyProof.ToksMono
import PyProof.WalkInts
import PyProof.Rows.MinMaxN
import PyProof.StrLawsReplace
import PyProof.StrLawsTight
import PyProof.Rows.StrLawsPart
import PyProof.DictWalks
import PySem.Challenge.RW_stovework_k43_plates
set_option Elab.async false
set_option linter.all false
set_option maxRecDepth 100000
/-! THE HAND LAYER, for ints, bools, texts, own classes, LISTS and tuples (index, slices, in, append, pop ..), calls, loops. Paste it whole ahead of your own text; what your proof does not reach may be deleted. -/
namespace L2
open PySem PySem.Spec PyProof.Rows

/-- a key: an int or a str -/
abbrev Key := Sum Int Str
def keyIs : Key → Value → Bool
  | .inl k, v => Value.isInt k v
  | .inr x, v => Value.isStrOf x v
def keyH (w : World) : Key → Int
  | .inl k => hashInt k
  | .inr x => hashStr w x
theorem keyIs_shape : ∀ {k : Key} {v : Value}, keyIs k v = true → (∃ i t, k = Sum.inl i ∧ v = Value.int i t) ∨ (∃ x t, k = Sum.inr x ∧ v = Value.str x t)
  | .inl i, v, h => by
    obtain ⟨t, e⟩ := Value.isInt_shape (k := i) (v := v) h
    exact .inl ⟨i, t, rfl, e⟩
  | .inr x, v, h => by
    obtain ⟨t, e⟩ := Value.isStrOf_shape (x := x) (v := v) h
    exact .inr ⟨x, t, rfl, e⟩
theorem key_ll (a b : Int) : decide ((Sum.inl a : Key) = Sum.inl b) = (a == b) := by
  by_cases e : a = b
  · subst e; simp
  · have h : ¬ (Sum.inl a : Key) = Sum.inl b := fun q => e (Sum.inl.inj q)
    rw [decide_eq_false h]
    exact (beq_eq_false_iff_ne.mpr e).symm
theorem key_rr (a b : Str) : decide ((Sum.inr a : Key) = Sum.inr b) = decide (a = b) := by
  by_cases e : a = b
  · subst e; simp
  · have h : ¬ (Sum.inr a : Key) = Sum.inr b := fun q => e (Sum.inr.inj q)
    rw [decide_eq_false h, decide_eq_false e]
theorem key_lr (a : Int) (b : Str) : decide ((Sum.inl a : Key) = Sum.inr b) = false := decide_eq_false (fun q => nomatch q)
theorem key_rl (a : Str) (b : Int) : decide ((Sum.inr a : Key) = Sum.inl b) = false := decide_eq_false (fun q => nomatch q)

def mixKind (prog : Program) (w : World) : PySem.KeyKind prog w Key where
  is := keyIs
  hash := keyH w
  inj := fun v a b ha hb => by
    rcases keyIs_shape ha with ⟨i, t, rfl, rfl⟩ | ⟨x, t, rfl, rfl⟩
    · rcases keyIs_shape hb with ⟨j, u, rfl, e⟩ | ⟨y, u, rfl, e⟩
      · injection e with e1 _; rw [e1]
      · exact nomatch e
    · rcases keyIs_shape hb with ⟨j, u, rfl, e⟩ | ⟨y, u, rfl, e⟩
      · exact nomatch e
      · injection e with e1 _; rw [e1]
  byValue := fun k v h => by
    rcases keyIs_shape h with ⟨i, t, rfl, rfl⟩ | ⟨x, t, rfl, rfl⟩ <;> rfl
  pyHash := fun hv h => by
    rcases keyIs_shape hv with ⟨i, t, rfl, rfl⟩ | ⟨x, t, rfl, rfl⟩
    · exact wpAny_pyHash_int h
    · exact wpAny_pyHash_str h
  eqBool := fun hu hv h => by
    rcases keyIs_shape hu with ⟨i, t, rfl, rfl⟩ | ⟨x, t, rfl, rfl⟩
    · rcases keyIs_shape hv with ⟨j, u, rfl, rfl⟩ | ⟨y, u, rfl, rfl⟩
      · rw [key_ll] at h; exact wpAny_eqBool_int h
      · rw [key_lr] at h; exact SeqAt.EqAt.int_str i t y u _ _ _ _ h
    · rcases keyIs_shape hv with ⟨j, u, rfl, rfl⟩ | ⟨y, u, rfl, rfl⟩
      · rw [key_rl] at h; exact SeqAt.EqAt.str_int x t j u _ _ _ _ h
      · rw [key_rr] at h; exact wpAny_eqBool_str h
  «strs» := fun k x t v h => by
    rcases keyIs_shape h with ⟨i, u, rfl, e⟩ | ⟨y, u, rfl, e⟩
    · exact nomatch e
    · injection e with e1 _
      subst e1
      cases v <;> rfl

end L2

namespace L2
open PySem PySem.Spec PyProof.Rows

/-- a value, without the heap -/
inductive V where
  | non | bl (b : Bool) | int (i : Int) | str (x : Str) | byt (b : Array UInt8) | flt (b : UInt64) | ref (a : Addr) | ty (n : String)
  deriving DecidableEq

def RelV : V → Value → Prop
  | .non, u => u = Value.none
  | .bl b, u => u = Value.bool b
  | .int i, u => ∃ t, u = Value.int i t
  | .str x, u => ∃ t, u = Value.str x t
  | .byt b, u => ∃ t, u = Value.bytes b t
  | .flt b, u => ∃ t, u = Value.float b t
  | .ref a, u => u = Value.ref a
  | .ty n, u => u = Value.type n

abbrev Vals : List V → List Value → Prop := Paired RelV
theorem Vals.length {xs : List V} {us : List Value} (r : Vals xs us) : xs.length = us.length := Paired.length r
theorem Vals.get : ∀ {xs : List V} {us : List Value} {i : Nat} {x : V}, Vals xs us → xs[i]? = some x → ∃ u, us[i]? = some u ∧ RelV x u
  | _, _, _, _, .nil, e => by simp at e
  | _, _, 0, _, .cons r _, e => by simp at e; subst e; exact ⟨_, rfl, r⟩
  | _, _, i + 1, x, .cons _ t, e => by
    obtain ⟨u, h1, h2⟩ := Vals.get (i := i) (x := x) t (by simpa using e)
    exact ⟨u, by simpa using h1, h2⟩
theorem Vals.set {x : V} {u : Value} (r : RelV x u) : ∀ {xs : List V} {us : List Value} (i : Nat), Vals xs us → Vals (xs.set i x) (us.set i u)
  | _, _, _, .nil => .nil
  | _, _, 0, .cons _ t => .cons r t
  | _, _, i + 1, .cons q t => .cons q (Vals.set r i t)
theorem Vals.append : ∀ {xs ys : List V} {us ws : List Value}, Vals xs us → Vals ys ws → Vals (xs ++ ys) (us ++ ws)
  | _, _, _, _, .nil, s => s
  | _, _, _, _, .cons r t, s => .cons r (Vals.append t s)
theorem Vals.take : ∀ {xs : List V} {us : List Value} (n : Nat), Vals xs us → Vals (xs.take n) (us.take n)
  | _, _, 0, _ => .nil
  | _, _, _ + 1, .nil => .nil
  | _, _, n + 1, .cons r t => .cons r (Vals.take n t)
theorem Vals.drop : ∀ {xs : List V} {us : List Value} (n : Nat), Vals xs us → Vals (xs.drop n) (us.drop n)
  | _, _, 0, r => r
  | _, _, _ + 1, .nil => .nil
  | _, _, n + 1, .cons _ t => Vals.drop n t
theorem Vals.none_of : ∀ {xs : List V} {us : List Value} {i : Nat}, Vals xs us → xs[i]? = none → us[i]? = none := fun {xs us i} r e => by
  have h1 := r.length
  have h2 : xs.length ≤ i := List.getElem?_eq_none_iff.mp e
  exact List.getElem?_eq_none_iff.mpr (by omega)

def RelO : Option V → Option Value → Prop
  | some v, some u => RelV v u
  | none, none => True
  | _, _ => False
def KV {κ : Type} : List (κ × V) → List (κ × Value) → Prop := Paired fun (p : κ × V) (q : κ × Value) => p.1 = q.1 ∧ RelV p.2 q.2

/-- a key of a dict (00_mix): an int or a text -/
def kV : Key → V
  | .inl i => .int i
  | .inr x => .str x

/-- what stands at a tracked address -/
inductive HO where
  /-- a list -/
  | lst (xs : List V)
  /-- a tuple (never changes) -/
  | tup (xs : List V)
  /-- a dict whose keys are ints and texts; one whose keys are tuples of ints and texts (the empty one is both) -/
  | dK (kvs : List (Key × V)) | dT (kvs : List (List Key × V))
  /-- a set of ints: its members, its size -/
  | set (S : Int → Bool) (n : Nat)
  /-- an instance of the class at C, its dict at dx, its attributes -/
  | ins (C dx : Addr) (fs : List (Str × V))
  /-- the dict of the instance at x -/
  | own (x : Addr)
  /-- the dict of an exception -/
  | xd (fs : List (Str × V))
  /-- a bound method, f of x -/
  | met (f x : Addr)
  /-- a range object lo, lo + 1, .. below hi -/
  | rng (lo hi : Int)
  /-- a thing that is known to the object (the script; a dict while a loop walks it): read, never written while it is so -/
  | frz (o : Obj) (u : HO)
  /-- a code object's table -/
  | tbl (ps : Array Value)
  /-- any other thing, by what is true of its one object (a def of one's own: SetO a S n := HO.ext fun h => ..) -/
  | ext (φ : Heap → Prop)

abbrev Hp := Addr → Option HO
def upd (H : Hp) (a : Addr) (o : HO) : Hp := fun b => if b = a then some o else H b
theorem upd_same {H : Hp} {a : Addr} {o : HO} : upd H a o a = some o := by unfold upd; rw [if_pos rfl]
theorem upd_ne {H : Hp} {a b : Addr} {o : HO} (h : b ≠ a) : upd H a o b = H b := by unfold upd; rw [if_neg h]
theorem ne_of_none {H : Hp} {a b : Addr} {o : HO} (h : H a = some o) (h' : H b = none) : a ≠ b := by
  intro e; subst e; rw [h] at h'; cases h'

section
variable (P : Program) (w : World)
def ObjOk (H : Hp) (h : Heap) (a : Addr) : HO → Prop
  | .lst xs => xs.length ≤ sizeLine ∧ ∃ (its : List Value) (n : Nat), Vals xs its ∧ h.get? a = some { cls := .type "list", data := .seq its.toArray n }
  | .tup xs => xs.length ≤ sizeLine ∧ ∃ its : List Value, Vals xs its ∧ IsTup h a its.toArray
  | .dK kvs => kvs.length ≤ sizeLine ∧ (a == sysModules) = false ∧ ∃ vs, KV kvs vs ∧ h.DictOf (mixKind P w) a vs
  | .dT kvs => kvs.length ≤ sizeLine ∧ (a == sysModules) = false ∧ ∃ xs : List (List Key × Addr × Value),
      Paired (fun (p : List Key × V) (q : List Key × Addr × Value) => p.1 = q.1 ∧ H q.2.1 = some (.tup (p.1.map kV)) ∧ RelV p.2 q.2.2) kvs xs ∧
      ∃ o es ep, h.get? a = some o ∧ o.ExactDict ∧ o.data = .dict es ep ∧ es.toList = xs.map (entryOfKey (tupleKind (mixKind P w))) ∧ (xs.map (·.1)).Nodup
  | .set S n => h.SetOf (intKind P w) a S n
  | .ins C dx fs => H dx = some (.own a) ∧ fs.length ≤ 1000 ∧ dx ≠ a ∧ h.get? a = some (PySem.W.instObj C dx) ∧
      ∃ mA, h.Ns1 dx mA ∧ (∀ f, RelO (fs.lookup f) (mA f)) ∧ PySem.Within mA (fs.map (·.1))
  | .own _ => ∃ o, h.get? a = some o
  | .xd fs => ∃ mA, h.Ns1 a mA ∧ ∀ f, RelO (fs.lookup f) (mA f)
  | .rng lo hi => ∃ t u v, h.get? a = some { cls := .type "range", data := .fields #[.int lo t, .int hi u, .int 1 v] }
  | .frz o u => h.get? a = some o ∧ ObjOk H h a u
  | .tbl ps => h.get? a = some { cls := .none, data := .fields ps }
  | .met f x => h.get? a = some (PySem.W.methodObj (.ref f) (.ref x))
  | .ext φ => φ h ∧ (∃ o, h.get? a = some o) ∧ ∀ h1 h2 : Heap, φ h1 → (∀ o, h1.get? a = some o → h2.get? a = some o) → φ h2
/-- the abstract heap is held -/
def HOk (H : Hp) (h : Heap) : Prop := ∀ a o, H a = some o → ObjOk P w H h a o
end

section
variable {P : Program} {w : World} {H H' : Hp} {h h' : Heap} {a : Addr} {o : HO}
theorem ObjOk.lt (x : ObjOk P w H h a o) : a < h.objs.size := by
  cases o with
  | lst xs => obtain ⟨_, _, _, _, e⟩ := x; exact Heap.lt_size e
  | tup xs => obtain ⟨_, _, _, p⟩ := x; exact p.lt
  | dK kvs => obtain ⟨_, _, _, _, o, _, _, e, _⟩ := x; exact Heap.lt_size e
  | dT kvs => obtain ⟨_, _, _, _, o, _, _, e, _⟩ := x; exact Heap.lt_size e
  | set S n => obtain ⟨o, _, _, _, e, _⟩ := x; exact Heap.lt_size e
  | ins C dx fs => obtain ⟨_, _, _, e, _⟩ := x; exact Heap.lt_size e
  | own y => obtain ⟨_, e⟩ := x; exact Heap.lt_size e
  | xd fs => obtain ⟨_, ⟨_, _, _, e, _⟩, _⟩ := x; exact Heap.lt_size e
  | rng lo hi => obtain ⟨_, _, _, e⟩ := x; exact Heap.lt_size e
  | frz ob u => obtain ⟨e, _⟩ := x; exact Heap.lt_size e
  | tbl ps => exact Heap.lt_size (show h.get? a = some _ from x)
  | met f y => exact Heap.lt_size (show h.get? a = some _ from x)
  | ext φ => obtain ⟨_, ⟨_, e⟩, _⟩ := x; exact Heap.lt_size e
theorem Paired.mapP {α β : Type} {F G : α → β → Prop} : ∀ {l₁ : List α} {l₂ : List β}, Paired F l₁ l₂ → (∀ a b, F a b → G a b) → Paired G l₁ l₂
  | _, _, .nil, _ => .nil
  | _, _, .cons r t, f => .cons (f _ _ r) (Paired.mapP t f)
/-- what an object's description leans on: its own object, its own dict, the tuples -/
theorem ObjOk.stay (x : ObjOk P w H h a o) (k : ∀ b u, (b = a ∨ H b = some (.own a)) → h.get? b = some u → h'.get? b = some u)
    (ho : ∀ b, H b = some (.own a) → H' b = some (.own a)) (ht : ∀ b xs, H b = some (.tup xs) → H' b = some (.tup xs)) : ObjOk P w H' h' a o := by
  induction o with
  | lst xs => obtain ⟨z, its, n, r, e⟩ := x; exact ⟨z, its, n, r, k _ _ (.inl rfl) e⟩
  | tup xs => obtain ⟨z, its, r, ob, e, c⟩ := x; exact ⟨z, its, r, ob, k _ _ (.inl rfl) e, c⟩
  | dK kvs => obtain ⟨z, y, vs, r, ob, es, ep, e, c⟩ := x; exact ⟨z, y, vs, r, ob, es, ep, k _ _ (.inl rfl) e, c⟩
  | dT kvs =>
    obtain ⟨z, y, xs, r, ob, es, ep, e, c⟩ := x
    exact ⟨z, y, xs, Paired.mapP r fun p q z => ⟨z.1, ht _ _ z.2.1, z.2.2⟩, ob, es, ep, k _ _ (.inl rfl) e, c⟩
  | set S n => obtain ⟨ob, es, ep, t, e, c⟩ := x; exact ⟨ob, es, ep, t, k _ _ (.inl rfl) e, c⟩
  | ins C dx fs =>
    obtain ⟨d, z, ne, e, mA, ⟨od, es, ep, e2, c⟩, r⟩ := x
    exact ⟨ho _ d, z, ne, k _ _ (.inl rfl) e, mA, ⟨od, es, ep, k _ _ (.inr d) e2, c⟩, r⟩
  | own y => obtain ⟨ob, e⟩ := x; exact ⟨ob, k _ _ (.inl rfl) e⟩
  | xd fs => obtain ⟨mA, ⟨od, es, ep, e, c⟩, r⟩ := x; exact ⟨mA, ⟨od, es, ep, k _ _ (.inl rfl) e, c⟩, r⟩
  | rng lo hi => obtain ⟨t, u, v, e⟩ := x; exact ⟨t, u, v, k _ _ (.inl rfl) e⟩
  | frz ob u ih => obtain ⟨e, q⟩ := x; exact ⟨k _ _ (.inl rfl) e, ih q⟩
  | tbl ps =>
    have e : h.get? a = some { cls := .none, data := .fields ps } := x
    show h'.get? a = some { cls := .none, data := .fields ps }
    exact k a _ (.inl rfl) e
  | met f y =>
    have e : h.get? a = some (PySem.W.methodObj (.ref f) (.ref y)) := x
    show h'.get? a = some (PySem.W.methodObj (.ref f) (.ref y))
    exact k a _ (.inl rfl) e
  | ext φ => obtain ⟨p, ⟨o, e⟩, st⟩ := x; exact ⟨st _ _ p fun o q => k _ _ (.inl rfl) q, ⟨o, k _ _ (.inl rfl) e⟩, st⟩
theorem HOk.lt (x : HOk P w H h) (e : H a = some o) : a < h.objs.size := (x a o e).lt
theorem HOk.fresh (x : HOk P w H h) (e : h.objs.size ≤ a) : H a = none := by
  cases q : H a with
  | none => rfl
  | some u => exact absurd (Nat.lt_of_lt_of_le (x.lt q) e) (Nat.lt_irrefl _)
/-- every object of the heap is kept -/
theorem HOk.kept (x : HOk P w H h) (k : ∀ b u, h.get? b = some u → h'.get? b = some u) : HOk P w H h' := fun a o e =>
  (x a o e).stay (fun b u _ q => k b u q) (fun _ q => q) fun _ _ q => q
/-- a new object is laid and tracked -/
theorem HOk.laid (x : HOk P w H h) (k : ∀ b u, h.get? b = some u → h'.get? b = some u) (hp : h.objs.size ≤ a) (new : ObjOk P w (upd H a o) h' a o) : HOk P w (upd H a o) h' := fun b u e => by
  have hn := x.fresh hp
  by_cases hb : b = a
  · subst hb; rw [upd_same] at e; cases e; exact new
  · rw [upd_ne hb] at e
    exact (x b u e).stay (fun c v _ q => k c v q) (fun c q => by rw [upd_ne (ne_of_none q hn)]; exact q) fun c xs q => by rw [upd_ne (ne_of_none q hn)]; exact q
end

/-- what may be read as u: it is u, or a known u -/
def Rd (H : Hp) (a : Addr) (u : HO) : Prop := H a = some u ∨ ∃ o, H a = some (.frz o u)
theorem Rd.of {H : Hp} {a : Addr} {u : HO} (h : H a = some u) : Rd H a u := .inl h
theorem Rd.ok {P : Program} {w : World} {H : Hp} {h : Heap} {a : Addr} {u : HO} (r : Rd H a u) (x : HOk P w H h) : ObjOk P w H h a u := by
  rcases r with r | ⟨o, r⟩
  · exact x a u r
  · obtain ⟨_, q⟩ := x a _ r
    exact q
/-- what may be written -/
def Mut : Option HO → Prop
  | some (.lst _) => True
  | some (.dK _) => True
  | some (.dT _) => True
  | some (.set _ _) => True
  | some (.ins _ _ _) => True
  | some (.ext _) => True
  | _ => False
section
variable {P : Program} {w : World} {H : Hp} {h h' : Heap} {x e : Addr} {o' : HO}
/-- the object at e is changed: x itself, or the dict of the instance x -/
theorem HOk.write (ok : HOk P w H h) (mu : Mut (H x)) (he : e = x ∨ H e = some (.own x)) (k : ∀ b u, b ≠ e → h.get? b = some u → h'.get? b = some u) (heo : ∃ u, h'.get? e = some u)
    (new : ObjOk P w (upd H x o') h' x o') : HOk P w (upd H x o') h' := fun b u q => by
  have nown : ∀ c y, H c = some (.own y) → c ≠ x := fun c y r z => by subst z; rw [r] at mu; exact mu
  have ntup : ∀ c xs, H c = some (.tup xs) → c ≠ x := fun c xs r z => by subst z; rw [r] at mu; exact mu
  by_cases hb : b = x
  · subst hb; rw [upd_same] at q; cases q; exact new
  · rw [upd_ne hb] at q
    by_cases hbe : b = e
    · have q' : H b = some (.own x) := by
        rcases he with z | z
        · exact absurd (hbe.trans z) hb
        · rw [hbe]; exact z
      rw [q] at q'; cases q'
      obtain ⟨v, hv⟩ := heo
      exact ⟨v, by rw [hbe]; exact hv⟩
    · refine (ok b u q).stay (fun c v hc r => k c v ?_ r) (fun c r => by rw [upd_ne (nown c b r)]; exact r) fun c xs r => by rw [upd_ne (ntup c xs r)]; exact r
      rcases hc with rfl | hc
      · exact hbe
      · rintro rfl
        rcases he with z | z
        · exact nown c b hc z
        · rw [hc] at z; cases z; exact hb rfl
end

/-! ### kept unless tracked; of the frames at fs (the callers') the slots may change (an exception that passes writes there); of the records at ex (iterators) nothing is said -/
structure Un (fs ex : List Addr) (H H' : Hp) (h h' : Heap) : Prop where
  keep : ∀ b o, h.get? b = some o → H b = none → b ∉ fs → b ∉ ex → h'.get? b = some o
  slot : ∀ b o, h.get? b = some o → H b = none → b ∈ fs → b ∉ ex → ∃ sl, h'.get? b = some { o with slots := sl }
  free : ∀ b o, h.get? b = some o → H b = none → b ∉ ex → H' b = none
  there : ∀ b o, h.get? b = some o → b ∉ ex → ∃ o', h'.get? b = some o'
  tups : ∀ b xs, H b = some (.tup xs) → H' b = some (.tup xs)
  frzs : ∀ b o u, H b = some (.frz o u) → H' b = some (.frz o u)
  tbls : ∀ b ps, H b = some (.tbl ps) → ∃ more, H' b = some (.tbl (ps ++ more))
section
variable {fs fs' ex ex' : List Addr} {H H1 H2 : Hp} {h h1 h2 h' : Heap} {a x e : Addr} {o : HO}
theorem Un.any (u : Un fs ex H H1 h h1) {b : Addr} {ob : Obj} (q : h.get? b = some ob) (n : H b = none) (hx : b ∉ ex) : ∃ sl, h1.get? b = some { ob with slots := sl } := by
  by_cases hb : b ∈ fs
  · exact u.slot b ob q n hb hx
  · exact ⟨ob.slots, u.keep b ob q n hb hx⟩
theorem Un.trans (a : Un fs ex H H1 h h1) (b : Un fs ex H1 H2 h1 h2) : Un fs ex H H2 h h2 where
  keep := fun c ob q n hc hx => b.keep c ob (a.keep c ob q n hc hx) (a.free c ob q n hx) hc hx
  slot := fun c ob q n hc hx => by
    obtain ⟨sl, e1⟩ := a.slot c ob q n hc hx
    obtain ⟨sl', e2⟩ := b.slot c _ e1 (a.free c ob q n hx) hc hx
    exact ⟨sl', e2⟩
  free := fun c ob q n hx => by
    obtain ⟨o', e1⟩ := a.there c ob q hx
    exact b.free c o' e1 (a.free c ob q n hx) hx
  there := fun c ob q hx => by
    obtain ⟨o', e1⟩ := a.there c ob q hx
    exact b.there c o' e1 hx
  tups := fun c xs q => b.tups c xs (a.tups c xs q)
  frzs := fun c ob xs q => b.frzs c ob xs (a.frzs c ob xs q)
  tbls := fun c ps q => by
    obtain ⟨m1, e1⟩ := a.tbls c ps q
    obtain ⟨m2, e2⟩ := b.tbls c _ e1
    exact ⟨m1 ++ m2, by rw [e2, Array.append_assoc]⟩
theorem Un.kept (k : ∀ b u, h.get? b = some u → h'.get? b = some u) : Un fs ex H H h h' :=
  ⟨fun b ob q _ _ _ => k b ob q, fun b ob q _ _ _ => ⟨ob.slots, k b ob q⟩, fun _ _ _ n _ => n, fun b ob q _ => ⟨ob, k b ob q⟩, fun _ _ q => q, fun _ _ _ q => q, fun _ ps q => ⟨#[], by rw [q]; simp⟩⟩
theorem Un.refl : Un fs ex H H h h := Un.kept fun _ _ q => q
theorem Un.laid (k : ∀ b u, h.get? b = some u → h'.get? b = some u) (hp : h.objs.size ≤ a) (hn : H a = none) : Un fs ex H (upd H a o) h h' where
  keep := fun b u q _ _ _ => k b u q
  slot := fun b u q _ _ _ => ⟨u.slots, k b u q⟩
  free := fun b u q n _ => by rw [upd_ne (Nat.ne_of_lt (Nat.lt_of_lt_of_le (Heap.lt_size q) hp))]; exact n
  there := fun b u q _ => ⟨u, k b u q⟩
  tups := fun b xs q => by rw [upd_ne (ne_of_none q hn)]; exact q
  frzs := fun b u xs q => by rw [upd_ne (ne_of_none q hn)]; exact q
  tbls := fun b ps q => ⟨#[], by rw [upd_ne (ne_of_none q hn), q]; simp⟩
theorem Un.write (mu : Mut (H x)) (he : e = x ∨ H e = some (.own x)) (k : ∀ b u, b ≠ e → h.get? b = some u → h'.get? b = some u) (heo : ∃ u, h'.get? e = some u) : Un fs ex H (upd H x o) h h' := by
  have hx : ∀ b, H b = none → b ≠ x := fun b n z => by subst z; rw [n] at mu; exact mu
  have hb : ∀ b, H b = none → b ≠ e := fun b n z => by
    subst z
    rcases he with r | r
    · exact hx b n r
    · rw [n] at r; cases r
  have hm : ∀ b u, H b = some u → ¬ Mut (some u) → b ≠ x := fun b u q nm z => by subst z; rw [q] at mu; exact nm mu
  refine ⟨fun b u q n _ _ => k b u (hb b n) q, fun b u q n _ _ => ⟨u.slots, k b u (hb b n) q⟩, fun b u q n _ => by rw [upd_ne (hx b n)]; exact n, fun b u q _ => ?_,
    fun b xs q => by rw [upd_ne (hm b _ q fun z => z)]; exact q, fun b u xs q => by rw [upd_ne (hm b _ q fun z => z)]; exact q, fun b ps q => ⟨#[], by rw [upd_ne (hm b _ q fun z => z), q]; simp⟩⟩
  by_cases hbe : b = e
  · subst hbe; exact heo
  · exact ⟨u, k b u hbe q⟩
theorem Un.mono (u : Un fs ex H H1 h h1) (hs : ∀ b ∈ fs, b ∈ fs') (hx : ∀ b ∈ ex, b ∈ ex') : Un fs' ex' H H1 h h1 :=
  ⟨fun b ob q n hb he => u.keep b ob q n (fun z => hb (hs b z)) fun z => he (hx b z), fun _ _ q n _ he => u.any q n fun z => he (hx _ z), fun b ob q n he => u.free b ob q n fun z => he (hx b z), fun b ob q he => u.there b ob q fun z => he (hx b z), u.tups, u.frzs, u.tbls⟩
end

/-! ### the heap without what is tracked -/
def trk (h : Heap) (H : Hp) : List Addr := (List.range h.objs.size).filter fun a => (H a).isSome
def hidT (h : Heap) (H : Hp) : Heap := PySem.W.hideAll h (trk h H)
theorem hidT_size (h : Heap) (H : Hp) : (hidT h H).objs.size = h.objs.size := PySem.W.hideAll_size _ _
theorem hidT_get {h : Heap} {H : Hp} {b : Addr} {o : Obj} (e : h.get? b = some o) (n : H b = none) : (hidT h H).get? b = some o :=
  PySem.W.hideAll_get _ e fun hm => by
    have q : (H b).isSome = true := (List.mem_filter.mp hm).2
    rw [n] at q; simp at q
theorem of_hidT {h : Heap} {H : Hp} {b : Addr} {o : Obj} (e : (hidT h H).get? b = some o) : h.get? b = some o ∧ H b = none := by
  have e' : h.get? b = some o := PySem.W.of_hideAll (trk h H) e
  refine ⟨e', ?_⟩
  cases q : H b with
  | none => rfl
  | some x =>
    have hm : b ∈ trk h H := List.mem_filter.mpr ⟨List.mem_range.mpr (Heap.lt_size e'), by simp [q]⟩
    have z : (hidT h H).get? b = none := PySem.W.hideAll_none (trk h H) hm
    rw [z] at e; cases e

/-! ### OpenK's ledger, filled with every new object but one -/
def allNews (g h : Heap) (L : Addr) : List (Addr × Obj) := (List.range h.objs.size).filterMap fun a => if a = L ∨ (g.get? a).isSome = true then none else (h.get? a).map fun o => (a, o)
def rest (g h : Heap) (L d : Addr) : List (Addr × Obj) := (allNews g h L).filter fun p => decide (p.1 ≠ d)
end L2

namespace L2
open PySem PySem.Spec PyProof.Rows

/-- the module's facts, over the base: the heap at the law's entry without what is tracked there -/
structure Mod (K : PySem.W.Frag) (mg : Str → Option Value) (base : Heap) : Prop where
  kin : K.In base
  glob : base.Ns mainGlobals mg
  blt : ∃ mb, base.Ns builtinsNs mb ∧ ∀ x : Str, x ≠ "__name__" → mb x = bootBuiltins x
  nolimit : base.NoLimit

/-- the context: a def's body (or a comprehension's block) running. base: fixed through the whole law; s₀, H₀: the entry; outer: the frames whose slots others may change (a def's callers); stack: all frames that run;
   ex: iterators that were made ahead of the entry and are walked here (a comprehension's); fn: the names whose cells were made at the entry (a def: all; a comprehension's block: its own); calm: not within an except suite; pn: pins that every state bears; xe: what is wanted of an exception that leaves the code -/
structure Cx where
  prog : Program
  w : World
  K : PySem.W.Frag
  mg : Str → Option Value
  base : Heap
  A : Around
  N : List Str
  s₀ : Shared
  H₀ : Hp
  env : Env
  outer : List Env
  stack : List Env
  ex : List Addr
  fn : Str → Bool
  calm : Bool
  pn : List (Addr × Obj)
  xe : Value → Shared → Prop
/-- the callers' frames -/
def frs (l : List Env) : List Addr := l.filterMap (·.frame)
abbrev Cx.fs (X : Cx) : List Addr := frs X.outer

def Vis (sc : Scope) (x : Str) : Prop := sc.names.lookup x = some .local ∨ sc.names.lookup x = some .cell ∨ sc.names.lookup x = some .free
def Loc (sc : Scope) (x : Str) : Prop := sc.names.lookup x = some .local ∨ sc.names.lookup x = some .cell
def Look (env : Env) (h : Heap) (m : Str → Option Value) (x : Str) (u : Value) : Prop :=
  (env.kindOf x = some .local ∧ m x = some u) ∨ ((env.kindOf x = some .cell ∨ env.kindOf x = some .free) ∧ ∃ c, env.cells.lookup x = some c ∧ h.IsCell c (some u))

structure Cx.Ok (X : Cx) : Prop where
  mod : Mod X.K X.mg X.base
  kind : X.env.scope.kind = .function
  glob : X.env.globals = mainGlobals
  blt : X.env.builtins = builtinsNs
  above : X.s₀.heap.objs.size ≤ X.env.locals
  inj : ∀ x y c, X.env.cells.lookup x = some c → X.env.cells.lookup y = some c → x = y
  has : ∀ x, (X.env.kindOf x = some .cell ∨ X.env.kindOf x = some .free) → ∃ c, X.env.cells.lookup x = some c
  cab : ∀ x c, X.fn x = true → X.env.cells.lookup x = some c → X.s₀.heap.objs.size ≤ c
  hd : X.calm = true → X.A.handled = none
  frames : X.A.frames = some X.stack
  stk : X.stack = X.outer ∨ (X.stack = X.env :: X.outer ∧ X.env.frame = some X.env.locals)
  exf : ∀ b ∈ X.ex, b ≠ X.env.locals ∧ ∀ x c, X.env.cells.lookup x = some c → c ≠ b
  bs : ∀ b o, X.base.get? b = some o → X.s₀.heap.get? b = some o ∧ X.H₀ b = none
  bsz : X.base.objs.size ≤ X.s₀.heap.objs.size
  noex : ∀ b o, X.base.get? b = some o → b ∉ X.ex
  exfs : ∀ b ∈ X.ex, b ∉ X.fs
  funs : X.s₀.heap.FunFrames X.base X.outer
  frf : ∀ b ∈ X.fs, X.H₀ b = none

structure Inv (X : Cx) (pins : List (Addr × Obj)) (σ : List (Option V)) (H : Hp) (s : Shared) : Prop where
  ok : X.Ok
  os : s.os = X.s₀.os
  bare : AllBare s.gens
  base : Un X.fs X.ex X.H₀ H X.s₀.heap s.heap
  loc : ∃ m, s.heap.Ns X.env.locals m ∧ ∀ (i : Nat) (x : Str) (v : V), X.N[i]? = some x → σ[i]? = some (some v) → Vis X.env.scope x → ∃ u, RelV v u ∧ Look X.env s.heap m x u
  cell : ∀ x c, X.env.cells.lookup x = some c → ∃ v, s.heap.IsCell c v
  free : H X.env.locals = none
  freeC : ∀ x c, X.env.cells.lookup x = some c → H c = none
  pin : ∀ p ∈ X.pn ++ pins, s.heap.get? p.1 = some p.2 ∧ H p.1 = none ∧ p.1 ≠ X.env.locals ∧ p.1 ∉ X.fs ∧ ∀ v, p.2.data ≠ .cell v
  hok : HOk X.prog X.w H s.heap
  len : σ.length = X.N.length

section
variable {X : Cx} {pins : List (Addr × Obj)} {σ : List (Option V)} {H H' : Hp} {s : Shared} {h' : Heap}

theorem Cx.Ok.nofr (ok : X.Ok) {b : Addr} {o : Obj} (e : X.base.get? b = some o) : b ∉ X.fs := fun hb => by
  have := (ok.funs.mem hb).1
  rw [e] at this; cases this
theorem Inv.bs (I : Inv X pins σ H s) : ∀ b o, X.base.get? b = some o → s.heap.get? b = some o ∧ H b = none := fun b o e =>
  ⟨I.base.keep b o (I.ok.bs b o e).1 (I.ok.bs b o e).2 (I.ok.nofr e) (I.ok.noex b o e), I.base.free b o (I.ok.bs b o e).1 (I.ok.bs b o e).2 (I.ok.noex b o e)⟩
theorem Inv.bk (I : Inv X pins σ H s) : ∀ b o, X.base.get? b = some o → s.heap.get? b = some o := fun b o e => (I.bs b o e).1
theorem Inv.mod (I : Inv X pins σ H s) : Mod X.K X.mg X.base := I.ok.mod
theorem Inv.kIn (I : Inv X pins σ H s) : X.K.In s.heap := I.ok.mod.kin.keeps I.bk
theorem Inv.nolimit (I : Inv X pins σ H s) : s.heap.NoLimit := I.ok.mod.nolimit.keeps I.bk
/-- the frame over the base: for OpenK's rules (K.In X.base is I.mod.kin) -/
theorem Inv.fr (I : Inv X pins σ H s) : ∃ m, Fr X.base X.env.locals s.heap m :=
  let ⟨m, hn, _⟩ := I.loc
  ⟨m, hn, I.bk, Nat.le_trans I.ok.bsz I.ok.above⟩
theorem Inv.lt (I : Inv X pins σ H s) : X.env.locals < s.heap.objs.size := let ⟨_, hn, _⟩ := I.loc; hn.lt
theorem Inv.sz (I : Inv X pins σ H s) : X.s₀.heap.objs.size ≤ s.heap.objs.size := Nat.le_trans I.ok.above (Nat.le_of_lt I.lt)
theorem Inv.nofs (I : Inv X pins σ H s) {a : Addr} (h : s.heap.objs.size ≤ a) : a ∉ X.fs := fun hb => by
  obtain ⟨_, o, ho, _⟩ := I.ok.funs.mem hb
  exact absurd (Nat.lt_of_lt_of_le (Heap.lt_size ho) (Nat.le_trans I.sz h)) (Nat.lt_irrefl _)
theorem Inv.cne (I : Inv X pins σ H s) : ∀ x c, X.env.cells.lookup x = some c → c ≠ X.env.locals := fun x c e z => by
  obtain ⟨v, o, ho, hd⟩ := I.cell x c e
  obtain ⟨m, ⟨o', es, ep, ho', hd', _⟩, _⟩ := I.loc
  rw [z, ho'] at ho; cases ho; rw [hd'] at hd; cases hd
theorem Inv.funs (I : Inv X pins σ H s) : s.heap.FunFrames X.base X.outer := by
  have all : ∀ (l : List Env), (∀ b ∈ frs l, b ∈ X.fs) → X.s₀.heap.FunFrames X.base l → s.heap.FunFrames X.base l := by
    intro l
    induction l with
    | nil => intro _ _; trivial
    | cons env r ih =>
      intro hs hl
      obtain ⟨hk, ⟨L, o, hf, hn, ho, hd⟩, hr⟩ := hl
      have hL : L ∈ X.fs := hs L (by unfold frs; rw [List.filterMap_cons, hf]; exact List.mem_cons_self)
      obtain ⟨sl, e⟩ := I.base.slot L o ho (I.ok.frf L hL) hL fun z => I.ok.exfs L z hL
      exact ⟨hk, ⟨L, _, hf, hn, e, hd⟩, ih (fun b hb => hs b (by unfold frs; rw [List.filterMap_cons, hf]; exact List.mem_cons_of_mem _ hb)) hr⟩
  exact all X.outer (fun _ hb => hb) I.ok.funs

/-- the frames that run, for a call -/
theorem Inv.stack (I : Inv X pins σ H s) : s.heap.FunFrames X.base X.stack := by
  rcases I.ok.stk with e | ⟨e, hf⟩
  · rw [e]; exact I.funs
  · rw [e]
    obtain ⟨m, hn, _⟩ := I.loc
    refine .cons (by rw [I.ok.kind]; decide) hf hn ?_ I.funs
    exact Heap.get?_none_of_le (Nat.le_trans I.ok.bsz I.ok.above)
theorem Inv.stkSub (I : Inv X pins σ H s) : ∀ b ∈ frs X.stack, b ∈ X.env.locals :: X.fs := fun b hb => by
  rcases I.ok.stk with e | ⟨e, hf⟩
  · rw [e] at hb; exact List.mem_cons_of_mem _ hb
  · rw [e] at hb
    unfold frs at hb
    rw [List.filterMap_cons, hf] at hb
    exact hb
theorem Inv.stkFree (I : Inv X pins σ H s) : ∀ b ∈ frs X.stack, H b = none := fun b hb => by
  rcases List.mem_cons.mp (I.stkSub b hb) with e | hb
  · rw [e]; exact I.free
  · obtain ⟨_, o, ho, _⟩ := I.ok.funs.mem hb
    exact I.base.free b o ho (I.ok.frf b hb) fun z => I.ok.exfs b z hb

/-- THE STEP: the untracked objects but the frame and the records at ch are kept (the callers' frames up to slots), the frame's map is kept, the new abstract heap is held -/
theorem Inv.step {g' : Array GenState} {t' : Nat} {d' : Drawn} {ch : List Addr} (I : Inv X pins σ H s)
    (hch : ∀ b ∈ ch, (b ∈ X.ex ∨ X.s₀.heap.objs.size ≤ b) ∧ b ≠ X.env.locals ∧ (∀ x c, X.env.cells.lookup x = some c → c ≠ b) ∧ ∀ p ∈ X.pn ++ pins, p.1 ≠ b)
    (keep : ∀ b o, b ≠ X.env.locals → b ∉ X.fs → b ∉ ch → s.heap.get? b = some o → H b = none → h'.get? b = some o)
    (slot : ∀ b o, b ≠ X.env.locals → b ∈ X.fs → b ∉ ch → s.heap.get? b = some o → H b = none → ∃ sl, h'.get? b = some { o with slots := sl }) (free : ∀ b o, b ∉ ch → s.heap.get? b = some o → H b = none → H' b = none)
    (there : ∀ b o, b ∉ ch → s.heap.get? b = some o → ∃ o', h'.get? b = some o')
    (tups : ∀ b xs, H b = some (.tup xs) → H' b = some (.tup xs)) (frzs : ∀ b o u, H b = some (.frz o u) → H' b = some (.frz o u)) (tbls : ∀ b ps, H b = some (.tbl ps) → ∃ more, H' b = some (.tbl (ps ++ more)))
    (ns : ∀ m, s.heap.Ns X.env.locals m → h'.Ns X.env.locals m) (hok : HOk X.prog X.w H' h') (hg : AllBare g') :
    Inv X pins σ H' { s with heap := h', gens := g', drawn := d', toks := t' } := by
  have neL : ∀ b o, X.s₀.heap.get? b = some o → b ≠ X.env.locals := fun b o e => Nat.ne_of_lt (Nat.lt_of_lt_of_le (Heap.lt_size e) I.ok.above)
  have neC : ∀ b o, X.s₀.heap.get? b = some o → b ∉ X.ex → b ∉ ch := fun b o e hx hb => by
    rcases (hch b hb).1 with z | z
    · exact hx z
    · exact absurd (Nat.lt_of_lt_of_le (Heap.lt_size e) z) (Nat.lt_irrefl _)
  have cellK : ∀ x c, X.env.cells.lookup x = some c → ∀ v, s.heap.IsCell c v → h'.IsCell c v := fun x c e v ⟨o, ho, hd⟩ => by
    have nch : c ∉ ch := fun z => (hch c z).2.2.1 x c e rfl
    by_cases hc : c ∈ X.fs
    · obtain ⟨sl, q⟩ := slot c o (I.cne x c e) hc nch ho (I.freeC x c e)
      exact ⟨_, q, hd⟩
    · exact ⟨o, keep c o (I.cne x c e) hc nch ho (I.freeC x c e), hd⟩
  refine ⟨I.ok, I.os, hg, ⟨fun b o e n hb hx => ?_, fun b o e n hb hx => ?_, fun b o e n hx => ?_, fun b o e hx => ?_, fun b xs e => tups b xs (I.base.tups b xs e), fun b o xs e => frzs b o xs (I.base.frzs b o xs e), fun b ps e => ?_⟩, ?_, fun x c e => ?_, ?_, fun x c e => ?_, fun p hp => ?_, hok, I.len⟩
  · exact keep b o (neL b o e) hb (neC b o e hx) (I.base.keep b o e n hb hx) (I.base.free b o e n hx)
  · obtain ⟨sl, e1⟩ := I.base.slot b o e n hb hx
    obtain ⟨sl', e2⟩ := slot b _ (neL b o e) hb (neC b o e hx) e1 (I.base.free b o e n hx)
    exact ⟨sl', e2⟩
  · obtain ⟨o', e1⟩ := I.base.there b o e hx
    exact free b o' (neC b o e hx) e1 (I.base.free b o e n hx)
  · obtain ⟨o', e1⟩ := I.base.there b o e hx
    exact there b o' (neC b o e hx) e1
  · obtain ⟨m1, e1⟩ := I.base.tbls b ps e
    obtain ⟨m2, e2⟩ := tbls b _ e1
    exact ⟨m1 ++ m2, by rw [e2, Array.append_assoc]⟩
  · obtain ⟨m, hn, hl⟩ := I.loc
    refine ⟨m, ns m hn, fun i x v e1 e2 e3 => ?_⟩
    obtain ⟨u, r, l⟩ := hl i x v e1 e2 e3
    refine ⟨u, r, ?_⟩
    rcases l with l | ⟨k, c, e, z⟩
    · exact .inl l
    · exact .inr ⟨k, c, e, cellK x c e _ z⟩
  · obtain ⟨v, z⟩ := I.cell x c e
    exact ⟨v, cellK x c e v z⟩
  · obtain ⟨m, ⟨o, _, _, ho, _⟩, _⟩ := I.loc
    exact free _ o (fun z => (hch _ z).2.1 rfl) ho I.free
  · obtain ⟨v, o, ho, hd⟩ := I.cell x c e
    exact free c o (fun z => (hch c z).2.2.1 x c e rfl) ho (I.freeC x c e)
  · obtain ⟨e, n, ne, nf, d⟩ := I.pin p hp
    have nch : p.1 ∉ ch := fun z => (hch p.1 z).2.2.2 p hp rfl
    exact ⟨keep p.1 p.2 ne nf nch e n, free p.1 p.2 nch e n, ne, nf, d⟩
/-- .. where the frame's own object is kept too -/
theorem Inv.un {t' : Nat} (I : Inv X pins σ H s) (u : Un X.fs [] H H' s.heap h') (hok : HOk X.prog X.w H' h') : Inv X pins σ H' { s with heap := h', toks := t' } := by
  obtain ⟨m, ⟨o, es, ep, ho, r⟩, _⟩ := id I.loc
  obtain ⟨sl, hL⟩ := u.any ho I.free (by simp)
  exact I.step (g' := s.gens) (d' := s.drawn) (ch := []) (fun _ z => nomatch z) (fun b o _ hb _ e n => u.keep b o e n hb (by simp)) (fun b o _ hb _ e n => u.slot b o e n hb (by simp)) (fun b o _ e n => u.free b o e n (by simp)) (fun b o _ e => u.there b o e (by simp)) u.tups u.frzs u.tbls (fun m' hm => by
    obtain ⟨o', es', ep', ho', r'⟩ := hm
    rw [ho] at ho'; cases ho'
    exact ⟨_, es', ep', hL, r'⟩) hok I.bare
/-- behind a call (or a comprehension's block): the slots of this frame may have changed too, the records at ch may have turned -/
theorem Inv.call {g' : Array GenState} {t' : Nat} {d' : Drawn} {ch : List Addr} (I : Inv X pins σ H s) (u : Un (frs X.stack) ch H H' s.heap h') (hok : HOk X.prog X.w H' h') (hg : AllBare g')
    (hch : ∀ b ∈ ch, (b ∈ X.ex ∨ X.s₀.heap.objs.size ≤ b) ∧ b ≠ X.env.locals ∧ (∀ x c, X.env.cells.lookup x = some c → c ≠ b) ∧ ∀ p ∈ X.pn ++ pins, p.1 ≠ b) :
    Inv X pins σ H' { s with heap := h', gens := g', drawn := d', toks := t' } := by
  obtain ⟨m, ⟨o, es, ep, ho, r⟩, _⟩ := id I.loc
  obtain ⟨sl, hL⟩ := u.any ho I.free fun z => (hch _ z).2.1 rfl
  exact I.step (ch := ch) hch (fun b o hL hb hc e n => u.keep b o e n (fun z => (List.mem_cons.mp (I.stkSub b z)).elim hL hb) hc) (fun b o _ _ hc e n => u.any e n hc) (fun b o hc e n => u.free b o e n hc) (fun b o hc e => u.there b o e hc) u.tups u.frzs u.tbls (fun m' hm => by
    obtain ⟨o', es', ep', ho', r'⟩ := hm
    rw [ho] at ho'; cases ho'
    exact ⟨_, es', ep', hL, r'⟩) hok hg
/-- an untracked record of ours (an iterator) has turned -/
theorem Inv.turned {t' : Nat} {it : Addr} (I : Inv X pins σ H s) (k : ∀ b o, b ≠ it → s.heap.get? b = some o → h'.get? b = some o) (hn : H it = none) (hL : it ≠ X.env.locals)
    (h1 : it ∈ X.ex ∨ X.s₀.heap.objs.size ≤ it) (h2 : ∀ x c, X.env.cells.lookup x = some c → c ≠ it) (h3 : ∀ p ∈ X.pn ++ pins, p.1 ≠ it) : Inv X pins σ H { s with heap := h', toks := t' } := by
  have nit : ∀ b u, H b = some u → b ≠ it := fun b u e z => by rw [z, hn] at e; cases e
  refine I.step (g' := s.gens) (d' := s.drawn) (ch := [it]) (fun b hb => ?_) (fun b o _ _ hc e _ => k b o (fun z => hc (by simp [z])) e) (fun b o _ _ hc e _ => ⟨o.slots, k b o (fun z => hc (by simp [z])) e⟩) (fun _ _ _ _ n => n)
    (fun b o hc e => ⟨o, k b o (fun z => hc (by simp [z])) e⟩) (fun _ _ e => e) (fun _ _ _ e => e) (fun b ps e => ⟨#[], by rw [e]; simp⟩) (fun m hm => ?_) (fun b u e => ?_) I.bare
  · have e : b = it := by simpa using hb
    subst e
    exact ⟨h1, hL, h2, h3⟩
  · obtain ⟨o, es, ep, ho, r⟩ := hm
    exact ⟨o, es, ep, k _ o (Ne.symm hL) ho, r⟩
  · refine (I.hok b u e).stay (fun c v hc q => k c v ?_ q) (fun _ q => q) fun _ _ q => q
    rcases hc with z | z
    · rw [z]; exact nit b u e
    · exact nit c _ z
theorem Inv.tok (I : Inv X pins σ H s) (t : Nat) : Inv X pins σ H { s with toks := t } := I.un (h' := s.heap) (t' := t) Un.refl I.hok
/-- all objects kept -/
theorem Inv.kept {t' : Nat} (I : Inv X pins σ H s) (k : ∀ b u, s.heap.get? b = some u → h'.get? b = some u) : Inv X pins σ H { s with heap := h', toks := t' } := I.un (Un.kept k) (I.hok.kept k)
/-- a new object laid and tracked -/
theorem Inv.laid {a : Addr} {o : HO} {t' : Nat} (I : Inv X pins σ H s) (k : ∀ b u, s.heap.get? b = some u → h'.get? b = some u) (hp : s.heap.objs.size ≤ a) (new : ObjOk X.prog X.w (upd H a o) h' a o) :
    Inv X pins σ (upd H a o) { s with heap := h', toks := t' } := I.un (Un.laid k hp (I.hok.fresh hp)) (I.hok.laid k hp new)
/-- an object written -/
theorem Inv.write {x e : Addr} {o : HO} {t' : Nat} (I : Inv X pins σ H s) (mu : Mut (H x)) (he : e = x ∨ H e = some (.own x)) (k : ∀ b u, b ≠ e → s.heap.get? b = some u → h'.get? b = some u) (heo : ∃ u, h'.get? e = some u)
    (new : ObjOk X.prog X.w (upd H x o) h' x o) : Inv X pins σ (upd H x o) { s with heap := h', toks := t' } := I.un (Un.write mu he k heo) (I.hok.write mu he k heo new)
theorem Inv.pins_of {pins' : List (Addr × Obj)} (I : Inv X pins σ H s) (h : ∀ p ∈ pins', s.heap.get? p.1 = some p.2 ∧ H p.1 = none ∧ p.1 ≠ X.env.locals ∧ p.1 ∉ X.fs ∧ ∀ v, p.2.data ≠ .cell v) : Inv X pins' σ H s :=
  ⟨I.ok, I.os, I.bare, I.base, I.loc, I.cell, I.free, I.freeC, fun p hp => (List.mem_append.mp hp).elim (fun z => I.pin p (List.mem_append_left _ z)) (h p), I.hok, I.len⟩

theorem nodup_ix {N : List Str} (hN : N.Nodup) {i j : Nat} {x : Str} (a : N[i]? = some x) (b : N[j]? = some x) : i = j := by
  obtain ⟨h1, e1⟩ := List.getElem?_eq_some_iff.mp a
  obtain ⟨h2, e2⟩ := List.getElem?_eq_some_iff.mp b
  exact (List.getElem_inj hN).mp (e1.trans e2.symm)

/-- a name is stored; what changed -/
theorem store_ok2 {M : Model} {A : Around} {E : Value → Shared → Prop} {i : Nat} {x : Str} {v : V} {u : Value} {Q : Unit → Shared → Prop} (I : Inv X pins σ H s) (hN : X.N.Nodup) (hi : X.N[i]? = some x) (hx : Loc X.env.scope x) (r : RelV v u)
    (h : ∀ s', Inv X pins (σ.set i (some v)) H s' → (∃ a, Heap.SameBut a s.heap s'.heap ∧ (a = X.env.locals ∨ X.env.cells.lookup x = some a)) → Q () s') (hf : X.fn x = true ∨ X.env.scope.names.lookup x = some .local := by first | exact .inl rfl | exact .inr rfl | assumption) : wpAny M A (storeName X.env x u) Q E s := by
  obtain ⟨m, hn, hl⟩ := id I.loc
  have hcls : (X.env.scope.kind == .class || (X.env.scope.kind == .module && X.env.locals != X.env.globals)) = false := by rw [I.ok.kind]; rfl
  have hiσ : i < σ.length := by rw [I.len]; exact (List.getElem?_eq_some_iff.mp hi).1
  have cne := I.cne
  have tracked : ∀ {a : Addr} {h' : Heap}, (∃ o, s.heap.get? a = some o ∧ H a = none) → Heap.SameBut a s.heap h' → HOk X.prog X.w H h' := fun {a h'} ha hs b ob e => by
    obtain ⟨_, _, hfree⟩ := ha
    refine (I.hok b ob e).stay (fun c w' hc q => (hs.2 c ?_).trans q) (fun _ q => q) fun _ _ q => q
    rintro rfl
    rcases hc with rfl | hc
    · rw [hfree] at e; cases e
    · rw [hfree] at hc; cases hc
  rcases hx with hk | hk
  · refine wpAny_storeName_local hk hn (fun h' hn' hs => ?_) hcls
    obtain ⟨oL, _, _, hoL, _⟩ := id hn
    refine h _ ⟨I.ok, I.os, I.bare, ⟨fun b o e n hb hx => ?_, fun b o e n hb hx => ?_, I.base.free, fun b o e hx => ?_, I.base.tups, I.base.frzs, I.base.tbls⟩, ⟨_, hn', fun j y v' e1 e2 e3 => ?_⟩, fun y c e => ?_, I.free, I.freeC, fun p hp => ?_, tracked ⟨oL, hoL, I.free⟩ hs, by simpa using I.len⟩ ⟨_, hs, .inl rfl⟩
    · exact (hs.2 b (Nat.ne_of_lt (Nat.lt_of_lt_of_le (Heap.lt_size e) I.ok.above))).trans (I.base.keep b o e n hb hx)
    · obtain ⟨sl, e1⟩ := I.base.slot b o e n hb hx
      exact ⟨sl, (hs.2 b (Nat.ne_of_lt (Nat.lt_of_lt_of_le (Heap.lt_size e) I.ok.above))).trans e1⟩
    · obtain ⟨o', e1⟩ := I.base.there b o e hx
      exact ⟨o', (hs.2 b (Nat.ne_of_lt (Nat.lt_of_lt_of_le (Heap.lt_size e) I.ok.above))).trans e1⟩
    · by_cases hj : j = i
      · subst hj
        rw [hi] at e1; cases e1
        rw [List.getElem?_set_self hiσ] at e2
        cases e2
        exact ⟨u, r, .inl ⟨hk, by simp⟩⟩
      · rw [List.getElem?_set_ne (Ne.symm hj)] at e2
        obtain ⟨u', r', q⟩ := hl j y v' e1 e2 e3
        refine ⟨u', r', ?_⟩
        rcases q with ⟨k, e⟩ | ⟨k, c, e, z⟩
        · refine .inl ⟨k, ?_⟩
          have : y ≠ x := fun e => hj (nodup_ix hN e1 (e ▸ hi))
          simp [this, e]
        · exact .inr ⟨k, c, e, z.sameBut hs (cne y c e)⟩
    · obtain ⟨w', z⟩ := I.cell y c e
      exact ⟨w', z.sameBut hs (cne y c e)⟩
    · obtain ⟨e, n, ne, nf, d⟩ := I.pin p hp
      exact ⟨(hs.2 p.1 ne).trans e, n, ne, nf, d⟩
  · have hfn : X.fn x = true := by
      rcases hf with z | z
      · exact z
      · rw [z] at hk; cases hk
    obtain ⟨c, hc⟩ := I.ok.has x (.inl hk)
    obtain ⟨w', z⟩ := I.cell x c hc
    refine wpAny_storeName_cell I.ok.kind hk hc z (fun h' hc' hs => ?_)
    obtain ⟨oc, hoc, hocd⟩ := id z
    refine h { s with heap := h' } ⟨I.ok, I.os, I.bare, ⟨fun b o e n hb hx => ?_, fun b o e n hb hx => ?_, I.base.free, fun b o e hx => ?_, I.base.tups, I.base.frzs, I.base.tbls⟩, ⟨m, hn.sameBut hs (Ne.symm (cne x c hc)), fun j y v' e1 e2 e3 => ?_⟩, fun y c' e => ?_, I.free, I.freeC, fun p hp => ?_, tracked ⟨oc, hoc, I.freeC x c hc⟩ hs, by simpa using I.len⟩ ⟨c, hs, .inr hc⟩
    · exact (hs.2 b (Nat.ne_of_lt (Nat.lt_of_lt_of_le (Heap.lt_size e) (I.ok.cab x c hfn hc)))).trans (I.base.keep b o e n hb hx)
    · obtain ⟨sl, e1⟩ := I.base.slot b o e n hb hx
      exact ⟨sl, (hs.2 b (Nat.ne_of_lt (Nat.lt_of_lt_of_le (Heap.lt_size e) (I.ok.cab x c hfn hc)))).trans e1⟩
    · obtain ⟨o', e1⟩ := I.base.there b o e hx
      exact ⟨o', (hs.2 b (Nat.ne_of_lt (Nat.lt_of_lt_of_le (Heap.lt_size e) (I.ok.cab x c hfn hc)))).trans e1⟩
    · by_cases hj : j = i
      · subst hj
        rw [hi] at e1; cases e1
        rw [List.getElem?_set_self hiσ] at e2
        cases e2
        exact ⟨u, r, .inr ⟨.inl hk, c, hc, hc'⟩⟩
      · rw [List.getElem?_set_ne (Ne.symm hj)] at e2
        obtain ⟨u', r', q⟩ := hl j y v' e1 e2 e3
        refine ⟨u', r', ?_⟩
        rcases q with q | ⟨k, c', e, z'⟩
        · exact .inl q
        · refine .inr ⟨k, c', e, z'.sameBut hs ?_⟩
          rintro rfl
          exact hj (nodup_ix hN e1 (I.ok.inj _ _ _ e hc ▸ hi))
    · by_cases hcc : c' = c
      · subst hcc; exact ⟨_, hc'⟩
      · obtain ⟨w2, z2⟩ := I.cell y c' e
        exact ⟨w2, z2.sameBut hs hcc⟩
    · obtain ⟨e, n, ne, nf, d⟩ := I.pin p hp
      refine ⟨(hs.2 p.1 ?_).trans e, n, ne, nf, d⟩
      intro q
      rw [q, hoc] at e
      have q' : oc = p.2 := Option.some.inj e
      exact d w' (by rw [← q']; exact hocd)
theorem store_ok {M : Model} {A : Around} {E : Value → Shared → Prop} {i : Nat} {x : Str} {v : V} {u : Value} {Q : Unit → Shared → Prop} (I : Inv X pins σ H s) (hN : X.N.Nodup) (hi : X.N[i]? = some x) (hx : Loc X.env.scope x) (r : RelV v u)
    (h : ∀ s', Inv X pins (σ.set i (some v)) H s' → Q () s') (hf : X.fn x = true ∨ X.env.scope.names.lookup x = some .local := by first | exact .inl rfl | exact .inr rfl | assumption) : wpAny M A (storeName X.env x u) Q E s :=
  store_ok2 I hN hi hx r (fun s' I' _ => h s' I') hf
/-- behind a call or a block, the state as it is -/
theorem Inv.call' {s' : Shared} {ch : List Addr} (I : Inv X pins σ H s) (ho : s'.os = s.os) (u : Un (frs X.stack) ch H H' s.heap s'.heap) (hok : HOk X.prog X.w H' s'.heap) (hg : AllBare s'.gens)
    (hch : ∀ b ∈ ch, (b ∈ X.ex ∨ X.s₀.heap.objs.size ≤ b) ∧ b ≠ X.env.locals ∧ (∀ x c, X.env.cells.lookup x = some c → c ≠ b) ∧ ∀ p ∈ X.pn ++ pins, p.1 ≠ b) : Inv X pins σ H' s' := by
  obtain ⟨h', g', d', t', o'⟩ := s'
  have e : o' = s.os := ho
  subst e
  exact I.call (g' := g') (t' := t') (d' := d') u hok hg hch
end

/-! ### the judgements -/
/-- an exception: its class, its own dict's address (where it has one), the abstract heap behind it -/
abbrev XK := Value → Option Addr → Hp → Prop
abbrev St := List (Option V)
abbrev VK := V → Hp → Prop
/-- an expression's reading; a test's; an argument list's -/
abbrev TE := St → Hp → VK → Prop
abbrev TT := St → Hp → (Bool → Hp → Prop) → Prop
abbrev TA := St → Hp → (List V → Hp → Prop) → Prop
/-- what is wanted behind a statement -/
structure Ends where
  nx : St → Hp → Prop
  rt : VK
  bk : St → Hp → Prop := fun _ _ => False
  ct : St → Hp → Prop := fun _ _ => False
abbrev TS := Ends → St → Hp → Prop

def EP (X : Cx) (pins : List (Addr × Obj)) (σ : St) (Q : VK) (u : Value) (s' : Shared) : Prop := ∃ v H', Inv X pins σ H' s' ∧ RelV v u ∧ Q v H'
def TP (X : Cx) (pins : List (Addr × Obj)) (σ : St) (Q : Bool → Hp → Prop) (b : Bool) (s' : Shared) : Prop := ∃ H', Inv X pins σ H' s' ∧ Q b H'
def AP (X : Cx) (pins : List (Addr × Obj)) (σ : St) (Q : List V → Hp → Prop) (us : List Value) (s' : Shared) : Prop := ∃ vs H', Inv X pins σ H' s' ∧ Vals vs us ∧ Q vs H'
def SP (X : Cx) (pins : List (Addr × Obj)) (D : Ends) (f : Flow) (s' : Shared) : Prop :=
  match f with
  | .next => ∃ σ' H', Inv X pins σ' H' s' ∧ D.nx σ' H'
  | .brk => ∃ σ' H', Inv X pins σ' H' s' ∧ D.bk σ' H'
  | .cont => ∃ σ' H', Inv X pins σ' H' s' ∧ D.ct σ' H'
  | .ret u => ∃ v σ' H', Inv X pins σ' H' s' ∧ RelV v u ∧ D.rt v H'

def PE (X : Cx) (e : Expr) (t : TE) : Prop :=
  ∀ (pins : List (Addr × Obj)) (s : Shared) (σ : St) (H : Hp) (Q : VK), Inv X pins σ H s → t σ H Q → wpAny (model X.prog X.w) X.A (eval e X.env) (EP X pins σ Q) X.xe s
def PT (X : Cx) (e : Expr) (t : TT) : Prop :=
  ∀ (pins : List (Addr × Obj)) (s : Shared) (σ : St) (H : Hp) (Q : Bool → Hp → Prop), Inv X pins σ H s → t σ H Q → wpAny (model X.prog X.w) X.A (isTrue e X.env (eval e X.env)) (TP X pins σ Q) X.xe s
/-- a test whatever its 'whole' is (and, or) -/
def PW (X : Cx) (e : Expr) (t : TT) : Prop :=
  ∀ (whole : Sem Value) (pins : List (Addr × Obj)) (s : Shared) (σ : St) (H : Hp) (Q : Bool → Hp → Prop), Inv X pins σ H s → t σ H Q → wpAny (model X.prog X.w) X.A (isTrue e X.env whole) (TP X pins σ Q) X.xe s
theorem PW.pt {X : Cx} {e : Expr} {t : TT} (h : PW X e t) : PT X e t := h _
/-- an argument list (no star), from the left -/
def PA (X : Cx) (es : List Expr) (t : TA) : Prop :=
  ∀ (pos : Pos) (pins : List (Addr × Obj)) (s : Shared) (σ : St) (H : Hp) (Q : List V → Hp → Prop), Inv X pins σ H s → t σ H Q → wpAny (model X.prog X.w) X.A (spliced (backTo pos (starEach es X.env))) (AP X pins σ Q) X.xe s
def PS (X : Cx) (st : Stmt) (t : TS) : Prop :=
  ∀ (pins : List (Addr × Obj)) (s : Shared) (σ : St) (H : Hp) (D : Ends), Inv X pins σ H s → t D σ H → wpAny (model X.prog X.w) X.A (exec st X.env) (SP X pins D) X.xe s
def PSs (X : Cx) (st : List Stmt) (t : TS) : Prop :=
  ∀ (pins : List (Addr × Obj)) (s : Shared) (σ : St) (H : Hp) (D : Ends), Inv X pins σ H s → t D σ H → wpAny (model X.prog X.w) X.A (execs st X.env) (SP X pins D) X.xe s
/-- weaken the end -/
theorem thn {α : Type} {t : Sem α} {Q Q' : α → Shared → Prop} {M : Model} {A : Around} {E : Value → Shared → Prop} {s : Shared} (h : wpAny M A t Q E s) (hQ : ∀ a s, Q a s → Q' a s) : wpAny M A t Q' E s := wpAny_mono h hQ fun _ _ x => x
end L2

namespace L2
open PySem PySem.Spec PyProof.Rows
section
variable {X : Cx}

/-! ### names and constants -/
def tVar (i : Nat) : TE := fun σ H Q => ∃ v, σ[i]? = some (some v) ∧ Q v H
def tC (v : V) : TE := fun _ H Q => Q v H
theorem pe_var {i : Nat} {x : Str} {pos : Pos} (hN : X.N[i]? = some x) (hv : Vis X.env.scope x) (hd : (x == ("__debug__" : Str)) = false := by decide) (hcd : (x == ("__classdict__" : Str)) = false := by decide) : PE X (.Name x pos) (tVar i) := by
  intro pins s σ H Q I h
  obtain ⟨v, e, h⟩ := h
  obtain ⟨m, hn, hl⟩ := I.loc
  obtain ⟨u, r, l⟩ := hl i x v hN e hv
  have fin : EP X pins σ Q u s := ⟨v, H, I, r, h⟩
  rcases l with ⟨hk, hm⟩ | ⟨hk, c, hc, hcell⟩
  · exact wpAny_Name (wpAny_loadName_local I.ok.kind hk hn hm fin) hd
  · rcases hk with hk | hk
    · exact wpAny_Name (wpAny_loadName_cell I.ok.kind hk hc hcell fin) hd
    · exact wpAny_Name (wpAny_loadName_free I.ok.kind hk hc hcell fin hcd) hd
theorem pe_int {i j pos} : PE X (.Constant (.int i) j pos) (tC (.int i)) := fun _ _ _ H _ I h => wpAny_Constant_int ⟨.int i, H, I.tok _, ⟨_, rfl⟩, h⟩
theorem pe_bl {b j pos} : PE X (.Constant (.bool b) j pos) (tC (.bl b)) := fun _ _ _ H _ I h => Constant_bool ⟨.bl b, H, I, rfl, h⟩
theorem pe_non {j pos} : PE X (.Constant .none j pos) (tC .non) := fun _ _ _ H _ I h => Constant_none ⟨.non, H, I, rfl, h⟩
theorem pe_str {x j pos} : PE X (.Constant (.str x) j pos) (tC (.str x)) := fun _ _ _ H _ I h => Calls.Constant_str ⟨.str x, H, I.tok _, ⟨_, rfl⟩, h⟩

/-- a global name of the def -/
def Gl (X : Cx) (x : Str) : Prop := X.env.kindOf x = some .globalImplicit
theorem ld_glob {E : Value → Shared → Prop} {pins : List (Addr × Obj)} {s : Shared} {σ : St} {H : Hp} {x : Str} {u : Value} {pos : Pos} {Q : Value → Shared → Prop} (I : Inv X pins σ H s) (hg : Gl X x) (hm : X.mg x = some u) (h : Q u s)
    (hd : (x == ("__debug__" : Str)) = false := by decide) : wpAny (model X.prog X.w) X.A (eval (.Name x pos) X.env) Q E s :=
  Calls.Name_function_global I.ok.kind hg (Calls.loadGlobal_global (by rw [I.ok.glob]; exact I.mod.glob.keeps I.bk) hm h) hd
theorem ld_blt {E : Value → Shared → Prop} {pins : List (Addr × Obj)} {s : Shared} {σ : St} {H : Hp} {x : Str} {u : Value} {pos : Pos} {Q : Value → Shared → Prop} (I : Inv X pins σ H s) (hg : Gl X x) (hm : X.mg x = none) (hv : bootBuiltins x = some u) (h : Q u s)
    (hn : x ≠ "__name__" := by decide) (hd : (x == ("__debug__" : Str)) = false := by decide) : wpAny (model X.prog X.w) X.A (eval (.Name x pos) X.env) Q E s := by
  obtain ⟨mb, h1, h2⟩ := I.mod.blt
  exact Calls.Name_function_global I.ok.kind hg (Calls.loadGlobal_builtin (by rw [I.ok.glob]; exact I.mod.glob.keeps I.bk) hm (by rw [I.ok.blt]; exact h1.keeps I.bk) ((h2 x hn).trans hv) h) hd
theorem pe_bltn {x : Str} {v : V} {u : Value} {pos : Pos} (hg : Gl X x) (hm : X.mg x = none) (hv : bootBuiltins x = some u) (r : RelV v u) (hn : x ≠ "__name__" := by decide) (hd : (x == ("__debug__" : Str)) = false := by decide) : PE X (.Name x pos) (tC v) :=
  fun _ _ _ H _ I h => ld_blt I hg hm hv ⟨v, H, I, r, h⟩ hn hd

/-! ### arithmetic -/
/-- two ints -/
def t2I (ta tb : TE) (k : Int → Int → Hp → Prop) : St → Hp → Prop := fun σ H => ta σ H fun x H1 => tb σ H1 fun y H2 => ∃ i j, x = .int i ∧ y = .int j ∧ k i j H2
def tAdd (ta tb : TE) : TE := fun σ H Q => t2I ta tb (fun i j H2 => Q (.int (i + j)) H2) σ H
def tSub (ta tb : TE) : TE := fun σ H Q => t2I ta tb (fun i j H2 => Q (.int (i - j)) H2) σ H
/-- the left factor below 2^64 -/
def tMul (ta tb : TE) : TE := fun σ H Q => t2I ta tb (fun i j H2 => (-(2 ^ 64) < i ∧ i < 2 ^ 64) ∧ Q (.int (i * j)) H2) σ H
variable {a b : Expr} {ta tb : TE} {pos : Pos}
/-! ### comparisons -/
def PC (X : Cx) (op : CmpOp) (a b : Expr) (t : TE) : Prop :=
  ∀ (pins : List (Addr × Obj)) (s : Shared) (σ : St) (H : Hp) (Q : VK), Inv X pins σ H s → t σ H Q →
    wpAny (model X.prog X.w) X.A (eval a X.env) (fun v s₁ => wpAny (model X.prog X.w) X.A (eval b X.env) (fun u s₂ => wpAny (model X.prog X.w) X.A (compareOp op v u) (EP X pins σ Q) X.xe s₂) X.xe s₁) X.xe s
def tCmp (p : Int → Int → Bool) (ta tb : TE) : TE := fun σ H Q => t2I ta tb (fun i j H2 => Q (.bl (p i j)) H2) σ H
abbrev tLt : TE → TE → TE := tCmp fun i j => decide (i < j)
abbrev tLe : TE → TE → TE := tCmp fun i j => decide (i ≤ j)
abbrev tGt : TE → TE → TE := tCmp fun i j => decide (j < i)
abbrev tGe : TE → TE → TE := tCmp fun i j => decide (j ≤ i)
abbrev tEqI : TE → TE → TE := tCmp fun i j => decide (i = j)
abbrev tNeI : TE → TE → TE := tCmp fun i j => !decide (i = j)
/-- is None -/
def tIsN (ta : TE) : TE := fun σ H Q => ta σ H fun x H1 => Q (.bl (decide (x = .non))) H1
def tNotN (ta : TE) : TE := fun σ H Q => ta σ H fun x H1 => Q (.bl (!decide (x = .non))) H1
/-- a comparison as a value, as a test -/
def tB (t : TE) : TT := fun σ H Q => t σ H fun x H1 => ∃ c, x = .bl c ∧ Q c H1
/-- an expression whose value is a bool, as a test -/
theorem pt_val {e : Expr} {t : TE} (h : PE X e t) (he : ∀ whole, isTrue e X.env whole = (do let v ← whole; standAt e.pos; holding [v] (truthy v)) := by intro _; rfl) : PT X e (tB t) := by
  intro pins s σ H Q I hw
  refine isTrue_plain (thn (h pins s σ H _ I hw) fun v s1 ⟨x, H1, I1, r1, q1⟩ => ?_) (he _)
  obtain ⟨d, rfl, q⟩ := q1
  cases r1
  exact wpAny_truthy_bool ⟨H1, I1, q⟩

/-! ### and, or, not -/
variable {tA tB' : TT} {rest : List Expr}
def tAnd (t u : TT) : TT := fun σ H Q => t σ H fun c H1 => if c = true then u σ H1 Q else Q false H1
def tOr (t u : TT) : TT := fun σ H Q => t σ H fun c H1 => if c = true then Q true H1 else u σ H1 Q
def tNot (t : TT) : TT := fun σ H Q => t σ H fun c H1 => Q (!c) H1
theorem pw_and1 (ha : PT X a tA) : PW X (.BoolOp .And [a] pos) tA := by
  intro wh pins s σ H Q I h
  refine isTrue_and (thn (ha pins s σ H Q I h) fun c s1 e => ?_)
  cases c with
  | true => exact isTrue_and_nil e
  | false => exact e
theorem pw_and (ha : PT X a tA) (hb : PW X (.BoolOp .And (b :: rest) pos) tB') : PW X (.BoolOp .And (a :: b :: rest) pos) (tAnd tA tB') := by
  intro wh pins s σ H Q I h
  refine isTrue_and (thn (ha pins s σ H _ I h) fun c s1 ⟨H1, I1, q1⟩ => ?_)
  cases c with
  | true => exact hb wh pins s1 σ H1 Q I1 q1
  | false => exact ⟨H1, I1, q1⟩
theorem pt_not (ha : PT X a tA) : PT X (.UnaryOp .Not a pos) (tNot tA) := by
  intro pins s σ H Q I h
  exact isTrue_not (ha pins s σ H (fun c H1 => Q (!c) H1) I h)
/-- .. as values (bools) -/
def tAndV (ta tb : TE) : TE := fun σ H Q => ta σ H fun x H1 => ∃ c, x = .bl c ∧ if c = true then tb σ H1 Q else Q (.bl false) H1
def tOrV (ta tb : TE) : TE := fun σ H Q => ta σ H fun x H1 => ∃ c, x = .bl c ∧ if c = true then Q (.bl true) H1 else tb σ H1 Q
def tNotV (ta : TE) : TE := fun σ H Q => ta σ H fun x H1 => ∃ c, x = .bl c ∧ Q (.bl (!c)) H1
theorem pe_one {op} {t : TE} (h : PE X a t) : PE X (.BoolOp op [a] pos) t := fun pins s σ H Q I hw => BoolOp_one (h pins s σ H Q I hw)
theorem pe_and (ha : PE X a ta) (hb : PE X (.BoolOp .And (b :: rest) pos) tb) : PE X (.BoolOp .And (a :: b :: rest) pos) (tAndV ta tb) := by
  intro pins s σ H Q I h
  refine BoolOp_and (thn (ha pins s σ H _ I h) fun v s1 ⟨x, H1, I1, r1, q1⟩ => ?_)
  obtain ⟨c, rfl, q1⟩ := q1
  cases r1
  refine wpAny_truthy_bool ?_
  cases c with
  | true => exact hb pins s1 σ H1 Q I1 q1
  | false => exact ⟨.bl false, H1, I1, rfl, q1⟩
theorem pe_not (ha : PE X a ta) : PE X (.UnaryOp .Not a pos) (tNotV ta) := by
  intro pins s σ H Q I h
  refine UnaryOp_ (thn (ha pins s σ H _ I h) fun v s1 ⟨x, H1, I1, r1, q1⟩ => ?_)
  obtain ⟨c, rfl, q1⟩ := q1
  cases r1
  exact not_of (wpAny_truthy_bool ⟨.bl (!c), H1, I1, rfl, q1⟩)
/-- a if t else b -/
def tIf (t : TT) (ta tb : TE) : TE := fun σ H Q => t σ H fun c H1 => if c = true then ta σ H1 Q else tb σ H1 Q
theorem pe_ifExp {c : Expr} (hc : PT X c tA) (ha : PE X a ta) (hb : PE X b tb) : PE X (.IfExp c a b pos) (tIf tA ta tb) := by
  intro pins s σ H Q I h
  refine wpAny_IfExp (thn (hc pins s σ H _ I h) fun d s1 ⟨H1, I1, q1⟩ => ?_)
  cases d with
  | true => exact ha pins s1 σ H1 Q I1 q1
  | false => exact hb pins s1 σ H1 Q I1 q1
end
end L2

namespace L2
open PySem PySem.Spec PyProof.Rows

/-! ### a list, a tuple that is read: tracked, frozen, or an object of the module -/
def SqL (K : PySem.W.Frag) (H : Hp) (a : Addr) (xs : List V) : Prop :=
  Rd H a (.lst xs) ∨
    ∃ (o : Obj) (its : Array Value) (n : Nat), K.lookup a = some o ∧ o.cls = .type "list" ∧ o.dict = none ∧ o.data = .seq its n ∧ its.size ≤ sizeLine ∧ Vals xs its.toList
def SqT (K : PySem.W.Frag) (H : Hp) (a : Addr) (xs : List V) : Prop :=
  Rd H a (.tup xs) ∨
    ∃ (o : Obj) (its : Array Value) (n : Nat), K.lookup a = some o ∧ o.cls = .type "tuple" ∧ o.data = .seq its n ∧ its.size ≤ sizeLine ∧ Vals xs its.toList
def absV : Value → Option V
  | .none => some .non
  | .bool b => some (.bl b)
  | .int i _ => some (.int i)
  | .str x _ => some (.str x)
  | .bytes b _ => some (.byt b)
  | .float b _ => some (.flt b)
  | .ref a => some (.ref a)
  | .type n => some (.ty n)
  | _ => none
theorem RelV.abs {x : V} {u : Value} (r : RelV x u) : absV u = some x := by
  cases x with
  | non => cases r; rfl
  | bl _ => cases r; rfl
  | int _ => obtain ⟨t, rfl⟩ := r; rfl
  | str _ => obtain ⟨t, rfl⟩ := r; rfl
  | byt _ => obtain ⟨t, rfl⟩ := r; rfl
  | flt _ => obtain ⟨t, rfl⟩ := r; rfl
  | ref _ => cases r; rfl
  | ty _ => cases r; rfl
theorem RelV.inj {x y : V} {u : Value} (r : RelV x u) (q : RelV y u) : x = y := Option.some.inj (r.abs.symm.trans q.abs)
theorem Vals.inj : ∀ {xs ys : List V} {us : List Value}, Vals xs us → Vals ys us → xs = ys
  | _, _, _, .nil, .nil => rfl
  | _, _, _, .cons r t, .cons r' t' => by rw [r.inj r', Vals.inj t t']
section
variable {X : Cx} {pins : List (Addr × Obj)} {σ : St} {H : Hp} {s : Shared} {a : Addr} {xs ys : List V}
theorem SqL.of {K : PySem.W.Frag} (h : H a = some (.lst xs)) : SqL K H a xs := .inl (.inl h)
theorem SqT.of {K : PySem.W.Frag} (h : H a = some (.tup xs)) : SqT K H a xs := .inl (.inl h)
theorem Inv.list (I : Inv X pins σ H s) (h : SqL X.K H a xs) : ∃ its : List Value, Vals xs its ∧ PlainL s.heap a its.toArray ∧ xs.length ≤ sizeLine := by
  rcases h with h | ⟨o, its, n, hk, hc, hd, hs, hz, r⟩
  · obtain ⟨z, its, n, r, e⟩ := h.ok I.hok
    exact ⟨its, r, ⟨_, n, e, rfl, rfl, rfl⟩, z⟩
  · refine ⟨its.toList, r, ⟨o, n, I.kIn a o hk, hc, hd, by simpa using hs⟩, ?_⟩
    have e := r.length
    simp only [Array.length_toList] at e
    omega
theorem Inv.tuple (I : Inv X pins σ H s) (h : SqT X.K H a xs) : ∃ its : List Value, Vals xs its ∧ IsTup s.heap a its.toArray ∧ xs.length ≤ sizeLine := by
  rcases h with h | ⟨o, its, n, hk, hc, hs, hz, r⟩
  · obtain ⟨z, its, r, p⟩ := h.ok I.hok
    exact ⟨its, r, p, z⟩
  · refine ⟨its.toList, r, ⟨o, I.kIn a o hk, hc, n, by simpa using hs⟩, ?_⟩
    have e := r.length
    simp only [Array.length_toList] at e
    omega
theorem Inv.list_inj (I : Inv X pins σ H s) (h : SqL X.K H a xs) (h' : SqL X.K H a ys) : xs = ys := by
  obtain ⟨its, r, ⟨o, n, e, _, _, d⟩, _⟩ := I.list h
  obtain ⟨its', r', ⟨o', n', e', _, _, d'⟩, _⟩ := I.list h'
  rw [e] at e'; cases e'
  rw [d] at d'
  injection d' with d1 _
  have : its = its' := by simpa using congrArg Array.toList d1
  subst this
  exact r.inj r'
end

/-! ### another wish about exceptions -/
abbrev Cx.wish (X : Cx) (E : Value → Shared → Prop) : Cx := { X with xe := E }
/-- no exception leaves -/
abbrev Cx.nox (X : Cx) : Cx := X.wish fun _ _ => False
theorem Cx.Ok.wish {X : Cx} (ok : X.Ok) (E : Value → Shared → Prop) : (X.wish E).Ok :=
  ⟨ok.mod, ok.kind, ok.glob, ok.blt, ok.above, ok.inj, ok.has, ok.cab, ok.hd, ok.frames, ok.stk, ok.exf, ok.bs, ok.bsz, ok.noex, ok.exfs, ok.funs, ok.frf⟩
theorem Cx.Ok.unwish {X : Cx} {E : Value → Shared → Prop} (ok : (X.wish E).Ok) : X.Ok :=
  ⟨ok.mod, ok.kind, ok.glob, ok.blt, ok.above, ok.inj, ok.has, ok.cab, ok.hd, ok.frames, ok.stk, ok.exf, ok.bs, ok.bsz, ok.noex, ok.exfs, ok.funs, ok.frf⟩
section
variable {X : Cx} {pins : List (Addr × Obj)} {σ : St} {H : Hp} {s : Shared} {E : Value → Shared → Prop}
theorem Inv.wish (I : Inv X pins σ H s) (E : Value → Shared → Prop) : Inv (X.wish E) pins σ H s := ⟨I.ok.wish E, I.os, I.bare, I.base, I.loc, I.cell, I.free, I.freeC, I.pin, I.hok, I.len⟩
theorem Inv.unwish (I : Inv (X.wish E) pins σ H s) : Inv X pins σ H s := ⟨I.ok.unwish, I.os, I.bare, I.base, I.loc, I.cell, I.free, I.freeC, I.pin, I.hok, I.len⟩
theorem SP.unwish {D : Ends} {f : Flow} {s' : Shared} (h : SP (X.wish E) pins D f s') : SP X pins D f s' := by
  cases f with
  | next => obtain ⟨σ', H', I, q⟩ := h; exact ⟨σ', H', I.unwish, q⟩
  | brk => obtain ⟨σ', H', I, q⟩ := h; exact ⟨σ', H', I.unwish, q⟩
  | cont => obtain ⟨σ', H', I, q⟩ := h; exact ⟨σ', H', I.unwish, q⟩
  | ret u => obtain ⟨v, σ', H', I, r, q⟩ := h; exact ⟨v, σ', H', I.unwish, r, q⟩
theorem PE.nox {e : Expr} {t : TE} (h : PE X.nox e t) : PE X e t := fun pins s σ H Q I hw =>
  wpAny_mono (h pins s σ H Q (I.wish _) hw) (fun _ _ ⟨v, H', I', r, q⟩ => ⟨v, H', I'.unwish, r, q⟩) fun _ _ z => False.elim z
theorem PT.nox {e : Expr} {t : TT} (h : PT X.nox e t) : PT X e t := fun pins s σ H Q I hw =>
  wpAny_mono (h pins s σ H Q (I.wish _) hw) (fun _ _ ⟨H', I', q⟩ => ⟨H', I'.unwish, q⟩) fun _ _ z => False.elim z
theorem PSs.nox {st : List Stmt} {t : TS} (h : PSs X.nox st t) : PSs X st t := fun pins s σ H D I hw =>
  wpAny_mono (h pins s σ H D (I.wish _) hw) (fun _ _ q => q.unwish) fun _ _ z => False.elim z
end

/-! ### blocks and small statements -/
section
variable {X : Cx} {st : Stmt} {rest : List Stmt} {t u : TS} {e : Expr} {te : TE} {pos : Pos}
def tNext : TS := fun D σ H => D.nx σ H
def tSeq (t u : TS) : TS := fun D σ H => t { D with nx := u D } σ H
theorem pss_nil : PSs X [] tNext := fun _ _ σ H _ I h => wpAny_execs_nil ⟨σ, H, I, h⟩
theorem pss_cons (h1 : PS X st t) (h2 : PSs X rest u) : PSs X (st :: rest) (tSeq t u) := by
  intro pins s σ H D I h
  refine wpAny_execs_cons (thn (h1 pins s σ H { D with nx := u D } I h) fun f s1 q => ?_)
  cases f with
  | next =>
    obtain ⟨σ', H', I', q⟩ := q
    exact h2 pins s1 σ' H' D I' q
  | ret v => exact q
  | brk => exact q
  | cont => exact q
theorem pss_one (h1 : PS X st t) : PSs X [st] t := by
  intro pins s σ H D I h
  refine wpAny_execs_cons (thn (h1 pins s σ H D I h) fun f s1 q => ?_)
  cases f with
  | next => exact wpAny_execs_nil q
  | ret v => exact q
  | brk => exact q
  | cont => exact q
def tBreak : TS := fun D σ H => D.bk σ H
def tCont : TS := fun D σ H => D.ct σ H
/-- in a def's body nothing is shown -/
theorem Inv.quiet {pins : List (Addr × Obj)} {σ : St} {H : Hp} {s : Shared} (I : Inv X pins σ H s) : interactive X.env = false := by simp [interactive, I.ok.kind]
/-- an expression whose value is dropped -/
def tDrop (te : TE) : TS := fun D σ H => te σ H fun _ H1 => D.nx σ H1
theorem ps_expr (he : PE X e te) (hs : swapsWith e none pos.line X.env = pure false := by rfl) : PS X (.Expr e pos) (tDrop te) := by
  intro pins s σ H D I h
  exact wpAny_Expr_any (thn (he pins s σ H _ I h) fun v s1 ⟨x, H1, I1, r1, q1⟩ => ⟨σ, H1, I1, q1⟩) I.quiet hs
def tRet (te : TE) : TS := fun D σ H => te σ H D.rt
theorem ps_ret (he : PE X e te) : PS X (.Return (some e) pos) (tRet te) := by
  intro pins s σ H D I h
  exact wpAny_Return_some (thn (he pins s σ H _ I h) fun v s1 ⟨x, H1, I1, r1, q1⟩ => ⟨x, σ, H1, I1, r1, q1⟩)
def tRetN : TS := fun D _ H => D.rt .non H
def tIfS (c : TT) (t u : TS) : TS := fun D σ H => c σ H fun b H1 => if b = true then t D σ H1 else u D σ H1
theorem ps_if {c : Expr} {a b : List Stmt} {tc : TT} (hc : PT X c tc) (ha : PSs X a t) (hb : PSs X b u) : PS X (.If c a b pos) (tIfS tc t u) := by
  intro pins s σ H D I h
  refine wpAny_If (thn (hc pins s σ H _ I h) fun d s1 ⟨H1, I1, q1⟩ => ?_)
  cases d with
  | true => exact ha pins s1 σ H1 D I1 q1
  | false => exact hb pins s1 σ H1 D I1 q1
/-- code that the proof never comes to -/
def tNever : TS := fun _ _ _ => False
end

/-! ### targets -/
abbrev TG := V → St → Hp → (St → Hp → Prop) → Prop
abbrev TGs := List V → St → Hp → (St → Hp → Prop) → Prop
def PG (X : Cx) (target : Expr) (t : TG) : Prop :=
  ∀ (pins : List (Addr × Obj)) (s : Shared) (σ : St) (H : Hp) (v : V) (u : Value) (Q : St → Hp → Prop), Inv X pins σ H s → RelV v u → t v σ H Q →
    wpAny (model X.prog X.w) X.A (assign target X.env u) (fun _ s' => ∃ σ' H', Inv X pins σ' H' s' ∧ Q σ' H') X.xe s
/-- several targets, one after another -/
def PGs (X : Cx) (ts : List Expr) (t : TGs) : Prop :=
  ∀ (pins : List (Addr × Obj)) (s : Shared) (σ : St) (H : Hp) (vs : List V) (us : List Value) (Q : St → Hp → Prop), Inv X pins σ H s → Vals vs us → t vs σ H Q →
    wpAny (model X.prog X.w) X.A (assignInOrder ((assignEach ts X.env).map (·.2)) us) (fun _ s' => ∃ σ' H', Inv X pins σ' H' s' ∧ Q σ' H') X.xe s
/-- o[i] = v, by values -/
abbrev TSet := V → V → V → Hp → (Hp → Prop) → Prop
def PSet (X : Cx) (t : TSet) : Prop :=
  ∀ (pins : List (Addr × Obj)) (s : Shared) (σ : St) (H : Hp) (o i v : V) (ov iv u : Value) (Q : Hp → Prop), Inv X pins σ H s → RelV o ov → RelV i iv → RelV v u → t o i v H Q →
    wpAny (model X.prog X.w) X.A (setItem ov iv u) (fun _ s' => ∃ H', Inv X pins σ H' s' ∧ Q H') X.xe s
/-- a op= b, by values -/
abbrev TIp := V → V → Hp → VK → Prop
def PIp (X : Cx) (op : Operator) (t : TIp) : Prop :=
  ∀ (pins : List (Addr × Obj)) (s : Shared) (σ : St) (H : Hp) (x y : V) (v u : Value) (Q : VK), Inv X pins σ H s → RelV x v → RelV y u → t x y H Q →
    wpAny (model X.prog X.w) X.A (inplaceOp op v u) (EP X pins σ Q) X.xe s
section
variable {X : Cx} {pos : Pos}
def gName (i : Nat) : TG := fun v σ H Q => Q (σ.set i (some v)) H
theorem pg_name {i : Nat} {x : Str} (hN : X.N.Nodup) (hi : X.N[i]? = some x) (hx : Loc X.env.scope x) (hf : X.fn x = true ∨ X.env.scope.names.lookup x = some .local := by first | exact .inl rfl | exact .inr rfl | assumption) : PG X (.Name x pos) (gName i) := by
  intro pins s σ H v u Q I r h
  exact wpAny_assign_Name (store_ok I hN hi hx r (fun s' I' => ⟨_, H, I', h⟩) hf)
def gNil : TGs := fun vs σ H Q => vs = [] ∧ Q σ H
def gCons (t : TG) (u : TGs) : TGs := fun vs σ H Q => ∃ v r, vs = v :: r ∧ t v σ H fun σ' H' => u r σ' H' Q
theorem pgs_nil : PGs X [] gNil := by
  intro pins s σ H vs us Q I r h
  obtain ⟨e, h⟩ := h
  subst e
  cases r
  exact assignInOrder_nil ⟨σ, H, I, h⟩
theorem pgs_cons {e : Expr} {es : List Expr} {t : TG} {u : TGs} (h1 : PG X e t) (h2 : PGs X es u)
    (hs : (assignEach (e :: es) X.env).map (·.2) = assign e X.env :: (assignEach es X.env).map (·.2) := by rfl) : PGs X (e :: es) (gCons t u) := by
  intro pins s σ H vs us Q I r h
  obtain ⟨v, vr, e1, h⟩ := h
  subst e1
  cases r with
  | cons r rr =>
    rw [hs]
    refine assignInOrder_cons (thn (h1 pins s σ H _ _ _ I r h) fun _ s1 ⟨σ1, H1, I1, q1⟩ => ?_)
    exact h2 pins s1 σ1 H1 _ _ Q I1 rr q1
/-- (a, b, ..) = a tuple of that length -/
def gTup (K : PySem.W.Frag) (n : Nat) (t : TGs) : TG := fun v σ H Q => ∃ a xs, v = .ref a ∧ SqT K H a xs ∧ xs.length = n ∧ t xs σ H Q
theorem pg_tup {es : List Expr} {k : Nat} {t : TGs} {n : Nat} (hc : X.calm = true) (h : PGs X es t)
    (hn : (assignEach es X.env).length = n := by rfl) (hst : (assignEach es X.env).findIdx? (·.1) = none := by rfl) : PG X (.Tuple es k pos) (gTup X.K n t) := by
  intro pins s σ H v u Q I r hw
  obtain ⟨a, xs, e1, hq, hl, hw⟩ := hw
  subst e1
  cases r
  obtain ⟨its, rv, ht, hz⟩ := I.tuple hq
  refine assign_Tuple_tuple (I.ok.hd hc) ht (by simp [hn, ← hl, rv.length]) hst fun h' hx => ?_
  have I1 : Inv X pins σ H { s with heap := h' } := I.kept (t' := s.toks) fun b o e => hx b o (Nat.ne_of_lt (Heap.lt_size e)) e
  exact h pins _ σ H xs _ Q I1 (by simpa using rv) hw
/-- o[i] = .. -/
def gSub (to ti : TE) (t : TSet) : TG := fun v σ H Q => to σ H fun o H1 => ti σ H1 fun i H2 => t o i v H2 fun H3 => Q σ H3
/-- target = value -/
def tAsg (te : TE) (g : TG) : TS := fun D σ H => te σ H fun x H1 => g x σ H1 D.nx
/-- name = value -/
theorem ps_set {i : Nat} {x : Str} {e : Expr} {te : TE} {pos' : Pos} (hN : X.N.Nodup) (hi : X.N[i]? = some x) (hx : Loc X.env.scope x) (he : PE X e te) (hs : swapsWith e (some (.Name x pos')) pos.line X.env = pure false := by rfl) (hf : X.fn x = true ∨ X.env.scope.names.lookup x = some .local := by first | exact .inl rfl | exact .inr rfl | assumption) :
    PS X (.Assign [.Name x pos'] e pos) (tAsg te (gName i)) := by
  intro pins s σ H D I h
  refine wpAny_Assign_Name (thn (he pins s σ H _ I h) fun v s1 ⟨y, H1, I1, r1, q1⟩ => ?_) hs
  exact store_ok I1 hN hi hx r1 (fun s2 I2 => ⟨_, H1, I2, q1⟩) hf
/-- a, b = x, y with plain local names: stored from the right; the pair itself is not tracked (the opening rows as in PyProof/Rows/TupAssign.lean:23) -/
def tPar (i j : Nat) (ta : TA) : TS := fun D σ H => ta σ H fun vs H1 => ∃ v w, vs = [v, w] ∧ D.nx ((σ.set i (some v)).set j (some w)) H1
/-- name op= e -/
def tAug (i : Nat) (te : TE) (ti : TIp) : TS := fun D σ H => ∃ x, σ[i]? = some (some x) ∧ te σ H fun y H1 => ti x y H1 fun z H2 => D.nx (σ.set i (some z)) H2
/-- o[i] op= e -/
def tAugS (to ti te : TE) (tget : V → V → Hp → VK → Prop) (tip : TIp) (tset : TSet) : TS := fun D σ H => to σ H fun o H1 => ti σ H1 fun i H2 => tget o i H2 fun x H3 => te σ H3 fun y H4 => tip x y H4 fun z H5 => tset o i z H5 fun H6 => D.nx σ H6
/-- o[i], by values -/
def PGet (X : Cx) (t : V → V → Hp → VK → Prop) : Prop :=
  ∀ (pins : List (Addr × Obj)) (s : Shared) (σ : St) (H : Hp) (o i : V) (ov iv : Value) (Q : VK), Inv X pins σ H s → RelV o ov → RelV i iv → t o i H Q →
    wpAny (model X.prog X.w) X.A (getItem ov iv) (EP X pins σ Q) X.xe s
/-- ints -/
def ipI (f : Int → Int → Int) : TIp := fun x y H Q => ∃ i j, x = .int i ∧ y = .int j ∧ Q (.int (f i j)) H
end

/-! ### while -/
section
variable {X : Cx} {pos : Pos}
/-- the invariant W with its measure -/
def tWhile (c : TT) (tb : TS) : TS := fun D σ H => ∃ W : Nat → St → Hp → Prop, (∃ m, W m σ H) ∧ ∀ m σ H, W m σ H →
  c σ H fun b H1 => if b = true then ∃ N : St → Hp → Prop, (∀ σ' H', N σ' H' → ∃ m', m' < m ∧ W m' σ' H') ∧ tb { D with nx := N, ct := N, bk := D.nx } σ H1 else D.nx σ H1
end

/-! ### what a loop or a comprehension walks -/
/-- at turn i: it yields x (the heap may grow), or it stops -/
structure It where
  go : Nat → Hp → Prop
  yld : Nat → Hp → V → Hp → Prop
  stop : Nat → Hp → Prop
/-- the iterator's own objects may turn: they are not the frame's, not pinned, younger than the entry (or a comprehension's own) -/
def FpOk (X : Cx) (pins : List (Addr × Obj)) (H : Hp) (b : Addr) : Prop :=
  H b = none ∧ b ≠ X.env.locals ∧ b ∉ X.fs ∧ (b ∈ X.ex ∨ X.s₀.heap.objs.size ≤ b) ∧ (∀ x c, X.env.cells.lookup x = some c → c ≠ b) ∧ ∀ p ∈ X.pn ++ pins, p.1 ≠ b
theorem Inv.fpOk {X : Cx} {pins : List (Addr × Obj)} {σ : St} {H H' : Hp} {s : Shared} {b : Addr} (I : Inv X pins σ H s) (hb : s.heap.objs.size ≤ b) (hn : H' b = none) : FpOk X pins H' b := by
  refine ⟨hn, Nat.ne_of_gt (Nat.lt_of_lt_of_le I.lt hb), I.nofs hb, .inr (Nat.le_trans I.sz hb), fun x c e z => ?_, fun p hp z => ?_⟩
  · obtain ⟨v, q⟩ := I.cell x c e
    exact absurd (Nat.lt_of_lt_of_le q.lt (by rw [z]; exact hb)) (Nat.lt_irrefl _)
  · exact absurd (Nat.lt_of_lt_of_le (Heap.lt_size (I.pin p hp).1) (by rw [z]; exact hb)) (Nat.lt_irrefl _)
structure Turn (P : Program) (w : World) (K : PySem.W.Frag) (tg : Expr) (J : It) (fp : List Addr) (it : Addr) (tn : Nat → Heap → Prop) : Prop where
  mem : it ∈ fp
  obj : ∀ i h, tn i h → ∀ b ∈ fp, ∃ o, h.get? b = some o ∧ ∀ v, o.data ≠ .cell v
  keep : ∀ i h h', tn i h → (∀ b ∈ fp, ∀ o, h.get? b = some o → h'.get? b = some o) → tn i h'
  item : ∀ (X : Cx), X.prog = P → X.w = w → X.K = K → X.calm = true → ∀ (i : Nat) (pins : List (Addr × Obj)) (s : Shared) (σ : St) (H : Hp) (E : Value → Shared → Prop), Inv X pins σ H s → (∀ b ∈ fp, FpOk X pins H b) → tn i s.heap → J.go i H →
    wpAny (model P w) X.A (pyNext (.ref it)) (fun r s1 => ∃ u, r = some u ∧
      wpAny (model P w) X.A (letOwnedTupleGo tg (.ref it) u) (fun _ s2 => ∃ x H', Inv X pins σ H' s2 ∧ RelV x u ∧ J.yld i H x H' ∧ tn (i + 1) s2.heap ∧ ∀ b ∈ fp, H' b = none) E s1) E s
  done : ∀ (X : Cx), X.prog = P → X.w = w → X.K = K → X.calm = true → ∀ (i : Nat) (pins : List (Addr × Obj)) (s : Shared) (σ : St) (H : Hp) (E : Value → Shared → Prop), Inv X pins σ H s → (∀ b ∈ fp, FpOk X pins H b) → tn i s.heap → J.stop i H →
    wpAny (model P w) X.A (pyNext (.ref it)) (fun r s1 => r = none ∧ Inv X pins σ H s1) E s
  self : ∀ (A : Around) (i : Nat) (s : Shared) (Q : Value → Shared → Prop) (E : Value → Shared → Prop), tn i s.heap → Q (.ref it) s → wpAny (model P w) A (pyIter (.ref it)) Q E s
abbrev TI := St → Hp → (It → Hp → Prop) → Prop
/-- an iterator has come -/
def PIE (X : Cx) (pins : List (Addr × Obj)) (σ : St) (tg : Expr) (R : It → Hp → Prop) (itv : Value) (s2 : Shared) : Prop :=
  ∃ (it : Addr) (fp : List Addr) (tn : Nat → Heap → Prop) (J : It) (H' : Hp), itv = .ref it ∧ Inv X pins σ H' s2 ∧ Turn X.prog X.w X.K tg J fp it tn ∧ tn 0 s2.heap ∧ (∀ b ∈ fp, FpOk X pins H' b) ∧ R J H'
def PI (X : Cx) (tg iter : Expr) (wi : TI) : Prop :=
  ∀ (pins : List (Addr × Obj)) (s : Shared) (σ : St) (H : Hp) (R : It → Hp → Prop), Inv X pins σ H s → wi σ H R →
    wpAny (model X.prog X.w) X.A (eval iter X.env) (fun v s1 => wpAny (model X.prog X.w) X.A (pyIter v) (PIE X pins σ tg R) X.xe s1) X.xe s

/-- the step ahead of the store is nothing for an iterator that keeps no tuple -/
theorem go_of {M : Model} {A : Around} {E : Value → Shared → Prop} {s : Shared} {tg : Expr} {it : Addr} {u : Value} {o : Obj} {n : String} {vs : Array Value} {Q : Unit → Shared → Prop} (ho : s.heap.get? it = some o) (hc : o.cls = .type n) (hd : o.data = .fields vs)
    (hn : ["enumerate", "zip", "dict_itemiterator", "dict_reverseitemiterator", "odict_iterator", "itertools.zip_longest", "itertools.pairwise"].contains n = false) (hQ : Q () s) : wpAny M A (letOwnedTupleGo tg (.ref it) u) Q E s := by
  unfold letOwnedTupleGo
  cases tg <;> first
    | exact wpAny_pure hQ
    | (cases u <;> first
        | exact wpAny_pure hQ
        | (refine wpAny_bind (wpAny_load ho ?_)
           rw [hc, hd]
           show wpAny M A (if (["enumerate", "zip", "dict_itemiterator", "dict_reverseitemiterator", "odict_iterator", "itertools.zip_longest", "itertools.pairwise"].contains n && vs[0]? == some (rawInt _)) = true then _ else _) Q E s
           rw [if_neg (by intro h; rw [hn, Bool.false_and] at h; cases h)]
           exact wpAny_pure hQ))

/-- the list at a, as it stands at each turn (a loop may append to it) -/
def Itl (K : PySem.W.Frag) (a : Addr) : It :=
  ⟨fun i H => ∃ xs x, SqL K H a xs ∧ xs[i]? = some x, fun i H x H' => H' = H ∧ ∀ xs, SqL K H a xs → xs[i]? = some x, fun i H => ∃ xs, SqL K H a xs ∧ xs.length ≤ i⟩
def Itt (K : PySem.W.Frag) (a : Addr) : It :=
  ⟨fun i H => ∃ xs x, SqT K H a xs ∧ xs[i]? = some x, fun i H x H' => H' = H ∧ ∀ xs, SqT K H a xs → xs[i]? = some x, fun i H => ∃ xs, SqT K H a xs ∧ xs.length ≤ i⟩
/-- lo, lo + 1, .. (n of them) -/
def Itr (lo : Int) (n : Nat) : It := ⟨fun i _ => i < n, fun i H x H' => H' = H ∧ x = .int (lo + i), fun i _ => n ≤ i⟩
theorem turn_list {P : Program} {w : World} {K : PySem.W.Frag} {tg : Expr} (a it : Addr) : Turn P w K tg (Itl K a) [it] it (fun i h => h.IsListIter it a i) where
  mem := by simp
  obj := fun i h st b hb => by
    have e : b = it := by simpa using hb
    subst e
    obtain ⟨o, e, c, d⟩ := st
    exact ⟨o, e, fun v z => by rw [d] at z; cases z⟩
  keep := fun i h h' st k => st.at fun o e => k it (by simp) o e
  item := by
    intro X hP hw hK hc i pins s σ H E I hf st hg
    subst hP hw hK
    obtain ⟨xs, x, hq, hx⟩ := hg
    obtain ⟨its, rv, p, hz⟩ := I.list hq
    obtain ⟨u, hu, ru⟩ := rv.get hx
    obtain ⟨f0, f1, f2, f3, f4, f5⟩ := hf it (by simp)
    refine wpAny_pyNext_list_item st p.isList (x := u) (by simpa using hu) fun h' st' sb => ?_
    have I1 : Inv X pins σ H { s with heap := h' } := I.turned (t' := s.toks) (fun b o hb e => (sb.2 b hb).trans e) f0 f1 f3 f4 f5
    obtain ⟨o, e, c, d⟩ := id st'
    exact ⟨u, rfl, go_of (s := { s with heap := h' }) e c d (by decide) ⟨x, H, I1, ru, ⟨rfl, fun ys hy => by rw [I.list_inj hy hq]; exact hx⟩, st', fun b hb => (hf b hb).1⟩⟩
  done := by
    intro X hP hw hK hc i pins s σ H E I hf st hg
    subst hP hw hK
    obtain ⟨xs, hq, hx⟩ := hg
    obtain ⟨its, rv, p, hz⟩ := I.list hq
    obtain ⟨f0, f1, f2, f3, f4, f5⟩ := hf it (by simp)
    have hl := rv.length
    exact wpAny_pyNext_list_end (I.ok.hd hc) st p.isList (by simp; omega) fun h' eb => ⟨rfl, I.turned (t' := s.toks) (fun b o hb e => eb b o hb e) f0 f1 f3 f4 f5⟩
  self := fun _ _ _ _ _ st h => wpAny_pyIter_listiter st h
theorem turn_range {P : Program} {w : World} {K : PySem.W.Frag} {tg : Expr} (it : Addr) (lo : Int) (n : Nat) : Turn P w K tg (Itr lo n) [it] it (fun i h => IsRangeIter h it (lo + (i : Nat) * 1) ((n : Int) - (i : Nat)) 1) where
  mem := by simp
  obj := fun i h st b hb => by
    have e : b = it := by simpa using hb
    subst e
    exact ⟨_, st, fun v z => by
      have z' : Data.fields _ = Data.cell v := z
      cases z'⟩
  keep := fun i h h' st k => k it (by simp) _ st
  item := by
    intro X hP hw hK hc i pins s σ H E I hf st hg
    subst hP hw hK
    obtain ⟨f0, f1, f2, f3, f4, f5⟩ := hf it (by simp)
    have W := Walks.range (prog := X.prog) (w := X.w) (I.ok.hd hc) it lo 1 n
    refine W.item i s _ _ hg st fun v h' tk hv st' kk => ?_
    obtain ⟨t, rfl⟩ := hv
    have I1 : Inv X pins σ H { s with heap := h', toks := tk } := I.turned (fun b o hb e => kk b o (by simpa using hb) e) f0 f1 f3 f4 f5
    refine ⟨_, rfl, go_of (s := { s with heap := h', toks := tk }) (n := "range_iterator") st' rfl rfl (by decide) ⟨.int (lo + i), H, I1, ⟨t, ?_⟩, ⟨rfl, rfl⟩, st', fun b hb => (hf b hb).1⟩⟩
    rw [Int.mul_one]
  done := by
    intro X hP hw hK hc i pins s σ H E I hf st hg
    subst hP hw hK
    obtain ⟨f0, f1, f2, f3, f4, f5⟩ := hf it (by simp)
    exact wpAny_pyNext_range_end (I.ok.hd hc) st (by have : n ≤ i := hg; omega) fun h' eb => ⟨rfl, I.turned (t' := s.toks) (fun b o hb e => eb b o hb e) f0 f1 f3 f4 f5⟩
  self := fun _ _ _ _ _ st h => wpAny_pyIter_rangeiter st h
end L2

namespace L2
open PySem PySem.Spec PyProof.Rows
section
variable {X : Cx} {tg : Expr}
def iList (K : PySem.W.Frag) (tl : TE) : TI := fun σ H R => tl σ H fun x H1 => ∃ a, x = .ref a ∧ (∃ xs, SqL K H1 a xs) ∧ R (Itl K a) H1
def iTup (K : PySem.W.Frag) (tl : TE) : TI := fun σ H R => tl σ H fun x H1 => ∃ a, x = .ref a ∧ (∃ xs, SqT K H1 a xs) ∧ R (Itt K a) H1
theorem pi_list {l : Expr} {tl : TE} (hl : PE X l tl) : PI X tg l (iList X.K tl) := by
  intro pins s σ H R I h
  refine thn (hl pins s σ H _ I h) fun v s1 ⟨x, H1, I1, r1, q1⟩ => ?_
  obtain ⟨a, e, ⟨xs, hq⟩, q⟩ := q1
  subst e
  cases r1
  obtain ⟨its, rv, p, hz⟩ := I1.list hq
  refine wpAny_pyIter_list p.isList ?_
  refine ⟨s1.heap.objs.size, [s1.heap.objs.size], _, _, H1, rfl, I1.kept (t' := s1.toks) fun b o e => Heap.get?_push_of_some _ e, turn_list a _, ⟨_, Heap.get?_push_size _ rfl, rfl, rfl⟩, fun b hb => ?_, q⟩
  have e : b = s1.heap.objs.size := by simpa using hb
  subst e
  exact I1.fpOk (Nat.le_refl _) (I1.hok.fresh (Nat.le_refl _))
/-- a range object just made, walked -/
theorem range_it {pins : List (Addr × Obj)} {σ : St} {H : Hp} {s : Shared} {R : It → Hp → Prop} {E : Value → Shared → Prop} {lo hi : Int} {t u v : Tok} {tk : Nat} (I : Inv X pins σ H s) (h1 : -(2 ^ 62) ≤ lo) (h2 : lo < 2 ^ 62) (h3 : -(2 ^ 62) ≤ hi) (h4 : hi < 2 ^ 62)
    (q : R (Itr lo (hi - lo).toNat) H) : wpAny (model X.prog X.w) X.A (pyIter (.ref s.heap.objs.size)) (PIE X pins σ tg R) E { s with heap := s.heap.push { cls := .type "range", data := .fields #[.int lo t, .int hi u, .int 1 v] }, toks := tk } := by
  refine wpAny_pyIter_range (IsRange.new ..) (small_one h1 h2 h3 h4) ?_
  have I1 : Inv X pins σ H { s with heap := s.heap.push { cls := .type "range", data := .fields #[.int lo t, .int hi u, .int 1 v] }, toks := tk } := I.kept fun b o e => Heap.get?_push_of_some _ e
  refine ⟨(s.heap.push { cls := .type "range", data := .fields #[.int lo t, .int hi u, .int 1 v] }).objs.size, [(s.heap.push { cls := .type "range", data := .fields #[.int lo t, .int hi u, .int 1 v] }).objs.size], _, _, H, rfl,
    I1.kept (t' := tk) fun b o e => Heap.get?_push_of_some _ e, turn_range _ lo (hi - lo).toNat, ?_, fun b hb => ?_, q⟩
  · have e1 : lo + ((0 : Nat) : Int) * 1 = lo := by simp
    have e2 : (((hi - lo).toNat : Nat) : Int) - ((0 : Nat) : Int) = Builtin.Range.rangeSize lo hi 1 := by rw [rangeSize_one]; split <;> omega
    show IsRangeIter _ _ (lo + ((0 : Nat) : Int) * 1) ((((hi - lo).toNat : Nat) : Int) - ((0 : Nat) : Int)) 1
    rw [e1, e2]
    exact Heap.get?_push_size _ rfl
  · have e : b = (s.heap.push { cls := .type "range", data := .fields #[.int lo t, .int hi u, .int 1 v] }).objs.size := by simpa using hb
    subst e
    exact I1.fpOk (Nat.le_refl _) (I1.hok.fresh (Nat.le_refl _))
def iRng1 (ta : TA) : TI := fun σ H R => ta σ H fun vs H1 => ∃ j : Int, vs = [.int j] ∧ -(2 ^ 62) ≤ j ∧ j < 2 ^ 62 ∧ R (Itr 0 j.toNat) H1
def iRng2 (ta : TA) : TI := fun σ H R => ta σ H fun vs H1 => ∃ i j : Int, vs = [.int i, .int j] ∧ (-(2 ^ 62) ≤ i ∧ i < 2 ^ 62 ∧ -(2 ^ 62) ≤ j ∧ j < 2 ^ 62) ∧ R (Itr i (j - i).toNat) H1
theorem pi_range1 {a : Expr} {ta : TA} {p pos : Pos} (hg : Gl X "range") (hm : X.mg "range" = none) (ha : PA X [a] ta) (hs : starEach [a] X.env = [(false, eval a X.env)] := by rfl) : PI X tg (.Call (.Name "range" p) [a] [] pos) (iRng1 ta) := by
  intro pins s σ H R I h
  refine Call_ (ld_blt I hg hm boot_range (PyProof.Rows.callWith_type1 (thn (ha pos pins s σ H _ I h) fun us s1 ⟨vs, H1, I1, r1, q1⟩ => ?_) hs rfl))
  obtain ⟨j, e, q1, q2, q⟩ := q1
  subst e
  cases r1 with
  | cons r rr =>
    cases rr
    obtain ⟨t, rfl⟩ := r
    exact call_range_1 (range_it I1 (by omega) (by omega) q1 q2 (by simpa using q))
/-! ### for -/
/-- W: the invariant by the turn and a measure; N: what the body is to reach -/
def tFor (wi : TI) (g : TG) (tb : TS) : TS := fun D σ H => wi σ H fun J H1 => ∃ W : Nat → Nat → St → Hp → Prop, (∃ m, W 0 m σ H1) ∧ ∀ i m σ H, W i m σ H →
  (J.stop i H ∧ D.nx σ H) ∨ (J.go i H ∧ ∃ N : St → Hp → Prop, (∀ σ' H', N σ' H' → ∃ m', m' < m ∧ W (i + 1) m' σ' H') ∧ ∀ x H', J.yld i H x H' → g x σ H' fun σ2 H2 => tb { D with nx := N, ct := N, bk := D.nx } σ2 H2)
/-- the records at fp as they stand -/
def pinsAt (fp : List Addr) (h : Heap) : List (Addr × Obj) := fp.filterMap fun b => (h.get? b).map fun o => (b, o)
theorem mem_pinsAt {fp : List Addr} {h : Heap} {b : Addr} {o : Obj} (hb : b ∈ fp) (e : h.get? b = some o) : (b, o) ∈ pinsAt fp h := List.mem_filterMap.mpr ⟨b, hb, by rw [e]; rfl⟩
theorem of_pinsAt {fp : List Addr} {h : Heap} {p : Addr × Obj} (hp : p ∈ pinsAt fp h) : p.1 ∈ fp ∧ h.get? p.1 = some p.2 := by
  obtain ⟨b, hb, e⟩ := List.mem_filterMap.mp hp
  cases q : h.get? b with
  | none => rw [q] at e; cases e
  | some o =>
    rw [q] at e
    have e' : (b, o) = p := Option.some.inj e
    subst e'
    exact ⟨hb, q⟩
theorem Inv.pinned {pins : List (Addr × Obj)} {σ : St} {H : Hp} {s : Shared} {fp : List Addr} (I : Inv X pins σ H s) (hf : ∀ b ∈ fp, FpOk X pins H b) (ho : ∀ b ∈ fp, ∃ o, s.heap.get? b = some o ∧ ∀ v, o.data ≠ .cell v) : Inv X (pins ++ pinsAt fp s.heap) σ H s :=
  I.pins_of fun p hp => (List.mem_append.mp hp).elim (fun z => I.pin p (List.mem_append_right _ z)) fun z => by
    obtain ⟨hb, e⟩ := of_pinsAt z
    obtain ⟨f0, f1, f2, _⟩ := hf p.1 hb
    obtain ⟨o, e', d⟩ := ho p.1 hb
    rw [e] at e'; cases e'
    exact ⟨e, f0, f1, f2, d⟩
theorem Inv.unpinned {pins pl : List (Addr × Obj)} {σ : St} {H : Hp} {s : Shared} (I : Inv X (pins ++ pl) σ H s) : Inv X pins σ H s := I.pins_of fun p hp => I.pin p (List.mem_append_right _ (List.mem_append_left _ hp))
theorem ps_for {iter : Expr} {body : List Stmt} {wi : TI} {g : TG} {tb : TS} {pos : Pos} (hp : PassesOwn (model X.prog X.w) X.A X.env X.xe) (hc : X.calm = true) (hi : PI X tg iter wi) (hg : PG X tg g) (hb : PSs X body tb)
    (hs : ∀ x, foldedSetIterable iter X.env x = pure x := by intro _; rfl) : PS X (.For tg iter body [] pos) (tFor wi g tb) := by
  intro pins s σ H D I h
  refine wpAny_For (thn (hi pins s σ H _ I h) fun v s1 h1 => thn h1 fun itv s2 h2 => ?_) hs
  obtain ⟨it, fp, tn, J, H2, e, I2, T, st2, f2, W, ⟨m0, w0⟩, turn⟩ := h2
  subst e
  -- what stays true of the iterator's objects through the loop
  have stat : ∀ {H' : Hp}, (∀ b ∈ fp, H' b = none) → ∀ b ∈ fp, FpOk X pins H' b := fun hn b hb => ⟨hn b hb, (f2 b hb).2⟩
  refine codeAny_forLoop_any (fun n s' => ∃ i σ' H', Inv X pins σ' H' s' ∧ tn i s'.heap ∧ (∀ b ∈ fp, H' b = none) ∧ W i n σ' H') ?_ m0 ⟨0, σ, H2, I2, st2, fun b hb => (f2 b hb).1, w0⟩
  rintro n s3 ⟨i, σ3, H3, I3, st3, fr3, w3⟩
  rcases turn i n σ3 H3 w3 with ⟨stop, qn⟩ | ⟨go, N, hN, step⟩
  · refine wpAny_passesOwn hp (thn (T.done X rfl rfl rfl hc i pins s3 σ3 H3 X.xe I3 (stat fr3) st3 stop) fun r s4 ⟨hr, I4⟩ => ?_)
    subst hr
    exact wpAny_execs_nil ⟨σ3, H3, I4, qn⟩
  · refine wpAny_passesOwn hp (thn (T.item X rfl rfl rfl hc i pins s3 σ3 H3 X.xe I3 (stat fr3) st3 go) fun r s4 ⟨u, hr, h4⟩ => ?_)
    subst hr
    refine wpAny_passesOwn hp (thn h4 fun _ s5 ⟨x, H5, I5, r5, y5, st5, fr5⟩ => ?_)
    have I5' := I5.pinned (stat fr5) (T.obj _ _ st5)
    refine wpAny_passesOwn hp (thn (hg _ s5 σ3 H5 x u _ I5' r5 (step x H5 y5)) fun _ s6 ⟨σ6, H6, I6, q6⟩ => ?_)
    refine wpAny_passesOwn hp (thn (hb _ s6 σ6 H6 _ I6 q6) fun f s7 q7 => ?_)
    have again : ∀ {σ7 : St} {H7 : Hp}, Inv X (pins ++ pinsAt fp s5.heap) σ7 H7 s7 → N σ7 H7 → ∃ m, m < n ∧ ∃ i σ' H', Inv X pins σ' H' s7 ∧ tn i s7.heap ∧ (∀ b ∈ fp, H' b = none) ∧ W i m σ' H' := fun {σ7 H7} I7 n7 => by
      obtain ⟨m', hm, w7⟩ := hN σ7 H7 n7
      refine ⟨m', hm, i + 1, σ7, H7, I7.unpinned, T.keep _ _ _ st5 fun b hb o e => (I7.pin (b, o) (List.mem_append_right _ (List.mem_append_right _ (mem_pinsAt hb e)))).1, fun b hb => ?_, w7⟩
      obtain ⟨o, e, d⟩ := T.obj _ _ st5 b hb
      exact (I7.pin (b, o) (List.mem_append_right _ (List.mem_append_right _ (mem_pinsAt hb e)))).2.1
    cases f with
    | next => obtain ⟨σ7, H7, I7, n7⟩ := q7; exact again I7 n7
    | cont => obtain ⟨σ7, H7, I7, n7⟩ := q7; exact again I7 n7
    | brk => obtain ⟨σ7, H7, I7, q7⟩ := q7; exact ⟨σ7, H7, I7.unpinned, q7⟩
    | ret v => obtain ⟨x7, σ7, H7, I7, r7, q7⟩ := q7; exact ⟨x7, σ7, H7, I7.unpinned, r7, q7⟩
end

/-! ### the forms one uses -/
/-- over a list that the body leaves as it is -/
theorem for_list {K : PySem.W.Frag} {a : Addr} {xs : List V} {g : TG} {tb : TS} {D : Ends} {σ : St} {H : Hp} (Pv : Nat → St → Hp → Prop) (h0 : Pv 0 σ H) (hl : ∀ i σ H, i ≤ xs.length → Pv i σ H → SqL K H a xs)
    (hs : ∀ i x σ H, xs[i]? = some x → Pv i σ H → g x σ H fun σ2 H2 => tb { D with nx := Pv (i + 1), ct := Pv (i + 1), bk := D.nx } σ2 H2) (hd : ∀ σ H, Pv xs.length σ H → D.nx σ H) :
    ∃ W : Nat → Nat → St → Hp → Prop, (∃ m, W 0 m σ H) ∧ ∀ i m σ H, W i m σ H →
      ((Itl K a).stop i H ∧ D.nx σ H) ∨ ((Itl K a).go i H ∧ ∃ N : St → Hp → Prop, (∀ σ' H', N σ' H' → ∃ m', m' < m ∧ W (i + 1) m' σ' H') ∧ ∀ x H', (Itl K a).yld i H x H' → g x σ H' fun σ2 H2 => tb { D with nx := N, ct := N, bk := D.nx } σ2 H2) := by
  refine ⟨fun i m σ H => m = xs.length - i ∧ i ≤ xs.length ∧ Pv i σ H, ⟨xs.length, by simp, Nat.zero_le _, h0⟩, ?_⟩
  rintro i m σ H ⟨rfl, hi, p⟩
  have q := hl i σ H hi p
  by_cases hlt : i < xs.length
  · refine .inr ⟨⟨xs, xs[i], q, by simp [hlt]⟩, Pv (i + 1), fun σ' H' p' => ⟨xs.length - (i + 1), by omega, rfl, hlt, p'⟩, fun x H' y => ?_⟩
    obtain ⟨e, y⟩ := y
    subst e
    exact hs i x σ _ (y xs q) p
  · have e : i = xs.length := by omega
    subst e
    exact .inl ⟨⟨xs, q, Nat.le_refl _⟩, hd σ H p⟩
theorem for_range {lo : Int} {n : Nat} {g : TG} {tb : TS} {D : Ends} {σ : St} {H : Hp} (Pv : Nat → St → Hp → Prop) (h0 : Pv 0 σ H)
    (hs : ∀ i σ H, i < n → Pv i σ H → g (.int (lo + i)) σ H fun σ2 H2 => tb { D with nx := Pv (i + 1), ct := Pv (i + 1), bk := D.nx } σ2 H2) (hd : ∀ σ H, Pv n σ H → D.nx σ H) :
    ∃ W : Nat → Nat → St → Hp → Prop, (∃ m, W 0 m σ H) ∧ ∀ i m σ H, W i m σ H →
      ((Itr lo n).stop i H ∧ D.nx σ H) ∨ ((Itr lo n).go i H ∧ ∃ N : St → Hp → Prop, (∀ σ' H', N σ' H' → ∃ m', m' < m ∧ W (i + 1) m' σ' H') ∧ ∀ x H', (Itr lo n).yld i H x H' → g x σ H' fun σ2 H2 => tb { D with nx := N, ct := N, bk := D.nx } σ2 H2) := by
  refine ⟨fun i m σ H => m = n - i ∧ i ≤ n ∧ Pv i σ H, ⟨n, by simp, Nat.zero_le _, h0⟩, ?_⟩
  rintro i m σ H ⟨rfl, hi, p⟩
  by_cases hlt : i < n
  · refine .inr ⟨hlt, Pv (i + 1), fun σ' H' p' => ⟨n - (i + 1), by omega, rfl, hlt, p'⟩, fun x H' y => ?_⟩
    obtain ⟨e, y⟩ := y
    subst e y
    exact hs i σ _ hlt p
  · have e : i = n := by omega
    subst e
    exact .inl ⟨Nat.le_refl _, hd σ H p⟩
end L2

namespace L2
open PySem PySem.Spec PyProof.Rows

abbrev R2 := V → V → Hp → VK → Prop
/-- a two-place operation on values: f is binaryOp op, inplaceOp op or compareOp op -/
def OpR (X : Cx) (f : Value → Value → Sem Value) (r : R2) : Prop :=
  ∀ (pins : List (Addr × Obj)) (s : Shared) (σ : St) (H : Hp) (x y : V) (v u : Value) (Q : VK), Inv X pins σ H s → RelV x v → RelV y u → r x y H Q →
    wpAny (model X.prog X.w) X.A (f v u) (EP X pins σ Q) X.xe s
/-- a one-place operation -/
def UnR (X : Cx) (f : Value → Sem Value) (r : V → Hp → VK → Prop) : Prop :=
  ∀ (pins : List (Addr × Obj)) (s : Shared) (σ : St) (H : Hp) (x : V) (v : Value) (Q : VK), Inv X pins σ H s → RelV x v → r x H Q →
    wpAny (model X.prog X.w) X.A (f v) (EP X pins σ Q) X.xe s
/-- a call of a value that is known (a builtin, a type) with values -/
def CallR (X : Cx) (f : Value) (r : List V → Hp → VK → Prop) : Prop :=
  ∀ (pins : List (Addr × Obj)) (s : Shared) (σ : St) (H : Hp) (xs : List V) (us : List Value) (Q : VK), Inv X pins σ H s → Vals xs us → r xs H Q →
    wpAny (model X.prog X.w) X.A (call f us) (EP X pins σ Q) X.xe s
/-- a value's truth -/
def TruR (X : Cx) (r : V → Hp → (Bool → Hp → Prop) → Prop) : Prop :=
  ∀ (pins : List (Addr × Obj)) (s : Shared) (σ : St) (H : Hp) (x : V) (v : Value) (Q : Bool → Hp → Prop), Inv X pins σ H s → RelV x v → r x H Q →
    wpAny (model X.prog X.w) X.A (truthy v) (TP X pins σ Q) X.xe s

def tOp (r : R2) (ta tb : TE) : TE := fun σ H Q => ta σ H fun x H1 => tb σ H1 fun y H2 => r x y H2 Q
def tUn (r : V → Hp → VK → Prop) (ta : TE) : TE := fun σ H Q => ta σ H fun x H1 => r x H1 Q
/-- ints in, under C, and a value out -/
def rI (C : Int → Int → Prop) (g : Int → Int → V) : R2 := fun x y H Q => ∃ i j, x = .int i ∧ y = .int j ∧ C i j ∧ Q (g i j) H
def rI0 (g : Int → Int → V) : R2 := fun x y H Q => ∃ i j, x = .int i ∧ y = .int j ∧ Q (g i j) H
def rU (g : Int → V) : V → Hp → VK → Prop := fun x H Q => ∃ i, x = .int i ∧ Q (g i) H

section
variable {X : Cx} {a b c : Expr} {ta tb tc : TE} {pos : Pos}

theorem binT (ha : PE X a ta) (hb : PE X b tb) {pins : List (Addr × Obj)} {s : Shared} {σ : St} {H : Hp} {R : V → V → Hp → Prop} (I : Inv X pins σ H s)
    (h : ta σ H fun x H1 => tb σ H1 fun y H2 => R x y H2) {Q : Value → Shared → Prop} {f : Value → Value → Sem Value}
    (hf : ∀ v u s2 x y H2, Inv X pins σ H2 s2 → RelV x v → RelV y u → R x y H2 → wpAny (model X.prog X.w) X.A (f v u) Q X.xe s2) :
    wpAny (model X.prog X.w) X.A (eval a X.env) (fun v s₁ => wpAny (model X.prog X.w) X.A (eval b X.env) (fun u s₂ => wpAny (model X.prog X.w) X.A (f v u) Q X.xe s₂) X.xe s₁) X.xe s := by
  refine thn (ha pins s σ H _ I h) fun v s1 ⟨x, H1, I1, r1, q1⟩ => ?_
  refine thn (hb pins s1 σ H1 _ I1 q1) fun u s2 ⟨y, H2, I2, r2, q2⟩ => ?_
  exact hf v u s2 x y H2 I2 r1 r2 q2

theorem pe_op {op : Operator} {r : R2} (ho : OpR X (binaryOp op) r) (ha : PE X a ta) (hb : PE X b tb) : PE X (.BinOp a op b pos) (tOp r ta tb) := by
  intro pins s σ H Q I h
  exact wpAny_BinOp (binT ha hb I h fun v u s2 x y H2 I2 rx ry q => ho pins s2 σ H2 x y v u Q I2 rx ry q)
/-! ### ints -/
theorem opI {f : Value → Value → Sem Value} {C : Int → Int → Prop} {g : Int → Int → Int}
    (rule : ∀ (i j : Int) (t u : Tok) (s : Shared) (Q : Value → Shared → Prop) (E : Value → Shared → Prop), C i j → Q (.int (g i j) s.toks) { s with toks := s.toks + 1 } → wpAny (model X.prog X.w) X.A (f (.int i t) (.int j u)) Q E s) :
    OpR X f (rI C fun i j => .int (g i j)) := by
  intro pins s σ H x y v u Q I rx ry h
  obtain ⟨i, j, rfl, rfl, hc, q⟩ := h
  obtain ⟨t, rfl⟩ := rx
  obtain ⟨t', rfl⟩ := ry
  exact rule i j t t' s _ _ hc ⟨.int (g i j), H, I.tok _, ⟨_, rfl⟩, q⟩
theorem opI0 {f : Value → Value → Sem Value} {g : Int → Int → Int}
    (rule : ∀ (i j : Int) (t u : Tok) (s : Shared) (Q : Value → Shared → Prop) (E : Value → Shared → Prop), Q (.int (g i j) s.toks) { s with toks := s.toks + 1 } → wpAny (model X.prog X.w) X.A (f (.int i t) (.int j u)) Q E s) :
    OpR X f (rI0 fun i j => .int (g i j)) := by
  intro pins s σ H x y v u Q I rx ry h
  obtain ⟨i, j, rfl, rfl, q⟩ := h
  obtain ⟨t, rfl⟩ := rx
  obtain ⟨t', rfl⟩ := ry
  exact rule i j t t' s _ _ ⟨.int (g i j), H, I.tok _, ⟨_, rfl⟩, q⟩
theorem opB0 {f : Value → Value → Sem Value} {g : Int → Int → Bool}
    (rule : ∀ (i j : Int) (t u : Tok) (s : Shared) (Q : Value → Shared → Prop) (E : Value → Shared → Prop), Q (.bool (g i j)) s → wpAny (model X.prog X.w) X.A (f (.int i t) (.int j u)) Q E s) :
    OpR X f (rI0 fun i j => .bl (g i j)) := by
  intro pins s σ H x y v u Q I rx ry h
  obtain ⟨i, j, rfl, rfl, q⟩ := h
  obtain ⟨t, rfl⟩ := rx
  obtain ⟨t', rfl⟩ := ry
  exact rule i j t t' s _ _ ⟨.bl (g i j), H, I, rfl, q⟩

def CDiv (i j : Int) : Prop := 0 < j ∧ j < 1073741824
def CDivN (i j : Int) : Prop := j ≠ 0 ∧ j.natAbs < 1073741824
def CPow (i j : Int) : Prop := 0 ≤ j ∧ j ≤ 1000000 ∧ i.natAbs < 2 ^ 64
def CMul (i j : Int) : Prop := (-(2 ^ 64) < i ∧ i < 2 ^ 64) ∨ (-(2 ^ 64) < j ∧ j < 2 ^ 64)
theorem CMul.ok {i j : Int} (h : CMul i j) : IntMulOk i j := by
  rcases h with ⟨h1, h2⟩ | ⟨h1, h2⟩
  · exact .of_left (intBits_le_64 h1 h2)
  · exact .of_right (intBits_le_64 h1 h2)
theorem op_add : OpR X (binaryOp .Add) (rI0 fun i j => .int (i + j)) := opI0 fun _ _ _ _ _ _ _ q => add_int q
theorem op_sub : OpR X (binaryOp .Sub) (rI0 fun i j => .int (i - j)) := opI0 fun _ _ _ _ _ _ _ q => sub_int q
theorem op_modN : OpR X (binaryOp .Mod) (rI (fun _ j => j ≠ 0) fun i j => .int (i.fmod j)) := opI fun _ _ _ _ _ _ _ hc q => mod_int' hc q
/-! ### bools among ints: n += (a < b) -/
end

/-! ### comparisons -/
/-- the scalars that == tells apart as data does -/
def scal : V → V → Bool
  | .non, .non => true | .non, .int _ => true | .int _, .non => true | .non, .bl _ => true | .bl _, .non => true | .non, .str _ => true | .str _, .non => true
  | .int _, .int _ => true | .bl _, .bl _ => true | .str _, .str _ => true | .byt _, .byt _ => true
  | .int _, .str _ => true | .str _, .int _ => true | .bl _, .str _ => true | .str _, .bl _ => true
  | _, _ => false
def rEq : R2 := fun x y H Q => scal x y = true ∧ Q (.bl (decide (x = y))) H
def rNe : R2 := fun x y H Q => scal x y = true ∧ Q (.bl (!decide (x = y))) H

theorem dec_int {i j : Int} : decide (V.int i = V.int j) = (i == j) := by
  rw [Bool.eq_iff_iff]
  simp
theorem dec_bl {i j : Bool} : decide (V.bl i = V.bl j) = (i == j) := by
  rw [Bool.eq_iff_iff]
  simp
theorem dec_str {i j : Str} : decide (V.str i = V.str j) = (i == j) := by
  rw [Bool.eq_iff_iff]
  simp
theorem dec_byt {i j : Array UInt8} : decide (V.byt i = V.byt j) = (i.toList == j.toList) := by
  rw [Bool.eq_iff_iff]
  cases i
  cases j
  simp

section
variable {X : Cx} {a b c : Expr} {ta tb tc : TE} {pos : Pos}
theorem fin_bl {pins : List (Addr × Obj)} {σ : St} {H : Hp} {s : Shared} {Q : VK} {k k' : Bool} (I : Inv X pins σ H s) (q : Q (.bl k) H) (e : k = k') : EP X pins σ Q (.bool k') s := by
  subst e
  exact ⟨.bl k, H, I, rfl, q⟩
theorem op_eq : OpR X (compareOp .Eq) rEq := by
  intro pins s σ H x y v u Q I rx ry h
  obtain ⟨hs, q⟩ := h
  cases x with
  | non =>
    cases rx
    cases y with
    | non => cases ry; exact PySem.EqNone.eq_none_none (fin_bl I q (by simp))
    | bl j => cases ry; exact PySem.EqNone.eq_none_bool (fin_bl I q (by simp))
    | int j => obtain ⟨t', rfl⟩ := ry; exact PySem.EqNone.eq_none_int (fin_bl I q (by simp))
    | str j => obtain ⟨t', rfl⟩ := ry; exact PySem.EqNone.eq_none_str (fin_bl I q (by simp))
    | _ => exact absurd (show false = true from hs) Bool.false_ne_true
  | bl i =>
    cases rx
    cases y with
    | non => cases ry; exact PySem.EqNone.eq_bool_none (fin_bl I q (by simp))
    | bl j => cases ry; exact eq_bool (fin_bl I q dec_bl)
    | str j => obtain ⟨t', rfl⟩ := ry; exact PySem.EqMixed.eq_bool_str (fin_bl I q (by simp))
    | _ => exact absurd (show false = true from hs) Bool.false_ne_true
  | int i =>
    obtain ⟨t, rfl⟩ := rx
    cases y with
    | non => cases ry; exact PySem.EqNone.eq_int_none (fin_bl I q (by simp))
    | int j => obtain ⟨t', rfl⟩ := ry; exact eq_int (fin_bl I q dec_int)
    | str j => obtain ⟨t', rfl⟩ := ry; exact PySem.EqMixed.eq_int_str (fin_bl I q (by simp))
    | _ => exact absurd (show false = true from hs) Bool.false_ne_true
  | str i =>
    obtain ⟨t, rfl⟩ := rx
    cases y with
    | non => cases ry; exact PySem.EqNone.eq_str_none (fin_bl I q (by simp))
    | bl j => cases ry; exact PySem.EqMixed.eq_str_bool (fin_bl I q (by simp))
    | int j => obtain ⟨t', rfl⟩ := ry; exact PySem.EqMixed.eq_str_int (fin_bl I q (by simp))
    | str j => obtain ⟨t', rfl⟩ := ry; exact eq_str (fin_bl I q dec_str)
    | _ => exact absurd (show false = true from hs) Bool.false_ne_true
  | byt i =>
    obtain ⟨t, rfl⟩ := rx
    cases y with
    | byt j => obtain ⟨t', rfl⟩ := ry; exact PySem.W.eq_bytes (fin_bl I q dec_byt)
    | _ => exact absurd (show false = true from hs) Bool.false_ne_true
  | _ => cases y <;> exact absurd (show false = true from hs) Bool.false_ne_true
theorem op_ne : OpR X (compareOp .NotEq) rNe := by
  intro pins s σ H x y v u Q I rx ry h
  obtain ⟨hs, q⟩ := h
  cases x with
  | non =>
    cases rx
    cases y with
    | non => cases ry; exact PySem.EqNone.ne_none_none (fin_bl I q (by simp))
    | bl j => cases ry; exact PySem.EqNone.ne_none_bool (fin_bl I q (by simp))
    | int j => obtain ⟨t', rfl⟩ := ry; exact PySem.EqNone.ne_none_int (fin_bl I q (by simp))
    | str j => obtain ⟨t', rfl⟩ := ry; exact PySem.EqNone.ne_none_str (fin_bl I q (by simp))
    | _ => exact absurd (show false = true from hs) Bool.false_ne_true
  | bl i =>
    cases rx
    cases y with
    | non => cases ry; exact PySem.EqNone.ne_bool_none (fin_bl I q (by simp))
    | bl j => cases ry; exact ne_bool (fin_bl I q (congrArg not dec_bl))
    | str j => obtain ⟨t', rfl⟩ := ry; exact PySem.EqMixed.ne_bool_str (fin_bl I q (by simp))
    | _ => exact absurd (show false = true from hs) Bool.false_ne_true
  | int i =>
    obtain ⟨t, rfl⟩ := rx
    cases y with
    | non => cases ry; exact PySem.EqNone.ne_int_none (fin_bl I q (by simp))
    | int j => obtain ⟨t', rfl⟩ := ry; exact ne_int (fin_bl I q (congrArg not dec_int))
    | str j => obtain ⟨t', rfl⟩ := ry; exact PySem.EqMixed.ne_int_str (fin_bl I q (by simp))
    | _ => exact absurd (show false = true from hs) Bool.false_ne_true
  | str i =>
    obtain ⟨t, rfl⟩ := rx
    cases y with
    | non => cases ry; exact PySem.EqNone.ne_str_none (fin_bl I q (by simp))
    | bl j => cases ry; exact PySem.EqMixed.ne_str_bool (fin_bl I q (by simp))
    | int j => obtain ⟨t', rfl⟩ := ry; exact PySem.EqMixed.ne_str_int (fin_bl I q (by simp))
    | str j => obtain ⟨t', rfl⟩ := ry; exact ne_str (fin_bl I q (congrArg not dec_str))
    | _ => exact absurd (show false = true from hs) Bool.false_ne_true
  | byt i =>
    obtain ⟨t, rfl⟩ := rx
    cases y with
    | byt j => obtain ⟨t', rfl⟩ := ry; exact PySem.W.ne_bytes (fin_bl I q (congrArg not dec_byt))
    | _ => exact absurd (show false = true from hs) Bool.false_ne_true
  | _ => cases y <;> exact absurd (show false = true from hs) Bool.false_ne_true

theorem op_lt : OpR X (compareOp .Lt) (rI0 fun i j => .bl (decide (i < j))) := opB0 fun _ _ _ _ _ _ _ q => lt_int q
theorem op_le : OpR X (compareOp .LtE) (rI0 fun i j => .bl (decide (i ≤ j))) := opB0 fun _ _ _ _ _ _ _ q => le_int q
theorem op_gt : OpR X (compareOp .Gt) (rI0 fun i j => .bl (decide (j < i))) := opB0 fun _ _ _ _ _ _ _ q => gt_int q
/-- is None, is not None: the right side a value none -/
theorem op_isN : OpR X (compareOp .Is) (fun x y H Q => y = .non ∧ Q (.bl (decide (x = .non))) H) := by
  intro pins s σ H x y v u Q I rx ry h
  obtain ⟨rfl, q⟩ := h
  cases ry
  refine is_none_gen (fin_bl I q ?_)
  cases x <;> first
    | (cases rx; rfl)
    | (obtain ⟨t, rfl⟩ := rx; rfl)
/-- is, is not of two objects that are tracked lists or instances -/
def isObj : HO → Bool
  | .lst _ => true
  | .ins _ _ _ => true
  | _ => false
/-- two rules for one operation: by cases -/
theorem OpR.or {f : Value → Value → Sem Value} {r r' : R2} (h : OpR X f r) (h' : OpR X f r') : OpR X f (fun x y H Q => r x y H Q ∨ r' x y H Q) := by
  intro pins s σ H x y v u Q I rx ry q
  rcases q with q | q
  · exact h pins s σ H x y v u Q I rx ry q
  · exact h' pins s σ H x y v u Q I rx ry q

theorem nomark (b : Expr) {op : CmpOp} (h : op ≠ .In := by decide) (h2 : op ≠ .NotIn := by decide) : behindInMarks op b = false := by
  have e1 : (op == CmpOp.In) = false := by cases op <;> first | rfl | exact absurd rfl h
  have e2 : (op == CmpOp.NotIn) = false := by cases op <;> first | rfl | exact absurd rfl h2
  cases b <;> simp [behindInMarks, e1, e2]
/-- a comparison as a value; hm: nomark b, or (for in, not in) by with_unfolding_all rfl -/
theorem pe_cmpR {op : CmpOp} {r : R2} (ho : OpR X (compareOp op) r) (ha : PE X a ta) (hb : PE X b tb) (hm : behindInMarks op b = false) : PE X (.Compare a [op] [b] pos) (tOp r ta tb) := by
  intro pins s σ H Q I h
  exact wpAny_Compare1 (binT ha hb I h fun v u s2 x y H2 I2 rx ry q => ho pins s2 σ H2 x y v u Q I2 rx ry q) hm
/-- a reading of a value as a test -/
def tTest (t : TE) : TT := fun σ H Q => t σ H fun x H' => ∃ k, x = .bl k ∧ Q k H'
theorem pt_cmpR {op : CmpOp} {r : R2} (ho : OpR X (compareOp op) r) (ha : PE X a ta) (hb : PE X b tb) (hm : behindInMarks op b = false) : PT X (.Compare a [op] [b] pos) (tTest (tOp r ta tb)) := by
  intro pins s σ H Q I h
  refine wpAny_isTrue_Compare1 (thn (ha pins s σ H _ I h) fun v s1 ⟨x, H1, I1, r1, q1⟩ => thn (hb pins s1 σ H1 _ I1 q1) fun u s2 ⟨y, H2, I2, r2, q2⟩ =>
    thn (ho pins s2 σ H2 x y v u _ I2 r1 r2 q2) fun c s3 ⟨z, H3, I3, r3, k, e, q3⟩ => ?_) hm
  subst e
  cases r3
  exact wpAny_truthy_bool ⟨H3, I3, q3⟩
/-- a op1 b op2 c -/
def tChain (r r' : R2) (ta tb tc : TE) : TE := fun σ H Q => ta σ H fun x H1 => tb σ H1 fun y H2 => r x y H2 fun z H3 => ∃ k, z = .bl k ∧
  (if k = true then tc σ H3 fun w' H4 => r' y w' H4 Q else Q (.bl false) H3)
/-! ### truth -/
/-- a value's truth by the abstract heap -/
def TruV (K : PySem.W.Frag) (x : V) (H : Hp) (k : Bool) : Prop :=
  match x with
  | .non => k = false
  | .bl b => k = b
  | .int i => k = (i != 0)
  | .str y => y.length ≤ sizeLine ∧ k = ((y.length : Int) != 0)
  | .byt y => y.size ≤ sizeLine ∧ k = ((y.size : Int) != 0)
  | .ref p => (∃ xs, SqL K H p xs ∧ k = !xs.isEmpty) ∨ (∃ xs, SqT K H p xs ∧ k = !xs.isEmpty) ∨ ∃ kvs, H p = some (.dK kvs) ∧ k = !kvs.isEmpty
  | _ => False
theorem line63 : (sizeLine : Nat) < 2 ^ 63 := by rw [sizeLine_eq]; decide
/-! ### strs and bytes -/
theorem op_add_str : OpR X (binaryOp .Add) (fun x y H Q => ∃ i j, x = .str i ∧ y = .str j ∧ i.length + j.length ≤ sizeLine ∧ Q (.str (i ++ j)) H) := by
  intro pins s σ H x y v u Q I rx ry h
  obtain ⟨i, j, rfl, rfl, hz, q⟩ := h
  obtain ⟨t, rfl⟩ := rx
  obtain ⟨t', rfl⟩ := ry
  exact add_str (fun t' tk => ⟨.str (i ++ j), H, I.tok _, ⟨_, rfl⟩, q⟩) hz
def PlainIxT (b : Expr) : Prop := ∀ o i, subscripted b false o i = operate [o, i] (getItem o i)
/-! ### scalar builtins, by CallR -/
theorem vals1 {x : V} {us : List Value} (r : Vals [x] us) : ∃ u, us = [u] ∧ RelV x u := by
  cases r with
  | cons r1 r2 => cases r2; exact ⟨_, rfl, r1⟩
theorem vals2 {x y : V} {us : List Value} (r : Vals [x, y] us) : ∃ u w', us = [u, w'] ∧ RelV x u ∧ RelV y w' := by
  cases r with
  | cons r1 r2 =>
    cases r2 with
    | cons r3 r4 => cases r4; exact ⟨_, _, rfl, r1, r3⟩
/-- len of a str, a bytes, a list, a tuple -/
def LenV (K : PySem.W.Frag) (x : V) (H : Hp) (n : Nat) : Prop :=
  match x with
  | .str y => y.length ≤ sizeLine ∧ n = y.length
  | .byt y => y.size ≤ sizeLine ∧ n = y.size
  | .ref p => (∃ xs, SqL K H p xs ∧ n = xs.length) ∨ ∃ xs, SqT K H p xs ∧ n = xs.length
  | _ => False
end
end L2

namespace L2
open PySem PySem.Spec PyProof.Rows

/-! ### an instance, its attributes a map -/
structure ObjM (h : Heap) (x dx C : Addr) (mA : Str → Option Value) : Prop where
  obj : h.get? x = some (PySem.W.instObj C dx)
  ns : h.Ns1 dx mA
  ne : dx ≠ x

theorem lookIn_ns {h : Heap} {dx : Addr} {mA : Str → Option Value} (n : h.Ns1 dx mA) : ∃ od, h.get? dx = some od ∧ ∀ name, PySem.W.lookIn name od = some (mA name) := by
  obtain ⟨o, es, ep, ho, hd, hk, _, hm⟩ := n
  refine ⟨o, ho, fun name => ?_⟩
  have e := hm name
  unfold nsFind findBy at e
  rw [← Array.find?_toList] at e
  unfold PySem.W.lookIn
  rw [hd]
  dsimp only
  split
  · rename_i y q
    rw [q] at e
    exact congrArg some e
  · rename_i q
    rw [q] at e
    have a : es.toList.any (·.refKey) = false := by
      rw [List.any_eq_false]
      intro y hy
      obtain ⟨z, t, hkey⟩ := hk y (Array.mem_toList_iff.mp hy)
      simp [DictEntry.refKey, hkey]
    have a' : ¬ es.toList.any (·.refKey) = true := by rw [a]; exact Bool.false_ne_true
    rw [if_neg a']
    exact congrArg some e

theorem ObjM.look {h : Heap} {x dx C : Addr} {mA : Str → Option Value} (I : ObjM h x dx C mA) : ∃ od, PySem.W.InstAt h x (PySem.W.instObj C dx) C (some od) ∧ ∀ name, PySem.W.lookIn name od = some (mA name) :=
  let ⟨od, ho, hl⟩ := lookIn_ns I.ns
  ⟨od, ⟨I.obj, rfl, rfl, ho⟩, hl⟩

section
variable {prog : Program} {w : World} {A : Around} {E : Value → Shared → Prop} {s : Shared} {K : PySem.W.Frag} {x dx C f : Addr} {mA : Str → Option Value} {name : Str} {v : Value}

theorem get_map {expr : Bool} {Q : Value → Shared → Prop} (X : K.In s.heap) (I : ObjM s.heap x dx C mA) (hg : PySem.W.plainGet K C name = true) (hh : PySem.W.hasDictIn K C = true)
    (ha : PySem.W.findIn K (.ref C) name = some none) (hv : mA name = some v) (hv' : PySem.W.handedIn v = true) (h : Q v { s with toks := s.toks + 1 }) :
    wpAny (model prog w) A (getAttr (.ref x) name expr) Q E s := by
  obtain ⟨od, J, hl⟩ := I.look
  exact PySem.W.get_value X J (PySem.W.plainGet_of hg).1 (PySem.W.findObj_own hh ha rfl (by rw [hl, hv])) hv' h

theorem set_map {ns : List Str} {Q : Unit → Shared → Prop} (X : K.In s.heap) (I : ObjM s.heap x dx C mA)
    (hs : PySem.W.findIn K (.ref C) "__setattr__" = some (some (.builtin "object.__setattr__"))) (hp : PySem.W.plainOver K C = true) (ht : PySem.W.takerIn K C name = some none) (hh : PySem.W.hasDictIn K C = true)
    (hw : PySem.Within mA ns) (hsz : ns.length ≤ sizeLine)
    (h : ∀ h', ObjM h' x dx C (fun y => if y = name then some v else mA y) → Heap.SameBut dx s.heap h' → Q () { s with heap := h', toks := s.toks + 2 }) :
    wpAny (model prog w) A (setAttr (.ref x) name v) Q E s := by
  obtain ⟨od, J, hl⟩ := I.look
  refine PySem.W.set_plain X J hs (PySem.W.osa_open (s := { s with toks := s.toks + 1 }) (r := none) X J hp ht fun b => ?_)
  obtain ⟨cd, hc, hd'⟩ := PySem.W.any_some hh
  have hx : s.heap.get? x = some ⟨.ref C, some dx, .plain, #[]⟩ := I.obj
  refine wpAny_bind (wpAny_pure (wpAny_bind (wpAny_bind (wpAny_loadPart hx (wpAny_bind (PySem.W.Looks.here (s := { s with toks := s.toks + 1 }) (PySem.W.looks_clsIn X hc) ?_))))))
  rw [hd']
  refine wpAny_pure (a := some dx) (wpAny_bind (wpAny_pure (wpAny_bind ?_)))
  refine wpAny_nsSet1 (s := { s with toks := s.toks + 1 }) I.ns fun h' hn2 hs2 => ?_
  obtain ⟨oD, esD, epD, hoD, hdD, hcD⟩ := hn2.count (PySem.Within.cons name v hw)
  refine wpAny_bind (wpAny_lookBehind hoD (by rw [hdD]; exact pastItsLine_dict (Nat.le_trans hcD (by rw [List.length_cons]; omega))) ?_)
  exact wpAny_pure (h _ ⟨(hs2.2 _ (Ne.symm I.ne)).trans I.obj, hn2, I.ne⟩ hs2)

/-- C(..): the dict at the heap's end, the instance behind it; then its __init__ -/
theorem make_map {R : Result → Shared → Prop} {vs : List Value} {kw : List (Str × Value)} (X : K.In s.heap) (hm : PySem.W.makesIn K C = true)
    (hi : PySem.W.findIn K (.ref C) "__init__" = some (some (.ref f))) (hf : PySem.W.typeIn K (.ref f) = some (.type "function"))
    (h : codeAny (model prog w) (A.under (.builtin "type.__call__" ⟨.ref C :: vs, kw⟩)) (.call (.ref f) ⟨.ref (s.heap.objs.size + 1) :: vs, kw⟩) (PySem.W.InitBack (s.heap.objs.size + 1) R)
      { s with heap := (s.heap.push PySem.W.emptyDict).push (PySem.W.instObj C s.heap.objs.size) }) :
    codeAny (model prog w) A (.call (.ref C) ⟨vs, kw⟩) R s := by
  obtain ⟨hh, g, d, t, os⟩ := s
  exact PySem.W.make_core (PySem.W.makes_of X hm) (PySem.W.looks_findIn X hi) (fun self => PySem.W.bind_fn X self hf) (.inl rfl) h
end

/-! ### the attributes as a list of pairs -/
def putF (f : Str) (v : V) : List (Str × V) → List (Str × V)
  | [] => [(f, v)]
  | (g, x) :: r => if g = f then (g, v) :: r else (g, x) :: putF f v r
theorem lookup_putF (f g : Str) (v : V) : ∀ fs : List (Str × V), (putF f v fs).lookup g = if g = f then some v else fs.lookup g
  | [] => by
    show List.lookup g [(f, v)] = _
    by_cases h : g = f
    · have hb : (g == f) = true := beq_iff_eq.mpr h
      simp only [List.lookup, hb, if_pos h]
    · have hb : (g == f) = false := beq_eq_false_iff_ne.mpr h
      simp only [List.lookup, hb, if_neg h]
  | (k, x) :: r => by
    have ih := lookup_putF f g v r
    rw [show putF f v ((k, x) :: r) = (if k = f then (k, v) :: r else (k, x) :: putF f v r) from rfl]
    by_cases hk : k = f
    · rw [if_pos hk]
      by_cases h : g = k
      · have hb : (g == k) = true := beq_iff_eq.mpr h
        simp only [List.lookup, hb, if_pos (h.trans hk)]
      · have hb : (g == k) = false := beq_eq_false_iff_ne.mpr h
        simp only [List.lookup, hb, if_neg (fun e : g = f => h (e.trans hk.symm))]
    · rw [if_neg hk]
      by_cases h : g = k
      · have hb : (g == k) = true := beq_iff_eq.mpr h
        simp only [List.lookup, hb, if_neg (fun e : g = f => hk (h.symm.trans e))]
      · have hb : (g == k) = false := beq_eq_false_iff_ne.mpr h
        simp only [List.lookup, hb]
        exact ih
theorem keys_putF (f : Str) (v : V) : ∀ fs : List (Str × V), f ∈ (putF f v fs).map (·.1) ∧ ∀ g, g ∈ fs.map (·.1) → g ∈ (putF f v fs).map (·.1)
  | [] => ⟨by simp [putF], fun g h => by simp at h⟩
  | (k, x) :: r => by
    obtain ⟨i1, i2⟩ := keys_putF f v r
    rw [show putF f v ((k, x) :: r) = (if k = f then (k, v) :: r else (k, x) :: putF f v r) from rfl]
    by_cases hk : k = f
    · rw [if_pos hk]
      subst hk
      exact ⟨by simp, fun g h => by simpa using h⟩
    · rw [if_neg hk]
      refine ⟨?_, fun g h => ?_⟩
      · rw [List.map_cons]
        exact List.mem_cons_of_mem _ i1
      · rw [List.map_cons] at h ⊢
        rcases List.mem_cons.mp h with e | e
        · exact List.mem_cons.mpr (.inl e)
        · exact List.mem_cons_of_mem _ (i2 g e)
theorem length_putF (f : Str) (v : V) : ∀ fs : List (Str × V), (putF f v fs).length ≤ fs.length + 1
  | [] => by simp [putF]
  | (k, x) :: r => by
    have ih := length_putF f v r
    rw [show putF f v ((k, x) :: r) = (if k = f then (k, v) :: r else (k, x) :: putF f v r) from rfl]
    by_cases hk : k = f
    · rw [if_pos hk, List.length_cons, List.length_cons]; omega
    · rw [if_neg hk, List.length_cons, List.length_cons]; omega

theorem RelO.some_of {v : V} {o : Option Value} (r : RelO (some v) o) : ∃ u, o = some u ∧ RelV v u := by
  cases o with
  | none => exact (show False from r).elim
  | some u => exact ⟨u, rfl, r⟩
theorem RelO.none_of {o : Option Value} (r : RelO none o) : o = none := by
  cases o with
  | none => rfl
  | some u => exact (show False from r).elim
theorem handed_of {v : V} {u : Value} (r : RelV v u) : PySem.W.handedIn u = true := by
  cases v with
  | non => cases (show u = Value.none from r); rfl
  | bl b => cases (show u = Value.bool b from r); rfl
  | int i => obtain ⟨t, e⟩ := (show ∃ t, u = Value.int i t from r); cases e; rfl
  | str x => obtain ⟨t, e⟩ := (show ∃ t, u = Value.str x t from r); cases e; rfl
  | byt b => obtain ⟨t, e⟩ := (show ∃ t, u = Value.bytes b t from r); cases e; rfl
  | flt b => obtain ⟨t, e⟩ := (show ∃ t, u = Value.float b t from r); cases e; rfl
  | ref a => cases (show u = Value.ref a from r); rfl
  | ty n => cases (show u = Value.type n from r); rfl

section
variable {P : Program} {w : World} {H H' : Hp} {h h' : Heap} {a C dx : Addr} {fs fs' : List (Str × V)}
theorem ins_get (hok : HOk P w H h) (e : H a = some (.ins C dx fs)) : ∃ mA, ObjM h a dx C mA ∧ (∀ f, RelO (fs.lookup f) (mA f)) ∧ PySem.Within mA (fs.map (·.1)) ∧ fs.length ≤ 1000 ∧ H dx = some (.own a) := by
  obtain ⟨d, z, ne, ob, mA, n, r, q⟩ := (show ObjOk P w H h a (.ins C dx fs) from hok a _ e)
  exact ⟨mA, ⟨ob, n, ne⟩, r, q, z, d⟩
end

/-! ### what of the text a class must have -/
structure Cls (K : PySem.W.Frag) (C : Addr) : Prop where
  pg : PySem.W.plainGet K C Str.empty = true
  hd : PySem.W.hasDictIn K C = true
  po : PySem.W.plainOver K C = true
  sa : PySem.W.findIn K (.ref C) "__setattr__" = some (some (.builtin "object.__setattr__"))
theorem Cls.get {K : PySem.W.Frag} {C : Addr} (c : Cls K C) (f : Str) : PySem.W.plainGet K C f = true := c.pg
/-- no class of it has the name -/
def NoAttr (K : PySem.W.Frag) (C : Addr) (f : Str) : Prop := PySem.W.findIn K (.ref C) f = some none
theorem NoAttr.taker {K : PySem.W.Frag} {C : Addr} {f : Str} (n : NoAttr K C f) : PySem.W.takerIn K C f = some none := by
  unfold PySem.W.takerIn
  rw [show PySem.W.findIn K (.ref C) f = some none from n]
  rfl
/-- a constant of the class -/
structure Con (K : PySem.W.Frag) (C : Addr) (f : Str) (v : V) (u : Value) : Prop where
  at_ : PySem.W.findIn K (.ref C) f = some (some u)
  rel : RelV v u
  get : PySem.W.specialIn K u "__get__" = some none
  cp : PySem.W.copiedNames.contains f = false
/-- a method: a plain def of the class or of one above it -/
structure Meth (K : PySem.W.Frag) (C : Addr) (m : Str) (f : Addr) : Prop where
  at_ : PySem.W.findIn K (.ref C) m = some (some (.ref f))
  fn : PySem.W.isFn K (.ref f) = true
  kp : PySem.W.keepIn K (.ref f) = true

section
variable {X : Cx} {pins : List (Addr × Obj)} {σ : St} {H : Hp} {s : Shared} {a C dx : Addr} {fs : List (Str × V)} {f : Str} {v : V} {A : Around} {E : Value → Shared → Prop}

theorem getattr_ok {b : Bool} {Q : Value → Shared → Prop} (I : Inv X pins σ H s) (e : H a = some (.ins C dx fs)) (c : Cls X.K C) (n : NoAttr X.K C f) (l : fs.lookup f = some v)
    (h : ∀ u s', Inv X pins σ H s' → RelV v u → Q u s') : wpAny (model X.prog X.w) A (getAttr (.ref a) f b) Q E s := by
  obtain ⟨mA, O, r, _, _, _⟩ := ins_get I.hok e
  obtain ⟨u, hu, ru⟩ := RelO.some_of (v := v) (o := mA f) (by rw [← l]; exact r f)
  exact get_map I.kIn O (c.get f) c.hd n hu (handed_of ru) (h u _ (I.tok _) ru)

theorem setattr_ok {y : V} {u : Value} {Q : Unit → Shared → Prop} (I : Inv X pins σ H s) (e : H a = some (.ins C dx fs)) (c : Cls X.K C) (n : NoAttr X.K C f) (hl : fs.length < 1000) (ry : RelV y u)
    (h : ∀ s', Inv X pins σ (upd H a (.ins C dx (putF f y fs))) s' → Q () s') : wpAny (model X.prog X.w) A (setAttr (.ref a) f u) Q E s := by
  obtain ⟨mA, O, r, wi, _, ho⟩ := ins_get I.hok e
  have hz : (fs.map (·.1)).length ≤ sizeLine := by rw [List.length_map, sizeLine_eq]; omega
  refine set_map I.kIn O c.sa c.po n.taker c.hd wi hz fun h' O' sb => h _ ?_
  have hd : ∃ o, h'.get? dx = some o := let ⟨o, _, _, e', _⟩ := O'.ns; ⟨o, e'⟩
  refine I.write (x := a) (e := dx) (by rw [e]; exact True.intro) (.inr ho) (fun b q hb z => (sb.2 b hb).trans z) hd ?_
  refine ⟨by rw [upd_ne O.ne]; exact ho, ?_, O.ne, O'.obj, _, O'.ns, fun g => ?_, fun g hg => ?_⟩
  · have := length_putF f y fs; omega
  · show RelO ((putF f y fs).lookup g) (if g = f then some u else mA g)
    rw [lookup_putF]
    by_cases q : g = f
    · rw [if_pos q, if_pos q]; exact ry
    · rw [if_neg q, if_neg q]; exact r g
  · by_cases q : g = f
    · rw [q]; exact (keys_putF f y fs).1
    · refine (keys_putF f y fs).2 g (wi g fun z => hg ?_)
      show (if g = f then some u else mA g) = none
      rw [if_neg q]; exact z

/-- a new instance, tracked, without attributes -/
theorem Inv.made (I : Inv X pins σ H s) : Inv X pins σ (upd (upd H s.heap.objs.size (.own (s.heap.objs.size + 1))) (s.heap.objs.size + 1) (.ins C s.heap.objs.size []))
    { s with heap := (s.heap.push PySem.W.emptyDict).push (PySem.W.instObj C s.heap.objs.size) } := by
  have e1 : (s.heap.push PySem.W.emptyDict).get? s.heap.objs.size = some PySem.W.emptyDict := Heap.get?_push_size s.heap rfl
  have e2 : ((s.heap.push PySem.W.emptyDict).push (PySem.W.instObj C s.heap.objs.size)).get? (s.heap.objs.size + 1) = some (PySem.W.instObj C s.heap.objs.size) := by
    have := Heap.get?_push_size (s.heap.push PySem.W.emptyDict) (o := PySem.W.instObj C s.heap.objs.size) rfl
    rwa [Heap.size_push] at this
  have e3 : (s.heap.push PySem.W.emptyDict).Ns s.heap.objs.size (fun _ => none) := ⟨PySem.W.emptyDict, #[], _, e1, rfl, (fun e he => absurd he (by simp)), fun _ => rfl⟩
  have I1 := I.laid (a := s.heap.objs.size) (o := .own (s.heap.objs.size + 1)) (h' := s.heap.push PySem.W.emptyDict) (t' := s.toks) (fun b u q => Heap.get?_push_of_some _ q) (Nat.le_refl _) ⟨_, e1⟩
  refine I1.laid (a := s.heap.objs.size + 1) (o := .ins C s.heap.objs.size []) (t' := s.toks) (fun b u q => Heap.get?_push_of_some _ q) (Nat.le_of_eq (Heap.size_push _ _)) ?_
  have ne : s.heap.objs.size ≠ s.heap.objs.size + 1 := Nat.ne_of_lt (Nat.lt_succ_self _)
  refine ⟨by rw [upd_ne ne, upd_same], Nat.zero_le _, ne, e2, fun _ => none, (Heap.Ns1.of_empty e3).at fun o q => Heap.get?_push_of_some _ q, fun _ => True.intro, fun y hy => absurd rfl hy⟩

/-- e.f where nothing but the object is asked: through attributeBase (super) and the last hold -/
theorem attr_of {prog : Program} {w : World} {env : Env} {e : Expr} {f : Str} {pos : Pos} {s : Shared} {Q : Value → Shared → Prop} (hb : attributeBase e f env (eval e env) = eval e env)
    (h : wpAny (model prog w) A (eval e env) (fun o s₁ => wpAny (model prog w) A (getAttr o f true) Q E s₁) E s) : wpAny (model prog w) A (eval (.Attribute e f pos) env) Q E s :=
  Attribute_any_ h (by rw [arm_eval_Attribute, hb])
end

/-! ### readings and rules -/
/-- e.f, an attribute of the instance -/
def tFld (K : PySem.W.Frag) (ta : TE) (f : Str) : TE := fun σ H Q => ta σ H fun x H1 => ∃ a C dx fs v, x = .ref a ∧ H1 a = some (.ins C dx fs) ∧ Cls K C ∧ NoAttr K C f ∧ fs.lookup f = some v ∧ Q v H1
/-- e.f, a constant of the class -/
def tCon (K : PySem.W.Frag) (ta : TE) (f : Str) : TE := fun σ H Q => ta σ H fun x H1 => ∃ a C dx fs v u, x = .ref a ∧ H1 a = some (.ins C dx fs) ∧ Cls K C ∧ Con K C f v u ∧ fs.lookup f = none ∧ Q v H1
/-- e.f = value -/
def sFld (K : PySem.W.Frag) (ta tv : TE) (f : Str) : TS := fun D σ H => tv σ H fun y H1 => ta σ H1 fun x H2 => ∃ a C dx fs, x = .ref a ∧ H2 a = some (.ins C dx fs) ∧ Cls K C ∧ NoAttr K C f ∧ fs.length < 1000 ∧
  D.nx σ (upd H2 a (.ins C dx (putF f y fs)))
/-- an augmented operator on two values -/
def InOp (X : Cx) (op : Operator) (rd : V → V → Hp → VK → Prop) : Prop :=
  ∀ (pins : List (Addr × Obj)) (s : Shared) (σ : St) (H : Hp) (x y : V) (u v : Value) (Q : VK), Inv X pins σ H s → RelV x u → RelV y v → rd x y H Q → wpAny (model X.prog X.w) X.A (inplaceOp op u v) (EP X pins σ Q) X.xe s
/-- e.f op= value -/
def sFldAug (K : PySem.W.Frag) (ta tv : TE) (rd : V → V → Hp → VK → Prop) (f : Str) : TS := fun D σ H => ta σ H fun x H1 => ∃ a C dx fs v, x = .ref a ∧ H1 a = some (.ins C dx fs) ∧ Cls K C ∧ NoAttr K C f ∧ fs.lookup f = some v ∧
  tv σ H1 fun y H2 => rd v y H2 fun z H3 => ∃ dx' fs', H3 a = some (.ins C dx' fs') ∧ fs'.length < 1000 ∧ D.nx σ (upd H3 a (.ins C dx' (putF f z fs')))

section
variable {X : Cx} {o e value : Expr} {f : Str} {pos pos' tpos : Pos} {ta tv : TE}
theorem pe_fld (he : PE X e ta) (hb : attributeBase e f X.env (eval e X.env) = eval e X.env) : PE X (.Attribute e f pos) (tFld X.K ta f) := by
  intro pins s σ H Q I h
  refine attr_of hb (thn (he pins s σ H _ I h) fun u s1 ⟨x, H1, I1, rx, a, C, dx, fs, v, ex, ea, c, n, l, q⟩ => ?_)
  subst ex
  obtain rfl : u = Value.ref a := rx
  exact getattr_ok I1 ea c n l fun u' s2 I2 ru => ⟨v, H1, I2, ru, q⟩
theorem ps_fld (ha : PE X o ta) (hv : PE X value tv) (hs : swapsWith value (some (.Attribute o f pos')) pos.line X.env = pure false) : PS X (.Assign [.Attribute o f pos'] value pos) (sFld X.K ta tv f) := by
  intro pins s σ H D I h
  refine plainObj_wpAny_Assign_Attribute (thn (hv pins s σ H _ I h) fun u s1 ⟨y, H1, I1, ry, q⟩ => thn (ha pins s1 σ H1 _ I1 q) fun ov s2 ⟨x, H2, I2, rx, a, C, dx, fs, ex, ea, c, n, l, q2⟩ => ?_) hs
  subst ex
  obtain rfl : ov = Value.ref a := rx
  exact setattr_ok I2 ea c n l ry fun s3 I3 => ⟨σ, _, I3, q2⟩
def rAdd : V → V → Hp → VK → Prop := fun x y H Q => ∃ i j, x = .int i ∧ y = .int j ∧ Q (.int (i + j)) H
def rSub : V → V → Hp → VK → Prop := fun x y H Q => ∃ i j, x = .int i ∧ y = .int j ∧ Q (.int (i - j)) H
end

/-! ### isinstance -/
section
variable {X : Cx} {pins : List (Addr × Obj)} {σ : St} {H : Hp} {s : Shared} {A : Around} {E : Value → Shared → Prop} {Q : Value → Shared → Prop} {c : Value} {b : Bool}
/-- the type of a value, as the fragment's deciders take it; for an instance its class -/
inductive TyOf (K : PySem.W.Frag) (H : Hp) : V → Value → Prop where
  | non : TyOf K H .non (.type "NoneType")
  | bl (x : Bool) : TyOf K H (.bl x) (.type "bool")
  | int (i : Int) : TyOf K H (.int i) (.type "int")
  | str (x : Str) : TyOf K H (.str x) (.type "str")
  | flt (x : UInt64) : TyOf K H (.flt x) (.type "float")
  | lst {a : Addr} {xs : List V} (e : H a = some (.lst xs)) : TyOf K H (.ref a) (.type "list")
  | frz {a : Addr} {o : Obj} {xs : List V} (e : H a = some (.frz o (.lst xs))) : TyOf K H (.ref a) (.type "list")
  | tup {a : Addr} {xs : List V} (e : H a = some (.tup xs)) : TyOf K H (.ref a) (.type "tuple")
  | dK {a : Addr} {kvs : List (Key × V)} (e : H a = some (.dK kvs)) : TyOf K H (.ref a) (.type "dict")
  | dT {a : Addr} {kvs : List (List Key × V)} (e : H a = some (.dT kvs)) : TyOf K H (.ref a) (.type "dict")
  | ins {a C dx : Addr} {fs : List (Str × V)} (e : H a = some (.ins C dx fs)) (cl : Cls K C) (ha : PySem.W.findIn K (.ref C) "__class__" = some (some (.builtin "object.__class__")))
      (hn : PySem.W.specialIn K (.builtin "object.__class__") "__get__" = some (some (.builtin "getset_descriptor.__get__"))) (htk : PySem.W.takesIn K (.builtin "object.__class__") = some true)
      (hm : PySem.W.mroIn K C (.type "object") = some true) : TyOf K H (.ref a) (.ref C)
/-- isinstance(x, c) for one class c, a built-in or an own one: kitOne's answer -/
theorem isinst_ok {x : V} {u t : Value} (I : Inv X pins σ H s) (rx : RelV x u) (ty : TyOf X.K H x t) (e : PySem.W.kitOne X.K t c = some b) (h : ∀ tk, Q (.bool b) { s with toks := tk }) :
    wpAny (model X.prog X.w) A (call (.builtin "isinstance") [u, c]) Q E s := by
  cases ty with
  | non => cases (show u = Value.none from rx); exact PySem.W.kia_one PySem.W.kitx_none I.kIn True.intro e (fun z => nomatch z) h
  | bl y => cases (show u = Value.bool y from rx); exact PySem.W.kia_one PySem.W.kitx_bool I.kIn True.intro e (fun z => nomatch z) h
  | int i => obtain ⟨t, q⟩ := (show ∃ t, u = Value.int i t from rx); cases q; exact PySem.W.kia_one PySem.W.kitx_int I.kIn True.intro e (fun z => nomatch z) h
  | str y => obtain ⟨t, q⟩ := (show ∃ t, u = Value.str y t from rx); cases q; exact PySem.W.kia_one PySem.W.kitx_str I.kIn True.intro e (fun z => nomatch z) h
  | flt y => obtain ⟨t, q⟩ := (show ∃ t, u = Value.float y t from rx); cases q; exact PySem.W.kia_one PySem.W.kitx_float I.kIn True.intro e (fun z => nomatch z) h
  | @lst a xs ea =>
    cases (show u = Value.ref a from rx)
    obtain ⟨_, _, n, _, h1⟩ := (show ObjOk X.prog X.w H s.heap a (.lst xs) from I.hok a _ ea)
    exact PySem.W.kia_one PySem.W.kitx_list I.kIn ⟨_, h1, rfl⟩ e (fun z => nomatch z) h
  | @frz a ob xs ea =>
    cases (show u = Value.ref a from rx)
    obtain ⟨_, _, _, n, _, h1⟩ := (show ObjOk X.prog X.w H s.heap a (.frz ob (.lst xs)) from I.hok a _ ea)
    exact PySem.W.kia_one PySem.W.kitx_list I.kIn ⟨_, h1, rfl⟩ e (fun z => nomatch z) h
  | @tup a xs ea =>
    cases (show u = Value.ref a from rx)
    obtain ⟨_, _, _, p⟩ := (show ObjOk X.prog X.w H s.heap a (.tup xs) from I.hok a _ ea)
    obtain ⟨o, h1, h2, _⟩ := p
    exact PySem.W.kia_one PySem.W.kitx_tuple I.kIn ⟨o, h1, h2⟩ e (fun z => nomatch z) h
  | @dK a kvs ea =>
    cases (show u = Value.ref a from rx)
    obtain ⟨_, _, vs, _, p⟩ := (show ObjOk X.prog X.w H s.heap a (.dK kvs) from I.hok a _ ea)
    obtain ⟨o, es, ep, h1, h2, _⟩ := p
    exact PySem.W.kia_one PySem.W.kitx_dict I.kIn ⟨o, h1, h2.1⟩ e (fun z => nomatch z) h
  | @dT a kvs ea =>
    cases (show u = Value.ref a from rx)
    obtain ⟨_, _, xs, _, o, es, ep, h1, h2, _⟩ := (show ObjOk X.prog X.w H s.heap a (.dT kvs) from I.hok a _ ea)
    exact PySem.W.kia_one PySem.W.kitx_dict I.kIn ⟨o, h1, h2.1⟩ e (fun z => nomatch z) h
  | @ins a C dx fs ea cl ha hn htk hm =>
    cases (show u = Value.ref a from rx)
    obtain ⟨mA, O, _⟩ := ins_get I.hok ea
    obtain ⟨od, J, _⟩ := O.look
    exact PySem.W.kia_one (PySem.W.kitx_own (cl.get _) cl.hd ha hn htk hm) I.kIn J e (fun z => nomatch z) h
end
end L2

namespace L2
open PySem PySem.Spec PyProof.Rows

/-! ### room -/
structure Room (k : Nat) (A : Around) : Prop where
  hd : A.handled = none
  dp : A.depth + 3 * k + 5 < recursionLimit
  un : A.units + 16 * k + 200 < cLine
theorem Room.mono {j k : Nat} {A : Around} (r : Room k A) (h : j ≤ k) : Room j A := ⟨r.hd, by have := r.dp; omega, by have := r.un; omega⟩
theorem Room.deeper {k : Nat} {A : Around} (r : Room (k + 1) A) (env : Env) : Room k (A.deeper env) :=
  ⟨r.hd, by have := r.dp; show A.depth + 1 + 3 * k + 5 < _; omega, by have := r.un; show A.units + 3 + 16 * k + 200 < _; omega⟩
theorem Room.in1 {k : Nat} {A : Around} (r : Room (k + 1) A) : Room k A.in1 :=
  ⟨r.hd, by have := r.dp; show A.depth + 3 * k + 5 < _; omega, by have := r.un; show A.units + 1 + 16 * k + 200 < _; omega⟩
theorem make_depth {A : Around} {C : Addr} {us : List Value} {kw : List (Str × Value)} : (A.under (.builtin "type.__call__" ⟨.ref C :: us, kw⟩)).depth = A.depth + 1 := by
  first | rfl | simp [Around.under, Code.weight, Code.isCreation, Code.isGuard, Code.isCaller, Code.frames, Code.isFrame, guardIds]
theorem make_units {A : Around} {C : Addr} {us : List Value} {kw : List (Str × Value)} : (A.under (.builtin "type.__call__" ⟨.ref C :: us, kw⟩)).units = A.units + 1 := by
  first | rfl | simp [Around.under, Code.cUnits, Code.frames, Code.isFrame]
theorem Room.make {k : Nat} {A : Around} (r : Room (k + 1) A) (C : Addr) (us : List Value) (kw : List (Str × Value)) : Room k (A.under (.builtin "type.__call__" ⟨.ref C :: us, kw⟩)) :=
  ⟨r.hd, by have := r.dp; rw [make_depth]; omega, by have := r.un; rw [make_units]; omega⟩
theorem Room.depth {k : Nat} {A : Around} (r : Room k A) : A.depth < recursionLimit := by have := r.dp; omega
theorem Room.units {k : Nat} {A : Around} (r : Room k A) : A.units + 64 < cLine := by have := r.un; omega
/-! ### argument lists and displays -/
def tNil : TA := fun _ H Q => Q [] H
def tCons (ta : TE) (tr : TA) : TA := fun σ H Q => ta σ H fun x H1 => tr σ H1 fun xs H2 => Q (x :: xs) H2
section
variable {X : Cx} {e : Expr} {es : List Expr} {te : TE} {t : TA} {pos : Pos}
theorem pa_nil : PA X [] tNil := fun _ _ _ _ H Q I h => Calls.spliced_nil ⟨[], H, I, .nil, h⟩
theorem pa_cons (ha : PE X e te) (hr : PA X es t) (hs : starEach (e :: es) X.env = (false, eval e X.env) :: starEach es X.env := by rfl) : PA X (e :: es) (tCons te t) := by
  intro pos pins s σ H Q I h
  rw [hs]
  show wpAny _ _ (spliced ((false, eval e X.env) :: backTo pos (starEach es X.env))) _ _ s
  refine Calls.spliced_cons (thn (ha pins s σ H _ I h) fun u s1 ⟨x, H1, I1, r1, q1⟩ => ?_)
  exact thn (hr pos pins s1 σ H1 _ I1 q1) fun us s2 ⟨xs, H2, I2, r2, q2⟩ => ⟨x :: xs, H2, I2, .cons r1 r2, q2⟩

/-- a tuple, a list of written items -/
def tTup (t : TA) : TE := fun σ H Q => t σ H fun xs H1 => xs.length ≤ sizeLine ∧ ∀ p, H1 p = none → Q (.ref p) (upd H1 p (.tup xs))
def tLst (t : TA) : TE := fun σ H Q => t σ H fun xs H1 => xs.length ≤ sizeLine ∧ ∀ p, H1 p = none → Q (.ref p) (upd H1 p (.lst xs))
theorem pe_tup {x1} (h : PA X es t) : PE X (.Tuple es x1 pos) (tTup t) := by
  intro pins s σ H Q I hq
  refine wpAny_Tuple_spliced (thn (h pos pins s σ H _ I hq) fun us s1 ⟨xs, H1, I1, r, z, q⟩ => ⟨by rw [← r.length]; exact z, ?_⟩)
  have hf : H1 s1.heap.objs.size = none := I1.hok.fresh (Nat.le_refl _)
  refine ⟨.ref s1.heap.objs.size, upd H1 s1.heap.objs.size (.tup xs), I1.laid (t' := s1.toks) (fun b u e => Heap.get?_push_of_some _ e) (Nat.le_refl _) ?_, rfl, q _ hf⟩
  exact ⟨z, us, r, ⟨_, Heap.get?_push_size _ rfl, rfl, _, rfl⟩⟩
theorem pe_lst (h : PA X es t) : PE X (.List es pos) (tLst t) := by
  intro pins s σ H Q I hq
  refine wpAny_List_spliced (thn (h pos pins s σ H _ I hq) fun us s1 ⟨xs, H1, I1, r, z, q⟩ => ⟨by rw [← r.length]; exact z, ?_⟩)
  have hf : H1 s1.heap.objs.size = none := I1.hok.fresh (Nat.le_refl _)
  refine ⟨.ref s1.heap.objs.size, upd H1 s1.heap.objs.size (.lst xs), I1.laid (t' := s1.toks) (fun b u e => Heap.get?_push_of_some _ e) (Nat.le_refl _) ?_, rfl, q _ hf⟩
  exact ⟨z, us, 0, r, Heap.get?_push_size _ rfl⟩
end

/-! ### what a def promises -/
/-- a def's promise: the bound arguments in the parameters' order, the heap, the wanted end, the wanted exception -/
abbrev Sp := List V → Hp → VK → XK → Prop
/-- how an exception lies behind a call (file 08 gives it): the callers' frames, abstract heap and state ahead of the call, the wish, the exception, the state -/
abbrev CXT := List Env → Hp → Shared → XK → Value → Shared → Prop

/-- the state at a call -/
structure Env0 (P : Program) (w : World) (K : PySem.W.Frag) (mg : Str → Option Value) (base : Heap) (A : Around) (outer : List Env) (s : Shared) (H : Hp) : Prop where
  frames : A.frames = some outer
  mod : Mod K mg base
  bs : ∀ b o, base.get? b = some o → s.heap.get? b = some o ∧ H b = none
  bsz : base.objs.size ≤ s.heap.objs.size
  funs : s.heap.FunFrames base outer
  frf : ∀ b ∈ frs outer, H b = none
  hok : HOk P w H s.heap
  bare : AllBare s.gens
/-- a call's end -/
def CE (outer : List Env) (P : Program) (w : World) (H : Hp) (s : Shared) (Q : VK) (u : Value) (s' : Shared) : Prop :=
  ∃ v H', s'.os = s.os ∧ AllBare s'.gens ∧ Un (frs outer) [] H H' s.heap s'.heap ∧ HOk P w H' s'.heap ∧ RelV v u ∧ Q v H'
def CR (CX : CXT) (outer : List Env) (P : Program) (w : World) (H : Hp) (s : Shared) (Q : VK) (E : XK) (r : Result) (s' : Shared) : Prop :=
  match r with
  | .ok (.ret u) => CE outer P w H s Q u s'
  | .ok _ => False
  | .error e => CX outer H s E e s'
structure FnOk (P : Program) (w : World) (K : PySem.W.Frag) (mg : Str → Option Value) (base : Heap) (CX : CXT) (k : Nat) (f : Addr) (fd : FuncData) (ps : List Str) (sp : Sp) : Prop where
  len : ∀ vs H Q E, sp vs H Q E → vs.length = ps.length
  run : ∀ (A : Around) (outer : List Env) (s : Shared) (H : Hp) (args : Args) (us : List Value) (vs : List V) (Q : VK) (E : XK), Room k A → Env0 P w K mg base A outer s H → BindsTo s fd args (ps.zip us) → Vals vs us → sp vs H Q E →
    codeAny (model P w) A (.call (.ref f) args) (CR CX outer P w H s Q E) s
theorem FnOk.mono {P : Program} {w : World} {K : PySem.W.Frag} {mg : Str → Option Value} {base : Heap} {CX : CXT} {j k : Nat} {f : Addr} {fd : FuncData} {ps : List Str} {sp : Sp} (F : FnOk P w K mg base CX j f fd ps sp) (h : j ≤ k) :
    FnOk P w K mg base CX k f fd ps sp := ⟨F.len, fun A outer s H args us vs Q E hr => F.run A outer s H args us vs Q E (hr.mono h)⟩
theorem Env0.make {P : Program} {w : World} {K : PySem.W.Frag} {mg : Str → Option Value} {base : Heap} {A : Around} {outer : List Env} {s : Shared} {H : Hp} (e : Env0 P w K mg base A outer s H) (C : Addr) (us : List Value) (kw : List (Str × Value)) :
    Env0 P w K mg base (A.under (.builtin "type.__call__" ⟨.ref C :: us, kw⟩)) outer s H := ⟨by first | exact e.frames | (simpa [Around.under, Code.envs, Code.isFrame, pushEnvs] using e.frames), e.mod, e.bs, e.bsz, e.funs, e.frf, e.hok, e.bare⟩
theorem Env0.in1 {P : Program} {w : World} {K : PySem.W.Frag} {mg : Str → Option Value} {base : Heap} {A : Around} {outer : List Env} {s : Shared} {H : Hp} (e : Env0 P w K mg base A outer s H) :
    Env0 P w K mg base A.in1 outer s H := ⟨e.frames, e.mod, e.bs, e.bsz, e.funs, e.frf, e.hok, e.bare⟩

section
variable {X : Cx} {pins : List (Addr × Obj)} {σ : St} {H : Hp} {s s' : Shared}
/-- from a body: what a callee wants -/
theorem Inv.env0 (I : Inv X pins σ H s) : Env0 X.prog X.w X.K X.mg X.base X.A X.stack s H :=
  ⟨I.ok.frames, I.ok.mod, I.bs, Nat.le_trans I.ok.bsz I.sz, I.stack, I.stkFree, I.hok, I.bare⟩
/-- behind a call -/
theorem Inv.after {Q : VK} {u : Value} (I : Inv X pins σ H s) (h : CE X.stack X.prog X.w H s Q u s') : EP X pins σ Q u s' := by
  obtain ⟨v, H', os, bare, un, hok, r, q⟩ := h
  obtain ⟨hh, g, d, t, os'⟩ := s'
  obtain rfl : os' = s.os := os
  exact ⟨v, H', I.call (h' := hh) (g' := g) (d' := d) (t' := t) (ch := []) un hok bare (fun b z => absurd z (by simp)), r, q⟩
end

/-! ### calls -/
/-- f(..): the written arguments, then the defaults dvs; E: what is wanted of an exception -/
def tCall (sp : Sp) (dvs : List V) (E : XK) (t : TA) : TE := fun σ H Q => t σ H fun vs H1 => sp (vs ++ dvs) H1 Q E
/-- o.m(..) of an instance of the class at C -/
def tMeth (C : Addr) (m : Str) (sp : Sp) (dvs : List V) (E : XK) (ta : TE) (t : TA) : TE := fun σ H Q => ta σ H fun x H1 => ∃ a dx fs, x = .ref a ∧ H1 a = some (.ins C dx fs) ∧ fs.lookup m = none ∧
  t σ H1 fun vs H2 => sp (x :: (vs ++ dvs)) H2 Q E
/-- C(..): a new instance and its dict, then __init__ -/
def tMake (C : Addr) (sp : Sp) (dvs : List V) (E : XK) (t : TA) : TE := fun σ H Q => t σ H fun vs H1 => ∀ x dx, H1 x = none → H1 dx = none → dx ≠ x →
  sp (.ref x :: (vs ++ dvs)) (upd (upd H1 dx (.own x)) x (.ins C dx [])) (fun v H2 => v = .non ∧ Q (.ref x) H2) E

/-- how the parameters are bound: us the positional arguments, kw the keywords' values by name, ds the defaults that fill up -/
def Binds (K : PySem.W.Frag) (fd : FuncData) (ps : List Str) (ds : List Value) : Prop :=
  ∀ (s : Shared) (us : List Value), K.In s.heap → (us ++ ds).length = ps.length → BindsTo s fd ⟨us, []⟩ (ps.zip (us ++ ds))
/-- every parameter is given -/
theorem Binds.all {K : PySem.W.Frag} {fd : FuncData} {ps : List Str} (h : ∀ us : List Value, us.length = ps.length → bindArgs fd ⟨us, []⟩ = pure (ps.zip us)) : Binds K fd ps [] := fun s us _ hl => by
  rw [List.append_nil] at hl ⊢
  exact .of_eq (h us hl)

/-- an exception of a callee reaches what this body wants of exceptions -/
def Passes (CX : CXT) (X : Cx) (E : XK) : Prop := ∀ (pins : List (Addr × Obj)) (σ : St) (H : Hp) (s : Shared) (e : Value) (s' : Shared), Inv X pins σ H s → CX X.stack H s E e s' → X.xe e s'

section
variable {X : Cx} {CX : CXT} {k : Nat} {f C : Addr} {fd : FuncData} {ps : List Str} {sp : Sp} {dvs : List V} {ds : List Value} {E : XK} {x m : Str} {p pos apos : Pos} {e o : Expr} {es : List Expr} {ta : TE} {t : TA}

/-- the callee runs -/
theorem run_fn {pins : List (Addr × Obj)} {σ : St} {H : Hp} {s : Shared} {Q : VK} {us : List Value} {vs : List V} (F : FnOk X.prog X.w X.K X.mg X.base CX k f fd ps sp) (hr : Room k X.A) (hb : Binds X.K fd ps ds) (hd : Vals dvs ds) (hx : Passes CX X E)
    (I : Inv X pins σ H s) (r : Vals vs us) (h : sp (vs ++ dvs) H Q E) : wpAny (model X.prog X.w) X.A (call (.ref f) us) (EP X pins σ Q) X.xe s := by
  have r2 : Vals (vs ++ dvs) (us ++ ds) := r.append hd
  have hl : (us ++ ds).length = ps.length := by rw [← r2.length]; exact F.len _ _ _ _ h
  refine wpAny_call (codeAny_mono (F.run X.A X.stack s H ⟨us, []⟩ (us ++ ds) (vs ++ dvs) Q E hr I.env0 (hb s us I.kIn hl) r2 h) fun r s' hq => ?_)
  cases r with
  | error e => exact hx pins σ H s e s' I hq
  | ok fl =>
    cases fl with
    | ret u => exact I.after hq
    | next => exact False.elim hq
    | brk => exact False.elim hq
    | cont => exact False.elim hq

theorem pe_call (F : FnOk X.prog X.w X.K X.mg X.base CX k f fd ps sp) (hr : Room k X.A) (hg : Gl X x) (hm : X.mg x = some (.ref f)) (hk : PySem.W.keepIn X.K (.ref f) = true) (hb : Binds X.K fd ps ds) (hd : Vals dvs ds) (hx : Passes CX X E)
    (ha : PA X (e :: es) t) (hdb : (x == ("__debug__" : Str)) = false := by decide) (he : starEach (e :: es) X.env = (false, eval e X.env) :: starEach es X.env := by rfl) (hpl : (backTo pos (starEach es X.env)).any (·.1) = false := by rfl) :
    PE X (.Call (.Name x p) (e :: es) [] pos) (tCall sp dvs E t) := by
  intro pins s σ H Q I h
  refine wpAny_Call_Name_kw (ld_glob I hg hm ?_ hdb)
  refine PySem.W.callWith_K (h₀ := X.base) I.ok.mod.kin hk (thn (ha pos pins s σ H _ I h) fun us s1 ⟨vs, H1, I1, r, q⟩ => ⟨I1.kIn, ?_⟩) he hpl
  exact run_fn F hr hb hd hx I1 r q
/-- what a class must have to be made -/
structure Mk (K : PySem.W.Frag) (C f : Addr) : Prop where
  makes : PySem.W.makesIn K C = true
  init : PySem.W.findIn K (.ref C) "__init__" = some (some (.ref f))
  fn : PySem.W.isFn K (.ref f) = true
  kp : PySem.W.keepIn K (.ref C) = true

theorem run_make {pins : List (Addr × Obj)} {σ : St} {H : Hp} {s : Shared} {Q : VK} {us : List Value} {vs : List V} (M : Mk X.K C f) (F : FnOk X.prog X.w X.K X.mg X.base CX k f fd ps sp) (hr : Room (k + 1) X.A) (hb : Binds X.K fd ps ds) (hd : Vals dvs ds)
    (hx : Passes CX X E) (I : Inv X pins σ H s) (r : Vals vs us)
    (h : ∀ x dx, H x = none → H dx = none → dx ≠ x → sp (.ref x :: (vs ++ dvs)) (upd (upd H dx (.own x)) x (.ins C dx [])) (fun v H2 => v = .non ∧ Q (.ref x) H2) E) :
    wpAny (model X.prog X.w) X.A (call (.ref C) us) (EP X pins σ Q) X.xe s := by
  have hq := h (s.heap.objs.size + 1) s.heap.objs.size (I.hok.fresh (Nat.le_succ _)) (I.hok.fresh (Nat.le_refl _)) (Nat.ne_of_lt (Nat.lt_succ_self _))
  have I2 := Inv.made (C := C) I
  have r2 : Vals (V.ref (s.heap.objs.size + 1) :: (vs ++ dvs)) (Value.ref (s.heap.objs.size + 1) :: (us ++ ds)) := .cons rfl (r.append hd)
  have hl : (Value.ref (s.heap.objs.size + 1) :: us ++ ds).length = ps.length := by
    have e := r2.length
    rw [F.len _ _ _ _ hq] at e
    exact e.symm
  refine wpAny_call (make_map (f := f) I.kIn M.makes M.init (beq_iff_eq.mp M.fn) (codeAny_mono (F.run _ X.stack _ _ ⟨Value.ref (s.heap.objs.size + 1) :: us, []⟩ (Value.ref (s.heap.objs.size + 1) :: (us ++ ds)) _ _ E (hr.make C us [])
    (I2.env0.make C us []) (hb _ (Value.ref (s.heap.objs.size + 1) :: us) I2.kIn hl) r2 hq) fun r s' hq' => ?_))
  cases r with
  | error e => exact hx pins σ _ _ e s' I2 hq'
  | ok fl =>
    cases fl with
    | ret u =>
      obtain ⟨v, H', I3, rv, ev, q3⟩ := I2.after hq'
      subst ev
      exact ⟨rv, ⟨V.ref (s.heap.objs.size + 1), H', I3, rfl, q3⟩⟩
    | next => exact False.elim hq'
    | brk => exact False.elim hq'
    | cont => exact False.elim hq'
theorem pe_make (M : Mk X.K C f) (F : FnOk X.prog X.w X.K X.mg X.base CX k f fd ps sp) (hr : Room (k + 1) X.A) (hg : Gl X x) (hm : X.mg x = some (.ref C)) (hb : Binds X.K fd ps ds) (hd : Vals dvs ds) (hx : Passes CX X E)
    (ha : PA X (e :: es) t) (hdb : (x == ("__debug__" : Str)) = false := by decide) (he : starEach (e :: es) X.env = (false, eval e X.env) :: starEach es X.env := by rfl) (hpl : (backTo pos (starEach es X.env)).any (·.1) = false := by rfl) :
    PE X (.Call (.Name x p) (e :: es) [] pos) (tMake C sp dvs E t) := by
  intro pins s σ H Q I h
  refine wpAny_Call_Name_kw (ld_glob I hg hm ?_ hdb)
  refine PySem.W.callWith_K (h₀ := X.base) I.ok.mod.kin M.kp (thn (ha pos pins s σ H _ I h) fun us s1 ⟨vs, H1, I1, r, q⟩ => ⟨I1.kIn, ?_⟩) he hpl
  exact run_make M F hr hb hd hx I1 r q
end

/-! ### keywords -/
/-- the values of the keywords, from the left -/
def PK (X : Cx) (kws : List Keyword) (t : TA) : Prop :=
  ∀ (pos : Pos) (pins : List (Addr × Obj)) (s : Shared) (σ : St) (H : Hp) (Q : List V → Hp → Prop), Inv X pins σ H s → t σ H Q → wpAny (model X.prog X.w) X.A (evalAll ((backToKw pos (keywordEach kws X.env)).map (·.2))) (AP X pins σ Q) X.xe s
section
variable {X : Cx} {CX : CXT} {k : Nat} {f C : Addr} {fd : FuncData} {ps ks : List Str} {sp : Sp} {E : XK} {x m : Str} {p pos apos kpos : Pos} {e o : Expr} {es : List Expr} {kws : List Keyword} {te ta : TE} {t tk : TA} {nm : Option Str}
/-- how a call with keywords binds: g puts the positional values us and the keywords' values ws (names ks) in the parameters' order, defaults among them -/
structure KBinds (K : PySem.W.Frag) (fd : FuncData) (ps ks : List Str) (g : List Value → List Value → List Value) (gV : List V → List V → List V) : Prop where
  to : ∀ (s : Shared) (us ws : List Value), K.In s.heap → (g us ws).length = ps.length → BindsTo s fd ⟨us, ks.zip ws⟩ (ps.zip (g us ws))
  rel : ∀ {vs : List V} {us : List Value} {zs : List V} {ws : List Value}, Vals vs us → Vals zs ws → Vals (gV vs zs) (g us ws)
def tCallK (sp : Sp) (gV : List V → List V → List V) (E : XK) (t tk : TA) : TE := fun σ H Q => t σ H fun vs H1 => tk σ H1 fun zs H2 => sp (gV vs zs) H2 Q E
variable {g : List Value → List Value → List Value} {gV : List V → List V → List V}
end

/-! ### a def's body keeps its promise -/
/-- names: the parameters first -/
structure FnScope (N P : List Str) (sc : Scope) : Prop where
  kind : sc.kind = .function
  co : sc.isCoroutine = false
  gen : sc.isGenerator = false
  nd : N.Nodup
  pre : N.take P.length = P
  par : ∀ x ∈ P, sc.names.lookup x = some .local ∨ sc.names.lookup x = some .cell
  nofree : ∀ y ∈ sc.names, y.2 ≠ .free

theorem bindL_out {kindOf : Str → Option NameKind} {x : Str} : ∀ {binds : List (Str × Value)} {m : Str → Option Value}, (∀ v, (x, v) ∉ binds) → bindL kindOf binds m x = m x
  | [], _, _ => rfl
  | (n, v) :: r, m, h => by
    unfold bindL
    rw [bindL_out fun w hw => h w (List.mem_cons_of_mem _ hw)]
    split
    · have : x ≠ n := by rintro rfl; exact h v List.mem_cons_self
      simp [this]
    · rfl
theorem bindC_out {kindOf : Str → Option NameKind} {x : Str} : ∀ {binds : List (Str × Value)} {m : Str → Option Value}, (∀ v, (x, v) ∉ binds) → bindC kindOf binds m x = m x
  | [], _, _ => rfl
  | (n, v) :: r, m, h => by
    unfold bindC
    rw [bindC_out fun w hw => h w (List.mem_cons_of_mem _ hw)]
    split
    · rfl
    · have : x ≠ n := by rintro rfl; exact h v List.mem_cons_self
      simp [this]
theorem bindL_get {kindOf : Str → Option NameKind} {x : Str} {v : Value} : ∀ {P : List Str} {vs : List Value} {i : Nat} {m : Str → Option Value}, P.Nodup → P[i]? = some x → vs[i]? = some v → kindOf x = some .local →
    bindL kindOf (P.zip vs) m x = some v
  | [], _, _, _, _, h, _, _ => by simp at h
  | _ :: _, [], _, _, _, _, h, _ => by simp at h
  | p :: P, w :: vs, 0, m, nd, h1, h2, hk => by
    simp at h1 h2; subst h1; subst h2
    show bindL kindOf ((p, w) :: P.zip vs) m p = _
    unfold bindL
    rw [bindL_out fun v hv => (List.nodup_cons.mp nd).1 (List.of_mem_zip hv).1, if_pos hk]
    simp
  | p :: P, w :: vs, i + 1, m, nd, h1, h2, hk => by
    show bindL kindOf ((p, w) :: P.zip vs) m x = _
    unfold bindL
    exact bindL_get (i := i) (List.nodup_cons.mp nd).2 (by simpa using h1) (by simpa using h2) hk
theorem bindC_get {kindOf : Str → Option NameKind} {x : Str} {v : Value} : ∀ {P : List Str} {vs : List Value} {i : Nat} {m : Str → Option Value}, P.Nodup → P[i]? = some x → vs[i]? = some v → kindOf x ≠ some .local →
    bindC kindOf (P.zip vs) m x = some v
  | [], _, _, _, _, h, _, _ => by simp at h
  | _ :: _, [], _, _, _, _, h, _ => by simp at h
  | p :: P, w :: vs, 0, m, nd, h1, h2, hk => by
    simp at h1 h2; subst h1; subst h2
    show bindC kindOf ((p, w) :: P.zip vs) m p = _
    unfold bindC
    rw [bindC_out fun v hv => (List.nodup_cons.mp nd).1 (List.of_mem_zip hv).1, if_neg hk]
    simp
  | p :: P, w :: vs, i + 1, m, nd, h1, h2, hk => by
    show bindC kindOf ((p, w) :: P.zip vs) m x = _
    unfold bindC
    exact bindC_get (i := i) (List.nodup_cons.mp nd).2 (by simpa using h1) (by simpa using h2) hk

/-- the names' values at the entry -/
def start (N : List Str) (vs : List V) : St := vs.map some ++ List.replicate (N.length - vs.length) none

/-- the context of a def's body, at its entry; an exception leaves the frame, then lies as CX says -/
def cxOf (CX : CXT) (P : Program) (w : World) (K : PySem.W.Frag) (mg : Str → Option Value) (base : Heap) (N : List Str) (qual : Str) (scope : Scope) (f : Addr) (cd : Value) (A : Around) (outer : List Env) (s : Shared) (H : Hp) (E : XK) : Cx where
  prog := P
  w := w
  K := K
  mg := mg
  base := base
  A := A.deeper (envOfC qual scope s.heap.objs.size f cd)
  N := N
  s₀ := s
  H₀ := H
  env := envOfC qual scope s.heap.objs.size f cd
  outer := outer
  stack := envOfC qual scope s.heap.objs.size f cd :: outer
  ex := []
  calm := true
  fn := fun _ => true
  pn := []
  xe := fun e s' => wpAny (model P w) (A.deeper (envOfC qual scope s.heap.objs.size f cd)) (leaving (envOfC qual scope s.heap.objs.size f cd) e) (fun _ s'' => CX outer H s E e s'') (fun e' s'' => CX outer H s E e' s'') s'

theorem cell_has {sc : Scope} {n : Nat} {x : Str} (h : sc.names.lookup x = some .cell) : ∃ c, (cellsFrom n sc.names []).lookup x = some c := by
  have q := PySem.W.cellsFrom_some sc.names n [] (.inl h)
  exact Option.isSome_iff_exists.mp q

theorem inv_start {CX : CXT} {P : Program} {w : World} {K : PySem.W.Frag} {mg : Str → Option Value} {base : Heap} {N ps : List Str} {qual : Str} {scope : Scope} {f : Addr} {cd : Value} {A : Around} {outer : List Env} {s s1 : Shared} {H : Hp} {E : XK} {us : List Value} {vs : List V}
    (S : FnScope N ps scope) (hd : A.handled = none) (e0 : Env0 P w K mg base A outer s H) (hl : vs.length = ps.length) (r : Vals vs us)
    (x : InCallC s s.heap.objs.size (bindL (envOfC qual scope s.heap.objs.size f cd).kindOf (ps.zip us) fun _ => none) (cellsFrom (s.heap.objs.size + 1) scope.names []) (bindC (envOfC qual scope s.heap.objs.size f cd).kindOf (ps.zip us) fun _ => none) s1) :
    Inv (cxOf CX P w K mg base N qual scope f cd A outer s H E) [] (start N vs) H s1 := by
  have hpl : ps.length ≤ N.length := by have := congrArg List.length S.pre; rw [List.length_take] at this; omega
  obtain ⟨h1, tk, rfl, hk⟩ := x.done
  have noA : ∀ b : Addr, b ∉ (cxOf CX P w K mg base N qual scope f cd A outer s H E).ex := fun b z => absurd (show b ∈ ([] : List Addr) from z) (by simp)
  refine ⟨⟨e0.mod, S.kind, rfl, rfl, Nat.le_refl _, fun y z c h1 h2 => ?_, fun y hy => ?_, fun y c _ h => ?_, fun _ => hd, Around.frames_deeper e0.frames, .inr ⟨rfl, rfl⟩, fun b z => absurd z (noA b), e0.bs, e0.bsz, fun b _ _ => noA b, fun b z => absurd z (noA b), e0.funs, e0.frf⟩,
    rfl, e0.bare, Un.kept hk, ⟨_, x.toInCall.ns, fun i y v h1 h2 h3 => ?_⟩, fun y c h => ⟨_, x.cell y c h⟩, e0.hok.fresh (Nat.le_refl _), fun y c h => ?_, fun p hp => absurd (show p ∈ ([] : List (Addr × Obj)) from hp) (by simp), e0.hok.kept hk, ?_⟩
  · exact name_of_addr x.apart (PySem.mem_of_lookup h1) (PySem.mem_of_lookup h2)
  · have hy : scope.names.lookup y = some .cell ∨ scope.names.lookup y = some .free := hy
    rcases hy with hy | hy
    · exact cell_has hy
    · exact absurd rfl (S.nofree _ (PySem.mem_of_lookup hy))
  · exact Nat.le_of_lt (x.above y c (PySem.mem_of_lookup h))
  · have hi : i < vs.length := by
      unfold start at h2
      by_cases hi : i < vs.length
      · exact hi
      · rw [List.getElem?_append_right (by simpa using hi)] at h2
        rw [List.getElem?_replicate] at h2
        split at h2 <;> cases h2
    have ha : vs[i]? = some v := by
      unfold start at h2
      rw [List.getElem?_append_left (by simpa using hi), List.getElem?_map] at h2
      cases e : vs[i]? with
      | none => rw [e] at h2; cases h2
      | some a => rw [e] at h2; cases h2; rfl
    obtain ⟨u, hu, rv⟩ := r.get ha
    have hp : ps[i]? = some y := by
      rw [← S.pre, List.getElem?_take_of_lt (by omega)]; exact h1
    have ndP : ps.Nodup := by rw [← S.pre]; exact S.nd.sublist (List.take_sublist _ _)
    refine ⟨u, rv, ?_⟩
    rcases S.par y (List.mem_of_getElem? hp) with k | k
    · exact .inl ⟨k, bindL_get ndP hp hu k⟩
    · obtain ⟨c, e⟩ := cell_has (n := s.heap.objs.size + 1) k
      refine .inr ⟨.inl k, c, e, ?_⟩
      have q := x.cell y c e
      rw [bindC_get ndP hp hu (by show scope.names.lookup y ≠ _; rw [k]; decide)] at q
      exact q
  · exact e0.hok.fresh (Nat.le_of_lt (x.above y c (PySem.mem_of_lookup h)))
  · unfold start
    show _ = N.length
    rw [List.length_append, List.length_map, List.length_replicate]
    omega

/-- THE RULE: a def (or a method) of the text, by its body. The body's reading t is chosen for each entry; it is run at the parameters' values -/
theorem fn_of {CX : CXT} {P : Program} {w : World} {K : PySem.W.Frag} {mg : Str → Option Value} {base : Heap} {k : Nat} {f : Addr} {name qual : Str} {params : Arguments} {body : List Stmt} {scope : Scope} {dV kV doc pm cdv ct oc : Value} {an od : Option Addr}
    {osl : Array (Option Value)} {N ps : List Str} {sp : Sp} (lk : K.lookup f = some ⟨oc, od, .func (PySem.W.fnOf name qual params body scope dV kV doc pm an cdv ct), osl⟩) (hcd : PySem.W.codeIn K cdv qual = true) (S : FnScope N ps scope)
    (len : ∀ vs H Q E, sp vs H Q E → vs.length = ps.length)
    (hbody : ∀ (A : Around) (outer : List Env) (s : Shared) (H : Hp) (vs : List V) (Q : VK) (E : XK), Room k (A.deeper (envOfC qual scope s.heap.objs.size f cdv)) → sp vs H Q E →
      ∃ t, PSs (cxOf CX P w K mg base N qual scope f cdv A outer s H E) body t ∧ t { nx := fun _ H' => Q .non H', rt := Q } (start N vs) H) :
    FnOk P w K mg base CX (k + 1) f (PySem.W.fnOf name qual params body scope dV kV doc pm an cdv ct) ps sp := by
  refine ⟨len, fun A outer s H args us vs Q E hr e0 hb r hsp => ?_⟩
  have hl := len _ _ _ _ hsp
  have KX : K.In s.heap := e0.mod.kin.keeps fun b o e => (e0.bs b o e).1
  have lim : s.heap.NoLimit := e0.mod.nolimit.keeps fun b o e => (e0.bs b o e).1
  have hkind : ∀ y ∈ ps.zip us, scope.names.lookup y.1 = some .local ∨ (scope.names.lookup y.1 = some .cell ∧ ((cellsFrom (s.heap.objs.size + 1) scope.names []).lookup y.1).isSome = true) := fun ⟨n, v⟩ hy => by
    rcases S.par n (List.of_mem_zip hy).1 with q | q
    · exact .inl q
    · exact .inr ⟨q, PySem.W.cellsFrom_some _ _ _ (.inl q)⟩
  refine codeAny_call_function hr.depth (KX _ _ lk) rfl S.co S.gen rfl (PySem.W.codeRec_of KX hcd) (hb _ _ _ _ ?_)
  refine wpAny_newFunctionEnv_cells S.kind hkind fun env he s1 x => ?_
  subst he
  refine ⟨lim.keeps x.toInCall.keep, codeAny_func ?_⟩
  obtain ⟨t, ht, hq⟩ := hbody A outer s H vs Q E (hr.deeper _) hsp
  have I : Inv (cxOf CX P w K mg base N qual scope f cdv A outer s H E) [] (start N vs) H s1 := inv_start S hr.hd e0 hl r x
  refine wpAny_mono (ht [] s1 (start N vs) H _ I hq) (fun fl s' hs => ?_) fun e s' hs => hs
  have fin : ∀ {σ' : St} {H' : Hp} {v : V} {u : Value}, Inv (cxOf CX P w K mg base N qual scope f cdv A outer s H E) [] σ' H' s' → RelV v u → Q v H' → CE outer P w H s Q u s' :=
    fun {σ' H' v u} J rv q => ⟨v, H', J.os, J.bare, J.base, J.hok, rv, q⟩
  cases fl with
  | ret u =>
    obtain ⟨v, σ', H', J, rv, q⟩ := hs
    exact fin J rv q
  | next =>
    obtain ⟨σ', H', J, q⟩ := hs
    exact fin (v := V.non) (u := Value.none) J rfl q
  | brk =>
    obtain ⟨_, _, _, q⟩ := hs
    exact False.elim q
  | cont =>
    obtain ⟨_, _, _, q⟩ := hs
    exact False.elim q
end L2

namespace L2
open PySem PySem.Spec PyProof.Rows
section
variable {X : Cx} {x : Str} {p pos : Pos} {e : Expr} {es : List Expr} {t : TA} {id T : String} {r : List V → Hp → VK → Prop}

def tCB (r : List V → Hp → VK → Prop) (t : TA) : TE := fun σ H Q => t σ H fun vs H1 => r vs H1 Q
/-- f(e, ..), f a built-in function -/
theorem pe_callB (hc : CallR X (.builtin id) r) (hg : Gl X x) (hm : X.mg x = none) (hv : bootBuiltins x = some (.builtin id)) (ha : PA X (e :: es) t) (hn : x ≠ "__name__" := by decide) (hdb : (x == ("__debug__" : Str)) = false := by decide)
    (he : starEach (e :: es) X.env = (false, eval e X.env) :: starEach es X.env := by rfl) (hpl : (backTo pos (starEach es X.env)).any (·.1) = false := by rfl) : PE X (.Call (.Name x p) (e :: es) [] pos) (tCB r t) := by
  intro pins s σ H Q I h
  refine wpAny_Call_Name_kw (ld_blt I hg hm hv ?_ hn hdb)
  exact PyProof.Rows.callWith_builtin1 (thn (ha pos pins s σ H _ I h) fun us s1 ⟨vs, H1, I1, r1, q1⟩ => hc pins s1 σ H1 vs us Q I1 r1 q1) he hpl
/-- T(e, ..), T a built-in type -/
theorem pe_callTy (hc : CallR X (.type T) r) (hg : Gl X x) (hm : X.mg x = none) (hv : bootBuiltins x = some (.type T)) (ha : PA X (e :: es) t) (hn : x ≠ "__name__" := by decide) (hdb : (x == ("__debug__" : Str)) = false := by decide)
    (he : starEach (e :: es) X.env = (false, eval e X.env) :: starEach es X.env := by rfl) (hpl : (backTo pos (starEach es X.env)).any (·.1) = false := by rfl) : PE X (.Call (.Name x p) (e :: es) [] pos) (tCB r t) := by
  intro pins s σ H Q I h
  refine wpAny_Call_Name_kw (ld_blt I hg hm hv ?_ hn hdb)
  exact PyProof.Rows.callWith_type1 (thn (ha pos pins s σ H _ I h) fun us s1 ⟨vs, H1, I1, r1, q1⟩ => hc pins s1 σ H1 vs us Q I1 r1 q1) he hpl
end
end L2

namespace HT
open PySem PyProof.Rows

/-- t < u of tuples of ints -/
def lexLt : List Int → List Int → Bool
  | [], [] => false
  | [], _ :: _ => true
  | _ :: _, [] => false
  | x :: xs, y :: ys => if x = y then lexLt xs ys else decide (x < y)
section
open PySem.SeqAt
open PySem.AutoSeq1 (wpAny_loadPart')
open PySem.MeetsSeq PySem.MeetsSeq2 PySem.MeetsSeq3

end

section
variable {prog : Program} {w : World} {A : Around} {E : Value → Shared → Prop} {s : Shared}

/-! ### t[a:b], not the whole -/
/-- a slice's bound as a place among n (d where it is left out) -/
def sIx (n d : Nat) : Option Int → Nat
  | none => d
  | some v => if v < 0 then (v + (n : Int)).toNat else min v.toNat n
end
end HT

namespace L2
open PySem PySem.Spec PyProof.Rows

/-! ### the parts of a slice -/
abbrev TO := St → Hp → (Option Int → Hp → Prop) → Prop
/-- a slice's part (left out, or an int) -/
def PO (X : Cx) (e : Option Expr) (t : TO) : Prop :=
  ∀ (pins : List (Addr × Obj)) (s : Shared) (σ : St) (H : Hp) (Q : Option Int → Hp → Prop), Inv X pins σ H s → t σ H Q →
    wpAny (model X.prog X.w) X.A (evalPart e X.env) (fun u s' => ∃ o H', Inv X pins σ H' s' ∧ IsPart u o ∧ Q o H') X.xe s
def tNoPart : TO := fun _ H Q => Q none H
def tPart (t : TE) : TO := fun σ H Q => t σ H fun x H1 => ∃ i, x = .int i ∧ Q (some i) H1

section
variable {X : Cx} {e : Expr} {te : TE} {lo hi : Option Expr} {tl th : TO} {pos p2 : Pos}

theorem po_none : PO X none tNoPart := by
  intro pins s σ H Q I h
  rw [evalPart_none]
  exact wpAny_pure ⟨none, H, I, .none, h⟩
theorem po_some (h : PE X e te) : PO X (some e) (tPart te) := by
  intro pins s σ H Q I hw
  rw [evalPart_some]
  refine thn (h pins s σ H _ I hw) fun u s1 ⟨x, H1, I1, r1, q1⟩ => ?_
  obtain ⟨i, rfl, q⟩ := q1
  obtain ⟨t, rfl⟩ := r1
  exact ⟨some i, H1, I1, .int i t, q⟩

/-- what a slice of a value is, by values: the slice object stands at sl -/
def SlR (X : Cx) (r : V → Option Int → Option Int → Hp → VK → Prop) : Prop :=
  ∀ (pins : List (Addr × Obj)) (s : Shared) (σ : St) (H : Hp) (x : V) (v vl vu : Value) (lo hi : Option Int) (sl : Addr) (Q : VK), Inv X pins σ H s → RelV x v → s.heap.IsSliceOf sl vl vu .none → IsPart vl lo → IsPart vu hi → r x lo hi H Q →
    ∃ T id, typeLookup (.type T) "__getitem__" = pure (some (.builtin id)) ∧ s.TypeIs v T ∧ wpAny (model X.prog X.w) X.A (getItem v (.ref sl)) (EP X pins σ Q) X.xe s
theorem SlR.or {r r' : V → Option Int → Option Int → Hp → VK → Prop} (h : SlR X r) (h' : SlR X r') : SlR X (fun x lo hi H Q => r x lo hi H Q ∨ r' x lo hi H Q) := by
  intro pins s σ H x v vl vu lo hi sl Q I rx hs pl pu q
  rcases q with q | q
  · exact h pins s σ H x v vl vu lo hi sl Q I rx hs pl pu q
  · exact h' pins s σ H x v vl vu lo hi sl Q I rx hs pl pu q
def tSl (r : V → Option Int → Option Int → Hp → VK → Prop) (te : TE) (tl th : TO) : TE := fun σ H Q => te σ H fun x H1 => tl σ H1 fun l H2 => th σ H2 fun u H3 => r x l u H3 Q
/-- a[lo:hi], any a -/
theorem pe_slice {r : V → Option Int → Option Int → Hp → VK → Prop} (hr : SlR X r) (he : PE X e te) (hl : PO X lo tl) (hu : PO X hi th) : PE X (.Subscript e (.Slice lo hi none p2) pos) (tSl r te tl th) := by
  intro pins s σ H Q I h
  refine Subscript_ (thn (he pins s σ H _ I h) fun v s1 ⟨x, H1, I1, r1, q1⟩ => ?_)
  refine wpAny_Slice (thn (hl pins s1 σ H1 _ I1 q1) fun vl s2 ⟨l, H2, I2, pl, q2⟩ => thn (hu pins s2 σ H2 _ I2 q2) fun vu s3 ⟨u, H3, I3, pu, q3⟩ => ?_)
  rw [evalPart_none]
  refine wpAny_pure ?_
  have I4 : Inv X pins σ H3 { s3 with heap := s3.heap.push { cls := .type "slice", data := .fields #[vl, vu, .none] } } := I3.kept (t' := s3.toks) fun b ob q => Heap.get?_push_of_some _ q
  obtain ⟨T, id, hT, ht, hg⟩ := hr pins { s3 with heap := s3.heap.push { cls := .type "slice", data := .fields #[vl, vu, .none] } } σ H3 x v vl vu l u s3.heap.objs.size Q I4 r1 (Heap.IsSliceOf.new ..) pl pu q3
  show wpAny (model X.prog X.w) X.A (subscriptTail e (.Slice lo hi none p2) v (.ref s3.heap.objs.size)) (EP X pins σ Q) X.xe { s3 with heap := s3.heap.push { cls := .type "slice", data := .fields #[vl, vu, .none] } }
  exact tail_any (ops := [.ref s3.heap.objs.size, v]) ht hT hg (by with_unfolding_all rfl)

/-- the items of xs[lo:hi] -/
def cutV (xs : List V) (lo hi : Option Int) : List V := (xs.drop (HT.sIx xs.length 0 lo)).take (HT.sIx xs.length xs.length hi - HT.sIx xs.length 0 lo)
theorem cutV_length (xs : List V) (lo hi : Option Int) : (cutV xs lo hi).length ≤ xs.length := by
  unfold cutV
  rw [List.length_take, List.length_drop]
  omega
/-- t[lo:hi], not the whole of it (the whole would be t itself) -/
def rSlT (K : PySem.W.Frag) : V → Option Int → Option Int → Hp → VK → Prop := fun x lo hi H Q => ∃ a xs, x = .ref a ∧ SqT K H a xs ∧
  ¬ (HT.sIx xs.length 0 lo = 0 ∧ HT.sIx xs.length xs.length hi = xs.length) ∧ ∀ p, H p = none → Q (.ref p) (upd H p (.tup (cutV xs lo hi)))
/-! ### t < u, t + u -/
def rLtT (K : PySem.W.Frag) : R2 := fun x y H Q => ∃ a b ns ms, x = .ref a ∧ y = .ref b ∧ SqT K H a (ns.map V.int) ∧ SqT K H b (ms.map V.int) ∧ Q (.bl (HT.lexLt ns ms)) H
/-- t + u, t not empty: u empty gives t itself -/
def rCatT (K : PySem.W.Frag) : R2 := fun x y H Q => ∃ a b xs ys, x = .ref a ∧ y = .ref b ∧ SqT K H a xs ∧ SqT K H b ys ∧ xs ≠ [] ∧ xs.length + ys.length ≤ sizeLine ∧
  (ys = [] → Q (.ref a) H) ∧ (ys ≠ [] → ∀ p, H p = none → Q (.ref p) (upd H p (.tup (xs ++ ys))))
end
end L2

namespace L2
open PySem PySem.Spec PyProof.Rows

/-! ### places -/
/-- the place that an index of any sign means -/
def ixN (n : Nat) (i : Int) : Option Nat := if 0 ≤ i then (if i < n then some i.toNat else none) else if -(n : Int) ≤ i then some (i + n).toNat else none
def atI {α : Type} (xs : List α) (i : Int) : Option α := (ixN xs.length i).bind fun j => xs[j]?
theorem ixN_seq {n : Nat} {i : Int} {j : Nat} (h : ixN n i = some j) : seqIndex? i n = some j ∧ j < n ∧ -(n : Int) ≤ i ∧ i < n := by
  unfold ixN at h
  by_cases h0 : 0 ≤ i
  · rw [if_pos h0] at h
    by_cases h1 : i < n
    · rw [if_pos h1] at h
      have e : i.toNat = j := Option.some.inj h
      exact ⟨by rw [seqIndex_of h0 h1, e], by omega, by omega, h1⟩
    · rw [if_neg h1] at h; cases h
  · rw [if_neg h0] at h
    by_cases h1 : -(n : Int) ≤ i
    · rw [if_pos h1] at h
      have e : (i + n).toNat = j := Option.some.inj h
      exact ⟨by rw [seqIndex_neg (by omega) h1, e], by omega, h1, by omega⟩
    · rw [if_neg h1] at h; cases h
theorem atI_get {α : Type} {xs : List α} {i : Int} {v : α} (h : atI xs i = some v) : ∃ j, seqIndex? i xs.length = some j ∧ xs[j]? = some v ∧ j < xs.length ∧ -(xs.length : Int) ≤ i ∧ i < xs.length := by
  unfold atI at h
  cases e : ixN xs.length i with
  | none => rw [e] at h; cases h
  | some j =>
    rw [e] at h
    obtain ⟨h1, h2, h3, h4⟩ := ixN_seq e
    exact ⟨j, h1, h, h2, h3, h4⟩
theorem atI_nat {α : Type} {xs : List α} {j : Nat} {v : α} (h : xs[j]? = some v) : atI xs (j : Int) = some v := by
  have hj : j < xs.length := (List.getElem?_eq_some_iff.mp h).1
  have e : ixN xs.length (j : Int) = some j := by
    unfold ixN
    rw [if_pos (by omega), if_pos (by omega)]; simp
  unfold atI; rw [e]; exact h
/-! ### what may be subscripted -/
/-- what stands as an index of a plain subscript -/
def PlainIx (b : Expr) : Prop := ∀ o i, subscripted b false o i = operate [o, i] (getItem o i)
/-- a subscript by values -/
def IxR (X : Cx) (r : R2) : Prop :=
  ∀ (value slice : Expr) (pins : List (Addr × Obj)) (s : Shared) (σ : St) (H : Hp) (x y : V) (v u : Value) (Q : VK), Inv X pins σ H s → RelV x v → RelV y u → r x y H Q →
    subscripted slice false v u = operate [v, u] (getItem v u) → wpAny (model X.prog X.w) X.A (subscriptTail value slice v u) (EP X pins σ Q) X.xe s
/-- a call of a builtin's method by values: the receiver, the arguments -/
def MtR (X : Cx) (id : String) (r : V → List V → Hp → VK → Prop) : Prop :=
  ∀ (pins : List (Addr × Obj)) (s : Shared) (σ : St) (H : Hp) (x : V) (xs : List V) (v : Value) (us : List Value) (Q : VK), Inv X pins σ H s → RelV x v → Vals xs us → r x xs H Q →
    wpAny (model X.prog X.w) X.A (call (.builtin id) (v :: us)) (EP X pins σ Q) X.xe s
section
variable {X : Cx} {a b : Expr} {ta tb : TE} {pos : Pos}
theorem IxR.or {r r' : R2} (h : IxR X r) (h' : IxR X r') : IxR X (fun x y H Q => r x y H Q ∨ r' x y H Q) := by
  intro value slice pins s σ H x y v u Q I rx ry q hs
  rcases q with q | q
  · exact h value slice pins s σ H x y v u Q I rx ry q hs
  · exact h' value slice pins s σ H x y v u Q I rx ry q hs
theorem MtR.or {id : String} {r r' : V → List V → Hp → VK → Prop} (h : MtR X id r) (h' : MtR X id r') : MtR X id (fun x xs H Q => r x xs H Q ∨ r' x xs H Q) := by
  intro pins s σ H x xs v us Q I rx rs q
  rcases q with q | q
  · exact h pins s σ H x xs v us Q I rx rs q
  · exact h' pins s σ H x xs v us Q I rx rs q
/-- a[b] -/
theorem pe_ix {r : R2} (hr : IxR X r) (ha : PE X a ta) (hb : PE X b tb) (hs : PlainIx b) : PE X (.Subscript a b pos) (tOp r ta tb) := by
  intro pins s σ H Q I h
  exact Subscript_ (binT ha hb I h fun v u s2 x y H2 I2 rx ry q => hr a b pins s2 σ H2 x y v u Q I2 rx ry q (hs _ _))

def rIxL (K : PySem.W.Frag) : R2 := fun x y H Q => ∃ p xs i v, x = .ref p ∧ y = .int i ∧ SqL K H p xs ∧ atI xs i = some v ∧ Q v H
def rIxT (K : PySem.W.Frag) : R2 := fun x y H Q => ∃ p xs i v, x = .ref p ∧ y = .int i ∧ SqT K H p xs ∧ atI xs i = some v ∧ Q v H
def rIxS : R2 := fun x y H Q => ∃ z i c, x = .str z ∧ y = .int i ∧ z.length ≤ sizeLine ∧ atI z.cps.toList i = some c ∧ Q (.str ⟨#[c]⟩) H
theorem ix_list : IxR X (rIxL X.K) := by
  intro value slice pins s σ H x y v u Q I rx ry h hs
  obtain ⟨p, xs, i, z, rfl, rfl, hq, he, q⟩ := h
  cases rx
  obtain ⟨t, rfl⟩ := ry
  obtain ⟨its, r, pl, hz⟩ := I.list hq
  obtain ⟨j, h1, h2, h3, h4, h5⟩ := atI_get he
  obtain ⟨w, ew, rw'⟩ := r.get h2
  have hl := r.length
  have hn := line63
  have fin : EP X pins σ Q w s := ⟨z, H, I, rw', q⟩
  by_cases h0 : 0 ≤ i
  · have hj : i.toNat = j := by
      rw [seqIndex_of h0 h5] at h1
      exact Option.some.inj h1
    exact item_listR pl.isList h0 (by omega) (by rw [hj]; simpa using ew) fin hs
  · have hj : (i + (its.toArray.size : Int)).toNat = j := by
      rw [seqIndex_neg (by omega) h4] at h1
      rw [List.size_toArray, ← hl]
      exact Option.some.inj h1
    exact subscriptTail_builtinR (x := w) pl.isList.typeIs slot_list_getitem.lookup
      (wpAny_getItem_list_neg (Q := fun r s' => r = w ∧ EP X pins σ Q r s') pl.isList (by omega) (by rw [List.size_toArray] <;> omega) (by omega) (by rw [hj]; simpa using ew) ⟨rfl, fin⟩) hs
theorem ix_tup : IxR X (rIxT X.K) := by
  intro value slice pins s σ H x y v u Q I rx ry h hs
  obtain ⟨p, xs, i, z, rfl, rfl, hq, he, q⟩ := h
  cases rx
  obtain ⟨t, rfl⟩ := ry
  obtain ⟨its, r, pl, hz⟩ := I.tuple hq
  obtain ⟨j, h1, h2, h3, h4, h5⟩ := atI_get he
  obtain ⟨w, ew, rw'⟩ := r.get h2
  have hl := r.length
  have hn := line63
  have fin : EP X pins σ Q w s := ⟨z, H, I, rw', q⟩
  exact subscriptTail_builtinR (x := w) pl.typeIs slot_tuple_getitem.lookup
    (getItem_tuple (j := j) (Q := fun r s' => r = w ∧ EP X pins σ Q r s') pl (by omega) (by omega) (by rw [List.size_toArray, ← hl]; exact h1) (by simpa using ew) ⟨rfl, fin⟩) hs
theorem ix_str : IxR X rIxS := by
  intro value slice pins s σ H x y v u Q I rx ry h hs
  obtain ⟨z, i, c, rfl, rfl, hz, he, q⟩ := h
  obtain ⟨t, rfl⟩ := rx
  obtain ⟨t', rfl⟩ := ry
  obtain ⟨j, h1, h2, h3, h4, h5⟩ := atI_get he
  have hl : z.cps.toList.length = z.length := by simp [Str.length]
  rw [hl] at h1 h4 h5
  have hn := line63
  exact tail_any (typeIs_str s z t) slot_str_getitem.lookup (getItem_str (c := c) (by
    have e1 : decide (i < -(2 ^ 63 : Int)) = false := decide_eq_false (by omega)
    have e2 : decide (i ≥ 2 ^ 63) = false := decide_eq_false (by omega)
    rw [e1, e2, Bool.or_false]) (by rw [h1]; simpa using h2) ⟨.str ⟨#[c]⟩, H, I.tok _, ⟨_, rfl⟩, q⟩) hs
/-- list, tuple or str -/
def rIx (K : PySem.W.Frag) : R2 := fun x y H Q => rIxL K x y H Q ∨ rIxT K x y H Q ∨ rIxS x y H Q
/-! ### xs[i] = v, any sign -/
theorem Inv.lst {pins : List (Addr × Obj)} {σ : St} {H : Hp} {s : Shared} {p : Addr} {xs : List V} (I : Inv X pins σ H s) (h : H p = some (.lst xs)) :
    ∃ (its : List Value) (n : Nat), Vals xs its ∧ s.heap.get? p = some { cls := .type "list", data := .seq its.toArray n } ∧ xs.length ≤ sizeLine := by
  obtain ⟨z, its, n, r, e⟩ := I.hok p _ h
  exact ⟨its, n, r, e, z⟩
def rSetL : V → V → V → Hp → (Hp → Prop) → Prop := fun o i v H Q => ∃ p xs k j, o = .ref p ∧ i = .int k ∧ H p = some (.lst xs) ∧ ixN xs.length k = some j ∧ Q (upd H p (.lst (xs.set j v)))
/-! ### slices -/
theorem slice_bounds (lo hi : Option Int) (n : Nat) : (sliceBounds lo hi none n).1 = ((HT.sIx n 0 lo : Nat) : Int) ∧ (sliceBounds lo hi none n).2.1 = ((HT.sIx n n hi : Nat) : Int) ∧ (sliceBounds lo hi none n).2.2 = 1 := by
  refine ⟨?_, ?_, rfl⟩
  · cases lo with
    | none => simp [sliceBounds, HT.sIx]
    | some i =>
      simp only [sliceBounds, HT.sIx, Option.getD_none, show (1 : Int) > 0 by decide, if_true]
      by_cases h : i < 0
      · simp only [h, if_true] <;> omega
      · simp only [h, if_false] <;> omega
  · cases hi with
    | none => simp [sliceBounds, HT.sIx]
    | some i =>
      simp only [sliceBounds, HT.sIx, Option.getD_none, show (1 : Int) > 0 by decide, if_true]
      by_cases h : i < 0
      · simp only [h, if_true] <;> omega
      · simp only [h, if_false] <;> omega
theorem slicePick_cut (its : List Value) (lo hi : Option Int) : slicePick its.toArray lo hi none = ((its.drop (HT.sIx its.length 0 lo)).take (HT.sIx its.length its.length hi - HT.sIx its.length 0 lo)).toArray := by
  obtain ⟨h1, h2, h3⟩ := slice_bounds lo hi its.toArray.size
  unfold slicePick
  rw [h1, h2, h3]
  simp only [sliceRange_one, pick_run, List.size_toArray] <;> rfl
/-- xs[lo:hi] of a list: a new list -/
def rSlL (K : PySem.W.Frag) : V → Option Int → Option Int → Hp → VK → Prop := fun x lo hi H Q => ∃ a xs, x = .ref a ∧ SqL K H a xs ∧ ∀ p, H p = none → Q (.ref p) (upd H p (.lst (cutV xs lo hi)))
theorem sl_list : SlR X (rSlL X.K) := by
  intro pins s σ H x v vl vu lo hi sl Q I rx hs pl pu h
  obtain ⟨a, xs, rfl, hx, q⟩ := h
  cases rx
  obtain ⟨its, r, ht, hz⟩ := I.list hx
  have hlen := r.length
  refine ⟨"list", _, slot_list_getitem.lookup, ht.isList.typeIs, ?_⟩
  refine wpAny_getItem_list_slice ht.isList hs pl pu .none (by simp) ?_ (by rw [List.size_toArray] <;> omega)
  rw [slicePick_cut, ← hlen]
  refine ⟨.ref s.heap.objs.size, _, I.laid (t' := s.toks) (o := .lst (cutV xs lo hi)) (fun b ob q => Heap.get?_push_of_some _ q) (Nat.le_refl _) ?_, rfl, q _ (I.hok.fresh (Nat.le_refl _))⟩
  exact ⟨Nat.le_trans (cutV_length xs lo hi) hz, _, 0, (r.drop (HT.sIx xs.length 0 lo)).take (HT.sIx xs.length xs.length hi - HT.sIx xs.length 0 lo), Heap.get?_push_size _ rfl⟩

/-! ### in, not in: flat items -/
def flatV : V → Bool
  | .non => true
  | .bl _ => true
  | .int _ => true
  | .str _ => true
  | _ => false
/-- == of flat values -/
def eqV : V → V → Bool
  | .non, .non => true
  | .bl a, .bl b => a == b
  | .bl a, .int b => (if a then 1 else 0) == b
  | .int a, .bl b => a == (if b then 1 else 0)
  | .int a, .int b => a == b
  | .str a, .str b => a == b
  | _, _ => false
theorem eqAt_V {A : Around} {s : Shared} {y x : V} {u v : Value} (ry : RelV y u) (rx : RelV x v) (fy : flatV y = true) (fx : flatV x = true) : SeqAt.EqAt A s u v (eqV y x) := by
  cases y with
  | non =>
    cases ry
    cases x with
    | non => cases rx; exact SeqAt.EqAt.same _
    | bl b => cases rx; exact SeqAt.EqAt.none_bool b
    | int b => obtain ⟨t, rfl⟩ := rx; exact SeqAt.EqAt.none_int b t
    | str b => obtain ⟨t, rfl⟩ := rx; exact SeqAt.EqAt.none_str b t
    | _ => exact absurd (show false = true from fx) Bool.false_ne_true
  | bl a =>
    cases ry
    cases x with
    | non => cases rx; exact SeqAt.EqAt.bool_none a
    | bl b => cases rx; exact SeqAt.EqAt.bool_bool a b
    | int b => obtain ⟨t, rfl⟩ := rx; exact SeqAt.EqAt.bool_int a b t
    | str b => obtain ⟨t, rfl⟩ := rx; exact SeqAt.EqAt.bool_str a b t
    | _ => exact absurd (show false = true from fx) Bool.false_ne_true
  | int a =>
    obtain ⟨t', rfl⟩ := ry
    cases x with
    | non => cases rx; exact SeqAt.EqAt.int_none a t'
    | bl b => cases rx; exact SeqAt.EqAt.int_bool a t' b
    | int b => obtain ⟨t, rfl⟩ := rx; exact SeqAt.EqAt.int_int a t' b t
    | str b => obtain ⟨t, rfl⟩ := rx; exact SeqAt.EqAt.int_str a t' b t
    | _ => exact absurd (show false = true from fx) Bool.false_ne_true
  | str a =>
    obtain ⟨t', rfl⟩ := ry
    cases x with
    | non => cases rx; exact SeqAt.EqAt.str_none a t'
    | bl b => cases rx; exact SeqAt.EqAt.str_bool a t' b
    | int b => obtain ⟨t, rfl⟩ := rx; exact SeqAt.EqAt.str_int a t' b t
    | str b => obtain ⟨t, rfl⟩ := rx; exact SeqAt.EqAt.str_str a t' b t
    | _ => exact absurd (show false = true from fx) Bool.false_ne_true
  | _ => exact absurd (show false = true from fy) Bool.false_ne_true
/-- the items' answers, read off the values (a value's own answer does not lean on its token) -/
def eqU (x : V) (u : Value) : Bool := match u with
  | .none => eqV .non x
  | .bool b => eqV (.bl b) x
  | .int i _ => eqV (.int i) x
  | .str z _ => eqV (.str z) x
  | _ => false
theorem eqU_of {x y : V} {u : Value} (r : RelV y u) (f : flatV y = true) : eqU x u = eqV y x := by
  cases y with
  | non => cases r; rfl
  | bl b => cases r; rfl
  | int i => obtain ⟨t, rfl⟩ := r; rfl
  | str z => obtain ⟨t, rfl⟩ := r; rfl
  | _ => exact absurd (show false = true from f) Bool.false_ne_true
theorem any_eqU {x : V} : ∀ {xs : List V} {us : List Value}, Vals xs us → xs.all flatV = true → us.any (eqU x) = xs.any fun y => eqV y x
  | _, _, .nil, _ => rfl
  | y :: xs, u :: us, .cons r t, f => by
    rw [List.all_cons, Bool.and_eq_true] at f
    rw [List.any_cons, List.any_cons, eqU_of r f.1, any_eqU t f.2]
theorem mem_eqAt {A : Around} {s : Shared} {x : V} {v : Value} (rx : RelV x v) (fx : flatV x = true) : ∀ {xs : List V} {us : List Value}, Vals xs us → xs.all flatV = true → ∀ u ∈ us, SeqAt.EqAt A s u v (eqU x u)
  | _, _, .nil, _ => fun u hu => by cases hu
  | y :: xs, u :: us, .cons r t, f => fun u' hu => by
    rw [List.all_cons, Bool.and_eq_true] at f
    rcases List.mem_cons.mp hu with rfl | hu
    · rw [eqU_of r f.1]; exact eqAt_V r rx f.1 fx
    · exact mem_eqAt rx fx t f.2 u' hu
def inV (x : V) (xs : List V) : Bool := xs.any fun y => eqV y x
/-- x in a list or tuple of flat items -/
def rIn (K : PySem.W.Frag) (neg : Bool) : R2 := fun x y H Q => ∃ p xs, y = .ref p ∧ (SqL K H p xs ∨ SqT K H p xs) ∧ flatV x = true ∧ xs.all flatV = true ∧ Q (.bl (if neg then !inV x xs else inV x xs)) H
theorem op_notIn_seq : OpR X (compareOp .NotIn) (rIn X.K true) := by
  intro pins s σ H x y v u Q I rx ry h
  obtain ⟨p, xs, rfl, hq, fx, fs, q⟩ := h
  cases ry
  rcases hq with hq | hq
  · obtain ⟨its, r, pl, hz⟩ := I.list hq
    refine SeqAt.notIn_listAt (eqU x) pl.isList (fun w hw => mem_eqAt rx fx r fs w (by simpa using hw)) ⟨.bl _, H, I, rfl, ?_⟩
    rw [show its.toArray.any (eqU x) = its.any (eqU x) by simp, any_eqU r fs]
    exact q
  · obtain ⟨its, r, pl, hz⟩ := I.tuple hq
    refine SeqAt.notIn_tupleAt (eqU x) pl (fun w hw => mem_eqAt rx fx r fs w (by simpa using hw)) ⟨.bl _, H, I, rfl, ?_⟩
    rw [show its.toArray.any (eqU x) = its.any (eqU x) by simp, any_eqU r fs]
    exact q
/-! ### len, list(x), tuple(x) of any list or tuple that is read -/
theorem call_len_seq : CallR X (.builtin "len") (fun xs H Q => ∃ p ys, xs = [.ref p] ∧ (SqL X.K H p ys ∨ SqT X.K H p ys) ∧ Q (.int ys.length) H) := by
  intro pins s σ H xs us Q I r h
  obtain ⟨p, ys, rfl, hq, q⟩ := h
  obtain ⟨u, rfl, rx⟩ := vals1 r
  cases rx
  have hn := line63
  rcases hq with hq | hq
  · obtain ⟨its, r', pl, hz⟩ := I.list hq
    have hlen := r'.length
    exact Calls.call_len_list pl.isList (by simp only [List.size_toArray] <;> omega) ⟨.int ys.length, H, I.tok _, ⟨s.toks + 1, by rw [List.size_toArray, hlen]⟩, q⟩
  · obtain ⟨its, r', pl, hz⟩ := I.tuple hq
    have hlen := r'.length
    exact len_tuple pl (by simp only [List.size_toArray] <;> omega) ⟨.int ys.length, H, I.tok _, ⟨s.toks + 1, by rw [List.size_toArray, hlen]⟩, q⟩
theorem CallR.or {f : Value} {r r' : List V → Hp → VK → Prop} (h : CallR X f r) (h' : CallR X f r') : CallR X f (fun xs H Q => r xs H Q ∨ r' xs H Q) := by
  intro pins s σ H xs us Q I rs q
  rcases q with q | q
  · exact h pins s σ H xs us Q I rs q
  · exact h' pins s σ H xs us Q I rs q
theorem call_list_of : CallR X (.type "list") (fun xs H Q => ∃ p ys, xs = [.ref p] ∧ (SqL X.K H p ys ∨ SqT X.K H p ys) ∧ ∀ l, H l = none → Q (.ref l) (upd H l (.lst ys))) := by
  intro pins s σ H xs us Q I r h
  obtain ⟨p, ys, rfl, hq, q⟩ := h
  obtain ⟨u, rfl, rx⟩ := vals1 r
  cases rx
  have fin : ∀ (its : List Value), Vals ys its → ys.length ≤ sizeLine → ∀ (h' : Heap) (c' : Nat), (∀ b o', s.heap.get? b = some o' → h'.get? b = some o') →
      h'.get? s.heap.objs.size = some { cls := .type "list", dict := none, data := .seq its.toArray c', slots := #[] } → EP X pins σ Q (.ref s.heap.objs.size) { s with heap := h' } := fun its r' hz h' c' kp e =>
    ⟨.ref s.heap.objs.size, _, I.laid (t' := s.toks) kp (Nat.le_refl _) (show ObjOk X.prog X.w _ h' _ (.lst ys) from ⟨hz, its, c', r', e⟩), rfl, q _ (I.hok.fresh (Nat.le_refl _))⟩
  rcases hq with hq | hq
  · obtain ⟨its, r', pl, hz⟩ := I.list hq
    have hlen := r'.length
    obtain ⟨o, ho, hc, n, hd⟩ := pl.isList
    exact call_list_seq p (.inl rfl) ho hc hd (fun h' c' kp e => fin its r' hz h' c' kp e) (by simp only [List.size_toArray] <;> omega)
  · obtain ⟨its, r', pl, hz⟩ := I.tuple hq
    have hlen := r'.length
    obtain ⟨o, ho, hc, n, hd⟩ := pl
    exact call_list_seq p (.inr rfl) ho hc hd (fun h' c' kp e => fin its r' hz h' c' kp e) (by simp only [List.size_toArray] <;> omega)
/-! ### the call of a builtin's method: o.m(..) -/
/-- the value is of that builtin type -/
def tyV (K : PySem.W.Frag) (T : String) (x : V) (H : Hp) : Prop := match x with
  | .str _ => T = "str"
  | .int _ => T = "int"
  | .ref p => (T = "list" ∧ ∃ xs, SqL K H p xs) ∨ (T = "tuple" ∧ ∃ o, K.lookup p = some o ∧ o.cls = .type "tuple" ∧ o.dict = none) ∨
      (T = "dict" ∧ ((∃ kvs, H p = some (.dK kvs)) ∨ ∃ kvs, H p = some (.dT kvs))) ∨ (T = "set" ∧ ∃ S n, H p = some (.set S n))
  | _ => False
theorem tyV_is {pins : List (Addr × Obj)} {σ : St} {H : Hp} {s : Shared} {T : String} {x : V} {v : Value} (I : Inv X pins σ H s) (r : RelV x v) (ty : tyV X.K T x H) :
    s.TypeIs v T ∧ ∀ a, v = .ref a → ∃ ob, s.heap.get? a = some ob ∧ ob.dict = none := by
  cases x with
  | str z =>
    obtain ⟨t, rfl⟩ := r
    cases (show T = "str" from ty)
    exact ⟨typeIs_str s z t, fun _ e => nomatch e⟩
  | int i =>
    obtain ⟨t, rfl⟩ := r
    cases (show T = "int" from ty)
    exact ⟨typeIs_int s i t, fun _ e => nomatch e⟩
  | ref p =>
    cases r
    rcases ty with ⟨rfl, xs, hq⟩ | ⟨rfl, o, hk, hc, hd⟩ | ⟨rfl, hk⟩ | ⟨rfl, S, n, hk⟩
    · obtain ⟨its, _, pl, _⟩ := I.list hq
      refine ⟨pl.isList.typeIs, fun a e => ?_⟩
      cases e
      obtain ⟨o, n, e, c, hd, _⟩ := pl
      exact ⟨o, e, hd⟩
    · refine ⟨⟨o, I.kIn p o hk, hc⟩, fun a e => ?_⟩
      cases e
      exact ⟨o, I.kIn _ o hk, hd⟩
    · have z : ∃ o, s.heap.get? p = some o ∧ o.ExactDict := by
        rcases hk with ⟨kvs, hk⟩ | ⟨kvs, hk⟩
        · obtain ⟨_, _, _, _, o, _, _, e, ex, _⟩ := I.hok p _ hk
          exact ⟨o, e, ex⟩
        · obtain ⟨_, _, _, _, o, _, _, e, ex, _⟩ := I.hok p _ hk
          exact ⟨o, e, ex⟩
      obtain ⟨o, e, ex⟩ := z
      refine ⟨⟨o, e, ex.1⟩, fun a e2 => ?_⟩
      cases e2
      exact ⟨o, e, ex.2.1⟩
    · obtain ⟨o, _, _, _, e, ex, _⟩ := I.hok p _ hk
      refine ⟨⟨o, e, ex.1⟩, fun a e2 => ?_⟩
      cases e2
      exact ⟨o, e, ex.2.1⟩
  | _ => exact False.elim ty
def tBM0 (K : PySem.W.Frag) (T : String) (r : V → List V → Hp → VK → Prop) (to : TE) : TE := fun σ H Q => to σ H fun x H1 => tyV K T x H1 ∧ r x [] H1 Q
def tBM (K : PySem.W.Frag) (T : String) (r : V → List V → Hp → VK → Prop) (to : TE) (t : TA) : TE := fun σ H Q => to σ H fun x H1 => tyV K T x H1 ∧ t σ H1 fun xs H2 => r x xs H2 Q
variable {o e : Expr} {es : List Expr} {to : TE} {t : TA} {name : Str} {apos cpos : Pos} {T id : String} {r : V → List V → Hp → VK → Prop}
theorem pe_bm (pa : PlainAttrs T) (slot : Slot T name id) (hty : typeOf (.builtin id) = pure (.type "method_descriptor")) (hm : MtR X id r) (ho : PE X o to) (ha : PA X (e :: es) t)
    (hbase : attributeBase o name X.env (eval o X.env) = eval o X.env := by rfl)
    (hfew : ((backTo cpos (starEach (e :: es) X.env)).all (fun x => !x.1) && (backToKw cpos (keywordEach [] X.env)).all (fun x => x.1.isSome)
      && decide ((e :: es).length + ([] : List Keyword).length + (if ([] : List Keyword).isEmpty then 0 else 1) < 30)) = true := by rfl)
    (hline : (apos.endLine == cpos.line) = true := by rfl) (hs : starEach (e :: es) X.env = (false, eval e X.env) :: starEach es X.env := by rfl) (hplain : (backTo cpos (starEach es X.env)).any (·.1) = false := by rfl) :
    PE X (.Call (.Attribute o name apos) (e :: es) [] cpos) (tBM X.K T r to t) := by
  intro pins s σ H Q I h
  refine wpAny_Call_method_late hbase hfew hline rfl (thn (ho pins s σ H _ I h) fun v s1 ⟨x, H1, I1, r1, ty, q1⟩ => ?_)
  obtain ⟨h1, h2⟩ := tyV_is I1 r1 ty
  refine ⟨T, id, pa, slot, hty, h1, h2, ?_⟩
  have hA := ha cpos pins s1 σ H1 _ I1 q1
  rw [hs] at hA ⊢
  refine Calls.callWith_builtin (by show (false || (backTo cpos (starEach es X.env)).any (·.1)) = false; rw [hplain] <;> rfl) (Calls.evalArgs_plain ?_)
  exact thn hA fun us s2 ⟨vs, H2, I2, r2, q2⟩ => hm pins s2 σ H2 x vs v us Q I2 r1 r2 q2
/- xs.append(e), list.index on a module's tuple .. are MtR facts of 06m -/
end
end L2

namespace L2
open PySem PySem.Spec PyProof.Rows

def MtM (X : Cx) (id : String) (r : V → List V → Hp → VK → Prop) : Prop :=
  ∀ (pins : List (Addr × Obj)) (s : Shared) (σ : St) (H : Hp) (x : V) (xs : List V) (v : Value) (us : List Value) (Q : VK), Inv X pins σ H s → RelV x v → Vals xs us → r x xs H Q →
    wpAny (model X.prog X.w) X.A (call (.builtin id) (v :: us)) (EP X pins σ Q) X.xe s

/-! ### lists of values -/
theorem Vals.one : ∀ {x : V} {us : List Value}, Vals [x] us → ∃ u, us = [u] ∧ RelV x u
  | _, _, .cons r .nil => ⟨_, rfl, r⟩
theorem Vals.two : ∀ {x y : V} {us : List Value}, Vals [x, y] us → ∃ u v, us = [u, v] ∧ RelV x u ∧ RelV y v
  | _, _, _, .cons r (.cons q .nil) => ⟨_, _, rfl, r, q⟩
theorem Vals.zero : ∀ {us : List Value}, Vals [] us → us = []
  | _, .nil => rfl
theorem Vals.dropLast {xs : List V} {us : List Value} (h : Vals xs us) : Vals xs.dropLast us.dropLast := by
  induction h with
  | nil => exact .nil
  | cons r t ih =>
    cases t with
    | nil => exact .nil
    | cons q t' => exact .cons r ih
theorem Vals.eraseIdx : ∀ {xs : List V} {us : List Value} (i : Nat), Vals xs us → Vals (xs.eraseIdx i) (us.eraseIdx i)
  | _, _, _, .nil => .nil
  | _, _, 0, .cons _ t => t
  | _, _, i + 1, .cons r t => .cons r (Vals.eraseIdx i t)
theorem Vals.reverse {xs : List V} {us : List Value} (h : Vals xs us) : Vals xs.reverse us.reverse := by
  induction h with
  | nil => exact .nil
  | cons r t ih => rw [List.reverse_cons, List.reverse_cons]; exact Vals.append ih (.cons r .nil)
section
variable {X : Cx} {pins : List (Addr × Obj)} {σ : St} {H : Hp} {s : Shared} {l b : Addr} {xs ys zs : List V}

/-! ### the two steps: a tracked list is rewritten, a new list is laid -/
theorem Inv.lset {its its' : List Value} {n : Nat} {f : Array Value → Array Value} {t' : Nat} (I : Inv X pins σ H s) (hH : H l = some (.lst xs))
    (e : s.heap.get? l = some { cls := .type "list", data := .seq its.toArray n }) (hf : f its.toArray = its'.toArray) (hv : Vals ys its') (hz : ys.length ≤ sizeLine) :
    Inv X pins σ (upd H l (.lst ys)) { s with heap := s.heap.update l (Obj.mapSeq f), toks := t' } := by
  have q := PySem.IsL.update e f
  rw [hf] at q
  refine I.write (x := l) (e := l) (by rw [hH]; exact trivial) (.inl rfl) (fun b' u hb hu => (Heap.get?_update_other s.heap (Obj.mapSeq f) (Ne.symm hb)).trans hu) ⟨_, q⟩ ?_
  exact ⟨hz, its', _, hv, q⟩
theorem Inv.fresh (I : Inv X pins σ H s) : H s.heap.objs.size = none := I.hok.fresh (Nat.le_refl _)
theorem Inv.lstM (I : Inv X pins σ H s) (hH : H l = some (.lst xs)) : xs.length ≤ sizeLine ∧ ∃ (its : List Value) (n : Nat), Vals xs its ∧ xs.length = its.length ∧ s.heap.get? l = some { cls := .type "list", data := .seq its.toArray n } := by
  obtain ⟨z, its, n, r, e⟩ := I.hok l _ hH
  exact ⟨z, its, n, r, r.length, e⟩

end

section
variable {X : Cx}

/-! ### methods -/
def rAppend : V → List V → Hp → VK → Prop := fun x vs H Q => ∃ l xs y, x = .ref l ∧ vs = [y] ∧ H l = some (.lst xs) ∧ xs.length < sizeLine ∧ Q .non (upd H l (.lst (xs ++ [y])))
theorem mt_append : MtM X "list.append" rAppend := by
  intro pins s σ H x vs v us Q I rx rv h
  obtain ⟨l, xs, y, rfl, rfl, hH, hz, q⟩ := h
  cases rx
  obtain ⟨u, rfl, ru⟩ := rv.one
  obtain ⟨z, its, n, r, hl, e⟩ := I.lstM hH
  refine call_meets F.slot_list_append ⟨_, e, rfl⟩ F.entry_list_append (F.args_list_append_2 _ _) (PySem.list_append l its.toArray n u (by rw [List.size_toArray]; omega)) ⟨e, ?_⟩
  refine ⟨.non, _, I.lset (its' := its ++ [u]) hH e (by simp) (r.append (.cons ru .nil)) ?_, rfl, q⟩
  rw [List.length_append, List.length_singleton]
  omega

def rExtend : V → List V → Hp → VK → Prop := fun x vs H Q => ∃ l b xs zs, x = .ref l ∧ vs = [.ref b] ∧ H l = some (.lst xs) ∧ H b = some (.lst zs) ∧ xs.length + zs.length ≤ sizeLine ∧ Q .non (upd H l (.lst (xs ++ zs)))
def rPop : V → List V → Hp → VK → Prop := fun x vs H Q => ∃ l xs y, x = .ref l ∧ vs = [] ∧ H l = some (.lst xs) ∧ xs[xs.length - 1]? = some y ∧ Q y (upd H l (.lst xs.dropLast))
def rPopAt : V → List V → Hp → VK → Prop := fun x vs H Q => ∃ l xs i k y, x = .ref l ∧ vs = [.int i] ∧ H l = some (.lst xs) ∧ -(2 ^ 63) ≤ i ∧ i < 2 ^ 63 ∧ seqIndex? i xs.length = some k ∧ xs[k]? = some y ∧ Q y (upd H l (.lst (xs.eraseIdx k)))
def rReverse : V → List V → Hp → VK → Prop := fun x vs H Q => ∃ l xs, x = .ref l ∧ vs = [] ∧ H l = some (.lst xs) ∧ Q .non (upd H l (.lst xs.reverse))
def rClear : V → List V → Hp → VK → Prop := fun x vs H Q => ∃ l xs, x = .ref l ∧ vs = [] ∧ H l = some (.lst xs) ∧ Q .non (upd H l (.lst []))
/-! ### list + list, list += list, list * int -/
def rCat : R2 := fun x y H Q => ∃ l b xs zs, x = .ref l ∧ y = .ref b ∧ H l = some (.lst xs) ∧ H b = some (.lst zs) ∧ xs.length + zs.length ≤ sizeLine ∧ ∀ p, H p = none → Q (.ref p) (upd H p (.lst (xs ++ zs)))
/-- a list times an int (a negative one is nothing) -/
def rRep : R2 := fun x y H Q => ∃ l k xs, x = .ref l ∧ y = .int k ∧ H l = some (.lst xs) ∧ -(2 ^ 63) ≤ k ∧ k < 2 ^ 63 ∧ xs.length * k.toNat ≤ sizeLine ∧
  ∀ p, H p = none → Q (.ref p) (upd H p (.lst (List.replicate k.toNat xs).flatten))
/-! ### del xs[i] -/
end

/-! ### xs[a:b] = ys -/
section
variable {prog : Program} {w : World} {A : Around} {E : Value → Shared → Prop} {s : Shared}
end

section
variable {X : Cx}
end
end L2

namespace L2
open PySem PySem.Spec PyProof.Rows

/-! ### lists of pairs as tables -/
section
variable {κ : Type} [DecidableEq κ]
def valV (kvs : List (κ × V)) (k : κ) : Option V := (kvs.find? fun kv => decide (kv.1 = k)).map (·.2)
/-- in its place, or at the end -/
def putK (kvs : List (κ × V)) (k : κ) (v : V) : List (κ × V) :=
  if (kvs.any fun kv => decide (kv.1 = k)) = true then kvs.map (fun kv => if kv.1 = k then (kv.1, v) else kv) else kvs ++ [(k, v)]
def dropK (kvs : List (κ × V)) (k : κ) : List (κ × V) := kvs.filter fun kv => decide (kv.1 ≠ k)

theorem valV_pos {p : κ × V} {r : List (κ × V)} {k : κ} (e : p.1 = k) : valV (p :: r) k = some p.2 := by simp [valV, List.find?_cons, e]
theorem valV_neg {p : κ × V} {r : List (κ × V)} {k : κ} (e : ¬ p.1 = k) : valV (p :: r) k = valV r k := by simp [valV, List.find?_cons, e]
theorem valV_any (k : κ) : ∀ kvs : List (κ × V), (kvs.any fun kv => decide (kv.1 = k)) = (valV kvs k).isSome
  | [] => rfl
  | p :: r => by
    rw [List.any_cons]
    by_cases e : p.1 = k
    · simp only [valV_pos e, decide_eq_true e, Bool.true_or, Option.isSome_some]
    · rw [valV_neg e, decide_eq_false e, Bool.false_or]; exact valV_any k r
theorem RelO.isSome_eq {o : Option V} {u : Option Value} (r : RelO o u) : o.isSome = u.isSome := by
  cases o with
  | none => cases u with
    | none => rfl
    | some _ => exact (show False from r).elim
  | some _ => cases u with
    | none => exact (show False from r).elim
    | some _ => rfl
theorem RelO.getD {o : Option V} {u : Option Value} {d : V} {d' : Value} (r : RelO o u) (rd : RelV d d') : RelV (o.getD d) (u.getD d') := by
  cases o with
  | none => cases u with
    | none => exact rd
    | some _ => exact (show False from r).elim
  | some _ => cases u with
    | none => exact (show False from r).elim
    | some _ => exact r

/-- raw tables of the same keys -/
theorem KV.val {kvs : List (κ × V)} {vs : List (κ × Value)} (r : KV kvs vs) (k : κ) : RelO (valV kvs k) (valueAt vs k) := by
  unfold KV at r
  induction r with
  | nil => exact True.intro
  | @cons p q ps qs h t ih =>
    obtain ⟨h1, h2⟩ := h
    by_cases e : p.1 = k
    · have e' : q.1 = k := h1.symm.trans e
      have b : valueAt (q :: qs) k = some q.2 := by simp [valueAt, List.find?_cons, e']
      rw [valV_pos e, b]; exact h2
    · have e' : ¬ q.1 = k := fun z => e (h1.trans z)
      have b : valueAt (q :: qs) k = valueAt qs k := by simp [valueAt, List.find?_cons, e']
      rw [valV_neg e, b]; exact ih
theorem KV.any {kvs : List (κ × V)} {vs : List (κ × Value)} (r : KV kvs vs) (k : κ) : (kvs.any fun kv => decide (kv.1 = k)) = vs.any fun kv => decide (kv.1 = k) := by
  unfold KV at r
  induction r with
  | nil => rfl
  | cons h t ih => rw [List.any_cons, List.any_cons, ih, h.1]
theorem KV.repl {kvs : List (κ × V)} {vs : List (κ × Value)} (r : KV kvs vs) (k : κ) {y : V} {u : Value} (ry : RelV y u) :
    KV (kvs.map fun kv => if kv.1 = k then (kv.1, y) else kv) (vs.map fun kv => if kv.1 = k then (kv.1, u) else kv) := by
  unfold KV at r ⊢
  induction r with
  | nil => exact .nil
  | @cons p q ps qs h t ih =>
    rw [List.map_cons, List.map_cons]
    refine .cons ?_ ih
    obtain ⟨h1, h2⟩ := h
    by_cases e : p.1 = k
    · rw [if_pos e, if_pos (h1.symm.trans e)]; exact ⟨h1, ry⟩
    · rw [if_neg e, if_neg (fun z => e (h1.trans z))]; exact ⟨h1, h2⟩
theorem KV.put {kvs : List (κ × V)} {vs : List (κ × Value)} (r : KV kvs vs) (k : κ) {y : V} {u : Value} (ry : RelV y u) : KV (putK kvs k y) (stored vs k u) := by
  unfold putK stored
  rw [r.any k]
  by_cases e : (vs.any fun kv => decide (kv.1 = k)) = true
  · rw [if_pos e, if_pos e]; exact r.repl k ry
  · rw [if_neg e, if_neg e]; exact Paired.snoc r ⟨rfl, ry⟩
theorem KV.drop {kvs : List (κ × V)} {vs : List (κ × Value)} (r : KV kvs vs) (k : κ) : KV (dropK kvs k) (without vs k) := by
  unfold KV at r ⊢
  unfold dropK without
  induction r with
  | nil => exact .nil
  | @cons p q ps qs h t ih =>
    obtain ⟨h1, h2⟩ := h
    rw [List.filter_cons, List.filter_cons]
    by_cases e : p.1 = k
    · have a : ¬ decide (p.1 ≠ k) = true := by simp [e]
      have b : ¬ decide (q.1 ≠ k) = true := by simp [h1.symm.trans e]
      rw [if_neg a, if_neg b]; exact ih
    · have e' : ¬ q.1 = k := fun z => e (h1.trans z)
      have a : decide (p.1 ≠ k) = true := by simp [e]
      have b : decide (q.1 ≠ k) = true := by simp [e']
      rw [if_pos a, if_pos b]; exact .cons ⟨h1, h2⟩ ih
theorem KV.keys {kvs : List (κ × V)} {vs : List (κ × Value)} (r : KV kvs vs) : kvs.map (·.1) = vs.map (·.1) := by
  unfold KV at r
  induction r with
  | nil => rfl
  | cons h t ih => rw [List.map_cons, List.map_cons, ih, h.1]
theorem KV.length {kvs : List (κ × V)} {vs : List (κ × Value)} (r : KV kvs vs) : kvs.length = vs.length := Paired.length r
end


/-! ### a tracked dict, its keys ints and texts or tuples of these -/
/-- raw entries of a dict with tuple keys -/
abbrev KT (H : Hp) : List (List Key × V) → List (List Key × Addr × Value) → Prop := Paired fun p q => p.1 = q.1 ∧ H q.2.1 = some (.tup (p.1.map kV)) ∧ RelV p.2 q.2.2
theorem KT.val {H : Hp} {kvs : List (List Key × V)} {xs : List (List Key × Addr × Value)} (r : KT H kvs xs) (k : List Key) : RelO (valV kvs k) ((atKey xs k).map (·.2)) := by
  induction r with
  | nil => exact True.intro
  | @cons p q ps qs h t ih =>
    obtain ⟨h1, _, h2⟩ := h
    by_cases e : p.1 = k
    · have e' : q.1 = k := h1.symm.trans e
      have b : atKey (q :: qs) k = some q.2 := by simp [atKey, List.find?_cons, e']
      rw [valV_pos e, b]; exact h2
    · have e' : ¬ q.1 = k := fun z => e (h1.trans z)
      have b : atKey (q :: qs) k = atKey qs k := by simp [atKey, List.find?_cons, e']
      rw [valV_neg e, b]; exact ih
theorem KT.repl {H : Hp} {kvs : List (List Key × V)} {xs : List (List Key × Addr × Value)} (r : KT H kvs xs) (k : List Key) {y : V} {u : Value} (ry : RelV y u) :
    KT H (kvs.map fun kv => if kv.1 = k then (kv.1, y) else kv) (xs.map (putAt k u)) := by
  induction r with
  | nil => exact .nil
  | @cons p q ps qs h t ih =>
    rw [List.map_cons, List.map_cons]
    refine .cons ?_ ih
    obtain ⟨h1, h2, h3⟩ := h
    unfold putAt
    by_cases e : p.1 = k
    · rw [if_pos e, if_pos (h1.symm.trans e)]; exact ⟨h1, h2, ry⟩
    · rw [if_neg e, if_neg (fun z => e (h1.trans z))]; exact ⟨h1, h2, h3⟩
theorem KT.put {H : Hp} {kvs : List (List Key × V)} {xs : List (List Key × Addr × Value)} (r : KT H kvs xs) (k : List Key) {b : Addr} {y : V} {u : Value} (hb : H b = some (.tup (k.map kV))) (ry : RelV y u) :
    KT H (putK kvs k y) (storedH xs k b u) := by
  have e : (kvs.any fun kv => decide (kv.1 = k)) = (atKey xs k).isSome := by
    rw [valV_any, (r.val k).isSome_eq, Option.isSome_map]
  unfold putK storedH
  rw [e]
  by_cases q : (atKey xs k).isSome = true
  · rw [if_pos q, if_pos q]; exact r.repl k ry
  · rw [if_neg q, if_neg q]; exact Paired.snoc r ⟨rfl, hb, ry⟩
theorem KT.keeps {H H' : Hp} {kvs : List (List Key × V)} {xs : List (List Key × Addr × Value)} (r : KT H kvs xs) (ht : ∀ b ys, H b = some (.tup ys) → H' b = some (.tup ys)) : KT H' kvs xs :=
  Paired.mapP r fun _ _ z => ⟨z.1, ht _ _ z.2.1, z.2.2⟩

section
variable {P : Program} {w : World} {H : Hp} {h : Heap} {a : Addr}
end

/-- what the dict at a holds at the key y -/
def DGet (H : Hp) (a : Addr) (y : V) (r : Option V) : Prop :=
  (∃ kvs k, Rd H a (.dK kvs) ∧ y = kV k ∧ r = valV kvs k) ∨ ∃ kvs k b, Rd H a (.dT kvs) ∧ y = .ref b ∧ H b = some (.tup (k.map kV)) ∧ r = valV kvs k
/-- the heap behind a[y] = v -/
def DPut (H : Hp) (a : Addr) (y v : V) (H' : Hp) : Prop :=
  (∃ kvs k, H a = some (.dK kvs) ∧ y = kV k ∧ kvs.length < sizeLine ∧ H' = upd H a (.dK (putK kvs k v))) ∨
  ∃ kvs k b, H a = some (.dT kvs) ∧ y = .ref b ∧ H b = some (.tup (k.map kV)) ∧ kvs.length < sizeLine ∧ H' = upd H a (.dT (putK kvs k v))
theorem DGet.k {H : Hp} {a : Addr} {kvs : List (Key × V)} {k : Key} (e : H a = some (.dK kvs)) : DGet H a (kV k) (valV kvs k) := .inl ⟨kvs, k, .inl e, rfl, rfl⟩
theorem DGet.t {H : Hp} {a b : Addr} {kvs : List (List Key × V)} {k : List Key} (e : H a = some (.dT kvs)) (eb : H b = some (.tup (k.map kV))) : DGet H a (.ref b) (valV kvs k) := .inr ⟨kvs, k, b, .inl e, rfl, eb, rfl⟩
theorem DPut.k {H : Hp} {a : Addr} {kvs : List (Key × V)} {k : Key} {v : V} (e : H a = some (.dK kvs)) (hl : kvs.length < sizeLine) : DPut H a (kV k) v (upd H a (.dK (putK kvs k v))) := .inl ⟨kvs, k, e, rfl, hl, rfl⟩
theorem DPut.t {H : Hp} {a b : Addr} {kvs : List (List Key × V)} {k : List Key} {v : V} (e : H a = some (.dT kvs)) (eb : H b = some (.tup (k.map kV))) (hl : kvs.length < sizeLine) :
    DPut H a (.ref b) v (upd H a (.dT (putK kvs k v))) := .inr ⟨kvs, k, b, e, rfl, eb, hl, rfl⟩


section
variable {X : Cx} {pins : List (Addr × Obj)} {σ : St} {H : Hp} {s : Shared} {a : Addr} {y v : V} {u r : Value} {o : Option V} {A : Around} {E : Value → Shared → Prop}

end

section
variable {X : Cx} {pins : List (Addr × Obj)} {σ : St} {H : Hp} {s : Shared} {a : Addr} {kvs : List (Key × V)} {k : Key} {u : Value} {A : Around} {E : Value → Shared → Prop}
end


/-! ### readings and rules -/
/-- the element of a subscription, not a slice -/
def NoSl (i : Expr) : Prop := ∀ ov iv, subscripted i false ov iv = operate [ov, iv] (getItem ov iv)
/-- d[y] -/
def tDGet (td ty : TE) : TE := fun σ H Q => td σ H fun x H1 => ty σ H1 fun y H2 => ∃ a v, x = .ref a ∧ DGet H2 a y (some v) ∧ Q v H2
/-- y in d, y not in d -/
def tDIn (ty td : TE) : TE := fun σ H Q => ty σ H fun y H1 => td σ H1 fun x H2 => ∃ a o, x = .ref a ∧ DGet H2 a y o ∧ Q (.bl o.isSome) H2
def tDNotIn (ty td : TE) : TE := fun σ H Q => ty σ H fun y H1 => td σ H1 fun x H2 => ∃ a o, x = .ref a ∧ DGet H2 a y o ∧ Q (.bl (!o.isSome)) H2
/-- d[y] = v -/
def sDPut (td ty tv : TE) : TS := fun D σ H => tv σ H fun v H1 => td σ H1 fun x H2 => ty σ H2 fun y H3 => ∃ a H4, x = .ref a ∧ DPut H3 a y v H4 ∧ D.nx σ H4
/-- d[y] op= v -/
def sDAug (td ty tv : TE) (rd : V → V → Hp → VK → Prop) : TS := fun D σ H => td σ H fun x H1 => ty σ H1 fun y H2 => ∃ a v, x = .ref a ∧ DGet H2 a y (some v) ∧
  tv σ H2 fun y2 H3 => rd v y2 H3 fun z H4 => ∃ H5, DPut H4 a y z H5 ∧ D.nx σ H5
/-- del d[y] -/
def sDDel (td ty : TE) : TS := fun D σ H => td σ H fun x H1 => ty σ H1 fun y H2 => ∃ a kvs k, x = .ref a ∧ H2 a = some (.dK kvs) ∧ y = kV k ∧ (valV kvs k).isSome = true ∧ D.nx σ (upd H2 a (.dK (dropK kvs k)))

section
variable {X : Cx} {o i e value : Expr} {pos pos' tpos : Pos} {td ty tv : TE}
end


/-! ### displays -/
/-- {}, to be a dict of the kind that is wanted -/
def tDNewK : TE := fun _ H Q => ∀ p, H p = none → Q (.ref p) (upd H p (.dK []))
def tDNewT : TE := fun _ H Q => ∀ p, H p = none → Q (.ref p) (upd H p (.dT []))
section
variable {X : Cx} {pos : Pos}
end

/-- the pairs of a display, from the left -/
def tPairs : List (TE × TE) → St → Hp → (List (V × V) → Hp → Prop) → Prop
  | [], _, H, Q => Q [] H
  | (tk, tv) :: r, σ, H, Q => tk σ H fun x H1 => tv σ H1 fun y H2 => tPairs r σ H2 fun ps H3 => Q ((x, y) :: ps) H3
abbrev VV : List (V × V) → List (Value × Value) → Prop := Paired fun p q => RelV p.1 q.1 ∧ RelV p.2 q.2
def PPs (X : Cx) (pos : Pos) (keys : List (Option Expr)) (values : List Expr) (trs : List (TE × TE)) : Prop :=
  ∀ (pins : List (Addr × Obj)) (s : Shared) (σ : St) (H : Hp) (Q : List (V × V) → Hp → Prop), Inv X pins σ H s → tPairs trs σ H Q →
    wpAny (model X.prog X.w) X.A (evalPairs (pairTrees keys values X.env pos)) (fun vs s' => ∃ ps H', Inv X pins σ H' s' ∧ VV ps vs ∧ Q ps H') X.xe s
def mergeK (kvs more : List (Key × V)) : List (Key × V) := more.foldl (fun acc kv => putK acc kv.1 kv.2) kvs
/-- {k: v, ..} with keys ints and texts; the new dict stands empty while the pairs are made -/
def tDisp (trs : List (TE × TE)) : TE := fun σ H Q => ∀ p, H p = none → tPairs trs σ (upd H p (.dK [])) fun ps H2 => H2 p = some (.dK []) ∧ ∃ kvs : List (Key × V), ps = kvs.map (fun kv => (kV kv.1, kv.2)) ∧ kvs.length ≤ 15 ∧ Q (.ref p) (upd H2 p (.dK (mergeK [] kvs)))
/-! ### methods -/
/-- a method call o.m(e) of a built-in, with one argument: what must be seen of the text -/
structure M1 (X : Cx) (o : Expr) (m : Str) (apos : Pos) (e : Expr) (cpos : Pos) : Prop where
  base : attributeBase o m X.env (eval o X.env) = eval o X.env
  few : ((backTo cpos (starEach [e] X.env)).all (fun x => !x.1) && (backToKw cpos (keywordEach [] X.env)).all (fun x => x.1.isSome)
    && decide (([e] : List Expr).length + ([] : List Keyword).length + (if ([] : List Keyword).isEmpty then 0 else 1) < 30)) = true
  line : (apos.endLine == cpos.line) = true
  trees : backTo cpos (starEach [e] X.env) = [(false, eval e X.env)]
structure M2 (X : Cx) (o : Expr) (m : Str) (apos : Pos) (e f : Expr) (cpos : Pos) : Prop where
  base : attributeBase o m X.env (eval o X.env) = eval o X.env
  few : ((backTo cpos (starEach [e, f] X.env)).all (fun x => !x.1) && (backToKw cpos (keywordEach [] X.env)).all (fun x => x.1.isSome)
    && decide (([e, f] : List Expr).length + ([] : List Keyword).length + (if ([] : List Keyword).isEmpty then 0 else 1) < 30)) = true
  line : (apos.endLine == cpos.line) = true
  trees : backTo cpos (starEach [e, f] X.env) = [(false, eval e X.env), (false, eval f X.env)]

/-- a is a dict, whatever its keys -/
def IsD (H : Hp) (a : Addr) : Prop := (∃ kvs, Rd H a (.dK kvs)) ∨ ∃ kvs, Rd H a (.dT kvs)
section
variable {X : Cx} {pins : List (Addr × Obj)} {σ : St} {H : Hp} {s : Shared} {a : Addr} {y d : V} {u r : Value} {o : Option V} {A : Around} {E : Value → Shared → Prop}
end

def tDGet1 (td ty : TE) : TE := fun σ H Q => td σ H fun x H1 => ∃ a, x = .ref a ∧ IsD H1 a ∧ ty σ H1 fun y H2 => ∃ o, DGet H2 a y o ∧ Q (o.getD .non) H2
def tDGet2 (td ty tx : TE) : TE := fun σ H Q => td σ H fun x H1 => ∃ a, x = .ref a ∧ IsD H1 a ∧ ty σ H1 fun y H2 => tx σ H2 fun z H3 => ∃ o, DGet H3 a y o ∧ Q (o.getD z) H3
/-- d.pop(k): there; d.pop(k, x): there or not -/
def tDPop1 (td ty : TE) : TE := fun σ H Q => td σ H fun x H1 => ∃ a, x = .ref a ∧ IsD H1 a ∧ ty σ H1 fun y H2 => ∃ kvs k v, H2 a = some (.dK kvs) ∧ y = kV k ∧ valV kvs k = some v ∧ Q v (upd H2 a (.dK (dropK kvs k)))
def tDPop2 (td ty tx : TE) : TE := fun σ H Q => td σ H fun x H1 => ∃ a, x = .ref a ∧ IsD H1 a ∧ ty σ H1 fun y H2 => tx σ H2 fun z H3 => ∃ kvs k, H3 a = some (.dK kvs) ∧ y = kV k ∧
  (∀ v, valV kvs k = some v → Q v (upd H3 a (.dK (dropK kvs k)))) ∧ (valV kvs k = none → Q z H3)
section
variable {X : Cx} {o e f : Expr} {apos cpos : Pos} {td ty tx : TE}
end

/-! ### dict(d): a copy -/
section
variable {X : Cx} {pins : List (Addr × Obj)} {σ : St} {H : Hp} {s : Shared} {a : Addr} {kvs : List (Key × V)} {A : Around} {E : Value → Shared → Prop}
end


section
variable {X : Cx} {pins : List (Addr × Obj)} {σ : St} {H : Hp} {s : Shared} {a : Addr} {y : V} {u : Value} {A : Around} {E : Value → Shared → Prop}
end
end L2

namespace Att
open PySem PySem.W PySem.Calls PyProof.Rows

/-! ### the script -/
theorem ints_of_wellAll {P : Params} {h : Heap} : ∀ (ns : List Int) (vs : List Value), WellAll P h vs (ns.map WData.int) → IntsAre vs ns := by
  intro ns
  induction ns with
  | nil =>
    intro vs w
    rw [List.map_nil] at w
    cases w
    exact .nil
  | cons n ns ih =>
    intro vs w
    rw [List.map_cons] at w
    cases w with
    | cons a b =>
      cases a
      exact .cons _ _ (ih _ b)

theorem script_of {l : OpenLaw} {n : Nat} (hn : l.most = some n) {P : Params} {h : Heap} {args : List WData} {vals : List Value}
    (hpre : l.row.toRowW.claim.pre args = true) (hwl : WellAll P h vals args) :
    ∃ a vs ns, vals = [Value.ref a] ∧ args = [WData.list (ns.map WData.int)] ∧ h.get? a = some { cls := .type "list", data := .seq vs.toArray } ∧ IntsAre vs ns ∧ ns.length ≤ n := by
  have hsh : WShape.hasAll [] args [.list .int] = true := (pre_splitW hpre).1
  have hc : l.pre.holds [] { args := args } = true := (pre_splitW hpre).2
  obtain ⟨d, r, rfl, h1, h2⟩ := hasAllW_cons hsh
  obtain rfl := hasAllW_nil h2
  obtain ⟨xs, rfl, h3⟩ := hasW_list h1
  obtain ⟨ns, rfl⟩ := items_int h3
  have hlen : ns.length ≤ n := by
    unfold OpenLaw.pre at hc
    have h4 : (WTm.not (.lt (.lit (.int (n : Int))) (.len (.arg 0)))).holds [] { args := [.list (ns.map .int)] } = true := by
      have h4 := (holds_andW hc).1
      rw [hn] at h4
      exact h4
    have h5 := condW_of h4 (w_not (w_lt w_lit (w_len_list (w_arg rfl))))
    rw [List.length_map] at h5
    refine Nat.le_of_not_lt fun q => ?_
    have q' : (n : Int) < ((ns.length : Nat) : Int) := by omega
    first
      | (rw [decide_eq_true q'] at h5; exact absurd h5 (by decide))
      | (simp at h5; omega)
  cases hwl with
  | cons w1 w2 =>
    cases w2
    cases w1 with
    | list ho hall => exact ⟨_, _, ns, rfl, rfl, ho, ints_of_wellAll ns _ hall, hlen⟩

theorem post_true (l : OpenLaw) (args : List WData) : l.row.toRowW.claim.post args (.bool true) args = true :=
  postW_of (r := l.row.toRowW) (X := (true == true))
    (show WShape.has [] (.bool true) .bool = true by first | rfl | decide | simp [WShape.has, WShape.arms, WShape.armsAll])
    (show (WTm.eq .res (.lit (.bool true))).value [] { args := args, res := some (.bool true), after := args } = some (.bool (true == true)) from w_eq_bool (w_res rfl) w_lit) rfl

/-! ### the attachment: holds_open's last premise (the goal 'hc' behind k_head) from a wpAny of the law's body -/
/-- the same from a codeAny of the CALL (for a layer whose function contracts speak of calls) -/
theorem attach_call {l : OpenLaw} {n : Nat} {q : Program} {loose : List Str} {XP : (Str → Option Value) → Heap → Prop} {YP : World → Heap → Prop} {d : DefRec}
    (hn : l.most = some n) (hdf : d.params.defaults = [])
    (call : ∀ (w : World) (s₀ s₁ : Shared) (mg mb : Str → Option Value) (fa : Addr) (o : Obj) (pm cd doc : Value) (a : Addr) (vs : List Value) (ns : List Int),
      Ground q loose [] XP w s₀ mg mb s₁.heap → YP w s₁.heap →
      s₁.heap.get? fa = some o → o.data = .func (docDef d.name d.params d.body d.scope pm cd doc) → s₁.heap.CodeRec cd d.name → mg d.name = some (.ref fa) →
      s₁.heap.get? a = some { cls := .type "list", data := .seq vs.toArray } → IntsAre vs ns → ns.length ≤ n → s₁.gens = #[] →
      codeAny (model l.prog w) callerA (.call (.ref fa) ⟨[.ref a], []⟩) (fun r s' => r = .ok (.ret (.bool true)) ∧ OldK s₁.heap s'.heap ∧ s'.os = s₁.os ∧ AllBare s'.gens) s₁) :
    WalkO q loose XP YP l.row.toRowW d [] (fun f vs => PySem.call f vs) := by
  intro w s₀ s₁ mg mb G Y fa o pm cd doc dV kV ho hd hcd hD hmg hg args vals as hpre hlay hrd hwl hlo
  obtain rfl : dV = .none := Dflts.none hD hdf
  obtain rfl : kV = .none := Dflts.noKw hD
  obtain ⟨a, vs, ns, rfl, rfl, hobj, hints, hlen⟩ := script_of hn hpre hwl
  refine enter_call (codeAny_mono (call w s₀ s₁ mg mb fa o pm cd doc a vs ns G Y ho (fd_plain hd) hcd hmg hobj hints hlen hg) fun r s' hq => ?_)
  obtain ⟨rfl, h2, h3, h4⟩ := hq
  exact ⟨.inl ⟨.bool true, .bool true, [], rfl, fun _ => rfl, .bool true, post_true l _, fun _ => ⟨List.Pairwise.nil, fun _ hm => (nomatch hm)⟩⟩, h2, h3, h4⟩

/-! ### rules over ANY heap (no ledger) from facts about the written part K: the library's own take a ledger (News) for what they write -/
section
variable {prog : Program} {w : World} {A : Around} {E : Value → Shared → Prop} {s : Shared} {K : Frag}

/-! the whole heap as the ledger: makes every rule that writes through a ledger a rule over any heap -/
def noObjs (h : Heap) : Heap := { h with objs := #[] }
def ledger (h : Heap) (L d : Addr) : List (Addr × Obj) := (List.range h.objs.size).filterMap fun a => if a = L ∨ a = d then none else (h.get? a).map fun o => (a, o)
end
end Att

namespace L2
open PySem PySem.Spec PyProof.Rows

theorem vals_ints : ∀ {vs : List Value} {ns : List Int}, IntsAre vs ns → Vals (ns.map V.int) vs
  | _, _, .nil => .nil
  | _, _, .cons n t h => .cons ⟨t, rfl⟩ (vals_ints h)

/-- nothing is tracked but the script, known to the object (or it is an object of the module) -/
def Only (H : Hp) : Prop := ∀ b, H b = none ∨ ∃ o xs, H b = some (.frz o (.lst xs))

/-- THE HEAD: the law's promise, at the heap behind the top. F, the promise of the law's def, may use that base is part of the heap (so K.In base, base.Ns mainGlobals mg stand in Mod) -/
theorem law_call {P : Program} {w : World} {K : PySem.W.Frag} {mg mb : Str → Option Value} {CX : CXT} {k : Nat} {fa a : Addr} {fd : FuncData} {x : Str} {sp : Sp} {s₁ : Shared} {vs : List Value} {ns : List Int}
    (KX : K.In s₁.heap) (hns : s₁.heap.Ns mainGlobals mg) (hb : s₁.heap.Ns builtinsNs mb) (hbb : ∀ x : Str, x ≠ "__name__" → mb x = bootBuiltins x) (hlim : s₁.heap.NoLimit) (hg : s₁.gens = #[])
    (ha : s₁.heap.get? a = some { cls := .type "list", data := .seq vs.toArray }) (hi : IntsAre vs ns) (hl : ns.length ≤ sizeLine) (hr : Room k callerA)
    (F : ∀ base : Heap, K.In base → base.Ns mainGlobals mg → FnOk P w K mg base CX k fa fd [x] sp) (hbind : ∀ (s : Shared) (u : Value), BindsTo s fd ⟨[u], []⟩ [(x, u)])
    (hsp : ∀ H : Hp, Only H → SqL K H a (ns.map V.int) → sp [.ref a] H (fun v _ => v = .bl true) fun _ _ _ => False)
    (hCX : ∀ H e s', CX [] H s₁ (fun _ _ _ => False) e s' → False) :
    codeAny (model P w) callerA (.call (.ref fa) ⟨[.ref a], []⟩) (fun r s' => r = .ok (.ret (.bool true)) ∧ OldK s₁.heap s'.heap ∧ s'.os = s₁.os ∧ AllBare s'.gens) s₁ := by
  have rv := vals_ints hi
  have lenV := hi.length
  -- from an abstract heap in which nothing but the script may be tracked
  have core : ∀ H : Hp, Only H → SqL K H a (ns.map V.int) → HOk P w H s₁.heap → (∀ b, H b ≠ none → b = a) → (H a ≠ none → K.lookup a = none) →
      codeAny (model P w) callerA (.call (.ref fa) ⟨[.ref a], []⟩) (fun r s' => r = .ok (.ret (.bool true)) ∧ OldK s₁.heap s'.heap ∧ s'.os = s₁.os ∧ AllBare s'.gens) s₁ := by
    intro H hO hS hok hA hK
    have base_of : ∀ {b : Addr} {o : Obj}, s₁.heap.get? b = some o → H b = none → (hidT s₁.heap H).get? b = some o := fun e n => hidT_get e n
    have noA : ∀ {b : Addr} {o : Obj} {es : Array DictEntry} {ep : Nat}, s₁.heap.get? b = some o → o.data = .dict es ep → H b = none := fun {b o es ep} e d => by
      cases q : H b with
      | none => rfl
      | some u =>
        have e' : b = a := hA b (by rw [q]; simp)
        subst e'
        rw [ha] at e; cases e
        have d' : Data.seq vs.toArray _ = Data.dict es ep := d
        cases d'
    have nsK : ∀ {b : Addr} {m : Str → Option Value}, s₁.heap.Ns b m → (hidT s₁.heap H).Ns b m := fun {b m} ⟨o, es, ep, e, d, r⟩ => ⟨o, es, ep, base_of e (noA e d), d, r⟩
    have hKb : K.In (hidT s₁.heap H) := fun b o e => base_of (KX b o e) (by
      cases q : H b with
      | none => rfl
      | some u =>
        have e' : b = a := hA b (by rw [q]; simp)
        subst e'
        rw [hK (by rw [q]; simp)] at e; cases e)
    have hM : Mod K mg (hidT s₁.heap H) := ⟨hKb, nsK hns, ⟨mb, nsK hb, hbb⟩, let ⟨mc, h1, h2⟩ := hlim; ⟨mc, nsK h1, h2⟩⟩
    have e0 : Env0 P w K mg (hidT s₁.heap H) callerA [] s₁ H := ⟨rfl, hM, fun b o e => of_hidT e, Nat.le_of_eq (hidT_size _ _), trivial, fun b hb => absurd (show b ∈ ([] : List Addr) from hb) (by simp), hok, .of_eq hg⟩
    refine codeAny_mono ((F _ hKb (nsK hns)).run callerA [] s₁ H ⟨[.ref a], []⟩ [.ref a] [.ref a] _ _ hr e0 (hbind s₁ (.ref a)) (.cons rfl .nil) (hsp H hO hS)) fun r s' h => ?_
    cases r with
    | error e => exact (hCX H e s' h).elim
    | ok fl =>
      cases fl with
      | next => exact False.elim h
      | brk => exact False.elim h
      | cont => exact False.elim h
      | ret u =>
        obtain ⟨v, H', os, bare, un, hok', r', q⟩ := h
        have q' : v = .bl true := q
        subst q'
        obtain rfl : u = Value.bool true := r'
        refine ⟨rfl, OldK.of_keep fun b o e => ?_, os, bare⟩
        cases q : H b with
        | none => exact un.keep b o e q (by intro z; exact absurd (show b ∈ ([] : List Addr) from z) (by simp)) (by simp)
        | some u =>
          rcases hO b with z | ⟨ob, xs, z⟩
          · rw [q] at z; cases z
          · have z2 := un.frzs b ob _ z
            obtain ⟨e1, _⟩ := hok b _ z
            obtain ⟨e2, _⟩ := hok' b _ z2
            rw [e] at e1; cases e1
            exact e2
  cases hk : K.lookup a with
  | some o =>
    -- the script is one of the module's own objects
    have e := KX a o hk
    rw [ha] at e
    cases e
    refine core (fun _ => none) (fun _ => .inl rfl) (.inr ⟨_, vs.toArray, _, hk, rfl, rfl, rfl, by rw [List.size_toArray, lenV]; exact hl, by simpa using rv⟩) (fun b u z => by have z' : (none : Option HO) = some u := z; cases z') (fun b z => absurd rfl z) fun z => absurd rfl z
  | none =>
    refine core (fun b => if b = a then some (.frz { cls := .type "list", data := .seq vs.toArray } (.lst (ns.map V.int))) else none) (fun b => ?_) (.inl (.inr ⟨{ cls := .type "list", data := .seq vs.toArray }, if_pos rfl⟩)) (fun b u z => ?_) (fun b z => ?_) fun _ => hk
    · by_cases hb : b = a
      · exact .inr ⟨_, _, if_pos hb⟩
      · exact .inl (if_neg hb)
    · by_cases hb : b = a
      · have z' := (if_pos hb).symm.trans z
        cases z'
        subst hb
        exact ⟨ha, by rw [List.length_map]; exact hl, vs, _, rv, ha⟩
      · have z' := (if_neg hb).symm.trans z
        cases z'
    · by_cases hb : b = a
      · exact hb
      · exact absurd (if_neg hb) z
end L2

namespace L2
open PySem PySem.Spec PyProof.Rows

abbrev KOf {K : PySem.W.Frag} {h : Heap} (_ : K.In h) : PySem.W.Frag := K

/-- the goal that k_head leaves (case hc), from the law's promise. F gives the function object fd (K's own) once, then the promise over every base -/
theorem walk_of {l : PySem.W.OpenLaw} {n k : Nat} {q : Program} {loose : List Str} {XP : (Str → Option Value) → Heap → Prop} {YP : World → Heap → Prop} {d : DefRec} {K : Params → PySem.W.Frag} {CX : World → CXT} {sp : World → Sp} {x : Str}
    (hn : l.most = some n) (hn2 : n ≤ sizeLine) (hdf : d.params.defaults = []) (hr : Room k callerA)
    (hY : ∀ (w : World) (h : Heap), YP w h → (K w.params).In h)
    (F : ∀ (w : World) (mg : Str → Option Value) (fa : Addr) (h : Heap), (K w.params).In h → h.Ns mainGlobals mg → mg d.name = some (.ref fa) →
      ∃ fd : FuncData, (∀ (s : Shared) (u : Value), BindsTo s fd ⟨[u], []⟩ [(x, u)]) ∧
        ∀ base : Heap, (K w.params).In base → base.Ns mainGlobals mg → FnOk l.prog w (K w.params) mg base (CX w) k fa fd [x] (sp w))
    (hsp : ∀ (w : World) (H : Hp) (a : Addr) (ns : List Int), ns.length ≤ n → Only H → SqL (K w.params) H a (ns.map V.int) → sp w [.ref a] H (fun v _ => v = .bl true) fun _ _ _ => False)
    (hCX : ∀ (w : World) (H : Hp) (s : Shared) (e : Value) (s' : Shared), CX w [] H s (fun _ _ _ => False) e s' → False) :
    PySem.W.WalkO q loose XP YP l.row.toRowW d [] (fun f vs => PySem.call f vs) := by
  refine Att.attach_call hn hdf fun w s₀ s₁ mg mb fa o pm cd doc a vs ns G Y ho hd hcd hmg hobj hints hlen hg => ?_
  have KX := hY w _ Y
  obtain ⟨fd, hb, hF⟩ := F w mg fa _ KX G.T.g hmg
  exact law_call KX G.T.g G.T.b G.T.builtins G.T.nolimit hg hobj hints (Nat.le_trans hlen hn2) hr hF hb (fun H hO hS => hsp w H a ns hlen hO hS) fun H e s' => hCX w H s₁ e s'
end L2

/- THE LAST THEOREM (shape; LID, My.* are yours):
   My.Adr: a structure of the addresses that your layer names (classes, functions); My.Txt K t: a structure (Prop) of the equations over K;
   My.txt_mk : {K} {implicit addresses ..} (e1 : nsIn K mainGlobals "law" = some (some (.ref f))) (e2 : K.lookup f = some ⟨oc, od, .func (fnOf "law" "law" params body scope dV kV doc pm an cdv ct), sl⟩) (e3 : codeIn K cdv "law" = true) .. : ∃ t, My.Txt K t

set_option maxRecDepth 100000 in
set_option maxHeartbeats 0 in
theorem PySem.Challenge.cw_LID_holds : PySem.Challenge.rw_LID.Holds := by
  w_on; o_law; k_head; (case hw => w_witness2)
  k_fill
  refine L2.walk_of (l := PySem.Challenge.rw_LID) (n := 63) (k := 40) (x := "script") (CX := fun w => ..) (sp := fun _ => My.sp_law) rfl (by decide) rfl ⟨rfl, by decide, by decide⟩ (fun w h Y => PySem.W.kIn_of Y) ?F ?S ?C
  case F =>
    intro w mg fa h KX G hmg
    have T : ∃ t, My.Txt (L2.KOf KX) t := by
      dsimp only [L2.KOf]                          -- K must stand as «<heap const> w.params» for k_is
      refine' My.txt_mk ?e1 ?e2 ?e3 ..
      (case e1 => PySem.W.k_is)                    -- in the order: a name -> its address -> its object -> its parts
      (case e2 => PySem.W.k_is)
      ..
    obtain ⟨t, T⟩ := T
    have e0 := hmg.symm.trans (PySem.W.mg_of KX G T.law)
    cases e0                                       -- fa is the law's own address
    exact ⟨_, fun s u => .of_eq rfl, fun base kb nb => My.law_fn T kb nb⟩     -- if «.of_eq rfl» comes too early: refine' ⟨_, ?b, fun base kb nb => My.law_fn T kb nb⟩; exact fun s u => .of_eq rfl
  case S => exact fun w H a ns hl hO hS => ..
  case C => exact ..
(the tactic k_is has no namespace: write k_is) -/

/-! SHORT WORDS over the layer: a def of the text, its body, what a loop and a test want. -/
namespace L2
open PySem PySem.Spec PyProof.Rows

/-! ### the text by places -/
/-- the j-th statement of a class's body -/
def inClass (s : Stmt) (j : Nat) : Stmt := match s with
  | .ClassDef _ _ _ body _ _ _ _ _ _ _ => body.getD j (.Pass ⟨0, 0, 0, 0⟩)
  | _ => .Pass ⟨0, 0, 0, 0⟩
def defArgs (s : Stmt) : Arguments := match s with
  | .FunctionDef _ a _ _ _ _ _ _ _ _ => a
  | _ => { posonlyargs := [], args := [], vararg := none, kwonlyargs := [], kw_defaults := [], kwarg := none, defaults := [] }
def defBody (s : Stmt) : List Stmt := match s with
  | .FunctionDef _ _ b _ _ _ _ _ _ _ => b
  | _ => []
def defScope (s : Stmt) : Scope := match s with
  | .FunctionDef _ _ _ _ _ _ sc _ _ _ => sc
  | _ => { kind := .function, names := [], isGenerator := false, isCoroutine := false }

/-! ### no exception leaves a def -/
abbrev CX0 : CXT := fun _ _ _ _ _ _ => False
abbrev E0 : XK := fun _ _ _ => False
theorem pass0 {X : Cx} : Passes CX0 X E0 := fun _ _ _ _ _ _ _ h => h.elim

/-! ### a def (or method) of the text as it stands behind the top -/
structure Fun (K : PySem.W.Frag) (x qual : Str) (st : Stmt) (f : Addr) (fd : FuncData) : Prop where
  ex : ∃ (oc : Value) (od : Option Addr) (kV doc pm : Value) (an : Option Addr) (cdv ct : Value) (osl : Array (Option Value)),
    fd = PySem.W.fnOf x qual (defArgs st) (defBody st) (defScope st) .none kV doc pm an cdv ct ∧ K.lookup f = some ⟨oc, od, .func fd, osl⟩ ∧ PySem.W.codeIn K cdv qual = true
  kp : PySem.W.keepIn K (.ref f) = true
section
variable {P : Program} {w : World} {K : PySem.W.Frag} {mg : Str → Option Value} {base : Heap}
/-- THE RULE for a def: its body as a term of rules, and the reading of that term -/
theorem Fun.ok {x qual : Str} {st : Stmt} {f : Addr} {fd : FuncData} {N ps : List Str} {k : Nat} {sp : Sp} (F : Fun K x qual st f fd) (S : FnScope N ps (defScope st)) (len : ∀ vs H Q E, sp vs H Q E → vs.length = ps.length)
    (hbody : ∀ (cdv : Value) (A : Around) (outer : List Env) (s : Shared) (H : Hp) (vs : List V) (Q : VK) (E : XK), Room k (A.deeper (envOfC qual (defScope st) s.heap.objs.size f cdv)) → sp vs H Q E →
      ∃ t, PSs (cxOf CX0 P w K mg base N qual (defScope st) f cdv A outer s H E).nox (defBody st) t ∧ t { nx := fun _ H' => Q .non H', rt := Q } (start N vs) H) : FnOk P w K mg base CX0 (k + 1) f fd ps sp := by
  obtain ⟨oc, od, kV, doc, pm, an, cdv, ct, osl, rfl, lk, hcd⟩ := F.ex
  refine fn_of lk hcd S len fun A outer s H vs Q E hr hsp => ?_
  obtain ⟨t, h, q⟩ := hbody cdv A outer s H vs Q E hr hsp
  exact ⟨t, h.nox, q⟩
/-- how its arguments bind (no defaults): h is «fun _ _ _ _ _ _ us hl => match us, hl with | [_, _], _ => rfl», one _ a parameter -/
theorem Fun.binds {x qual : Str} {st : Stmt} {f : Addr} {fd : FuncData} {ps : List Str} (F : Fun K x qual st f fd)
    (h : ∀ (kV doc pm : Value) (an : Option Addr) (cdv ct : Value) (us : List Value), us.length = ps.length → bindArgs (PySem.W.fnOf x qual (defArgs st) (defBody st) (defScope st) .none kV doc pm an cdv ct) ⟨us, []⟩ = pure (ps.zip us)) : Binds K fd ps [] := by
  obtain ⟨oc, od, kV, doc, pm, an, cdv, ct, osl, rfl, lk, hcd⟩ := F.ex
  exact .all (h kV doc pm an cdv ct)
end
/-! ### expressions in short: the name that stands in the i-th slot -/
section
variable {X : Cx}
theorem pv (i : Nat) {x : Str} {pos : Pos} (hN : X.N[i]? = some x := by rfl) (hv : Vis X.env.scope x := by first | exact Or.inl rfl | exact Or.inr (Or.inl rfl) | exact Or.inr (Or.inr rfl)) (hd : (x == ("__debug__" : Str)) = false := by decide)
    (hcd : (x == ("__classdict__" : Str)) = false := by decide) : PE X (.Name x pos) (tVar i) := pe_var hN hv hd hcd
end

/-! ### tests -/
theorem iteF {A B : Prop} (h : B) : if false = true then A else B := by
  rw [if_neg Bool.false_ne_true]
  exact h
theorem iteT {A B : Prop} (h : A) : if true = true then A else B := by
  rw [if_pos rfl]
  exact h
/-! ### heaps -/
/-- all that was tracked is as it was -/
def Same (H H' : Hp) : Prop := ∀ b o, H b = some o → H' b = some o
theorem Same.refl (H : Hp) : Same H H := fun _ _ h => h
theorem Same.trans {H H1 H2 : Hp} (a : Same H H1) (b : Same H1 H2) : Same H H2 := fun c o h => b c o (a c o h)
theorem Same.free {H H' : Hp} (e : Same H H') {l : Addr} (h : H' l = Option.none) : H l = Option.none := by
  cases q : H l with
  | none => rfl
  | some o =>
    rw [e l o q] at h
    cases h
theorem Same.seq {K : PySem.W.Frag} {H H' : Hp} {a : Addr} {xs : List V} (e : Same H H') (h : SqL K H a xs) : SqL K H' a xs := by
  rcases h with (h | ⟨o, h⟩) | h
  · exact .inl (.inl (e _ _ h))
  · exact .inl (.inr ⟨o, e _ _ h⟩)
  · exact .inr h

end L2
set_option Elab.async false
set_option linter.all false
set_option maxRecDepth 100000
namespace L2
open PySem PySem.Spec PyProof.Rows
section
variable {X : Cx}
theorem op_mulB : OpR X (binaryOp .Mult) (rI (fun i j => IntMulOk i j) fun i j => .int (i * j)) := opI fun _ _ _ _ _ _ _ hc q => mul_int q hc
theorem op_fdivB : OpR X (binaryOp .FloorDiv) (rI (fun i j => j ≠ 0 ∧ Builtin.divisionGoesByPylong i j = false) fun i j => .int (i.fdiv j)) := opI fun _ _ _ _ _ _ _ hc q => floordiv_int hc.1 q (.inl hc.2)
theorem op_powB : OpR X (binaryOp .Pow) (rI (fun i j => 0 ≤ j ∧ (Builtin.Int.intBits i : Int) * j ≤ 2 ^ 27) fun i j => .int (i ^ j.toNat)) := opI fun _ _ _ _ _ _ _ hc q => pow_int hc.1 hc.2 q
/-- two tuples of two ints -/
def rEq2 (K : PySem.W.Frag) (g : Bool → Bool) : R2 := fun x y H Q => ∃ a b p q p' q', x = .ref a ∧ y = .ref b ∧ SqT K H a [.int p, .int q] ∧ SqT K H b [.int p', .int q'] ∧ Q (.bl (g (decide (p = p' ∧ q = q')))) H
end
end L2
set_option Elab.async false
set_option linter.all false
set_option maxRecDepth 100000
namespace Sw
open PySem
/-! ### sizes -/
def Bd (n : Nat) (x : Int) : Prop := x.natAbs < 2 ^ n
theorem Bd.mono {m n : Nat} {x : Int} (h : Bd m x) (e : m ≤ n) : Bd n x := Nat.lt_of_lt_of_le h (Nat.pow_le_pow_right (by decide) e)
theorem Bd.of_le {n : Nat} {x y : Int} (h : Bd n y) (e : x.natAbs ≤ y.natAbs) : Bd n x := Nat.lt_of_le_of_lt e h
theorem Bd.neg {n : Nat} {x : Int} (h : Bd n x) : Bd n (-x) := h.of_le (by omega)
theorem Bd.mul {m n : Nat} {x y : Int} (h : Bd m x) (g : Bd n y) : Bd (m + n) (x * y) := by
  unfold Bd at *
  rw [Int.natAbs_mul, Nat.pow_add]
  exact Nat.mul_lt_mul_of_lt_of_le h (Nat.le_of_lt g) (Nat.lt_of_le_of_lt (Nat.zero_le _) g)
theorem Bd.add {k : Nat} {x y : Int} (h : Bd k x) (g : Bd k y) : Bd (k + 1) (x + y) := by
  unfold Bd at *
  rw [Nat.pow_succ]
  generalize 2 ^ k = p at h g ⊢
  omega
theorem Bd.sub {k : Nat} {x y : Int} (h : Bd k x) (g : Bd k y) : Bd (k + 1) (x - y) := by
  unfold Bd at *
  rw [Nat.pow_succ]
  generalize 2 ^ k = p at h g ⊢
  omega
theorem Bd.ok {m n : Nat} {x y : Int} (h : Bd m x) (g : Bd n y) (e : m + n ≤ 134217728 := by decide) : IntMulOk x y :=
  IntMulOk.of_le (intBits_le_iff.mpr h) (intBits_le_iff.mpr g) e
theorem Bd.one : Bd 1 1 := by unfold Bd; decide
theorem Bd.zero : Bd 1 0 := by unfold Bd; decide
/-! ### divisors -/
def gcdI (a b : Int) : Int := ((Int.gcd a b : Nat) : Int)
def absI (i : Int) : Int := if i < 0 then -i else i
/-! ### fractions -/
structure Fr (p q a b : Int) : Prop where
  pos : 0 < q
  low : gcdI p q = 1
  same : p * b = a * q
  bt : p.natAbs ≤ a.natAbs
  bb : q.natAbs ≤ b.natAbs
structure Low (p q : Int) : Prop where
  pos : 0 < q
  low : gcdI p q = 1
theorem Fr.to {p q a b : Int} (h : Fr p q a b) : Low p q := ⟨h.pos, h.low⟩
def frC (a b : Int) : Int := if b < 0 then -gcdI a b else gcdI a b
end Sw
set_option Elab.async false
set_option linter.all false
set_option maxRecDepth 100000
namespace L2
open PySem
inductive Isi (K : PySem.W.Frag) (H : Hp) : V → String → Bool → Prop where
  | ii (i : Int) : Isi K H (.int i) "int" true
  | ib (i : Int) : Isi K H (.int i) "bool" false
  | bb (b : Bool) : Isi K H (.bl b) "bool" true
  | tt (a : Addr) (ys : List V) (h : SqT K H a ys) : Isi K H (.ref a) "tuple" true
end L2
namespace Sw
open PySem L2
theorem dT {p A B : Prop} [Decidable p] (h : p) (a : A) : if decide p = true then A else B := by rw [if_pos (decide_eq_true h)]; exact a
theorem dF {p A B : Prop} [Decidable p] (h : ¬ p) (b : B) : if decide p = true then A else B := by rw [if_neg (by simp [h])]; exact b
theorem d2 {p A B : Prop} [Decidable p] (h1 : p → A) (h2 : ¬ p → B) : if decide p = true then A else B := by
  by_cases h : p
  · exact dT h (h1 h)
  · exact dF h (h2 h)
theorem nF {p A B : Prop} [Decidable p] (h : p) (b : B) : if (!decide p) = true then A else B := by rw [if_neg (by simp [h])]; exact b
theorem vi {a b : Int} (h : a = b) : V.int a = V.int b := by rw [h]
theorem vj {a b : Int} (h : V.int a = V.int b) : a = b := by cases h; rfl
theorem d2I {a b : Int} {A B : Prop} (h1 : a = b → A) (h2 : a ≠ b → B) : if decide (V.int a = V.int b) = true then A else B := d2 (fun h => h1 (vj h)) fun h => h2 fun e => h (vi e)
structure Dn (P : Program) (w : World) (K : PySem.W.Frag) (mg : Str → Option Value) (base : Heap) (k : Nat) (x : Str) (ps : List Str) (sp : Sp) where
  f : Addr
  fd : FuncData
  ok : FnOk P w K mg base CX0 k f fd ps sp
  m : mg x = some (.ref f)
  q : PySem.W.keepIn K (.ref f) = true
  b : Binds K fd ps []
section
variable {X : Cx} {k j : Nat} {x : Str} {ps : List Str} {sp : Sp} {p pos : Pos} {e : Expr} {es : List Expr} {t : TA}
end
/-! ### promises -/
def spDiv : Sp := fun vs H Q _ => ∃ a b : Int, vs = [.int a, .int b] ∧ Q (.int (gcdI a b)) H
def spCell (K : PySem.W.Frag) : Sp := fun vs H Q _ => ∃ (a : Addr) (ns : List Int) (k : Int), vs = [.ref a, .int k] ∧ SqL K H a (ns.map V.int) ∧ 0 ≤ k ∧ ∀ v : Int, Q (.int v) H
def spWhole : Sp := fun vs H Q _ => ∃ v : Int, vs = [.int v] ∧ Q (.bl true) H
def spNum : Sp := fun vs H Q _ => ∃ c : Int, vs = [.int c] ∧ ∀ v : Int, Bd 200 v → Q (.int v) H
def spLaw (K : PySem.W.Frag) : Sp := fun vs H Q _ => ∃ (a : Addr) (ns : List Int), vs = [.ref a] ∧ SqL K H a (ns.map V.int) ∧ ns.length ≤ 63 ∧ ∀ H', Q (.bl true) H'
theorem cell_ok {ns : List Int} {k : Int} (h0 : 0 ≤ k) (h : k < (((ns.map V.int).length : Nat) : Int)) : ∃ v : Int, atI (ns.map V.int) k = some (.int v) := by
  rw [List.length_map] at h
  have hk : k.toNat < ns.length := by omega
  have ek : k = ((k.toNat : Nat) : Int) := by omega
  have q : atI (ns.map V.int) ((k.toNat : Nat) : Int) = some (.int ns[k.toNat]) := atI_nat (by rw [List.getElem?_map, List.getElem?_eq_getElem hk] <;> rfl)
  rw [← ek] at q
  exact ⟨_, q⟩
end Sw
set_option Elab.async false
set_option linter.all false
set_option maxRecDepth 100000
namespace Sw
open PySem L2
theorem cut {t u : TS} {D : Ends} {σ : L2.St} {H : Hp} (I : L2.St → Hp → Prop) (h1 : ∀ N : L2.St → Hp → Prop, (∀ σ H, I σ H → N σ H) → t { D with nx := N } σ H) (h2 : ∀ σ H, I σ H → u D σ H) : tSeq t u D σ H := h1 _ h2
theorem sameT {K : PySem.W.Frag} {H H' : Hp} {a : Addr} {xs : List V} (e : Same H H') (h : SqT K H a xs) : SqT K H' a xs := by
  rcases h with (h | ⟨o, h⟩) | h
  · exact .inl (.inl (e _ _ h))
  · exact .inl (.inr ⟨o, e _ _ h⟩)
  · exact .inr h
theorem same_new {H : Hp} {p : Addr} (h : H p = none) (o : HO) : Same H (upd H p o) := fun b u q => by rw [upd_ne (ne_of_none q h)]; exact q
/-- a new pair -/
def Pair (H : Hp) (Q : VK) (p q : Int) : Prop := ∀ (t : Addr) (H' : Hp), Same H H' → H' t = some (.tup [.int p, .int q]) → Q (.ref t) H'
def spLow : Sp := fun vs H Q _ => ∃ a b : Int, vs = [.int a, .int b] ∧ 0 < b ∧ Bd 8500 b ∧ ∀ p q : Int, Fr p q a b → Pair H Q p q
def spFr : Sp := fun vs H Q _ => ∃ a b : Int, vs = [.int a, .int b] ∧ b ≠ 0 ∧ Bd 8500 b ∧ ∀ p q : Int, Fr p q a b → Pair H Q p q
structure FrIn (K : PySem.W.Frag) (n : Nat) (H : Hp) (t : Addr) (p q : Int) : Prop where
  at_ : SqT K H t [.int p, .int q]
  pos : 0 < q
  bp : Bd n p
  bq : Bd n q
theorem FrIn.same {K : PySem.W.Frag} {n : Nat} {H H' : Hp} {t : Addr} {p q : Int} (h : FrIn K n H t p q) (e : Same H H') : FrIn K n H' t p q := ⟨sameT e h.at_, h.pos, h.bp, h.bq⟩
theorem FrIn.mono {K : PySem.W.Frag} {m n : Nat} {H : Hp} {t : Addr} {p q : Int} (h : FrIn K m H t p q) (e : m ≤ n) : FrIn K n H t p q := ⟨h.at_, h.pos, h.bp.mono e, h.bq.mono e⟩
theorem FrIn.of {K : PySem.W.Frag} {n : Nat} {H : Hp} {t : Addr} {p q a b : Int} (f : Fr p q a b) (ha : Bd n a) (hb : Bd n b) (e : H t = some (.tup [.int p, .int q])) : FrIn K n H t p q := ⟨SqT.of e, f.pos, ha.of_le f.bt, hb.of_le f.bb⟩
def spLess (K : PySem.W.Frag) : Sp := fun vs H Q _ => ∃ (t t' : Addr) (p q p' q' : Int), vs = [.ref t, .ref t'] ∧ FrIn K 4000 H t p q ∧ FrIn K 4000 H t' p' q' ∧ Q (.bl (decide (p * q' < p' * q))) H
def spUp (K : PySem.W.Frag) : Sp := fun vs H Q _ => ∃ (t : Addr) (p q : Int), vs = [.ref t] ∧ FrIn K 8000 H t p q ∧ Q (.int (-((-p).fdiv q))) H
def spDown (K : PySem.W.Frag) : Sp := fun vs H Q _ => ∃ (t : Addr) (p q : Int), vs = [.ref t] ∧ FrIn K 8000 H t p q ∧ Q (.int (p.fdiv q)) H
def spTold (K : PySem.W.Frag) : Sp := fun vs H Q _ => ∃ (t t' : Addr) (p q p' q' : Int), vs = [.ref t, .ref t', .bl (decide (p * q' < p' * q))] ∧ FrIn K 4000 H t p q ∧ FrIn K 4000 H t' p' q' ∧ Q (.bl true) H
def spRounded (K : PySem.W.Frag) : Sp := fun vs H Q _ => ∃ (t : Addr) (p q : Int), vs = [.ref t] ∧ FrIn K 4000 H t p q ∧ Q (.bl true) H
end Sw
set_option Elab.async false
set_option linter.all false
set_option maxRecDepth 100000
namespace Sw
open PySem L2
structure FunD (K : PySem.W.Frag) (x qual : Str) (st : Stmt) (dV : Value) (f : Addr) (fd : FuncData) : Prop where
  ex : ∃ (oc : Value) (od : Option Addr) (kV doc pm : Value) (an : Option Addr) (cdv ct : Value) (osl : Array (Option Value)),
    fd = PySem.W.fnOf x qual (defArgs st) (defBody st) (defScope st) dV kV doc pm an cdv ct ∧ K.lookup f = some ⟨oc, od, .func fd, osl⟩ ∧ PySem.W.codeIn K cdv qual = true
  kp : PySem.W.keepIn K (.ref f) = true
section
variable {P : Program} {w : World} {K : PySem.W.Frag} {mg : Str → Option Value} {base : Heap}
theorem FunD.ok {x qual : Str} {st : Stmt} {dV : Value} {f : Addr} {fd : FuncData} {N ps : List Str} {k : Nat} {sp : Sp} (F : FunD K x qual st dV f fd) (S : FnScope N ps (defScope st)) (len : ∀ vs H Q E, sp vs H Q E → vs.length = ps.length)
    (hbody : ∀ (cdv : Value) (A : Around) (outer : List Env) (s : Shared) (H : Hp) (vs : List V) (Q : VK) (E : XK), Room k (A.deeper (PyProof.Rows.envOfC qual (defScope st) s.heap.objs.size f cdv)) → sp vs H Q E →
      ∃ t, PSs (cxOf CX0 P w K mg base N qual (defScope st) f cdv A outer s H E).nox (defBody st) t ∧ t { nx := fun _ H' => Q .non H', rt := Q } (start N vs) H) : FnOk P w K mg base CX0 (k + 1) f fd ps sp := by
  obtain ⟨oc, od, kV, doc, pm, an, cdv, ct, osl, rfl, lk, hcd⟩ := F.ex
  refine fn_of lk hcd S len fun A outer s H vs Q E hr hsp => ?_
  obtain ⟨t, h, q⟩ := hbody cdv A outer s H vs Q E hr hsp
  exact ⟨t, h.nox, q⟩
theorem FunD.binds {x qual : Str} {st : Stmt} {T : Addr} {f : Addr} {fd : FuncData} {ps : List Str} {o : Obj} {items : Array Value} {n : Nat} {ds : List Value} (F : FunD K x qual st (.ref T) f fd) (ho : K.lookup T = some o) (hs : o.data = .seq items n)
    (h : ∀ (kV doc pm : Value) (an : Option Addr) (cdv ct : Value) (us : List Value), (us ++ ds).length = ps.length → ∃ k : Option (Array Value) → Sem (List (Str × Value)), bindArgs (PySem.W.fnOf x qual (defArgs st) (defBody st) (defScope st) (.ref T) kV doc pm an cdv ct) ⟨us, []⟩ = seqItems? (.ref T) >>= k ∧ k (some items) = pure (ps.zip (us ++ ds))) : Binds K fd ps ds := by
  obtain ⟨oc, od, kV, doc, pm, an, cdv, ct, osl, rfl, lk, hcd⟩ := F.ex
  intro s us KX hl
  obtain ⟨k, h1, h2⟩ := h kV doc pm an cdv ct us hl
  exact PySem.W.binds_K KX rfl ho hs h1 h2
theorem FunD.binds0 {x qual : Str} {st : Stmt} {dV : Value} {f : Addr} {fd : FuncData} {ps : List Str} (F : FunD K x qual st dV f fd)
    (h : ∀ (kV doc pm : Value) (an : Option Addr) (cdv ct : Value) (us : List Value), us.length = ps.length → bindArgs (PySem.W.fnOf x qual (defArgs st) (defBody st) (defScope st) dV kV doc pm an cdv ct) ⟨us, []⟩ = pure (ps.zip us)) : Binds K fd ps [] := by
  obtain ⟨oc, od, kV, doc, pm, an, cdv, ct, osl, rfl, lk, hcd⟩ := F.ex
  exact .all (h kV doc pm an cdv ct)
theorem funD_mk {x qual : Str} {st : Stmt} {f : Addr} {oc dV : Value} {od an : Option Addr} {osl : Array (Option Value)} {kV doc pm cdv ct : Value} (l : K.lookup f = some ⟨oc, od, .func (PySem.W.fnOf x qual (defArgs st) (defBody st) (defScope st) dV kV doc pm an cdv ct), osl⟩)
    (c : PySem.W.codeIn K cdv qual = true) (k : PySem.W.keepIn K (.ref f) = true) : FunD K x qual st dV f (PySem.W.fnOf x qual (defArgs st) (defBody st) (defScope st) dV kV doc pm an cdv ct) := ⟨⟨oc, od, kV, doc, pm, an, cdv, ct, osl, rfl, l, c⟩, k⟩
end
section
variable {X : Cx} {k j : Nat} {x : Str} {ps : List Str} {sp : Sp} {p pos : Pos} {e : Expr} {es : List Expr} {t : TA} {dvs : List V}
end
def spPlus (K : PySem.W.Frag) : Sp := fun vs H Q _ => ∃ (t t' : Addr) (p q p' q' : Int), vs = [.ref t, .ref t'] ∧ FrIn K 4000 H t p q ∧ FrIn K 4000 H t' p' q' ∧ ∀ r s : Int, Fr r s (p * q' + p' * q) (q * q') → Pair H Q r s
def spMinus (K : PySem.W.Frag) : Sp := fun vs H Q _ => ∃ (t t' : Addr) (p q p' q' : Int), vs = [.ref t, .ref t'] ∧ FrIn K 4000 H t p q ∧ FrIn K 4000 H t' p' q' ∧ ∀ r s : Int, Fr r s (p * q' - p' * q) (q * q') → Pair H Q r s
def spProd (K : PySem.W.Frag) : Sp := fun vs H Q _ => ∃ (t t' : Addr) (p q p' q' : Int), vs = [.ref t, .ref t'] ∧ FrIn K 4000 H t p q ∧ FrIn K 4000 H t' p' q' ∧ ∀ r s : Int, Fr r s (p * p') (q * q') → Pair H Q r s
def spQuot (K : PySem.W.Frag) : Sp := fun vs H Q _ => ∃ (t t' : Addr) (p q p' q' : Int), vs = [.ref t, .ref t'] ∧ FrIn K 4000 H t p q ∧ FrIn K 4000 H t' p' q' ∧ p' ≠ 0 ∧ ∀ r s : Int, Fr r s (p * q') (q * p') → Pair H Q r s
def spMade (K : PySem.W.Frag) : Sp := fun vs H Q _ => ∃ (t : Addr) (r s a b : Int), vs = [.ref t, .int a, .int b] ∧ FrIn K 30000 H t r s ∧ gcdI r s = 1 ∧ r * b = a * s ∧ Bd 30000 a ∧ Bd 30000 b ∧ Q (.bl true) H
/-! ### the mathematics of sums -/
end Sw
set_option Elab.async false
set_option linter.all false
set_option maxRecDepth 100000
namespace XH
open PySem
/-! ### what a frame's note and the flight of an exception change -/
structure Mv (fs ch : List Addr) (h h' : Heap) : Prop where
  keep : ∀ b o, b ∉ fs → b ∉ ch → h.get? b = some o → h'.get? b = some o
  slot : ∀ b o, b ∈ fs → b ∉ ch → h.get? b = some o → ∃ sl, h'.get? b = some { o with slots := sl }
  there : ∀ b o, h.get? b = some o → ∃ o', h'.get? b = some o'
theorem Mv.refl (fs ch : List Addr) (h : Heap) : Mv fs ch h h := ⟨fun _ _ _ _ q => q, fun _ o _ _ q => ⟨o.slots, q⟩, fun _ o q => ⟨o, q⟩⟩
theorem Mv.trans {fs c1 c2 ch : List Addr} {h h1 h2 : Heap} (x : Mv fs c1 h h1) (y : Mv fs c2 h1 h2) (k1 : ∀ b, b ∈ c1 → b ∈ ch) (k2 : ∀ b, b ∈ c2 → b ∈ ch) : Mv fs ch h h2 where
  keep := fun b o hf hc q => y.keep b o hf (fun z => hc (k2 b z)) (x.keep b o hf (fun z => hc (k1 b z)) q)
  slot := fun b o hf hc q => by
    obtain ⟨sl, q1⟩ := x.slot b o hf (fun z => hc (k1 b z)) q
    obtain ⟨sl2, q2⟩ := y.slot b _ hf (fun z => hc (k2 b z)) q1
    exact ⟨sl2, q2⟩
  there := fun b o q => by
    obtain ⟨o1, q1⟩ := x.there b o q
    exact y.there b o1 q1
/-- the note in an exception's traceback: none yet, or an entry in such a flight -/
inductive XSt where
  | new
  | fl (v : Value)
def XSt.Is (F : Addr → Prop) (h : Heap) (e : Addr) (vs : Array Value) : XSt → Prop
  | .new => vs[1]? = some .none
  | .fl v => ∃ T oT ts, vs[1]? = some (.ref T) ∧ F T ∧ T ≠ e ∧ h.get? T = some oT ∧ oT.data = .fields ts ∧ ts[3]? = some v
/-- room for its entries, and it came with no other one handled -/
def Fz (vs : Array Value) : Prop := 1 < vs.size ∧ vs[2]? = some .none
theorem Fz.set {vs : Array Value} (h : Fz vs) (v : Value) : Fz (vs.setIfInBounds 1 v) := ⟨by simpa using h.1, by rw [Array.getElem?_setIfInBounds]; simp [h.2]⟩
structure XO (F : Addr → Prop) (h : Heap) (e : Addr) (cls : Value) (dx : Option Addr) (st : XSt) : Prop where
  ex : ∃ oe vs, h.get? e = some oe ∧ oe.cls = cls ∧ oe.dict = dx ∧ oe.data = .fields vs ∧ Fz vs ∧ st.Is F h e vs
  fr : F e
theorem XO.mono {F G : Addr → Prop} {h : Heap} {e : Addr} {cls : Value} {dx : Option Addr} {st : XSt} (x : XO F h e cls dx st) (k : ∀ b, F b → G b) : XO G h e cls dx st := by
  obtain ⟨⟨oe, vs, a, b, c, d, f, g⟩, fr⟩ := x
  refine ⟨⟨oe, vs, a, b, c, d, f, ?_⟩, k _ fr⟩
  cases st with
  | new => exact g
  | fl v =>
    obtain ⟨T, oT, ts, g1, g2, g3⟩ := g
    exact ⟨T, oT, ts, g1, k _ g2, g3⟩
theorem mapf_dict (o : Obj) (f : Array Value → Array Value) : (o.mapFields f).dict = o.dict := by
  obtain ⟨c, d, dt, sl⟩ := o
  cases dt <;> rfl
section
variable {M : Model} {A : Around} {E : Value → Shared → Prop} {s : Shared}
theorem entry_ok {base : Heap} {env : Env} {outer : List Env} {L e : Addr} {oe : Obj} {vs : Array Value} {head : Value} {had : Bool} {Q : Unit → Shared → Prop}
    (hfr : A.frames = some (env :: outer)) (hl : s.heap.FunFrames base (env :: outer)) (hf : env.frame = some L) (he : s.heap.get? e = some oe) (hd : oe.data = .fields vs) (hsz : 1 < vs.size)
    (h : ∀ h' T, Mv ((env :: outer).filterMap (·.frame)) [e] s.heap h' → s.heap.get? T = none → T ≠ e → h'.get? e = some (oe.mapFields (·.setIfInBounds 1 (.ref T))) →
      (∃ oT ts, h'.get? T = some oT ∧ oT.data = .fields ts ∧ ts[3]? = some (rawInt L)) → Q () { s with heap := h' }) :
    wpAny M A (do let a ← frameOf env; let pl ← entryPlaceOf L had; let b ← EntryCells.newEntry head a .none (rawInt L) .none pl; setField (.ref e) 1 b) Q E s := by
  have hne : e ∉ (env :: outer).filterMap (·.frame) := by
    intro hm
    obtain ⟨_, o, ho, hnf⟩ := hl.mem hm
    rw [he] at ho
    cases ho
    exact hnf vs hd
  apply wpAny_bind
  apply wpAny_frameOf_fun hfr hl hf
  intro h1 hs
  apply wpAny_bind
  apply wpAny_entryPlaceOf
  intro pl hpl
  unfold EntryCells.newEntry newFields
  apply wpAny_bind
  refine wpAny_newObj_type ?_ (hpl.sizeOk5 ..)
  have e1 : h1.get? e = some oe := (hs.2.1 e hne).trans he
  generalize hob : ({ cls := .type "traceback", dict := none, data := .fields ([head, .ref L, .none, rawInt L, .none] ++ (if pl.isEmpty then List.replicate 6 Value.none else pl)).toArray } : Obj) = ob
  have e2 := Heap.get?_push_of_some (h := h1) ob e1
  refine wpAny_setField e2 hd hsz ?_
  have hTe : h1.objs.size ≠ e := Nat.ne_of_gt (Heap.lt_size e1)
  have d3 := Obj.data_mapFields hd (·.setIfInBounds 1 (Value.ref h1.objs.size))
  have e3 := Heap.get?_update_self (Obj.mapFields (·.setIfInBounds 1 (Value.ref h1.objs.size))) e2 (Obj.isFreed_of_fields d3)
  have kp : ∀ b o, b ≠ e → h1.get? b = some o → ((h1.push ob).update e (Obj.mapFields (·.setIfInBounds 1 (Value.ref h1.objs.size)))).get? b = some o := by
    intro b o hb q
    rw [Heap.get?_update_other _ _ (Ne.symm hb)]
    exact Heap.get?_push_of_some _ q
  have t3 : ((h1.push ob).update e (Obj.mapFields (·.setIfInBounds 1 (Value.ref h1.objs.size)))).get? h1.objs.size = some ob := by
    rw [Heap.get?_update_other _ _ (Ne.symm hTe)]
    exact Heap.get?_push_size h1 (by rw [← hob]; rfl)
  refine h _ h1.objs.size ⟨?_, ?_, ?_⟩ ?_ hTe e3 ?_
  · intro b o hb hc q
    exact kp b o (fun z => hc (by rw [z]; exact List.mem_singleton.mpr rfl)) ((hs.2.1 b hb).trans q)
  · intro b o hb hc q
    obtain ⟨sl, q1⟩ := hs.2.2 b o q
    exact ⟨sl, kp b _ (fun z => hc (by rw [z]; exact List.mem_singleton.mpr rfl)) q1⟩
  · intro b o q
    by_cases hb : b = e
    · subst hb
      exact ⟨_, e3⟩
    · obtain ⟨sl, q1⟩ := hs.2.2 b o q
      exact ⟨_, kp b _ hb q1⟩
  · exact Heap.get?_none_of_le (by rw [hs.1]; exact Nat.le_refl _)
  · subst hob
    refine ⟨_, _, t3, rfl, ?_⟩
    rcases hpl with rfl | ⟨_, _, _, _, _, _, _, rfl⟩ <;> simp
theorem flight_ok {F : Addr → Prop} {e : Addr} {cls v : Value} {dx fl : Option Addr} {Q : Unit → Shared → Prop} (x : XO F s.heap e cls dx (.fl v))
    (h : ∀ h' T, F T → Mv [] [T] s.heap h' → XO F h' e cls dx (.fl (fl.elim .none fun f => rawInt f)) → Q () { s with heap := h' }) : wpAny M A (setFlight (.ref e) fl) Q E s := by
  obtain ⟨⟨oe, vs, he, hc, hdx, hd, hsz, T, oT, ts, h1, hF, hTe, hT, hdT, h3⟩, fr⟩ := x
  have z3 : 3 < ts.size := (Array.getElem?_eq_some_iff.mp h3).1
  have oth : ∀ b, b ≠ T → (s.heap.update T (Obj.mapFields (·.setIfInBounds 3 (fl.elim Value.none fun f => rawInt f)))).get? b = s.heap.get? b := fun b hb => Heap.get?_update_other _ _ (Ne.symm hb)
  have t4 := Heap.get?_update_self (Obj.mapFields (·.setIfInBounds 3 (fl.elim Value.none fun f => rawInt f))) hT (Obj.isFreed_of_fields (Obj.data_mapFields hdT _))
  unfold setFlight
  apply wpAny_bind
  apply wpAny_field he hd h1
  rw [if_pos (by simp)]
  apply wpAny_setField hT hdT z3
  refine h _ T hF ⟨?_, fun b o hb => absurd hb (by simp), ?_⟩ ⟨⟨oe, vs, (oth e (Ne.symm hTe)).trans he, hc, hdx, hd, hsz, T, _, _, h1, hF, hTe, t4, Obj.data_mapFields hdT _, by simp [z3]⟩, fr⟩
  · intro b o _ hb q
    exact (oth b (fun z => hb (by rw [z]; exact List.mem_singleton.mpr rfl))).trans q
  · intro b o q
    by_cases hb : b = T
    · subst hb
      exact ⟨_, t4⟩
    · exact ⟨o, (oth b hb).trans q⟩
theorem note_ok {F : Addr → Prop} {base : Heap} {env : Env} {outer : List Env} {L e : Addr} {cls : Value} {dx : Option Addr} {st : XSt} {Q : Unit → Shared → Prop}
    (hfr : A.frames = some (env :: outer)) (hl : s.heap.FunFrames base (env :: outer)) (hf : env.frame = some L) (x : XO F s.heap e cls dx st)
    (h : ∀ h' ch, (∀ b ∈ ch, F b) → Mv ((env :: outer).filterMap (·.frame)) ch s.heap h' → XO (fun b => F b ∨ s.heap.get? b = none) h' e cls dx (.fl (rawInt L)) → Q () { s with heap := h' }) : wpAny M A (noteFrame (.ref e) env) Q E s := by
  obtain ⟨⟨oe, vs, he, hc, hdx, hd, hsz, hst⟩, fr⟩ := x
  unfold noteFrame
  simp only [hf]
  cases st with
  | new =>
    apply wpAny_bind
    apply wpAny_field he hd hst
    rw [if_neg (by decide)]
    refine entry_ok hfr hl hf he hd hsz.1 fun h' T mv tn tne he' ⟨oT, ts, hT, hdT, h3⟩ => ?_
    refine h h' [e] (fun b hb => by rw [List.mem_singleton.mp hb]; exact fr) mv ⟨⟨_, _, he', ?_, ?_, Obj.data_mapFields hd _, hsz.set _, T, oT, ts, by simp [hsz.1], .inr tn, tne, hT, hdT, h3⟩, .inl fr⟩
    · rw [Obj.cls_mapFields]; exact hc
    · rw [mapf_dict]; exact hdx
  | fl v =>
    obtain ⟨T, oT, ts, h1, hF, hTe, hT, hdT, h3⟩ := hst
    have z3 : 3 < ts.size := (Array.getElem?_eq_some_iff.mp h3).1
    apply wpAny_bind
    apply wpAny_field he hd h1
    rw [if_pos (by simp)]
    apply wpAny_bind
    apply wpAny_field hT hdT h3
    by_cases hv : (v == rawInt L) = true
    · rw [if_pos hv]
      have ev : v = rawInt L := beq_iff_eq.mp hv
      subst ev
      refine wpAny_pure (h s.heap [] (fun b hb => absurd hb (by simp)) (.refl ..) ⟨⟨oe, vs, he, hc, hdx, hd, hsz, T, oT, ts, h1, .inl hF, hTe, hT, hdT, h3⟩, .inl fr⟩)
    · rw [if_neg hv]
      apply wpAny_bind
      apply wpAny_setField hT hdT z3
      have oth : ∀ b, b ≠ T → (s.heap.update T (Obj.mapFields (·.setIfInBounds 3 Value.none))).get? b = s.heap.get? b := fun b hb => Heap.get?_update_other _ _ (Ne.symm hb)
      have t4 := Heap.get?_update_self (Obj.mapFields (·.setIfInBounds 3 Value.none)) hT (Obj.isFreed_of_fields (Obj.data_mapFields hdT _))
      have nrec : ∀ b o, s.heap.get? b = some o → (∀ vs, o.data ≠ .fields vs) → b ≠ T := by
        intro b o hb hn z
        rw [z, hT] at hb
        cases hb
        exact hn ts hdT
      have mv1 : Mv ((env :: outer).filterMap (·.frame)) [T] s.heap (s.heap.update T (Obj.mapFields (·.setIfInBounds 3 Value.none))) := by
        refine ⟨fun b o _ hb q => (oth b (fun z => hb (by rw [z]; exact List.mem_singleton.mpr rfl))).trans q, fun b o _ hb q => ⟨o.slots, (oth b (fun z => hb (by rw [z]; exact List.mem_singleton.mpr rfl))).trans q⟩, fun b o q => ?_⟩
        by_cases hb : b = T
        · subst hb
          exact ⟨_, t4⟩
        · exact ⟨o, (oth b hb).trans q⟩
      refine entry_ok (s := { s with heap := s.heap.update T (Obj.mapFields (·.setIfInBounds 3 Value.none)) }) hfr (hl.of_keeps fun b o hb hn => ⟨o, (oth b (nrec b o hb hn)).trans hb, rfl⟩) hf ((oth e (Ne.symm hTe)).trans he) hd hsz.1 fun h' T2 mv tn tne he' ⟨oT2, ts2, hT2, hdT2, h32⟩ => ?_
      refine h h' [T, e] ?_ (mv1.trans mv (fun b hb => by simp at hb; simp [hb]) (fun b hb => by simp at hb; simp [hb])) ⟨⟨_, _, he', ?_, ?_, Obj.data_mapFields hd _, hsz.set _, T2, oT2, ts2, by simp [hsz.1], .inr ?_, tne, hT2, hdT2, h32⟩, .inl fr⟩
      · intro b hb
        simp at hb
        rcases hb with rfl | rfl
        · exact hF
        · exact fr
      · rw [Obj.cls_mapFields]; exact hc
      · rw [mapf_dict]; exact hdx
      · cases q : s.heap.get? T2 with
        | none => rfl
        | some o =>
          obtain ⟨o', q'⟩ := mv1.there T2 o q
          rw [q'] at tn
          cases tn
end
end XH
set_option Elab.async false
set_option linter.all false
set_option maxRecDepth 100000
namespace L2
open PySem PySem.Spec PyProof.Rows XH
/-! ### an exception behind a call, in flight: it and its notes are untracked, and were not there ahead of the call -/
structure CXat (P : Program) (w : World) (outer : List Env) (H : Hp) (s : Shared) (a : Addr) (H' : Hp) (cls : Value) (dx : Option Addr) (st : XSt) (s' : Shared) : Prop where
  os : s'.os = s.os
  bare : AllBare s'.gens
  un : Un (frs outer) [] H H' s.heap s'.heap
  hok : HOk P w H' s'.heap
  xo : XO (fun b => s.heap.get? b = none ∧ H' b = none) s'.heap a cls dx st
def CX1 (P : Program) (w : World) : CXT := fun outer H s E e s' => ∃ a H' cls dx st, e = .ref a ∧ CXat P w outer H s a H' cls dx st s' ∧ E cls dx H'
section
variable {P : Program} {w : World} {H H' : Hp} {h h' h0 : Heap} {fs ch : List Addr} {a : Addr} {o : HO}
theorem ObjOk.there (x : ObjOk P w H h a o) : ∃ u, h.get? a = some u := by
  cases o with
  | lst xs => obtain ⟨_, _, _, _, e⟩ := x; exact ⟨_, e⟩
  | tup xs => obtain ⟨_, _, _, _, e, _⟩ := x; exact ⟨_, e⟩
  | dK kvs => obtain ⟨_, _, _, _, _, _, _, e, _⟩ := x; exact ⟨_, e⟩
  | dT kvs => obtain ⟨_, _, _, _, _, _, _, e, _⟩ := x; exact ⟨_, e⟩
  | set S n => obtain ⟨_, _, _, _, e, _⟩ := x; exact ⟨_, e⟩
  | ins C dx fs => obtain ⟨_, _, _, e, _⟩ := x; exact ⟨_, e⟩
  | own y => exact x
  | xd fs => obtain ⟨_, ⟨_, _, _, e, _⟩, _⟩ := x; exact ⟨_, e⟩
  | rng lo hi => obtain ⟨_, _, _, e⟩ := x; exact ⟨_, e⟩
  | frz ob u => obtain ⟨e, _⟩ := x; exact ⟨_, e⟩
  | tbl ps => exact ⟨_, show h.get? a = some _ from x⟩
  | met f y => exact ⟨_, show h.get? a = some _ from x⟩
  | ext φ => obtain ⟨_, ⟨_, e⟩, _⟩ := x; exact ⟨_, e⟩
theorem HOk.none_of (k : HOk P w H h) (q : h.get? a = none) : H a = none := by
  cases r : H a with
  | none => rfl
  | some o =>
    obtain ⟨u, e⟩ := (k a o r).there
    rw [q] at e
    cases e
theorem un_mv (u : Un fs [] H H' h0 h) (m : Mv fs ch h h') (hc : ∀ b ∈ ch, h0.get? b = none) : Un fs [] H H' h0 h' where
  keep := fun b o q n hb hx => m.keep b o hb (fun z => by rw [hc b z] at q; cases q) (u.keep b o q n hb hx)
  slot := fun b o q n hb hx => by
    obtain ⟨sl, q1⟩ := u.slot b o q n hb hx
    obtain ⟨sl2, q2⟩ := m.slot b _ hb (fun z => by rw [hc b z] at q; cases q) q1
    exact ⟨sl2, q2⟩
  free := u.free
  there := fun b o q hx => by
    obtain ⟨o1, q1⟩ := u.there b o q hx
    exact m.there b o1 q1
  tups := u.tups
  frzs := u.frzs
  tbls := u.tbls
theorem hok_mv (k : HOk P w H h) (m : Mv fs ch h h') (hc : ∀ b ∈ ch, H b = none) (hf : ∀ b ∈ fs, H b = none) : HOk P w H h' := fun a o e =>
  (k a o e).stay (fun b u hb q => by
    have t : H b ≠ none := by
      rcases hb with z | z
      · rw [z, e]; exact fun y => nomatch y
      · rw [z]; exact fun y => nomatch y
    exact m.keep b u (fun z => t (hf b z)) (fun z => t (hc b z)) q) (fun _ q => q) fun _ _ q => q
theorem _root_.XH.Mv.wider (m : Mv [] ch h h') : Mv fs ch h h' := ⟨fun b o _ hc q => m.keep b o (by simp) hc q, fun b o _ hc q => ⟨o.slots, m.keep b o (by simp) hc q⟩, m.there⟩
theorem funs_un {base : Heap} (u : Un fs [] H H' h h') : ∀ {l : List Env}, h.FunFrames base l → (∀ b ∈ frs l, b ∈ fs ∧ H b = none) → h'.FunFrames base l
  | [], _, _ => trivial
  | env :: r, ⟨hk, ⟨L, o, hf, hn, ho, hd⟩, hr⟩, hs => by
    have hL : L ∈ frs (env :: r) := by unfold frs; rw [List.filterMap_cons, hf]; exact List.mem_cons_self
    obtain ⟨sl, e⟩ := u.slot L o ho (hs L hL).2 (hs L hL).1 (by simp)
    exact ⟨hk, ⟨L, _, hf, hn, e, hd⟩, funs_un u hr fun b hb => hs b (by unfold frs; rw [List.filterMap_cons, hf]; exact List.mem_cons_of_mem _ hb)⟩
end
section
variable {P : Program} {w : World} {H H' : Hp} {s s' : Shared} {a L : Addr} {cls v : Value} {dx : Option Addr} {st : XSt} {env : Env} {outer : List Env} {base : Heap} {M : Model} {A : Around} {Z : Value → Shared → Prop} {Q : Unit → Shared → Prop}
theorem CXat.frees (c : CXat P w outer H s a H' cls dx st s') (hl : s.heap.FunFrames base outer) (hH : ∀ b ∈ frs outer, H b = none) : ∀ b ∈ frs outer, H' b = none := fun b hb => by
  obtain ⟨_, o, ho, _⟩ := hl.mem hb
  exact c.un.free b o ho (hH b hb) (by simp)
theorem CXat.note (c : CXat P w (env :: outer) H s a H' cls dx st s') (hfr : A.frames = some (env :: outer)) (hf : env.frame = some L) (hl : s.heap.FunFrames base (env :: outer)) (hH : ∀ b ∈ frs (env :: outer), H b = none)
    (h : ∀ s'', CXat P w (env :: outer) H s a H' cls dx (.fl (rawInt L)) s'' → Q () s'') : wpAny M A (noteFrame (.ref a) env) Q Z s' := by
  refine note_ok hfr (funs_un c.un hl fun b hb => ⟨hb, hH b hb⟩) hf c.xo fun h' ch hch mv x => h _ ?_
  refine ⟨c.os, c.bare, un_mv c.un mv fun b hb => (hch b hb).1, hok_mv c.hok mv (fun b hb => (hch b hb).2) (c.frees hl hH), x.mono ?_⟩
  rintro b (q | q)
  · exact q
  · refine ⟨?_, c.hok.none_of q⟩
    cases r : s.heap.get? b with
    | none => rfl
    | some o =>
      obtain ⟨o', r'⟩ := c.un.there b o r (by simp)
      rw [r'] at q
      cases q
theorem CXat.flight {fl : Option Addr} (c : CXat P w outer H s a H' cls dx (.fl v) s') (hl : s.heap.FunFrames base outer) (hH : ∀ b ∈ frs outer, H b = none)
    (h : ∀ s'', CXat P w outer H s a H' cls dx (.fl (fl.elim .none fun f => rawInt f)) s'' → Q () s'') : wpAny M A (setFlight (.ref a) fl) Q Z s' := by
  refine flight_ok c.xo fun h' T hT mv x => h _ ⟨c.os, c.bare, un_mv c.un mv.wider fun b hb => ?_, hok_mv c.hok (mv.wider (fs := frs outer)) (fun b hb => ?_) (c.frees hl hH), x⟩
  · rw [List.mem_singleton.mp hb]; exact hT.1
  · rw [List.mem_singleton.mp hb]; exact hT.2
end
/-- what is wanted of an exception in a body: E speaks of the names, its class, its dict, the heap -/
def XS (X : Cx) (E : St → XK) : Value → Shared → Prop := fun e s' => ∃ σ H0 s0, Inv X [] σ H0 s0 ∧ CX1 X.prog X.w X.stack H0 s0 (E σ) e s'
def PassX (X : Cx) (E : St → XK) : Prop := ∀ (pins : List (Addr × Obj)) (σ : St) (H : Hp) (s : Shared) (e : Value) (s' : Shared), Inv X pins σ H s → CX1 X.prog X.w X.stack H s (E σ) e s' → X.xe e s'
def tCallX (sp : Sp) (dvs : List V) (E : St → XK) (t : TA) : TE := fun σ H Q => t σ H fun vs H1 => sp (vs ++ dvs) H1 Q (E σ)
section
variable {X : Cx} {k : Nat} {f C : Addr} {fd : FuncData} {ps : List Str} {sp : Sp} {dvs : List V} {ds : List Value} {E : St → XK} {x m : Str} {p pos apos : Pos} {e o : Expr} {es : List Expr} {ta : TE} {t : TA}
end
section
variable {P : Program} {w : World} {K : PySem.W.Frag} {mg : Str → Option Value} {base : Heap}
/-- a promise under which it refuses nothing -/
theorem FnOk.noraise {k : Nat} {f : Addr} {fd : FuncData} {ps : List Str} {sp sp0 : Sp} (F : FnOk P w K mg base (CX1 P w) k f fd ps sp) (h : ∀ vs H Q E, sp0 vs H Q E → sp vs H Q E0) : FnOk P w K mg base CX0 k f fd ps sp0 :=
  ⟨fun vs H Q E q => F.len vs H Q E0 (h _ _ _ _ q), fun A outer s H args us vs Q E hr he hb hv hs => codeAny_mono (F.run A outer s H args us vs Q E0 hr he hb hv (h _ _ _ _ hs)) fun r s' hq => by
    cases r with
    | error e => obtain ⟨_, _, _, _, _, _, _, z⟩ := hq; exact z.elim
    | ok fl => cases fl <;> exact hq⟩
end
/-! ### try -/
abbrev Cx.tried (X : Cx) (pins : List (Addr × Obj)) : Cx := { X with pn := X.pn ++ pins }
abbrev Cx.suite (X : Cx) (pins : List (Addr × Obj)) (a : Addr) : Cx := { X with A := X.A.mark (some (.ref a)), calm := false, pn := X.pn ++ pins, xe := fun _ _ => False }
/-- an exception that was caught or made, tracked -/
def excB (n : Bool) (a : Addr) (cls : Value) (dx : Option Addr) : HO := .ext fun h => ∃ ox vs, h.get? a = some ox ∧ ox.cls = cls ∧ ox.dict = dx ∧ ox.data = .fields vs ∧ vs[2]? = some .none ∧ (n = true → 1 < vs.size ∧ vs[1]? = some .none)
abbrev excO := excB false
theorem excB_ok {P : Program} {w : World} {H : Hp} {h : Heap} {n : Bool} {a : Addr} {cls : Value} {dx : Option Addr} {ox : Obj} {vs : Array Value} (h1 : h.get? a = some ox) (h2 : ox.cls = cls) (h3 : ox.dict = dx) (h4 : ox.data = .fields vs) (h6 : vs[2]? = some .none) (h5 : n = true → 1 < vs.size ∧ vs[1]? = some .none) : ObjOk P w H h a (excB n a cls dx) :=
  ⟨⟨ox, vs, h1, h2, h3, h4, h6, h5⟩, ⟨ox, h1⟩, fun _ _ ⟨oy, ws, q, r⟩ kp => ⟨oy, ws, kp _ q, r⟩⟩
abbrev TH := Ends → St → Value → Option Addr → Hp → Addr → Prop
def PH (X : Cx) (hs : List ExceptHandler) (th : TH) : Prop :=
  ∀ (pins : List (Addr × Obj)) (σ : St) (H0 : Hp) (s0 : Shared) (D : Ends) (a : Addr) (H' : Hp) (cls v : Value) (dx : Option Addr) (s' : Shared), Inv X pins σ H0 s0 → CXat X.prog X.w X.stack H0 s0 a H' cls dx (.fl v) s' → th D σ cls dx H' a →
    wpAny (model X.prog X.w) X.A (handleBy (.ref a) X.env hs) (SP X pins D) X.xe s'
section
variable {X : Cx} {pins : List (Addr × Obj)} {σ : St} {H H' : Hp} {s s' : Shared}
theorem Inv.tried (I : Inv X pins σ H s) : Inv (X.tried pins) [] σ H s :=
  ⟨⟨I.ok.mod, I.ok.kind, I.ok.glob, I.ok.blt, I.ok.above, I.ok.inj, I.ok.has, I.ok.cab, I.ok.hd, I.ok.frames, I.ok.stk, I.ok.exf, I.ok.bs, I.ok.bsz, I.ok.noex, I.ok.exfs, I.ok.funs, I.ok.frf⟩,
    I.os, I.bare, I.base, I.loc, I.cell, I.free, I.freeC, fun p hp => I.pin p (by simpa using hp), I.hok, I.len⟩
/-- the exception is tracked from here on -/
theorem un_track {fs : List Addr} {h0 h : Heap} {a : Addr} {o : HO} (u : Un fs [] H H' h0 h) (n0 : h0.get? a = none) (na : H' a = none) : Un fs [] H (upd H' a o) h0 h where
  keep := u.keep
  slot := u.slot
  free := fun b ob q n hx => by
    have : b ≠ a := fun z => by rw [z, n0] at q; cases q
    rw [upd_ne this]
    exact u.free b ob q n hx
  there := u.there
  tups := fun b xs e => by
    have q := u.tups b xs e
    rw [upd_ne (ne_of_none q na)]
    exact q
  frzs := fun b o' w' e => by
    have q := u.frzs b o' w' e
    rw [upd_ne (ne_of_none q na)]
    exact q
  tbls := fun b ps e => by
    obtain ⟨mo, q⟩ := u.tbls b ps e
    exact ⟨mo, by rw [upd_ne (ne_of_none q na)]; exact q⟩
theorem hok_track {P : Program} {w : World} {h : Heap} {a : Addr} {o : HO} (k : HOk P w H h) (na : H a = none) (new : ObjOk P w (upd H a o) h a o) : HOk P w (upd H a o) h := fun b u e => by
  by_cases hb : b = a
  · subst hb; rw [upd_same] at e; cases e; exact new
  · rw [upd_ne hb] at e
    exact (k b u e).stay (fun c v _ q => q) (fun c q => by rw [upd_ne (ne_of_none q na)]; exact q) fun c xs q => by rw [upd_ne (ne_of_none q na)]; exact q
theorem CXat.caught {a : Addr} {cls : Value} {dx : Option Addr} {st : XSt} (I : Inv X pins σ H s) (c : CXat X.prog X.w X.stack H s a H' cls dx st s') : Inv X pins σ (upd H' a (excO a cls dx)) s' := by
  obtain ⟨⟨oe, vs, he, hc, hd, hda, hz, _⟩, n0, na⟩ := c.xo
  refine I.call' c.os (un_track c.un n0 na) (hok_track c.hok na (excB_ok he hc hd hda hz.2 fun z => nomatch z)) c.bare fun b z => absurd z (by simp)
end
section
variable {X : Cx} {body : List Stmt} {h₀ : ExceptHandler} {hs : List ExceptHandler} {pos : Pos} {th : TH}
def tTry (tb : (St → XK) → TS) (th : TH) : TS := fun D σ H => tb (fun σ' cls dx H' => ∀ a, H' a = none → th D σ' cls dx H' a) D σ H
end
/-- what an except clause asks of its class -/
structure XT (K : PySem.W.Frag) (C : Addr) : Prop where
  ty : PySem.W.typeIn K (.ref C) = some (.type "type")
  cl : (PySem.W.clsIn K C).isSome = true
  ex : PySem.W.subIn K (.ref C) (.type "BaseException") = some true
end L2
set_option Elab.async false
set_option linter.all false
set_option maxRecDepth 100000
namespace L2
open PySem PySem.Spec PyProof.Rows XH
structure XG (K : PySem.W.Frag) (C : Addr) : Prop where
  ga : PySem.W.findIn K (.ref C) "__getattribute__" = some (some (.builtin "BaseException.__getattribute__"))
  gt : PySem.W.findIn K (.ref C) "__getattr__" = some none
  be : PySem.W.mroIn K C (.type "BaseException") = some true
section
variable {prog : Program} {w : World} {A : Around} {E : Value → Shared → Prop} {K : PySem.W.Frag} {h : Heap} {g : Array GenState} {d : Drawn} {t : Nat} {os : OsState} {x C : Addr} {ox : Obj} {od : Option Obj} {name : Str}
end
end L2
set_option Elab.async false
set_option linter.all false
set_option maxRecDepth 100000
namespace L2
open PySem PySem.Spec PyProof.Rows XH
section
variable {prog : Program} {w : World} {A : Around} {E : Value → Shared → Prop} {K : PySem.W.Frag}
end
/-- a name that goes behind its suite -/
def offE (i : Nat) (D : Ends) : Ends := { nx := fun σ H => D.nx (σ.set i none) H, rt := D.rt, bk := fun σ H => D.bk (σ.set i none) H, ct := fun σ H => D.ct (σ.set i none) H }
def tHas (K : PySem.W.Frag) (C' : Addr) (i : Nat) (t : TS) (r : TH) : TH := fun D σ cls dx H a => ∃ C b, cls = .ref C ∧ PySem.W.subIn K (.ref C) (.ref C') = some b ∧
  if b = true then t (offE i D) (σ.set i (some (.ref a))) (upd H a (excO a cls dx)) else r D σ cls dx H a
def tHno (K : PySem.W.Frag) (C' : Addr) (t : TS) (r : TH) : TH := fun D σ cls dx H a => ∃ C b, cls = .ref C ∧ PySem.W.subIn K (.ref C) (.ref C') = some b ∧
  if b = true then t D σ (upd H a (excO a cls dx)) else r D σ cls dx H a
section
variable {X : Cx} {x n : Str} {np pos : Pos} {b0 : Stmt} {suite : List Stmt} {rest : List ExceptHandler} {i : Nat} {C' : Addr} {t : TS} {th : TH}
end
/-! ### raise -/
def bmV : List Value := [.type "ValueError", .type "Exception", .type "BaseException", .type "object"]
def tRaise (C : Addr) (E : St → XK) (t : TA) : TS := fun _ σ H => t σ H fun vs H1 => vs.length ≤ sizeLine ∧ E σ (.ref C) none H1
section
variable {X : Cx} {x : Str} {np cpos pos : Pos} {e₀ : Expr} {rest : List Expr} {C : Addr} {t : TA} {E : St → XK}
end
/-! ### isinstance of an exception -/
structure XI (K : PySem.W.Frag) (C : Addr) : Prop where
  gg : XG K C
  cl : (PySem.W.clsIn K C).isSome = true
  at_ : PySem.W.findIn K (.ref C) "__class__" = some (some (.builtin "object.__class__"))
  gt : PySem.W.specialIn K (.builtin "object.__class__") "__get__" = some (some (.builtin "getset_descriptor.__get__"))
  tk : PySem.W.takesIn K (.builtin "object.__class__") = some true
  ob : PySem.W.mroIn K C (.type "object") = some true
def XDict (H : Hp) (dx : Option Addr) : Prop := match dx with
  | none => True
  | some d => ∃ fs, H d = some (.xd fs)
/-- the answer for a class of the text, for one of Python's own -/
inductive XIs (K : PySem.W.Frag) (C : Addr) : V → Bool → Prop where
  | own {D : Addr} {b : Bool} (h : PySem.W.kitOne K (.ref C) (.ref D) = some b) : XIs K C (.ref D) b
  | ty {T : String} {b : Bool} (h : PySem.W.kitOne K (.ref C) (.type T) = some b) : XIs K C (.ty T) b
end L2
set_option Elab.async false
set_option linter.all false
set_option maxRecDepth 100000
namespace L2
open PySem PySem.Spec PyProof.Rows XH
/-! ### list comprehensions -/
abbrev Cx.block (X : Cx) (scope : Scope) (cl : List (Str × Addr)) (C : Addr) (N : List Str) (own : Str) (fp : List Addr) (s : Shared) (H : Hp) : Cx :=
  { X with env := compEnvC scope cl C X.env, N := N, s₀ := s, H₀ := H, outer := X.stack, stack := X.stack, ex := fp, fn := fun y => y == own, pn := [], xe := fun _ _ => False }
/-- what a comprehension's scope must have; ys: the names it takes from around, at the slots js there -/
structure CompOk (X : Cx) (scope : Scope) (cl : List (Str × Addr)) (own : Str) (ys : List Str) (js : List Nat) : Prop where
  clos : closureFor scope X.env = pure cl
  nocell : (scope.names.all fun p => !(p.2 == .cell)) = true
  kind : scope.kind = .function
  loc : (scope.names.all fun p => !(p.2 == .local) || scope.names.lookup p.1 == some .local) = true
  ownL : scope.names.lookup own = some .local
  sub : ∀ p ∈ cl, X.env.cells.lookup p.1 = some p.2
  has : ((relabel scope X.env).names.all fun p => !(p.2 == .cell || p.2 == .free) || (cl.lookup p.1).isSome) = true
  noown : cl.lookup own = none
  nd : (own :: ys).Nodup
  at_ : ∀ (i : Nat) (y : Str), ys[i]? = some y → ∃ j : Nat, js[i]? = some j ∧ X.N[j]? = some y ∧ (X.env.scope.names.lookup y = some .cell ∨ X.env.scope.names.lookup y = some .free) ∧ ((relabel scope X.env).names.lookup y = some .cell ∨ (relabel scope X.env).names.lookup y = some .free)
  len : js.length = ys.length
def freesOf (js : List Nat) (σ : St) : St := js.map fun j => (σ[j]?).getD none
def compR (js : List Nat) (te : TE) (σ : St) (Q : VK) : It → Hp → Prop := fun J H1 => ∀ p, H1 p = none → ∃ W : Nat → Nat → List V → Hp → Prop, (∃ m, W 0 m [] (upd H1 p (.lst []))) ∧
  ∀ i m ys H2, W i m ys H2 → H2 p = some (.lst ys) ∧ ((J.stop i H2 ∧ Q (.ref p) H2) ∨ (J.go i H2 ∧ ys.length < sizeLine ∧ ∀ x H3, J.yld i H2 x H3 → te (some x :: freesOf js σ) H3 fun y H4 => H4 p = some (.lst ys) ∧ ∃ m', m' < m ∧ W (i + 1) m' (ys ++ [y]) (upd H4 p (.lst (ys ++ [y])))))
def tComp (wi : TI) (js : List Nat) (te : TE) : TE := fun σ H Q => wi σ H (compR js te σ Q)
theorem lookup_all {α : Type} {f : Str × α → Bool} {x : Str} {a : α} : ∀ {l : List (Str × α)}, l.all f = true → l.lookup x = some a → f (x, a) = true := by
  intro l h e
  exact List.all_eq_true.mp h _ (PySem.mem_of_lookup e)
section
variable {prog : Program} {w : World} {A : Around} {R : Result → Shared → Prop} {s : Shared}
theorem compLoop_own {elt target iter : Expr} {scope : Scope} {pos : Pos} {it acc : Value} {env : Env} (I : Nat → Shared → Prop)
    (turn : ∀ n s, I n s → wpAny (model prog w) A (pyNext it) (fun r s1 => match r with
      | none => R (.ok .next) s1
      | some v => wpAny (model prog w) A (letOwnedTupleGo target it v) (fun _ s2 => wpAny (model prog w) A (assign target env v) (fun _ s3 => wpAny (model prog w) A (eval elt env) (fun x s4 =>
          wpAny (model prog w) A (call (.builtin "list.append") [acc, x]) (fun _ s5 => ∃ m, m < n ∧ I m s5) (fun _ _ => False) s4) (fun _ _ => False) s3) (fun _ _ => False) s2) (fun _ _ => False) s1) (fun _ _ => False) s)
    (n : Nat) (h : I n s) : codeAny (model prog w) A (.compLoop (.ListComp elt [⟨target, iter, [], 0⟩] scope pos) 0 it acc env) R s := by
  apply codeAny_loop rfl I ?_ n h
  intro n s hI
  show wpAny _ _ ((compTurn (.ListComp elt [⟨target, iter, [], 0⟩] scope pos) 0 it acc env).onRaise _) _ _ s
  apply wpAny_noted
  rw [compTurn_list1]
  apply wpAny_bind
  apply wpAny_standAt
  apply wpAny_bind
  refine wpAny_mono (turn n s hI) (fun r s1 h1 => ?_) fun _ _ z => z.elim
  cases r with
  | none => exact wpAny_pure h1
  | some v =>
    apply wpAny_bind
    refine wpAny_mono h1 (fun _ s2 h2 => ?_) fun _ _ z => z.elim
    apply wpAny_bind
    refine wpAny_mono h2 (fun _ s3 h3 => ?_) fun _ _ z => z.elim
    apply wpAny_bind
    apply wpAny_bind
    refine wpAny_mono h3 (fun x s4 h4 => ?_) fun _ _ z => z.elim
    apply wpAny_bind
    refine wpAny_mono h4 (fun _ s5 h5 => ?_) fun _ _ z => z.elim
    exact wpAny_pure (wpAny_pure ⟨rfl, h5⟩)
end
section
variable {X : Cx} {scope : Scope} {cl : List (Str × Addr)} {own : Str} {ys : List Str} {js : List Nat} {fp : List Addr} {pins : List (Addr × Obj)} {σ : St} {H : Hp} {s s4 : Shared}
theorem block_start {h1 : Heap} (ok : CompOk X scope cl own ys js) (I : Inv X pins σ H s) (hf : ∀ b ∈ fp, FpOk X pins H b) (hlt : ∀ b ∈ fp, b < s.heap.objs.size) (hns : h1.Ns s.heap.objs.size (fun _ => none))
    (hk : ∀ b o, s.heap.get? b = some o → h1.get? b = some o) (tk : Nat) :
    Inv (X.block scope cl s.heap.objs.size (own :: ys) own fp s H) [] (none :: freesOf js σ) H { s with heap := h1, toks := tk } := by
  have sub : ∀ y c, cl.lookup y = some c → X.env.cells.lookup y = some c := fun y c e => ok.sub (y, c) (PySem.mem_of_lookup e)
  refine ⟨⟨I.ok.mod, ok.kind, I.ok.glob, I.ok.blt, Nat.le_refl _, fun x y c e1 e2 => I.ok.inj x y c (sub x c e1) (sub y c e2), fun x hx => ?_, fun x c e1 e2 => ?_, I.ok.hd, I.ok.frames, .inl rfl, fun b hb => ⟨Nat.ne_of_lt (hlt b hb), fun x c e => (hf b hb).2.2.2.2.1 x c (sub x c e)⟩,
    I.bs, Nat.le_trans I.ok.bsz I.sz, fun b o e hb => ?_, fun b hb z => ?_, I.stack, I.stkFree⟩, rfl, I.bare, Un.kept hk, ⟨_, hns, fun i y v e1 e2 e3 => ?_⟩, fun y c e => ?_, I.hok.fresh (Nat.le_refl _), fun y c e => I.freeC y c (sub y c e), fun p hp => absurd (show p ∈ ([] : List (Addr × Obj)) from hp) (by simp), I.hok.kept hk, ?_⟩
  · have hx' : (relabel scope X.env).names.lookup x = some .cell ∨ (relabel scope X.env).names.lookup x = some .free := hx
    rcases hx' with z | z
    · have q := lookup_all ok.has z
      simp only [beq_self_eq_true, Bool.true_or, Bool.not_true, Bool.false_or] at q
      exact Option.isSome_iff_exists.mp q
    · have q := lookup_all ok.has z
      simp only [beq_self_eq_true, Bool.or_true, Bool.not_true, Bool.false_or] at q
      exact Option.isSome_iff_exists.mp q
  · have e1' : (x == own) = true := e1
    have e : x = own := beq_iff_eq.mp e1'
    have e2' : cl.lookup x = some c := e2
    rw [e, ok.noown] at e2'
    cases e2'
  · rcases (hf b hb).2.2.2.1 with z | z
    · exact I.ok.noex b o e z
    · exact absurd (Nat.lt_of_lt_of_le (Heap.lt_size (I.ok.bs b o e).1) z) (Nat.lt_irrefl _)
  · rcases List.mem_cons.mp (I.stkSub b z) with q | q
    · exact (hf b hb).2.1 q
    · exact (hf b hb).2.2.1 q
  · cases i with
    | zero => cases e2
    | succ i =>
      have e1' : ys[i]? = some y := e1
      obtain ⟨j, hj, hN, hX, hc⟩ := ok.at_ i y e1'
      have e2' : (freesOf js σ)[i]? = some (some v) := e2
      unfold freesOf at e2'
      rw [List.getElem?_map, hj] at e2'
      have hs : σ[j]? = some (some v) := by
        cases q : σ[j]? with
        | none => rw [Option.map_some, q] at e2'; cases e2'
        | some o => rw [Option.map_some, q] at e2'; exact e2'
      obtain ⟨m, hn, hl⟩ := I.loc
      obtain ⟨u, r, l⟩ := hl j y v hN hs (hX.elim (fun z => .inr (.inl z)) fun z => .inr (.inr z))
      refine ⟨u, r, .inr ⟨hc, ?_⟩⟩
      rcases l with ⟨k, _⟩ | ⟨k, c, hcl, hcell⟩
      · have k' : X.env.scope.names.lookup y = some .local := k
        rcases hX with z | z <;> (rw [z] at k'; cases k')
      · have ex : ∃ c', cl.lookup y = some c' := by
          rcases hc with z | z
          · have q := lookup_all ok.has z
            simp only [beq_self_eq_true, Bool.true_or, Bool.not_true, Bool.false_or] at q
            exact Option.isSome_iff_exists.mp q
          · have q := lookup_all ok.has z
            simp only [beq_self_eq_true, Bool.or_true, Bool.not_true, Bool.false_or] at q
            exact Option.isSome_iff_exists.mp q
        obtain ⟨c', hc'⟩ := ex
        have e := sub y c' hc'
        rw [hcl] at e
        cases e
        obtain ⟨oc, hoc, hd⟩ := hcell
        exact ⟨c, hc', oc, hk _ _ hoc, hd⟩
  · obtain ⟨v, oc, hoc, hd⟩ := I.cell y c (sub y c e)
    exact ⟨v, oc, hk _ _ hoc, hd⟩
  · show (none :: freesOf js σ).length = (own :: ys).length
    simp [freesOf, ok.len]
theorem block_end {H' : Hp} {h' : Heap} {σ' : St} (I : Inv X pins σ H s) (hf : ∀ b ∈ fp, FpOk X pins H b) (J : Inv (X.block scope cl s.heap.objs.size (own :: ys) own fp s H) [] σ' H' s4) (hs : Heap.SameBut s.heap.objs.size s4.heap h') :
    Inv X pins σ H' { s4 with heap := h' } := by
  have low : ∀ b o, s.heap.get? b = some o → b ≠ s.heap.objs.size := fun b o e => Nat.ne_of_lt (Heap.lt_size e)
  have B := J.base
  have u : Un (frs X.stack) fp H H' s.heap h' := {
    keep := fun b o q n hb hx => (hs.2 b (low b o q)).trans (B.keep b o q n hb hx)
    slot := fun b o q n hb hx => by
      obtain ⟨sl, e⟩ := B.slot b o q n hb hx
      exact ⟨sl, (hs.2 b (low b o q)).trans e⟩
    free := B.free
    there := fun b o q hx => by
      obtain ⟨o', e⟩ := B.there b o q hx
      exact ⟨o', (hs.2 b (low b o q)).trans e⟩
    tups := B.tups
    frzs := B.frzs
    tbls := B.tbls }
  have hn : H' s.heap.objs.size = none := J.free
  have hk : HOk X.prog X.w H' h' := fun a o e => (J.hok a o e).stay (fun b v hb q => (hs.2 b (by
    intro z
    rcases hb with z' | z'
    · rw [← z', z, hn] at e; cases e
    · rw [z, hn] at z'; cases z')).trans q) (fun _ q => q) fun _ _ q => q
  exact I.call' (s' := { s4 with heap := h' }) (ch := fp) J.os u hk J.bare fun b hb => ⟨(hf b hb).2.2.2.1, (hf b hb).2.1, (hf b hb).2.2.2.2.1, (hf b hb).2.2.2.2.2⟩
end
section
variable {X : Cx} {scope : Scope} {cl : List (Str × Addr)} {own : Str} {ys : List Str} {js : List Nat} {elt iter : Expr} {px pos : Pos} {wi : TI} {te : TE}
end
end L2
set_option Elab.async false
set_option linter.all false
set_option maxRecDepth 100000
namespace L2
open PySem PySem.Spec PyProof.Rows XH PySem.Builtin PySem.Builtin.ObjectAttr
/-! ### an own refusal's __init__: its field -/
/-- the classes above it, as a store asks -/
structure XA (K : PySem.W.Frag) (C S : Addr) : Prop where
  sa : PySem.W.findIn K (.ref C) "__setattr__" = some (some (.builtin "object.__setattr__"))
  mro : (PySem.W.clsIn K C).map (·.mro) = some (.ref C :: .ref S :: bmV)
  dct : PySem.W.hasDictIn K C = true
  ob : PySem.W.mroIn K C (.type "object") = some true
section
variable {prog : Program} {w : World} {A : Around} {E : Value → Shared → Prop} {s : Shared} {K : PySem.W.Frag} {x C S : Addr} {ox : Obj} {od : Option Obj} {name : Str} {v : Value}
end
/-- self.f = e in the __init__ of an own refusal -/
def sFldX (K : PySem.W.Frag) (ta tv : TE) (f : Str) : TS := fun D σ H => tv σ H fun y H1 => ta σ H1 fun x H2 => ∃ a C S n, x = .ref a ∧ H2 a = some (excB n a (.ref C) none) ∧ XA K C S ∧ PySem.W.findIn K (.ref C) f = some none ∧
  ∀ d, H2 d = none → D.nx σ (upd (upd H2 d (.xd [(f, y)])) a (excB n a (.ref C) (some d)))
section
variable {X : Cx} {o value : Expr} {f : Str} {pos pos' : Pos} {ta tv : TE}
end
end L2
set_option Elab.async false
set_option linter.all false
set_option maxRecDepth 100000
namespace L2
open PySem PySem.Spec PyProof.Rows XH
section
variable {X : Cx} {o e value : Expr} {f : Str} {pos pos' : Pos} {ta tv : TE}
/-- e.f of a refusal that has the field -/
structure XF (K : PySem.W.Frag) (C : Addr) (f : Str) : Prop where
  gg : XG K C
  dct : PySem.W.hasDictIn K C = true
  no : PySem.W.findIn K (.ref C) f = some none
def tFldX (K : PySem.W.Frag) (ta : TE) (f : Str) : TE := fun σ H Q => ta σ H fun x H1 => ∃ a C d fs v n, x = .ref a ∧ H1 a = some (excB n a (.ref C) (some d)) ∧ H1 d = some (.xd fs) ∧ XF K C f ∧ fs.lookup f = some v ∧ Q v H1
end
/-! ### a refusal with an __init__ is made -/
structure XCi (K : PySem.W.Frag) (C f : Addr) : Prop where
  ex : ∃ bm N nm q bs hdct sn sub ab col dd k0 k1 k2 k3 k5, K.lookup C = some (excClassObj nm q C N bs bm hdct sn sub ab col dd k0 k1 k2 k3 k5 "ValueError.__new__") ∧ PySem.W.nsOkIn K N = true ∧ PySem.W.nsIn K N "__init__" = some (some (.ref f)) ∧ PySem.W.tailIn K bmV bm = true
  fn : PySem.W.typeIn K (.ref f) = some (.type "function")
  kp : PySem.W.keepIn K (.ref C) = true
section
variable {prog : Program} {w : World} {A : Around} {E : Value → Shared → Prop} {h : Heap} {g : Array GenState} {d : Drawn} {t : Nat} {os : OsState}
variable {nm q : Str} {C N : Addr} {bs bm : List Value} {hdct : Bool} {sn : List Str} {sub : List Value} {ab : Bool} {col : Option Bool} {dd : Option Addr} {k0 k1 k2 k3 k5 : Option Value}
end
def tMakeI (C : Addr) (sp : Sp) (t : TA) : TE := fun σ H Q => t σ H fun vs H1 => vs.length ≤ sizeLine ∧ ∀ a, H1 a = none → sp (.ref a :: vs) (upd H1 a (excB true a (.ref C) none)) (fun v H2 => v = .non ∧ Q (.ref a) H2) E0
def tMakeE (C : Addr) (t : TA) : TE := fun σ H Q => t σ H fun vs H1 => vs.length ≤ sizeLine ∧ ∀ a, H1 a = none → Q (.ref a) (upd H1 a (excB true a (.ref C) none))
section
variable {X : Cx} {x : Str} {p pos : Pos} {e : Expr} {es : List Expr} {C fI : Addr} {t : TA} {k : Nat} {fd : FuncData} {ps : List Str} {sp : Sp}
end
end L2
set_option Elab.async false
set_option linter.all false
set_option maxRecDepth 100000
namespace L2
open PySem PySem.Spec PyProof.Rows XH
section
variable {M : Model} {A : Around} {E : Value → Shared → Prop} {env : Env}
variable {nm q : Str} {C N : Addr} {bs bm : List Value} {hdct : Bool} {sn : List Str} {sub : List Value} {ab : Bool} {col : Option Bool} {dd : Option Addr} {k0 k1 k2 k3 k5 : Option Value} {nw : String}
end
def del (H : Hp) (a : Addr) : Hp := fun b => if b = a then none else H b
def tRaiseI (C : Addr) (sp : Sp) (E : St → XK) (t : TA) : TS := fun _ σ H => t σ H fun vs H1 => vs.length ≤ sizeLine ∧ ∀ a, H1 a = none → sp (.ref a :: vs) (upd H1 a (excB true a (.ref C) none)) (fun v H2 => v = .non ∧ ∃ d, H2 a = some (excB true a (.ref C) (some d)) ∧ E σ (.ref C) (some d) (del H2 a)) E0
section
variable {X : Cx} {x : Str} {np cpos pos : Pos} {e₀ : Expr} {rest : List Expr} {C fI : Addr} {t : TA} {k : Nat} {fd : FuncData} {ps : List Str} {sp : Sp} {E : St → XK}
end
end L2
set_option Elab.async false
set_option linter.all false
set_option maxRecDepth 100000
namespace L2
open PySem PySem.Spec PyProof.Rows XH
/-! ### within an except suite, and in what is called there -/
/-- what is known of the handled exception, if there is one -/
def HdOk (hd : Option Value) (H : Hp) : Prop := ∀ v, hd = some v → ∃ a n cls dx, v = .ref a ∧ H a = some (excB n a cls dx)
theorem HdOk.no {H : Hp} : HdOk none H := fun _ z => nomatch z
section
variable {prog : Program} {w : World} {A : Around} {E : Value → Shared → Prop} {s : Shared}
end
/-! ### iterators under a handled exception -/
structure TurnH (hd : Option Value) (P : Program) (w : World) (K : PySem.W.Frag) (tg : Expr) (J : It) (fp : List Addr) (it : Addr) (tn : Nat → Heap → Prop) : Prop where
  mem : it ∈ fp
  obj : ∀ i h, tn i h → ∀ b ∈ fp, ∃ o, h.get? b = some o ∧ ∀ v, o.data ≠ .cell v
  keep : ∀ i h h', tn i h → (∀ b ∈ fp, ∀ o, h.get? b = some o → h'.get? b = some o) → tn i h'
  item : ∀ (X : Cx), X.prog = P → X.w = w → X.K = K → X.A.handled = hd → ∀ (i : Nat) (pins : List (Addr × Obj)) (s : Shared) (σ : St) (H : Hp) (E : Value → Shared → Prop), Inv X pins σ H s → (∀ b ∈ fp, FpOk X pins H b) → tn i s.heap → J.go i H →
    wpAny (model P w) X.A (pyNext (.ref it)) (fun r s1 => ∃ u, r = some u ∧
      wpAny (model P w) X.A (letOwnedTupleGo tg (.ref it) u) (fun _ s2 => ∃ x H', Inv X pins σ H' s2 ∧ RelV x u ∧ J.yld i H x H' ∧ tn (i + 1) s2.heap ∧ ∀ b ∈ fp, H' b = none) E s1) E s
  done : ∀ (X : Cx), X.prog = P → X.w = w → X.K = K → X.A.handled = hd → ∀ (i : Nat) (pins : List (Addr × Obj)) (s : Shared) (σ : St) (H : Hp) (E : Value → Shared → Prop), Inv X pins σ H s → (∀ b ∈ fp, FpOk X pins H b) → tn i s.heap → J.stop i H →
    wpAny (model P w) X.A (pyNext (.ref it)) (fun r s1 => r = none ∧ Inv X pins σ H s1) E s
  self : ∀ (A : Around) (i : Nat) (s : Shared) (Q : Value → Shared → Prop) (E : Value → Shared → Prop), tn i s.heap → Q (.ref it) s → wpAny (model P w) A (pyIter (.ref it)) Q E s
def PIEH (hd : Option Value) (X : Cx) (pins : List (Addr × Obj)) (σ : St) (tg : Expr) (R : It → Hp → Prop) (itv : Value) (s2 : Shared) : Prop :=
  ∃ (it : Addr) (fp : List Addr) (tn : Nat → Heap → Prop) (J : It) (H' : Hp), itv = .ref it ∧ Inv X pins σ H' s2 ∧ TurnH hd X.prog X.w X.K tg J fp it tn ∧ tn 0 s2.heap ∧ (∀ b ∈ fp, FpOk X pins H' b) ∧ R J H'
def PIH (hd : Option Value) (X : Cx) (tg iter : Expr) (wi : TI) : Prop :=
  ∀ (pins : List (Addr × Obj)) (s : Shared) (σ : St) (H : Hp) (R : It → Hp → Prop), Inv X pins σ H s → wi σ H R →
    wpAny (model X.prog X.w) X.A (eval iter X.env) (fun v s1 => wpAny (model X.prog X.w) X.A (pyIter v) (PIEH hd X pins σ tg R) X.xe s1) X.xe s
def ItrH (hd : Option Value) (lo : Int) (n : Nat) : It := ⟨fun i _ => i < n, fun i H x H' => H' = H ∧ x = .int (lo + i), fun i H => n ≤ i ∧ HdOk hd H⟩
def iRngH (hd : Option Value) (ta : TA) : TI := fun σ H R => ta σ H fun vs H1 => ∃ j : Int, vs = [.int j] ∧ -(2 ^ 62) ≤ j ∧ j < 2 ^ 62 ∧ R (ItrH hd 0 j.toNat) H1
section
variable {X : Cx} {tg : Expr} {hd : Option Value}
end
section
variable {X : Cx} {scope : Scope} {cl : List (Str × Addr)} {own : Str} {ys : List Str} {js : List Nat} {elt iter : Expr} {px pos : Pos} {wi : TI} {te : TE} {hd : Option Value}
end
/-! ### an except suite whose reading knows the exception -/
def tHasA (K : PySem.W.Frag) (C' : Addr) (i : Nat) (t : Addr → TS) (r : TH) : TH := fun D σ cls dx H a => ∃ C b, cls = .ref C ∧ PySem.W.subIn K (.ref C) (.ref C') = some b ∧
  if b = true then t a (offE i D) (σ.set i (some (.ref a))) (upd H a (excO a cls dx)) else r D σ cls dx H a
section
variable {X : Cx} {x n : Str} {np pos : Pos} {b0 : Stmt} {suite : List Stmt} {rest : List ExceptHandler} {i : Nat} {C' : Addr} {tA : Addr → TS} {th : TH}
end
/-! ### calls, whatever is handled -/
structure RoomH (hd : Option Value) (k : Nat) (A : Around) : Prop where
  hd : A.handled = hd
  dp : A.depth + 3 * k + 5 < recursionLimit
  un : A.units + 16 * k + 200 < cLine
theorem RoomH.mono {hd : Option Value} {j k : Nat} {A : Around} (r : RoomH hd k A) (h : j ≤ k) : RoomH hd j A := ⟨r.hd, by have := r.dp; omega, by have := r.un; omega⟩
theorem RoomH.deeper {hd : Option Value} {k : Nat} {A : Around} (r : RoomH hd (k + 1) A) (env : Env) : RoomH hd k (A.deeper env) :=
  ⟨r.hd, by have := r.dp; show A.depth + 1 + 3 * k + 5 < _; omega, by have := r.un; show A.units + 3 + 16 * k + 200 < _; omega⟩
theorem RoomH.depth {hd : Option Value} {k : Nat} {A : Around} (r : RoomH hd k A) : A.depth < recursionLimit := by have := r.dp; omega
theorem RoomH.units {hd : Option Value} {k : Nat} {A : Around} (r : RoomH hd k A) : A.units + 64 < cLine := by have := r.un; omega
theorem Room.h {k : Nat} {A : Around} (r : Room k A) : RoomH none k A := ⟨r.hd, r.dp, r.un⟩
theorem Room.suite {k : Nat} {A : Around} (r : Room k A) (v : Value) : RoomH (some v) k (A.mark (some v)) := ⟨rfl, r.dp, r.un⟩
structure FnH (hd : Option Value) (P : Program) (w : World) (K : PySem.W.Frag) (mg : Str → Option Value) (base : Heap) (k : Nat) (f : Addr) (fd : FuncData) (ps : List Str) (sp : Sp) : Prop where
  len : ∀ vs H Q E, sp vs H Q E → vs.length = ps.length
  run : ∀ (A : Around) (outer : List Env) (s : Shared) (H : Hp) (args : Args) (us : List Value) (vs : List V) (Q : VK) (E : XK), RoomH hd k A → Env0 P w K mg base A outer s H → BindsTo s fd args (ps.zip us) → Vals vs us → sp vs H Q E →
    codeAny (model P w) A (.call (.ref f) args) (CR CX0 outer P w H s Q E) s
section
variable {P : Program} {w : World} {K : PySem.W.Frag} {mg : Str → Option Value} {base : Heap} {hd : Option Value}
theorem FnH.mono {j k : Nat} {f : Addr} {fd : FuncData} {ps : List Str} {sp : Sp} (F : FnH hd P w K mg base j f fd ps sp) (h : j ≤ k) : FnH hd P w K mg base k f fd ps sp :=
  ⟨F.len, fun A outer s H args us vs Q E hr => F.run A outer s H args us vs Q E (hr.mono h)⟩
theorem FnH.calm {k : Nat} {f : Addr} {fd : FuncData} {ps : List Str} {sp : Sp} (F : FnH none P w K mg base k f fd ps sp) : FnOk P w K mg base CX0 k f fd ps sp :=
  ⟨F.len, fun A outer s H args us vs Q E hr => F.run A outer s H args us vs Q E hr.h⟩
def cxH (hd : Option Value) (P : Program) (w : World) (K : PySem.W.Frag) (mg : Str → Option Value) (base : Heap) (N : List Str) (qual : Str) (scope : Scope) (f : Addr) (cd : Value) (A : Around) (outer : List Env) (s : Shared) (H : Hp) (E : XK) : Cx :=
  { cxOf CX0 P w K mg base N qual scope f cd A outer s H E with calm := hd.isNone }
end
section
variable {X : Cx} {k : Nat} {f : Addr} {fd : FuncData} {ps : List Str} {sp : Sp} {dvs : List V} {ds : List Value} {x : Str} {p pos : Pos} {e : Expr} {es : List Expr} {t : TA} {hd : Option Value}
end
end L2
set_option Elab.async false
set_option linter.all false
set_option maxRecDepth 100000
namespace Sw
open PySem L2 XH
/-- a def as its callers see it -/
structure Dx (P : Program) (w : World) (K : PySem.W.Frag) (mg : Str → Option Value) (base : Heap) (CX : CXT) (k : Nat) (x : Str) (ps : List Str) (dvs : List V) (sp : Sp) where
  f : Addr
  fd : FuncData
  ok : FnOk P w K mg base CX k f fd ps sp
  m : mg x = some (.ref f)
  q : PySem.W.keepIn K (.ref f) = true
  b : Binds K fd ps []
  bd : ∃ ds, Binds K fd ps ds ∧ Vals dvs ds
def Dx.calm {P : Program} {w : World} {K : PySem.W.Frag} {mg : Str → Option Value} {base : Heap} {k : Nat} {x : Str} {ps : List Str} {dvs : List V} {sp sp0 : Sp} (D : Dx P w K mg base (CX1 P w) k x ps dvs sp) (h : ∀ vs H Q E, sp0 vs H Q E → sp vs H Q E0) : Dx P w K mg base CX0 k x ps dvs sp0 :=
  ⟨D.f, D.fd, D.ok.noraise h, D.m, D.q, D.b, D.bd⟩
section
variable {X : Cx} {k j : Nat} {x : Str} {ps : List Str} {sp : Sp} {p pos : Pos} {e : Expr} {es : List Expr} {t : TA} {dvs : List V} {E : St → XK}
theorem pcall0 (D : Dx X.prog X.w X.K X.mg X.base CX0 k x ps dvs sp) (hr : Room j X.A) (hk : k ≤ j) (hg : Gl X x) (ha : PA X (e :: es) t) (hdb : (x == ("__debug__" : Str)) = false := by decide)
    (he : starEach (e :: es) X.env = (false, eval e X.env) :: starEach es X.env := by rfl) (hpl : (backTo pos (starEach es X.env)).any (·.1) = false := by rfl) :
    PE X (.Call (.Name x p) (e :: es) [] pos) (tCall sp [] E0 t) :=
  pe_call D.ok (hr.mono hk) hg D.m D.q D.b .nil pass0 ha hdb he hpl
end
end Sw
set_option Elab.async false
set_option linter.all false
set_option maxRecDepth 100000
namespace Sw
open PySem L2 XH
def spFrZ (c : Addr) : Sp := fun vs H Q E => ∃ a b : Int, vs = [.int a, .int b] ∧ Bd 8500 b ∧ (b ≠ 0 → ∀ p q : Int, Fr p q a b → Pair H Q p q) ∧ (b = 0 → E (.ref c) none H)
def spQuotX (K : PySem.W.Frag) (c : Addr) : Sp := fun vs H Q E => ∃ (t t' : Addr) (p q p' q' : Int), vs = [.ref t, .ref t'] ∧ FrIn K 4000 H t p q ∧ FrIn K 4000 H t' p' q' ∧ (p' ≠ 0 → ∀ r s : Int, Fr r s (p * q') (q * p') → Pair H Q r s) ∧ (p' = 0 → E (.ref c) none H)
def spRef2 (K : PySem.W.Frag) : Sp := fun vs H Q _ => ∃ (t t' : Addr) (p q q' : Int), vs = [.ref t, .ref t'] ∧ FrIn K 4000 H t p q ∧ FrIn K 4000 H t' 0 q' ∧ ∀ H', Same H H' → Q (.bl true) H'
end Sw
set_option Elab.async false
set_option linter.all false
set_option maxRecDepth 100000
namespace Sw
open PySem L2 XH
/-! ### packs -/
structure PackOk (p q p2 q2 a0 b0 n l m : Int) : Prop where
  nn : 0 ≤ n
  lo : 0 ≤ n * (p2 * q * b0) - (p * b0 - a0 * q) * q2
  hi : 0 < n → n * (p2 * q * b0) - (p * b0 - a0 * q) * q2 < p2 * q * b0
  low : Low l m
  same : l * (q * q2 * b0) = (n * (p2 * q * b0) - (p * b0 - a0 * q) * q2) * m
  bn : Bd 2200 n
  bl : Bd 4300 l
  bm : Bd 4300 m
def Have (K : PySem.W.Frag) (H : Hp) (hv : V) (a0 b0 : Int) : Prop := (hv = .non ∧ a0 = 0 ∧ b0 = 1) ∨ ∃ t3, hv = .ref t3 ∧ FrIn K 700 H t3 a0 b0
/-- a new pair of a number and a fraction -/
def PackPair (H : Hp) (Q : VK) (n l m : Int) : Prop := ∀ (tl tt : Addr) (H' : Hp), Same H H' → H' tl = some (.tup [.int l, .int m]) → H' tt = some (.tup [.int n, .ref tl]) → Q (.ref tt) H'
def spPackX (K : PySem.W.Frag) (c : Addr) : Sp := fun vs H Q E => ∃ (t1 t2 : Addr) (hv : V) (p q p2 q2 a0 b0 : Int), vs = [.ref t1, .ref t2, hv] ∧ FrIn K 700 H t1 p q ∧ FrIn K 700 H t2 p2 q2 ∧ Have K H hv a0 b0 ∧
  (0 < p2 → ∀ n l m : Int, PackOk p q p2 q2 a0 b0 n l m → PackPair H Q n l m) ∧ (p2 ≤ 0 → E (.ref c) none H)
def spPack (K : PySem.W.Frag) : Sp := fun vs H Q E => ∃ (t1 t2 : Addr) (hv : V) (p q p2 q2 a0 b0 : Int), vs = [.ref t1, .ref t2, hv] ∧ FrIn K 700 H t1 p q ∧ FrIn K 700 H t2 p2 q2 ∧ Have K H hv a0 b0 ∧ 0 < p2 ∧
  ∀ n l m : Int, PackOk p q p2 q2 a0 b0 n l m → PackPair H Q n l m
def spEnough (K : PySem.W.Frag) : Sp := fun vs H Q _ => ∃ (tt tl t1 t2 t3 : Addr) (p q p2 q2 a0 b0 n l m : Int), vs = [.ref tt, .ref t1, .ref t2, .ref t3] ∧ FrIn K 700 H t1 p q ∧ FrIn K 700 H t2 p2 q2 ∧ FrIn K 700 H t3 a0 b0 ∧
  SqT K H tt [.int n, .ref tl] ∧ SqT K H tl [.int l, .int m] ∧ PackOk p q p2 q2 a0 b0 n l m ∧ Q (.bl true) H
end Sw
namespace L2
open PySem PySem.Spec PyProof.Rows
end L2
namespace Sw
open PySem L2 XH
def spRef3 (K : PySem.W.Frag) : Sp := fun vs H Q _ => ∃ (t1 t2 t3 : Addr) (p q p2 q2 a0 b0 : Int), vs = [.ref t1, .ref t2, .ref t3] ∧ FrIn K 700 H t1 p q ∧ FrIn K 700 H t2 p2 q2 ∧ FrIn K 700 H t3 a0 b0 ∧ p2 ≤ 0 ∧ ∀ H', Same H H' → Q (.bl true) H'
end Sw
set_option Elab.async false
set_option linter.all false
set_option maxRecDepth 100000
namespace Sw
open PySem L2 XH
/-! ### many needs: tops, bottoms, and how many figures of two a bottom has -/
structure Nd where
  t : Addr
  p : Int
  q : Int
  w : Nat
def sT : List Nd → Int
  | [] => 0
  | x :: r => x.p * sB r + sT r * x.q
where sB : List Nd → Int
  | [] => 1
  | x :: r => x.q * sB r
abbrev sB := sT.sB
def sW : List Nd → Nat
  | [] => 0
  | x :: r => x.w + sW r
structure NdOk (K : PySem.W.Frag) (H : Hp) (x : Nd) : Prop where
  fr : FrIn K 60 H x.t x.p x.q
  bp : Bd 41 x.p
  bq : Bd x.w x.q
theorem NdOk.same {K : PySem.W.Frag} {H H' : Hp} {x : Nd} (h : NdOk K H x) (g : Same H H') : NdOk K H' x := ⟨h.fr.same g, h.bp, h.bq⟩
/-- so many packs are enough for the needs so far -/
def Enough (p2 q2 N : Int) (l : List Nd) : Prop := sT l * q2 ≤ N * p2 * sB l
end Sw
set_option Elab.async false
set_option linter.all false
set_option maxRecDepth 100000
namespace Sw
open PySem L2 XH
def spNeeds (K : PySem.W.Frag) : Sp := fun vs H Q _ => ∃ (a : Addr) (ns : List Int), vs = [.ref a] ∧ SqL K H a (ns.map V.int) ∧ ns.length ≤ 63 ∧
  ∀ (l : Addr) (nds : List Nd) (H' : Hp), Same H H' → H' l = some (.lst (nds.map fun x => V.ref x.t)) → (∀ x ∈ nds, NdOk K H' x) → nds.length ≤ 63 → sW nds ≤ 419 → Q (.ref l) H'
end Sw
namespace L2
open PySem PySem.Spec PyProof.Rows
end L2
set_option Elab.async false
set_option linter.all false
set_option maxRecDepth 100000
namespace L2
open PySem PySem.Spec PyProof.Rows XH
theorem call_isiT {X : Cx} {K : PySem.W.Frag} (hK : X.K = K) : CallR X (.builtin "isinstance") (fun xs H Q => ∃ x t T b, xs = [x, .ty T] ∧ TyOf K H x t ∧ PySem.W.kitOne K t (.type T) = some b ∧ Q (.bl b) H) := by
  subst hK
  intro pins s σ H xs us Q I r h
  obtain ⟨x, t, T, b, rfl, ty, e, q⟩ := h
  obtain ⟨u, w', rfl, e1, e2⟩ := vals2 r
  cases e2
  exact isinst_ok I e1 ty e fun tk => ⟨.bl b, H, I.tok tk, rfl, q⟩
end L2
namespace Sw
open PySem L2 XH
/-! ### whatever is handed in: is it a whole number, is it a fraction -/
inductive Wh (K : PySem.W.Frag) (H : Hp) : V → Bool → Prop where
  | mk {x : V} {t : Value} {b1 b2 : Bool} (ty : TyOf K H x t) (h1 : PySem.W.kitOne K t (.type "int") = some b1) (h2 : PySem.W.kitOne K t (.type "bool") = some b2) : Wh K H x (b1 && !b2)
section
variable {K : PySem.W.Frag} {H : Hp}
theorem ty_same {H' : Hp} (g : Same H H') {x : V} {t : Value} (h : TyOf K H x t) : TyOf K H' x t := by
  cases h with
  | non => exact .non
  | bl b => exact .bl b
  | int i => exact .int i
  | str x => exact .str x
  | flt x => exact .flt x
  | lst e => exact .lst (g _ _ e)
  | frz e => exact .frz (g _ _ e)
  | tup e => exact .tup (g _ _ e)
  | dK e => exact .dK (g _ _ e)
  | dT e => exact .dT (g _ _ e)
  | ins e c a n k m => exact .ins (g _ _ e) c a n k m
theorem Wh.same {H' : Hp} (g : Same H H') {x : V} {b : Bool} (h : Wh K H x b) : Wh K H' x b := by
  cases h with
  | mk ty h1 h2 => exact .mk (ty_same g ty) h1 h2
end
def spWh (K : PySem.W.Frag) : Sp := fun vs H Q _ => ∃ (x : V) (b : Bool), vs = [x] ∧ Wh K H x b ∧ Q (.bl b) H
def spFrG (K : PySem.W.Frag) (c : Addr) : Sp := fun vs H Q E => ∃ (x y : V) (bx bY : Bool), vs = [x, y] ∧ Wh K H x bx ∧ Wh K H y bY ∧ ((bx && bY) = true → ∃ a b : Int, x = .int a ∧ y = .int b ∧ Bd 8500 b) ∧
  ((bx && bY) = false ∨ y = .int 0 → E (.ref c) none H) ∧ ∀ a b : Int, x = .int a → y = .int b → b ≠ 0 → ∀ p q : Int, Fr p q a b → Pair H Q p q
/-- why a thing is a fraction or none -/
inductive FrK (K : PySem.W.Frag) (H : Hp) : V → Bool → Prop where
  | no {x : V} {t : Value} (ty : TyOf K H x t) (h : PySem.W.kitOne K t (.type "tuple") = some false) : FrK K H x false
  | len {a : Addr} {ys : List V} (e : H a = some (.tup ys)) (h : ((ys.length : Nat) : Int) ≠ 2) : FrK K H (.ref a) false
  | top {a : Addr} {y z : V} (e : H a = some (.tup [y, z])) (h : Wh K H y false) : FrK K H (.ref a) false
  | bot {a : Addr} {y z : V} (e : H a = some (.tup [y, z])) (h : Wh K H y true) (h' : Wh K H z false) : FrK K H (.ref a) false
  | two {a : Addr} {p q : Int} (e : H a = some (.tup [.int p, .int q])) : FrK K H (.ref a) (decide (1 ≤ q) && decide (gcdI p q = 1))
theorem FrK.same {K : PySem.W.Frag} {H H' : Hp} (g : Same H H') {x : V} {b : Bool} (h : FrK K H x b) : FrK K H' x b := by
  cases h with
  | no ty h => exact .no (ty_same g ty) h
  | len e h => exact .len (g _ _ e) h
  | top e h => exact .top (g _ _ e) (h.same g)
  | bot e h h' => exact .bot (g _ _ e) (h.same g) (h'.same g)
  | two e => exact .two (g _ _ e)
def spIsFr (K : PySem.W.Frag) : Sp := fun vs H Q _ => ∃ (x : V) (b : Bool), vs = [x] ∧ FrK K H x b ∧ Q (.bl b) H
def spToldG (K : PySem.W.Frag) : Sp := fun vs H Q _ => ∃ (x : V) (b : Bool), vs = [x, .bl b] ∧ FrK K H x b ∧ Q (.bl true) H
def spRefG (K : PySem.W.Frag) : Sp := fun vs H Q _ => ∃ (x y : V) (bx bY : Bool), vs = [x, y] ∧ Wh K H x bx ∧ Wh K H y bY ∧ ((bx && bY) = true → ∃ a : Int, x = .int a ∧ y = .int 0) ∧ ∀ H', Same H H' → Q (.bl true) H'
def spNear (K : PySem.W.Frag) : Sp := fun vs H Q _ => ∃ (t : Addr) (p q w : Int), vs = [.ref t, .int w] ∧ FrIn K 8500 H t p q ∧ ∀ (x : V) (H' : Hp), Same H H' → FrK K H' x false → Q x H'
end Sw
set_option Elab.async false
set_option linter.all false
set_option maxRecDepth 100000
namespace L2
open PySem PySem.Spec PyProof.Rows XH
/-- a truth, a number, a text -/
def Smp : V → Prop
  | .bl _ => True
  | .int _ => True
  | .str _ => True
  | _ => False
theorem eqat_smp {A : Around} {s : Shared} {v : V} {u w : Value} (h : Smp v) (r1 : RelV v u) (r2 : RelV v w) : SeqAt.EqAt A s u w true := by
  cases v with
  | bl b =>
    cases r1
    cases r2
    have z := SeqAt.EqAt.bool_bool (A := A) (s := s) b b
    rw [beq_self_eq_true] at z
    exact z
  | int i =>
    obtain ⟨t, rfl⟩ := r1
    obtain ⟨t', rfl⟩ := r2
    have z := SeqAt.EqAt.int_int (A := A) (s := s) i t i t'
    rw [beq_self_eq_true] at z
    exact z
  | str i =>
    obtain ⟨t, rfl⟩ := r1
    obtain ⟨t', rfl⟩ := r2
    have z := SeqAt.EqAt.str_str (A := A) (s := s) i t i t'
    rw [beq_self_eq_true] at z
    exact z
  | _ => exact absurd h (fun z => z)
end L2
set_option Elab.async false
set_option linter.all false
set_option maxRecDepth 100000
namespace Sw
open PySem L2 XH PyProof.Rows
/-! ### defs that are called from a handler too, and refusals' __init__ -/
structure DxH (hd : Option Value) (P : Program) (w : World) (K : PySem.W.Frag) (mg : Str → Option Value) (base : Heap) (k : Nat) (x : Str) (ps : List Str) (sp : Sp) where
  f : Addr
  fd : FuncData
  ok : FnH hd P w K mg base k f fd ps sp
  m : mg x = some (.ref f)
  q : PySem.W.keepIn K (.ref f) = true
  b : Binds K fd ps []
def DxH.calm {P : Program} {w : World} {K : PySem.W.Frag} {mg : Str → Option Value} {base : Heap} {k : Nat} {x : Str} {ps : List Str} {sp : Sp} (D : DxH none P w K mg base k x ps sp) : Dx P w K mg base CX0 k x ps [] sp :=
  ⟨D.f, D.fd, D.ok.calm, D.m, D.q, D.b, ⟨[], D.b, .nil⟩⟩
structure DxI (P : Program) (w : World) (K : PySem.W.Frag) (mg : Str → Option Value) (base : Heap) (k : Nat) (C : Addr) (ps : List Str) (sp : Sp) where
  f : Addr
  fd : FuncData
  ok : FnOk P w K mg base CX0 k f fd ps sp
  ci : XCi K C f
  b : Binds K fd ps []
section
variable {X : Cx} {k j : Nat} {x : Str} {ps : List Str} {sp : Sp} {p np pos cpos : Pos} {e : Expr} {es : List Expr} {t : TA} {hd : Option Value} {C : Addr} {E : L2.St → XK}
end
theorem sUpd {H H' : Hp} {p : Addr} (g : Same H H') (h : H p = none) (o : HO) : Same H (upd H' p o) := fun b u q => by
  rw [upd_ne (ne_of_none q h)]
  exact g b u q
def CompAt (X : Cx) (scope : Scope) (ys : List Str) (js : List Nat) : Prop := ∀ (i : Nat) (y : Str), ys[i]? = some y → ∃ j : Nat, js[i]? = some j ∧ X.N[j]? = some y ∧ (X.env.scope.names.lookup y = some .cell ∨ X.env.scope.names.lookup y = some .free) ∧ ((relabel scope X.env).names.lookup y = some .cell ∨ (relabel scope X.env).names.lookup y = some .free)
theorem atn {X : Cx} {scope : Scope} : CompAt X scope [] [] := fun i y h => by simp at h
theorem atc {X : Cx} {scope : Scope} {ys : List Str} {js : List Nat} {y : Str} {j : Nat} (t : CompAt X scope ys js) (h1 : X.N[j]? = some y := by rfl) (h2 : X.env.scope.names.lookup y = some .cell ∨ X.env.scope.names.lookup y = some .free := by first | exact Or.inl rfl | exact Or.inr rfl)
    (h3 : (relabel scope X.env).names.lookup y = some .cell ∨ (relabel scope X.env).names.lookup y = some .free := by first | exact Or.inl rfl | exact Or.inr rfl) : CompAt X scope (y :: ys) (j :: js) := fun i z h => by
  cases i with
  | zero =>
    cases h
    exact ⟨j, rfl, h1, h2, h3⟩
  | succ i => exact t i z h
/-- the names that a comprehension takes from around -/
inductive Subs (X : Cx) : List (Str × Addr) → Prop where
  | nil : Subs X []
  | cons {y : Str} {c : Addr} {cl : List (Str × Addr)} (h : X.env.cells.lookup y = some c) (t : Subs X cl) : Subs X ((y, c) :: cl)
theorem Subs.all {X : Cx} {cl : List (Str × Addr)} (h : Subs X cl) : ∀ p ∈ cl, X.env.cells.lookup p.1 = some p.2 := by
  induction h with
  | nil => intro p hp; simp at hp
  | cons h _ ih =>
    intro p hp
    rcases List.mem_cons.mp hp with e | e
    · rw [e]; exact h
    · exact ih p e
theorem cok {X : Cx} {scope : Scope} {cl : List (Str × Addr)} {own : Str} {ys : List Str} {js : List Nat} (a : CompAt X scope ys js) (s : Subs X cl) (nd : (own :: ys).Nodup) (len : js.length = ys.length) (clos : closureFor scope X.env = pure cl) (nocell : (scope.names.all fun p => !(p.2 == .cell)) = true) (kind : scope.kind = .function)
    (loc : (scope.names.all fun p => !(p.2 == .local) || scope.names.lookup p.1 == some .local) = true) (ownL : scope.names.lookup own = some .local) (has : ((relabel scope X.env).names.all fun p => !(p.2 == .cell || p.2 == .free) || (cl.lookup p.1).isSome) = true) (noown : cl.lookup own = none) : CompOk X scope cl own ys js :=
  ⟨clos, nocell, kind, loc, ownL, s.all, has, noown, nd, a, len⟩
/-! ### the sixteen refusals -/
def IsX (H : Hp) (a C : Addr) (dx : Option Addr) : Prop := (∃ n, H a = some (excB n a (.ref C) dx)) ∧ XDict H dx
theorem IsX.same {H H' : Hp} {a C : Addr} {dx : Option Addr} (h : IsX H a C dx) (g : Same H H') : IsX H' a C dx := by
  obtain ⟨⟨n, e⟩, d⟩ := h
  refine ⟨⟨n, g _ _ e⟩, ?_⟩
  cases dx with
  | none => trivial
  | some d' =>
    obtain ⟨fs, q⟩ := d
    exact ⟨fs, g _ _ q⟩
def kitAll (K : PySem.W.Frag) (cs : List Addr) (S : Addr) : Bool :=
  (List.range cs.length).all fun i => (List.range cs.length).all (fun j => PySem.W.kitOne K (.ref (cs.getD i 0)) (.ref (cs.getD j 0)) == some (i == j)) && PySem.W.kitOne K (.ref (cs.getD i 0)) (.ref S) == some true && PySem.W.kitOne K (.ref (cs.getD i 0)) (.type "ValueError") == some true
section
variable {K : PySem.W.Frag} {cs : List Addr} {S C D : Addr} {i j : Nat}
end
def spInit (C : Addr) (f : Str) : Sp := fun vs H Q _ => ∃ a y n, vs = [.ref a, y] ∧ H a = some (excB n a (.ref C) none) ∧ ∀ d, H d = none → Q .non (L2.upd (L2.upd H d (.xd [(f, y)])) a (excB n a (.ref C) (some d)))
def spText : Sp := fun vs H Q _ => ∃ c k : Int, vs = [.int c, .int k] ∧ 0 ≤ k ∧ k < 64 ∧ ∀ t, Q (.str t) H
def spKinds (K : PySem.W.Frag) (cs : List Addr) : Sp := fun vs H Q _ => ∃ a C dx i, vs = [.ref a] ∧ IsX H a C dx ∧ cs[i]? = some C ∧ ∀ l H', Same H H' → H' l = some (.lst ((List.range 16).map fun j => V.bl (i == j))) → Q (.ref l) H'
def spAlone (K : PySem.W.Frag) (cs : List Addr) (hd : Option Value) : Sp := fun vs H Q _ => ∃ (a C : Addr) (dx : Option Addr) (i : Nat), vs = [.ref a, .int i] ∧ IsX H a C dx ∧ cs[i]? = some C ∧ HdOk hd H ∧ ∀ H', Same H H' → Q (.bl true) H'
def spBare (cs : List Addr) : Sp := fun vs H Q _ => ∃ t, vs = [.str t] ∧ ∀ (l : Addr) (as : List Addr) (H' : Hp), Same H H' → as.length = 8 → (∀ (i : Nat) (a : Addr), as[i]? = some a → ∃ C, cs[i]? = some C ∧ IsX H' a C none) → H' l = some (.lst (as.map V.ref)) → Q (.ref l) H'
def spRaised : Sp := fun vs H Q _ => ∃ (k n : Int) (t : Str), vs = [.int k, .str t, .int n] ∧ 0 ≤ k ∧ k < 4 ∧ ∀ H', Same H H' → Q (.bl true) H'
end Sw
set_option Elab.async false
set_option linter.all false
set_option maxRecDepth 100000
namespace L2
open PySem PySem.Spec PyProof.Rows XH
/-! ### a text, walked sign by sign -/
def Its (x : Str) : It := ⟨fun i _ => i < x.cps.size, fun i H v H' => H' = H ∧ ∃ c, x.cps[i]? = some c ∧ v = .str ⟨#[c]⟩, fun i _ => i = x.cps.size⟩
def iStr (tl : TE) : TI := fun σ H R => tl σ H fun x H1 => ∃ z, x = .str z ∧ R (Its z) H1
section
variable {X : Cx} {tg : Expr}
end
/-! ### x[lo:hi] of a text -/
def cutS (x : Str) (lo hi : Option Int) : Str := ⟨((x.cps.toList.drop (HT.sIx x.length 0 lo)).take (HT.sIx x.length x.length hi - HT.sIx x.length 0 lo)).toArray⟩
theorem sIdx (lo hi : Option Int) (n : Nat) : Builtin.Str.strSliceIndices lo hi 1 n = (List.range (HT.sIx n n hi - HT.sIx n 0 lo)).map (HT.sIx n 0 lo + ·) := by
  have h1 : (match lo with | none => (0 : Int) | some i => max 0 (min (if i < 0 then i + (n : Int) else i) n)) = ((HT.sIx n 0 lo : Nat) : Int) := by
    cases lo with
    | none => simp [HT.sIx]
    | some i =>
      simp only [HT.sIx]
      by_cases h : i < 0
      · simp only [h, if_true] <;> omega
      · simp only [h, if_false] <;> omega
  have h2 : (match hi with | none => (n : Int) | some i => max 0 (min (if i < 0 then i + (n : Int) else i) n)) = ((HT.sIx n n hi : Nat) : Int) := by
    cases hi with
    | none => simp [HT.sIx]
    | some i =>
      simp only [HT.sIx]
      by_cases h : i < 0
      · simp only [h, if_true] <;> omega
      · simp only [h, if_false] <;> omega
  rw [← sliceRange_one, ← h1, ← h2]
  cases lo <;> cases hi <;> rfl
theorem cutS_picked (x : Str) (l u : Option (Int × Tok)) : (⟨((slicePicked x l u none).filterMap (x.cps[·]?)).toArray⟩ : Str) = cutS x (l.map (·.1)) (u.map (·.1)) := by
  show (⟨((Builtin.Str.strSliceIndices (l.map (·.1)) (u.map (·.1)) 1 x.length).filterMap (x.cps[·]?)).toArray⟩ : Str) = _
  rw [sIdx, pick_run]
  rfl
theorem cutS_length (x : Str) (lo hi : Option Int) : (cutS x lo hi).length ≤ x.length := by
  show ((x.cps.toList.drop _).take _).toArray.size ≤ x.cps.size
  rw [List.size_toArray, List.length_take, List.length_drop]
  simp only [Array.length_toList]
  omega
theorem cutS_whole (x : Str) (l u : Option (Int × Tok)) (h : (slicePicked x l u none).length = x.length) : cutS x (l.map (·.1)) (u.map (·.1)) = x := by
  have h' : (Builtin.Str.strSliceIndices (l.map (·.1)) (u.map (·.1)) 1 x.length).length = x.length := h
  rw [sIdx, List.length_map, List.length_range] at h'
  have hs : HT.sIx x.length x.length (u.map (·.1)) ≤ x.length ∨ x.length < HT.sIx x.length x.length (u.map (·.1)) := by omega
  have hu : HT.sIx x.length x.length (u.map (·.1)) ≤ x.length := by
    cases u with
    | none => exact Nat.le_refl _
    | some p =>
      show (if p.1 < 0 then (p.1 + (x.length : Int)).toNat else min p.1.toNat x.length) ≤ x.length
      by_cases hp : p.1 < 0
      · rw [if_pos hp]; omega
      · rw [if_neg hp]; omega
  unfold cutS
  by_cases hx : x.length = 0
  · have e : x.cps.toList = [] := by
      have : x.cps.toList.length = 0 := by rw [Array.length_toList]; exact hx
      exact List.eq_nil_of_length_eq_zero this
    rw [e, List.drop_nil, List.take_nil]
    obtain ⟨c⟩ := x
    have e' : c = #[] := Array.toList_inj.mp (by simpa using e)
    rw [e']
  · have h0 : HT.sIx x.length 0 (l.map (·.1)) = 0 := by omega
    rw [h0, List.drop_zero, List.take_of_length_le (by rw [Array.length_toList]; show x.length ≤ _; omega)]
theorem part_of {v : Value} {o : Option Int} (p : IsPart v o) : ∃ l : Option (Int × Tok), partValue l = v ∧ l.map (·.1) = o := by
  cases p with
  | none => exact ⟨none, rfl, rfl⟩
  | int i t => exact ⟨some (i, t), rfl, rfl⟩
theorem sl_str {X : Cx} : SlR X (fun x lo hi H Q => ∃ z, x = .str z ∧ z.length ≤ sizeLine ∧ Q (.str (cutS z lo hi)) H) := by
  intro pins s σ H x v vl vu lo hi sl Q I rx hs pl pu h
  obtain ⟨z, rfl, hz, q⟩ := h
  obtain ⟨t, rfl⟩ := rx
  obtain ⟨l, rfl, rfl⟩ := part_of pl
  obtain ⟨u, rfl, rfl⟩ := part_of pu
  refine ⟨"str", _, slot_str_getitem.lookup, typeIs_str s z t, ?_⟩
  refine wpAny_getItem_str_slice (l := l) (u := u) (st := none) hs rfl ?_
  unfold sliceMade
  by_cases hw : (slicePicked z l u none).length = z.length
  · rw [if_pos (by simp [hw])]
    refine ⟨.str (cutS z (l.map (·.1)) (u.map (·.1))), H, I, ⟨t, by rw [cutS_whole z l u hw]⟩, q⟩
  · rw [if_neg (by simp [hw])]
    rw [cutS_picked]
    exact ⟨Nat.le_trans (cutS_length _ _ _) hz, .str (cutS z (l.map (·.1)) (u.map (·.1))), H, I.tok _, ⟨_, rfl⟩, q⟩
/-! ### methods of texts -/
open Builtin.Str in
def partV (z y : Str) : List V := match occurrences z y 0 z.length 1 with
  | i :: _ => [.str (strSub z 0 i), .str y, .str (strSub z (i + y.length) z.length)]
  | [] => [.str z, .str Str.empty, .str Str.empty]
end L2
set_option Elab.async false
set_option linter.all false
set_option maxRecDepth 100000
namespace Sw
open PySem PySem.NumText
/-! ### the figures of a number -/
def dg (n : Nat) : List Nat := (Nat.toDigits 10 n).map Char.toNat
/-! ### a number of a text -/
def Fig (l : List Nat) : Prop := 1 ≤ l.length ∧ l.length ≤ 30 ∧ (l.head? ≠ some 48 ∨ l = [48]) ∧ AllDigits l
open Classical in
noncomputable def fig? (l : List Nat) : Option Nat := if Fig l then some (digitsVal l) else none
/-! ### a text cut at a sign -/
def cut1 (c : Nat) (l : List Nat) : List Nat × List Nat := (l.takeWhile (· != c), (l.dropWhile (· != c)).tail)
theorem cut_app {c : Nat} {a b : List Nat} (h : c ∉ a) : cut1 c (a ++ c :: b) = (a, b) := by
  unfold cut1
  have p : ∀ x ∈ a, (x != c) = true := fun x hx => by
    rw [bne_iff_ne]
    exact fun z => h (z ▸ hx)
  rw [List.takeWhile_append_of_pos p, List.dropWhile_append_of_pos p]
  simp
/-! ### what is read -/
noncomputable def pair? (a b : List Nat) : Option (Nat × Nat) := match fig? a, fig? b with
  | some n, some m => if m = 0 then none else some (n, m)
  | _, _ => none
noncomputable def term? (l : List Nat) : Option (Nat × Nat) := if 47 ∈ l then pair? (cut1 47 l).1 (cut1 47 l).2 else pair? l [49]
noncomputable def sum? (x y : Option (Nat × Nat)) : Option (Nat × Nat) := match x, y with
  | some (n, m), some (n', m') => some (n * m' + n' * m, m * m')
  | _, _ => none
noncomputable def loose? (l : List Nat) : Option (Nat × Nat) := if 43 ∈ l then sum? (term? (cut1 43 l).1) (term? (cut1 43 l).2) else term? l
def amtL (p q : Nat) : List Nat := if p % q = 0 then dg (p / q) else if p / q = 0 then dg (p % q) ++ 47 :: dg q else dg (p / q) ++ 43 :: (dg (p % q) ++ 47 :: dg q)
structure Reads (l : List Nat) (p q : Nat) : Prop where
  pos : 0 < q
  low : Nat.gcd p q = 1
  ex : ∃ n m, loose? l = some (n, m) ∧ p * m = n * q
  wr : amtL p q = l
noncomputable def tb? (a : Nat) (r : List Nat) : Option (Nat × Nat) := match fig? (cut1 47 r).1, fig? (cut1 47 r).2 with
  | some t, some b => if t = 0 ∨ b ≤ t ∨ Nat.gcd b t ≠ 1 then none else some (a * b + t, b)
  | _, _ => none
noncomputable def due? (l : List Nat) : Option (Nat × Nat) := if 43 ∈ l then
    (match fig? (cut1 43 l).1 with
     | some a => if a = 0 then none else if 47 ∈ (cut1 43 l).2 then tb? a (cut1 43 l).2 else none
     | none => none)
  else if 47 ∈ l then tb? 0 l else (fig? l).map fun n => (n, 1)
end Sw
set_option Elab.async false
set_option linter.all false
set_option maxRecDepth 100000
namespace L2
open PySem PySem.Spec PyProof.Rows XH
section
variable {X : Cx} {a b e o : Expr} {es : List Expr} {t te to : TE} {ta : TA} {pos apos cpos : Pos} {x y : Str}
/-! ### a text with numbers and texts put in -/
def tFmt (t : TE) : TE := fun σ H Q => t σ H fun x H1 => (∃ i, x = .int i ∧ i.natAbs.log2 < 1920 ∧ Q (.str (toString i)) H1) ∨ ∃ z, x = .str z ∧ z.length ≤ sizeLine ∧ Q (.str z) H1
def PJ (X : Cx) (es : List Expr) (t : Str → TE) : Prop := ∀ (out : Str) (pins : List (Addr × Obj)) (s : Shared) (σ : St) (H : Hp) (Q : VK), Inv X pins σ H s → t out σ H Q →
  wpAny (model X.prog X.w) X.A (joinParts out (evalEach es X.env)) (EP X pins σ Q) X.xe s
def jNil : Str → TE := fun out σ H Q => out.length ≤ sizeLine ∧ Q (.str out) H
def jCons (te : TE) (tr : Str → TE) : Str → TE := fun out σ H Q => te σ H fun x H1 => ∃ y, x = .str y ∧ (out ++ y).length ≤ sizeLine ∧ tr (out ++ y) σ H1 Q
def tJoin (t : Str → TE) : TE := t Str.empty
/-! ### int(text), max(list), values of the file's top -/
/-! ### tuples of numbers that are alike -/
/-! ### a list walked in a comprehension -/
/-! ### split -/
/-! ### replace: the two texts must be made behind something else -/
def PE1 (X : Cx) (e : Expr) (t : TE) : Prop :=
  ∀ (pins : List (Addr × Obj)) (s : Shared) (σ : St) (H : Hp) (Q : VK), Inv X pins σ H s → t σ H Q → wpAny (model X.prog X.w) X.A (eval e X.env) (fun u s' => 1 ≤ s'.toks ∧ EP X pins σ Q u s') X.xe s
def PS1 (X : Cx) (st : Stmt) (t : TS) : Prop :=
  ∀ (pins : List (Addr × Obj)) (s : Shared) (σ : St) (H : Hp) (D : Ends), Inv X pins σ H s → t D σ H → wpAny (model X.prog X.w) X.A (exec st X.env) (fun f s' => 1 ≤ s'.toks ∧ SP X pins D f s') X.xe s
def PEt (X : Cx) (e : Expr) (t : TE) : Prop :=
  ∀ (pins : List (Addr × Obj)) (s : Shared) (σ : St) (H : Hp) (Q : VK), 1 ≤ s.toks → Inv X pins σ H s → t σ H Q → wpAny (model X.prog X.w) X.A (eval e X.env) (EP X pins σ Q) X.xe s
def PSt (X : Cx) (st : Stmt) (t : TS) : Prop :=
  ∀ (pins : List (Addr × Obj)) (s : Shared) (σ : St) (H : Hp) (D : Ends), 1 ≤ s.toks → Inv X pins σ H s → t D σ H → wpAny (model X.prog X.w) X.A (exec st X.env) (SP X pins D) X.xe s
def PSst (X : Cx) (st : List Stmt) (t : TS) : Prop :=
  ∀ (pins : List (Addr × Obj)) (s : Shared) (σ : St) (H : Hp) (D : Ends), 1 ≤ s.toks → Inv X pins σ H s → t D σ H → wpAny (model X.prog X.w) X.A (execs st X.env) (SP X pins D) X.xe s
def tRepl (y z : Str) (to : TE) : TE := fun σ H Q => to σ H fun x H1 => ∃ w : Str, x = .str w ∧ w.length + (w.length + 1) * z.length ≤ 16777216 ∧ Q (.str (Txt.replace w y z)) H1
end
end L2
set_option Elab.async false
set_option linter.all false
set_option maxRecDepth 100000
namespace Sw
open PySem L2 XH PySem.NumText
/-! ### texts and their signs -/
def sL (z : Str) : List Nat := z.cps.toList
def mkS (l : List Nat) : Str := ⟨l.toArray⟩
theorem sL_mk (l : List Nat) : sL (mkS l) = l := by simp [sL, mkS]
theorem mk_sL (z : Str) : mkS (sL z) = z := by simp [sL, mkS]
theorem sL_inj {x y : Str} (h : sL x = sL y) : x = y := by rw [← mk_sL x, ← mk_sL y, h]
theorem sL_len (z : Str) : (sL z).length = z.length := by simp [sL, Str.length]
theorem mk_len (l : List Nat) : (mkS l).length = l.length := by rw [← sL_len, sL_mk]
theorem sL_app (x y : Str) : sL (x ++ y) = sL x ++ sL y := by
  show (x.cps ++ y.cps).toList = _
  rw [Array.toList_append]
  rfl
theorem mk_app (a b : List Nat) : mkS a ++ mkS b = mkS (a ++ b) := sL_inj (by rw [sL_app, sL_mk, sL_mk, sL_mk])
theorem empty_mk : Str.empty = mkS [] := rfl
theorem one_mk (c : Nat) : (⟨#[c]⟩ : Str) = mkS [c] := rfl
/-! ### a text split at a sign -/
theorem join_cons2 (s x y : Str) (r : List Str) : Str.join s (x :: y :: r) = x ++ s ++ Str.join s (y :: r) := rfl
theorem join_inj (c : Nat) : ∀ (xs ys : List Str), xs ≠ [] → ys ≠ [] → (∀ x ∈ xs, c ∉ sL x) → (∀ y ∈ ys, c ∉ sL y) → Str.join (mkS [c]) xs = Str.join (mkS [c]) ys → xs = ys
  | [], _, h, _, _, _, _ => absurd rfl h
  | _, [], _, h, _, _, _ => absurd rfl h
  | [x], [y], _, _, _, _, e => by
    have e' : x = y := e
    rw [e']
  | [x], y :: z :: r, _, _, hx, _, e => by
    exfalso
    have e' : x = y ++ mkS [c] ++ Str.join (mkS [c]) (z :: r) := e
    refine hx x (by simp) ?_
    rw [e', sL_app, sL_app, sL_mk]
    simp
  | x :: z :: r, [y], _, _, _, hy, e => by
    exfalso
    have e' : x ++ mkS [c] ++ Str.join (mkS [c]) (z :: r) = y := e
    refine hy y (by simp) ?_
    rw [← e', sL_app, sL_app, sL_mk]
    simp
  | x :: x' :: r, y :: y' :: r', _, _, hx, hy, e => by
    rw [join_cons2, join_cons2] at e
    have e1 := congrArg sL e
    rw [sL_app, sL_app, sL_app, sL_app, sL_mk, List.append_assoc, List.append_assoc] at e1
    have e2 := congrArg (cut1 c) e1
    simp only [List.cons_append, List.nil_append] at e2
    rw [cut_app (hx x (by simp)), cut_app (hy y (by simp))] at e2
    injection e2 with e3 e4
    have ih := join_inj c (x' :: r) (y' :: r') (by simp) (by simp) (fun z hz => hx z (by simp at hz ⊢; exact .inr hz)) (fun z hz => hy z (by simp at hz ⊢; exact .inr hz)) (sL_inj e4)
    rw [sL_inj e3, ih]
theorem split_ne (x : Str) (c : Nat) : Txt.split x (mkS [c]) ≠ [] := by
  unfold Txt.split
  split
  · simp
  · split
    · simp
    · rw [StrLaws.partsBetween_eq]
      obtain ⟨p, r, e⟩ := StrLaws.partsFrom_ne x (mkS [c]).length 0 (Builtin.Str.occurrences x (mkS [c]) 0 x.length (x.length + 1))
      rw [e]
      simp
theorem split_of {c : Nat} {ws : List Str} (ne : ws ≠ []) (free : ∀ w ∈ ws, c ∉ sL w) : Txt.split (Str.join (mkS [c]) ws) (mkS [c]) = ws :=
  join_inj c _ _ (split_ne _ c) ne (StrLaws.split_free _ c) free (StrLaws.join_split _ _)
/-! ### promises -/
def figT : Str := "0123456789"
def spFigs : Sp := fun vs H Q _ => ∃ z : Str, vs = [.str z] ∧ z.length ≤ 1000000 ∧ (fig? (sL z) = none → Q .non H) ∧ ∀ n : Nat, fig? (sL z) = some n → Q (.int n) H
def spTerm : Sp := fun vs H Q _ => ∃ z : Str, vs = [.str z] ∧ z.length ≤ 900000 ∧ (term? (sL z) = none → ∀ H', Same H H' → Q .non H') ∧ ∀ (n m : Nat) (p q : Int), term? (sL z) = some (n, m) → m ≠ 0 → n < 10 ^ 30 → m < 10 ^ 30 → Fr p q n m → Pair H Q p q
def spLoose : Sp := fun vs H Q _ => ∃ z : Str, vs = [.str z] ∧ z.length ≤ 800000 ∧ (loose? (sL z) = none → ∀ H', Same H H' → Q .non H') ∧
  ∀ (n m : Nat) (p q : Int), loose? (sL z) = some (n, m) → Low p q → p * m = n * q → m ≠ 0 → Bd 400 p → Bd 400 q → Pair H Q p q
def spAmt (K : PySem.W.Frag) : Sp := fun vs H Q _ => ∃ (t : Addr) (p q : Nat), vs = [.ref t] ∧ FrIn K 1900 H t p q ∧ Q (.str (mkS (amtL p q))) H
def spRead (c : Addr) : Sp := fun vs H Q E => ∃ z : Str, vs = [.str z] ∧ z.length ≤ 800000 ∧ (∀ p q : Nat, Reads (sL z) p q → Pair H Q p q) ∧ ((∀ p q, ¬ Reads (sL z) p q) → ∀ H', Same H H' → E (.ref c) none H')
def spReadC : Sp := fun vs H Q _ => ∃ z : Str, vs = [.str z] ∧ z.length ≤ 800000 ∧ ∃ p q : Nat, Reads (sL z) p q ∧ Pair H Q p q
end Sw
namespace Sw
open PySem L2 XH PySem.NumText
end Sw
namespace Sw
open PySem L2 XH PySem.NumText
structure Am (p q : Nat) (ns : List Nat) : Prop where
  pos : 0 < q
  low : Nat.gcd p q = 1
  bp : p < 2 ^ 1900
  bq : q < 2 ^ 1900
  ne : ns ≠ []
  spl : Txt.split (Txt.replace (mkS (amtL p q)) (mkS [43]) (mkS [47])) (mkS [47]) = ns.map fun n => mkS (dg n)
  len : (amtL p q).length ≤ 2000
  rl : (Txt.replace (mkS (amtL p q)) (mkS [43]) (mkS [47])).length ≤ 2000
  few : ns.length ≤ 3
  bd : ∀ n ∈ ns, n < 2 ^ 1900
  ok : (∀ n ∈ ns, (dg n).length ≤ 30) → Reads (amtL p q) p q
  no : ∀ n ∈ ns, 30 < (dg n).length → ∀ p' q', ¬ Reads (amtL p q) p' q'
def lenV : V → V
  | .str z => .int z.length
  | v => v
def spGcd : Sp := fun vs H Q _ => ∃ a b : Int, vs = [.int a, .int b] ∧ 0 ≤ a ∧ 0 ≤ b ∧ Q (.int (gcdI a b)) H
def spNumb : Sp := fun vs H Q _ => ∃ (c sm : Int) (far : Bool), vs = [.int c, .int sm, .bl far] ∧ 0 < sm ∧ sm < 100 ∧ ∀ v : Nat, v < 10 ^ 119 → Q (.int v) H
def spRefA : Sp := fun vs H Q _ => ∃ z : Str, vs = [.str z] ∧ z.length ≤ 800000 ∧ (∀ p q, ¬ Reads (sL z) p q) ∧ ∀ H', Q (.bl true) H'
end Sw
namespace Sw
open PySem L2 XH PySem.NumText
def spIsNum : Sp := fun vs H Q _ => ∃ z : Str, vs = [.str z] ∧ z.length ≤ 1000000 ∧ (Fig (sL z) → Q (.bl true) H) ∧ (¬ Fig (sL z) → Q (.bl false) H)
def spDue : Sp := fun vs H Q _ => ∃ z : Str, vs = [.str z] ∧ z.length ≤ 1000 ∧ (due? (sL z) = none → ∀ H', Same H H' → Q .non H') ∧ ∀ p q : Nat, due? (sL z) = some (p, q) → Pair H Q p q
def spShort : Sp := fun vs H Q _ => ∃ c m : Int, vs = [.int c, .int m] ∧ ∀ z : Str, z.length ≤ 40 → ∀ H', Same H H' → Q (.str z) H'
def spSpoilt : Sp := fun vs H Q _ => ∃ (z : Str) (w c : Int), vs = [.str z, .int w, .int c] ∧ z.length ≤ 200 ∧ ∀ z' : Str, z'.length ≤ 402 → Q (.str z') H
def spReadG (K : PySem.W.Frag) (c : Addr) : Sp := fun vs H Q E => ∃ (x : V) (ty : Value) (b : Bool), vs = [x] ∧ TyOf K H x ty ∧ PySem.W.kitOne K ty (.type "str") = some b ∧
  (b = true → ∃ z : Str, x = .str z ∧ z.length ≤ 800000 ∧ (∀ p q : Nat, Reads (sL z) p q → Pair H Q p q) ∧ ((∀ p q, ¬ Reads (sL z) p q) → ∀ H', Same H H' → E (.ref c) none H')) ∧
  (b = false → ∀ H', Same H H' → E (.ref c) none H')
def spRefB (K : PySem.W.Frag) : Sp := fun vs H Q _ => ∃ (x : V) (ty : Value) (b : Bool), vs = [x] ∧ TyOf K H x ty ∧ PySem.W.kitOne K ty (.type "str") = some b ∧
  (b = true → ∃ z : Str, x = .str z ∧ z.length ≤ 800000 ∧ ∀ p q, ¬ Reads (sL z) p q) ∧ ∀ H', Q (.bl true) H'
end Sw
namespace Sw
open PySem L2 XH PySem.NumText
theorem atI_in {xs : List V} {i : Int} (h0 : 0 ≤ i) (h : i < (xs.length : Int)) : ∃ v ∈ xs, atI xs i = some v := by
  have hk : i.toNat < xs.length := by omega
  have ek : i = ((i.toNat : Nat) : Int) := by omega
  refine ⟨xs[i.toNat], List.getElem_mem hk, ?_⟩
  have q : atI xs ((i.toNat : Nat) : Int) = some xs[i.toNat] := atI_nat (List.getElem?_eq_getElem hk)
  rw [← ek] at q
  exact q
theorem atI_inN {xs : List Nat} {i : Int} (h0 : 0 ≤ i) (h : i < (xs.length : Int)) : ∃ v, atI xs i = some v := by
  have hk : i.toNat < xs.length := by omega
  have ek : i = ((i.toNat : Nat) : Int) := by omega
  refine ⟨xs[i.toNat], ?_⟩
  have q : atI xs ((i.toNat : Nat) : Int) = some xs[i.toNat] := atI_nat (List.getElem?_eq_getElem hk)
  rw [← ek] at q
  exact q
end Sw
namespace Sw
open PySem L2 XH PySem.NumText
end Sw
set_option Elab.async false
set_option linter.all false
set_option maxRecDepth 100000
namespace L2
open PySem PySem.Spec PyProof.Rows XH
/-! ### a dict, walked key by key; while it is walked it is known to the object -/
def Itd (a : Addr) (o : Obj) (kvs : List (Key × V)) : It :=
  ⟨fun i H => H a = some (.frz o (.dK kvs)) ∧ i < kvs.length, fun i H v H' => H' = H ∧ ∃ k x, kvs[i]? = some (k, x) ∧ v = kV k, fun i H => H a = some (.frz o (.dK kvs)) ∧ i = kvs.length⟩
/-- nothing of the kind was known there at the entry -/
def NF (X : Cx) (a : Addr) : Prop := ∀ o u, X.H₀ a ≠ some (.frz o u)
theorem Inv.nf {X : Cx} {pins : List (Addr × Obj)} {σ : St} {H : Hp} {s : Shared} {a : Addr} {kvs : List (Key × V)} (I : Inv X pins σ H s) (h : H a = some (.dK kvs)) : NF X a := fun o u e => by
  have := I.base.frzs a o u e
  rw [h] at this
  cases this
def iDict (X : Cx) (tl : TE) : TI := fun σ H R => tl σ H fun x H1 => ∃ a kvs, x = .ref a ∧ H1 a = some (.dK kvs) ∧ ∀ o, NF X a → R (Itd a o kvs) (upd H1 a (.frz o (.dK kvs)))
section
variable {X : Cx} {tg : Expr}
end
def unf (X : Cx) (P : Hp → Prop) (H : Hp) : Prop := ∃ a o kvs, H a = some (.frz o (.dK kvs)) ∧ NF X a ∧ P (upd H a (.dK kvs))
def unfD (X : Cx) (D : Ends) : Ends := { nx := fun σ => unf X (D.nx σ), bk := fun σ => unf X (D.bk σ), ct := fun σ => unf X (D.ct σ), rt := fun v => unf X (D.rt v) }
end L2
set_option Elab.async false
set_option linter.all false
set_option maxRecDepth 100000
namespace L2
open PySem PySem.Spec PyProof.Rows XH
/-! ### list comprehensions with one test -/
def compIR (js : List Nat) (tc : TT) (te : TE) (σ : St) (Q : VK) : It → Hp → Prop := fun J H1 => ∀ p, H1 p = none → ∃ W : Nat → Nat → List V → Hp → Prop, (∃ m, W 0 m [] (upd H1 p (.lst []))) ∧
  ∀ i m ys H2, W i m ys H2 → H2 p = some (.lst ys) ∧ ((J.stop i H2 ∧ Q (.ref p) H2) ∨ (J.go i H2 ∧ ys.length < sizeLine ∧ ∀ x H3, J.yld i H2 x H3 → tc (some x :: freesOf js σ) H3 fun b H4 =>
    if b = true then te (some x :: freesOf js σ) H4 fun y H5 => H5 p = some (.lst ys) ∧ ∃ m', m' < m ∧ W (i + 1) m' (ys ++ [y]) (upd H5 p (.lst (ys ++ [y]))) else ∃ m', m' < m ∧ W (i + 1) m' ys H4))
def tCompIf (wi : TI) (js : List Nat) (tc : TT) (te : TE) : TE := fun σ H Q => wi σ H (compIR js tc te σ Q)
section
variable {prog : Program} {w : World} {A : Around} {R : Result → Shared → Prop} {s : Shared}
theorem compLoop_if {elt target iter cond : Expr} {scope : Scope} {pos : Pos} {it acc : Value} {env : Env} (I : Nat → Shared → Prop)
    (turn : ∀ n s, I n s → wpAny (model prog w) A (pyNext it) (fun r s1 => match r with
      | none => R (.ok .next) s1
      | some v => wpAny (model prog w) A (letOwnedTupleGo target it v) (fun _ s2 => wpAny (model prog w) A (assign target env v) (fun _ s3 => wpAny (model prog w) A (isTrue cond env (eval cond env)) (fun ok s4 =>
          if ok = true then wpAny (model prog w) A (eval elt env) (fun x s5 => wpAny (model prog w) A (call (.builtin "list.append") [acc, x]) (fun _ s6 => ∃ m, m < n ∧ I m s6) (fun _ _ => False) s5) (fun _ _ => False) s4
          else ∃ m, m < n ∧ I m s4) (fun _ _ => False) s3) (fun _ _ => False) s2) (fun _ _ => False) s1) (fun _ _ => False) s)
    (n : Nat) (h : I n s) : codeAny (model prog w) A (.compLoop (.ListComp elt [⟨target, iter, [cond], 0⟩] scope pos) 0 it acc env) R s := by
  apply codeAny_loop rfl I ?_ n h
  intro n s hI
  show wpAny _ _ ((compTurn (.ListComp elt [⟨target, iter, [cond], 0⟩] scope pos) 0 it acc env).onRaise _) _ _ s
  apply wpAny_noted
  rw [compTurn_list]
  apply wpAny_bind
  apply wpAny_standAt
  apply wpAny_bind
  refine wpAny_mono (turn n s hI) (fun r s1 h1 => ?_) fun _ _ z => z.elim
  cases r with
  | none => exact wpAny_pure h1
  | some v =>
    apply wpAny_bind
    refine wpAny_mono h1 (fun _ s2 h2 => ?_) fun _ _ z => z.elim
    apply wpAny_bind
    refine wpAny_mono h2 (fun _ s3 h3 => ?_) fun _ _ z => z.elim
    apply wpAny_bind
    refine wpAny_mono (wpAny_tests_one h3) (fun ok s4 h4 => ?_) fun _ _ z => z.elim
    cases ok with
    | true =>
      apply wpAny_bind
      apply wpAny_bind
      refine wpAny_mono h4 (fun x s5 h5 => ?_) fun _ _ z => z.elim
      apply wpAny_bind
      refine wpAny_mono h5 (fun _ s6 h6 => ?_) fun _ _ z => z.elim
      exact wpAny_pure (wpAny_pure ⟨rfl, h6⟩)
    | false =>
      have h4' : ∃ m, m < n ∧ I m s4 := h4
      exact wpAny_pure ⟨rfl, h4'⟩
end
section
variable {X : Cx} {scope : Scope} {cl : List (Str × Addr)} {own : Str} {ys : List Str} {js : List Nat} {elt iter cond : Expr} {px pos : Pos} {wi : TI} {te : TE} {tc : TT}
theorem pe_compIf (hc : X.calm = true) (ok : CompOk X scope cl own ys js) (hi : PI X (.Name own px) iter wi)
    (hq : ∀ (C : Addr) (fp : List Addr) (s : Shared) (H : Hp), PT (X.block scope cl C (own :: ys) own fp s H) cond tc)
    (he : ∀ (C : Addr) (fp : List Addr) (s : Shared) (H : Hp), PE (X.block scope cl C (own :: ys) own fp s H) elt te)
    (hs : ∀ x, foldedSetIterable iter X.env x = pure x := by intro _; rfl) : PE X (.ListComp elt [⟨.Name own px, iter, [cond], 0⟩] scope pos) (tCompIf wi js tc te) := by
  intro pins s σ H Q I h
  rw [eval_ListComp]
  have ncell : ∀ y ∈ scope.names, y.2 ≠ .cell := fun y hy z => by
    have q := List.all_eq_true.mp ok.nocell y hy
    rw [z] at q
    simp at q
  have nloc : ∀ y ∈ scope.names, y.2 = .local → scope.names.lookup y.1 = some .local := fun y hy z => by
    have q := List.all_eq_true.mp ok.loc y hy
    rw [z] at q
    simpa using q
  refine wpAny_comprehension_free (use := none) rfl hs ok.clos ok.kind nloc (thn (hi pins s σ H _ I h) fun v s1 h1 => thn h1 fun itv s2 h2 => ?_)
  obtain ⟨it, fp, tn, J, H2, rfl, I2, T, st2, f2, q2⟩ := h2
  obtain ⟨W, ⟨m0, w0⟩, turn⟩ := q2 s2.heap.objs.size (I2.hok.fresh (Nat.le_refl _))
  refine wpAny_newObj_type (wpAny_newFunctionEnv ncell (by intro y hy; simp at hy) (fun h1 hns hsb => ?_) ok.kind)
  have I3 := I2.laid (a := s2.heap.objs.size) (o := .lst []) (h' := s2.heap.push { cls := .type "list", dict := none, data := .seq ([] : List Value).toArray }) (t' := s2.toks) (fun b u q => Heap.get?_push_of_some _ q) (Nat.le_refl _)
    ⟨Nat.zero_le _, [], 0, .nil, Heap.get?_push_size _ rfl⟩
  have fpo : ∀ b ∈ fp, b < s2.heap.objs.size := fun b hb => by
    obtain ⟨o, e, _⟩ := T.obj 0 _ st2 b hb
    exact Heap.lt_size e
  have f3 : ∀ b ∈ fp, FpOk X pins (upd H2 s2.heap.objs.size (.lst [])) b := fun b hb => ⟨by rw [upd_ne (Nat.ne_of_lt (fpo b hb))]; exact (f2 b hb).1, (f2 b hb).2⟩
  generalize hs3 : ({ s2 with heap := s2.heap.push { cls := .type "list", dict := none, data := .seq ([] : List Value).toArray }, toks := s2.toks } : Shared) = s3 at I3
  have e3 : s3.heap = s2.heap.push { cls := .type "list", dict := none, data := .seq ([] : List Value).toArray } := by rw [← hs3]
  have lt3 : ∀ b ∈ fp, b < s3.heap.objs.size := fun b hb => by rw [e3, Heap.size_push]; exact Nat.lt_succ_of_lt (fpo b hb)
  dsimp only at hns hsb ⊢
  rw [← e3] at hns hsb
  have hk : ∀ b o, s3.heap.get? b = some o → h1.get? b = some o := fun b o e => hsb.extBut b o (Nat.ne_of_lt (Heap.lt_size e)) (Heap.get?_push_of_some _ e)
  have J0 := block_start (h1 := h1) ok I3 f3 lt3 hns hk (s2.toks + 0)
  have t0 : tn 0 h1 := T.keep 0 _ _ st2 fun b hb o e => hk b o (by rw [e3]; exact Heap.get?_push_of_some _ e)
  have fpB : ∀ {H' : Hp}, (∀ b ∈ fp, H' b = none) → ∀ b ∈ fp, FpOk (X.block scope cl s3.heap.objs.size (own :: ys) own fp s3 (upd H2 s2.heap.objs.size (.lst []))) [] H' b := fun {H'} hn b hb =>
    ⟨hn b hb, Nat.ne_of_lt (lt3 b hb), fun z => (List.mem_cons.mp (I3.stkSub b z)).elim (f3 b hb).2.1 (f3 b hb).2.2.1, .inl hb, fun x c e => (f3 b hb).2.2.2.2.1 x c (ok.sub (x, c) (PySem.mem_of_lookup e)), fun p hp => absurd (show p ∈ ([] : List (Addr × Obj)) from hp) (by simp)⟩
  have loop : codeAny (model X.prog X.w) X.A (.compLoop (.ListComp elt [⟨.Name own px, iter, [cond], 0⟩] scope pos) 0 (.ref it) (.ref s2.heap.objs.size) (compEnvC scope cl s3.heap.objs.size X.env))
      (compPost (model X.prog X.w) X.A X.xe none (EP X pins σ Q) (.ref s2.heap.objs.size) s3.heap.objs.size) { s3 with heap := h1, toks := s2.toks + 0 } := by
    refine compLoop_if (fun n s' => ∃ i zs o0 H', Inv (X.block scope cl s3.heap.objs.size (own :: ys) own fp s3 (upd H2 s2.heap.objs.size (.lst []))) [] (o0 :: freesOf js σ) H' s' ∧ tn i s'.heap ∧ (∀ b ∈ fp, H' b = none) ∧ W i n zs H') ?_ m0
      ⟨0, [], none, _, J0, t0, fun b hb => (f3 b hb).1, w0⟩
    rintro n s5 ⟨i, zs, o0, H5, I5, t5, n5, w5⟩
    obtain ⟨hD, hw⟩ := turn i n zs H5 w5
    rcases hw with ⟨stop, qn⟩ | ⟨go, hz, step⟩
    · refine thn (T.done (X.block scope cl s3.heap.objs.size (own :: ys) own fp s3 (upd H2 s2.heap.objs.size (.lst []))) rfl rfl rfl hc i [] s5 _ H5 (fun _ _ => False) I5 (fpB n5) t5 stop) fun r s6 ⟨hr, I6⟩ => ?_
      subst hr
      obtain ⟨m, hn, _⟩ := id I6.loc
      exact ⟨m, hn, fun h' hs' => ⟨V.ref s2.heap.objs.size, H5, block_end I3 f3 I6 hs', rfl, qn⟩⟩
    · refine thn (T.item (X.block scope cl s3.heap.objs.size (own :: ys) own fp s3 (upd H2 s2.heap.objs.size (.lst []))) rfl rfl rfl hc i [] s5 _ H5 (fun _ _ => False) I5 (fpB n5) t5 go) fun r s6 ⟨u, hr, h6⟩ => ?_
      subst hr
      refine thn h6 fun _ s7 ⟨x, H7, I7, r7, y7, t7, n7⟩ => ?_
      have I7' := I7.pinned (fpB n7) (T.obj _ _ t7)
      have hst := step x H7 y7
      have own' : (relabel scope X.env).names.lookup own = some .local := lookup_relabel_local ok.ownL
      refine thn (pg_name (X := X.block scope cl s3.heap.objs.size (own :: ys) own fp s3 (upd H2 s2.heap.objs.size (.lst []))) (i := 0) (x := own) (pos := px) ok.nd rfl (.inl own') (.inr own') _ s7 _ H7 x u (fun σ' H' => σ' = some x :: freesOf js σ ∧ H' = H7) I7' r7 ⟨rfl, rfl⟩) fun _ s8 ⟨σ8, H8, I8, e8, eH8⟩ => ?_
      subst e8 eH8
      refine thn (hq _ _ _ _ _ s8 _ H8 _ I8 hst) fun ok s9 ⟨H9, I9, h9⟩ => ?_
      have frame : ∀ {s' : Shared} {H' : Hp}, Inv (X.block scope cl s3.heap.objs.size (own :: ys) own fp s3 (upd H2 s2.heap.objs.size (.lst []))) ([] ++ pinsAt fp s7.heap) (some x :: freesOf js σ) H' s' → tn (i + 1) s'.heap ∧ ∀ b ∈ fp, H' b = none := fun {s' H'} I' =>
        ⟨T.keep _ _ _ t7 fun b hb o e => (I'.pin (b, o) (List.mem_append_right _ (List.mem_append_right _ (mem_pinsAt hb e)))).1, fun b hb => by
          obtain ⟨o, e, d⟩ := T.obj _ _ t7 b hb
          exact (I'.pin (b, o) (List.mem_append_right _ (List.mem_append_right _ (mem_pinsAt hb e)))).2.1⟩
      cases ok with
      | true =>
        refine thn (he _ _ _ _ _ s9 _ H9 _ I9 h9) fun yv s10 ⟨y, H10, I10, r10, hD10, m', hm, w10⟩ => ?_
        refine thn (mt_append _ s10 _ H10 (.ref s2.heap.objs.size) [y] (.ref s2.heap.objs.size) [yv] (fun _ H' => H' = upd H10 s2.heap.objs.size (.lst (zs ++ [y]))) I10 rfl (.cons r10 .nil) ⟨_, zs, y, rfl, rfl, hD10, hz, rfl⟩) fun _ s11 ⟨_, H11, I11, _, e11⟩ => ?_
        subst e11
        exact ⟨m', hm, i + 1, zs ++ [y], some x, _, I11.unpinned, (frame I11).1, (frame I11).2, w10⟩
      | false =>
        obtain ⟨m', hm, w10⟩ := h9
        exact ⟨m', hm, i + 1, zs, some x, _, I9.unpinned, (frame I9).1, (frame I9).2, w10⟩
  subst hs3
  exact codeAny_compStart_list loop (T.self _ 0 _ _ _ t0 loop)
end
end L2
set_option Elab.async false
set_option linter.all false
set_option maxRecDepth 100000
namespace L2
open PySem PySem.Spec PyProof.Rows XH
section
variable {X : Cx} {scope : Scope} {cl : List (Str × Addr)} {own : Str} {ys : List Str} {js : List Nat} {elt iter cond : Expr} {px pos : Pos} {wi : TI} {te : TE} {tc : TT}
end
end L2
set_option Elab.async false
set_option linter.all false
set_option maxRecDepth 100000
namespace L2
open PySem PySem.Spec PyProof.Rows XH
end L2
namespace Sw
open PySem L2
/-! ### what parts lead to -/
/-- y can be come to from x by pairs -/
inductive Led (ps : List (Str × Str)) (x : Str) : Str → Prop where
  | self : Led ps x x
  | step {y z : Str} : Led ps x y → (y, z) ∈ ps → Led ps x z
/-! ### dicts with one value for all keys -/
def mapK (ks : List Str) (v : V) : List (Key × V) := ks.map fun y => (.inr y, v)
def addS (ks : List Str) (y : Str) : List Str := if y ∈ ks then ks else ks ++ [y]
/-! ### how many of a list are not yet there -/
def lack (l ks : List Str) : Nat := (l.filter fun y => !decide (y ∈ ks)).length
/-! ### a list of pairs -/
structure PL (H : Hp) (l : Addr) (ps : List (Str × Str)) : Prop where
  ex : ∃ as : List Addr, as.length = ps.length ∧ H l = some (.lst (as.map V.ref)) ∧ ∀ (i : Nat) (a : Addr) (p : Str × Str), as[i]? = some a → ps[i]? = some p → H a = some (.tup [.str p.1, .str p.2])
theorem PL.same {H H' : Hp} {l : Addr} {ps : List (Str × Str)} (h : PL H l ps) (g : Same H H') : PL H' l ps := by
  obtain ⟨as, h1, h2, h3⟩ := h.ex
  exact ⟨as, h1, g _ _ h2, fun i a p e1 e2 => g _ _ (h3 i a p e1 e2)⟩
def spLed : Sp := fun vs H Q _ => ∃ (l : Addr) (good : Str) (ps : List (Str × Str)), vs = [.ref l, .str good] ∧ PL H l ps ∧ ps.length ≤ 1000 ∧
  ∀ (d : Addr) (H' : Hp) (ks : List Str), Same H H' → H' d = some (.dK (mapK ks (.bl true))) → ks.Nodup → (∀ y, y ∈ ks ↔ Led ps good y) → Q (.ref d) H'
end Sw
namespace Sw
open PySem L2
def lettT : Str := "abcdefghijklmnopqrstuvwxyz"
theorem lett_at {i : Int} (h0 : 0 ≤ i) (h : i < 26) : ∃ c, atI lettT.cps.toList i = some c := by
  refine atI_inN h0 ?_
  have e : lettT.cps.toList.length = 26 := by decide
  rw [e]
  exact h
def spNames0 : Sp := fun vs H Q _ => ∃ n m : Int, vs = [.int n, .int m] ∧ 0 ≤ m ∧ m ≤ 90 ∧ ∀ (l : Addr) (H' : Hp) (zs : List Str), Same H H' → H' l = some (.lst (zs.map V.str)) → (zs.length : Int) = m → Q (.ref l) H'
end Sw
set_option Elab.async false
set_option linter.all false
set_option maxRecDepth 100000
namespace L2
open PySem PySem.Spec PyProof.Rows XH
abbrev Cx.blockT (X : Cx) (scope : Scope) (cl : List (Str × Addr)) (C : Addr) (N : List Str) (os : List Str) (fp : List Addr) (s : Shared) (H : Hp) : Cx :=
  { X with env := compEnvC scope cl C X.env, N := N, s₀ := s, H₀ := H, outer := X.stack, stack := X.stack, ex := fp, fn := fun y => os.contains y, pn := [], xe := fun _ _ => False }
/-- what a comprehension's scope must have; os: its own names -/
structure CompOkT (X : Cx) (scope : Scope) (cl : List (Str × Addr)) (os : List Str) (ys : List Str) (js : List Nat) : Prop where
  clos : closureFor scope X.env = pure cl
  nocell : (scope.names.all fun p => !(p.2 == .cell)) = true
  kind : scope.kind = .function
  loc : (scope.names.all fun p => !(p.2 == .local) || scope.names.lookup p.1 == some .local) = true
  sub : ∀ p ∈ cl, X.env.cells.lookup p.1 = some p.2
  has : ((relabel scope X.env).names.all fun p => !(p.2 == .cell || p.2 == .free) || (cl.lookup p.1).isSome) = true
  noown : ∀ x ∈ os, cl.lookup x = none
  at_ : Sw.CompAt X scope ys js
  len : js.length = ys.length
def compRT (n : Nat) (g : TG) (js : List Nat) (te : TE) (σ : St) (Q : VK) : It → Hp → Prop := fun J H1 => ∀ p, H1 p = none → ∃ W : Nat → Nat → List V → Hp → Prop, (∃ m, W 0 m [] (upd H1 p (.lst []))) ∧
  ∀ i m ys H2, W i m ys H2 → H2 p = some (.lst ys) ∧ ((J.stop i H2 ∧ Q (.ref p) H2) ∨ (J.go i H2 ∧ ys.length < sizeLine ∧ ∀ x H3, J.yld i H2 x H3 → ∀ o : St, o.length = n → g x (o ++ freesOf js σ) H3 fun σ4 H4 => (∃ o' : St, o'.length = n ∧ σ4 = o' ++ freesOf js σ) ∧
    te σ4 H4 fun y H5 => H5 p = some (.lst ys) ∧ ∃ m', m' < m ∧ W (i + 1) m' (ys ++ [y]) (upd H5 p (.lst (ys ++ [y])))))
def tCompT (wi : TI) (n : Nat) (g : TG) (js : List Nat) (te : TE) : TE := fun σ H Q => wi σ H (compRT n g js te σ Q)
section
variable {X : Cx} {scope : Scope} {cl : List (Str × Addr)} {os : List Str} {ys : List Str} {js : List Nat} {fp : List Addr} {pins : List (Addr × Obj)} {σ : St} {H : Hp} {s s4 : Shared}
theorem block_startT {h1 : Heap} (ok : CompOkT X scope cl os ys js) (I : Inv X pins σ H s) (hf : ∀ b ∈ fp, FpOk X pins H b) (hlt : ∀ b ∈ fp, b < s.heap.objs.size) (hns : h1.Ns s.heap.objs.size (fun _ => none))
    (hk : ∀ b o, s.heap.get? b = some o → h1.get? b = some o) (tk : Nat) :
    Inv (X.blockT scope cl s.heap.objs.size (os ++ ys) os fp s H) [] (os.map (fun _ => none) ++ freesOf js σ) H { s with heap := h1, toks := tk } := by
  have sub : ∀ y c, cl.lookup y = some c → X.env.cells.lookup y = some c := fun y c e => ok.sub (y, c) (PySem.mem_of_lookup e)
  refine ⟨⟨I.ok.mod, ok.kind, I.ok.glob, I.ok.blt, Nat.le_refl _, fun x y c e1 e2 => I.ok.inj x y c (sub x c e1) (sub y c e2), fun x hx => ?_, fun x c e1 e2 => ?_, I.ok.hd, I.ok.frames, .inl rfl, fun b hb => ⟨Nat.ne_of_lt (hlt b hb), fun x c e => (hf b hb).2.2.2.2.1 x c (sub x c e)⟩,
    I.bs, Nat.le_trans I.ok.bsz I.sz, fun b o e hb => ?_, fun b hb z => ?_, I.stack, I.stkFree⟩, rfl, I.bare, Un.kept hk, ⟨_, hns, fun i y v e1 e2 e3 => ?_⟩, fun y c e => ?_, I.hok.fresh (Nat.le_refl _), fun y c e => I.freeC y c (sub y c e), fun p hp => absurd (show p ∈ ([] : List (Addr × Obj)) from hp) (by simp), I.hok.kept hk, ?_⟩
  · have hx' : (relabel scope X.env).names.lookup x = some .cell ∨ (relabel scope X.env).names.lookup x = some .free := hx
    rcases hx' with z | z
    · have q := lookup_all ok.has z
      simp only [beq_self_eq_true, Bool.true_or, Bool.not_true, Bool.false_or] at q
      exact Option.isSome_iff_exists.mp q
    · have q := lookup_all ok.has z
      simp only [beq_self_eq_true, Bool.or_true, Bool.not_true, Bool.false_or] at q
      exact Option.isSome_iff_exists.mp q
  · have e1' : os.contains x = true := e1
    have e2' : cl.lookup x = some c := e2
    rw [ok.noown x (List.contains_iff_mem.mp e1')] at e2'
    cases e2'
  · rcases (hf b hb).2.2.2.1 with z | z
    · exact I.ok.noex b o e z
    · exact absurd (Nat.lt_of_lt_of_le (Heap.lt_size (I.ok.bs b o e).1) z) (Nat.lt_irrefl _)
  · rcases List.mem_cons.mp (I.stkSub b z) with q | q
    · exact (hf b hb).2.1 q
    · exact (hf b hb).2.2.1 q
  · by_cases hi : i < os.length
    · have e2' : (os.map (fun _ => (none : Option V)) ++ freesOf js σ)[i]? = some (some v) := e2
      rw [List.getElem?_append_left (by rw [List.length_map]; exact hi), List.getElem?_map, List.getElem?_eq_getElem hi] at e2'
      cases e2'
    · have e1'' : (os ++ ys)[i]? = some y := e1
      have e2'' : (os.map (fun _ => (none : Option V)) ++ freesOf js σ)[i]? = some (some v) := e2
      rw [List.getElem?_append_right (by omega)] at e1''
      rw [List.getElem?_append_right (by rw [List.length_map]; omega), List.length_map] at e2''
      have e1' := e1''
      have e2 := e2''
      clear e1 e1'' e2''
      generalize i - os.length = i at e1' e2
      obtain ⟨j, hj, hN, hX, hc⟩ := ok.at_ i y e1'
      have e2' : (freesOf js σ)[i]? = some (some v) := e2
      unfold freesOf at e2'
      rw [List.getElem?_map, hj] at e2'
      have hs : σ[j]? = some (some v) := by
        cases q : σ[j]? with
        | none => rw [Option.map_some, q] at e2'; cases e2'
        | some o => rw [Option.map_some, q] at e2'; exact e2'
      obtain ⟨m, hn, hl⟩ := I.loc
      obtain ⟨u, r, l⟩ := hl j y v hN hs (hX.elim (fun z => .inr (.inl z)) fun z => .inr (.inr z))
      refine ⟨u, r, .inr ⟨hc, ?_⟩⟩
      rcases l with ⟨k, _⟩ | ⟨k, c, hcl, hcell⟩
      · have k' : X.env.scope.names.lookup y = some .local := k
        rcases hX with z | z <;> (rw [z] at k'; cases k')
      · have ex : ∃ c', cl.lookup y = some c' := by
          rcases hc with z | z
          · have q := lookup_all ok.has z
            simp only [beq_self_eq_true, Bool.true_or, Bool.not_true, Bool.false_or] at q
            exact Option.isSome_iff_exists.mp q
          · have q := lookup_all ok.has z
            simp only [beq_self_eq_true, Bool.or_true, Bool.not_true, Bool.false_or] at q
            exact Option.isSome_iff_exists.mp q
        obtain ⟨c', hc'⟩ := ex
        have e := sub y c' hc'
        rw [hcl] at e
        cases e
        obtain ⟨oc, hoc, hd⟩ := hcell
        exact ⟨c, hc', oc, hk _ _ hoc, hd⟩
  · obtain ⟨v, oc, hoc, hd⟩ := I.cell y c (sub y c e)
    exact ⟨v, oc, hk _ _ hoc, hd⟩
  · show (os.map (fun _ => (none : Option V)) ++ freesOf js σ).length = (os ++ ys).length
    simp [freesOf, ok.len]
theorem block_endT {H' : Hp} {h' : Heap} {σ' : St} (I : Inv X pins σ H s) (hf : ∀ b ∈ fp, FpOk X pins H b) (J : Inv (X.blockT scope cl s.heap.objs.size (os ++ ys) os fp s H) [] σ' H' s4) (hs : Heap.SameBut s.heap.objs.size s4.heap h') :
    Inv X pins σ H' { s4 with heap := h' } := by
  have low : ∀ b o, s.heap.get? b = some o → b ≠ s.heap.objs.size := fun b o e => Nat.ne_of_lt (Heap.lt_size e)
  have B := J.base
  have u : Un (frs X.stack) fp H H' s.heap h' := {
    keep := fun b o q n hb hx => (hs.2 b (low b o q)).trans (B.keep b o q n hb hx)
    slot := fun b o q n hb hx => by
      obtain ⟨sl, e⟩ := B.slot b o q n hb hx
      exact ⟨sl, (hs.2 b (low b o q)).trans e⟩
    free := B.free
    there := fun b o q hx => by
      obtain ⟨o', e⟩ := B.there b o q hx
      exact ⟨o', (hs.2 b (low b o q)).trans e⟩
    tups := B.tups
    frzs := B.frzs
    tbls := B.tbls }
  have hn : H' s.heap.objs.size = none := J.free
  have hk : HOk X.prog X.w H' h' := fun a o e => (J.hok a o e).stay (fun b v hb q => (hs.2 b (by
    intro z
    rcases hb with z' | z'
    · rw [← z', z, hn] at e; cases e
    · rw [z, hn] at z'; cases z')).trans q) (fun _ q => q) fun _ _ q => q
  exact I.call' (s' := { s4 with heap := h' }) (ch := fp) J.os u hk J.bare fun b hb => ⟨(hf b hb).2.2.2.1, (hf b hb).2.1, (hf b hb).2.2.2.2.1, (hf b hb).2.2.2.2.2⟩
end
section
variable {X : Cx} {scope : Scope} {cl : List (Str × Addr)} {os : List Str} {ys : List Str} {js : List Nat} {elt iter tg : Expr} {px pos : Pos} {wi : TI} {te : TE} {g : TG}
end
end L2

namespace Sw
open PySem L2 XH
theorem cokT {X : Cx} {scope : Scope} {cl : List (Str × Addr)} {os ys : List Str} {js : List Nat} (a : CompAt X scope ys js) (s : Subs X cl) (len : js.length = ys.length) (clos : closureFor scope X.env = pure cl) (nocell : (scope.names.all fun p => !(p.2 == .cell)) = true) (kind : scope.kind = .function)
    (loc : (scope.names.all fun p => !(p.2 == .local) || scope.names.lookup p.1 == some .local) = true) (has : ((relabel scope X.env).names.all fun p => !(p.2 == .cell || p.2 == .free) || (cl.lookup p.1).isSome) = true) (noown : (os.all fun x => (cl.lookup x).isNone) = true) : CompOkT X scope cl os ys js :=
  ⟨clos, nocell, kind, loc, s.all, has, fun x hx => by have := List.all_eq_true.mp noown x hx; simpa using this, a, len⟩
theorem pg_tupK {X : Cx} {K : PySem.W.Frag} {es : List Expr} {k : Nat} {t : TGs} {n : Nat} {pos : Pos} (hK : X.K = K) (hc : X.calm = true) (h : PGs X es t) (hn : (assignEach es X.env).length = n := by rfl) (hst : (assignEach es X.env).findIdx? (·.1) = none := by rfl) : PG X (.Tuple es k pos) (gTup K n t) := by
  subst hK
  exact pg_tup hc h hn hst
theorem pg_nameT {X : Cx} {scope : Scope} {cl : List (Str × Addr)} {C : Addr} {fp : List Addr} {s : Shared} {H : Hp} {os ys : List Str} {i : Nat} {x : Str} {pos : Pos} (nd : (os ++ ys).Nodup) (hi : (os ++ ys)[i]? = some x) (hl : (relabel scope X.env).names.lookup x = some .local) : PG (X.blockT scope cl C (os ++ ys) os fp s H) (.Name x pos) (gName i) :=
  pg_name (X := X.blockT scope cl C (os ++ ys) os fp s H) nd hi (.inl hl) (.inr hl)
end Sw
set_option Elab.async false
set_option linter.all false
set_option maxRecDepth 100000
namespace L2
open PySem PySem.Spec PyProof.Rows XH
section
variable {X : Cx} {scope : Scope} {cl : List (Str × Addr)} {os : List Str} {ys : List Str} {js : List Nat} {elt iter tg : Expr} {px pos : Pos} {wi : TI} {te : TE} {g : TG}
theorem ps_compT {i : Nat} {y : Str} {py spos : Pos} (hN : X.N.Nodup) (hi' : X.N[i]? = some y) (hy : X.env.scope.names.lookup y = some .local) (hc : X.calm = true) (ok : CompOkT X scope cl os ys js) (hi : PI X tg iter wi)
    (hg : ∀ (C : Addr) (fp : List Addr) (s : Shared) (H : Hp), PG (X.blockT scope cl C (os ++ ys) os fp s H) tg g)
    (he : ∀ (C : Addr) (fp : List Addr) (s : Shared) (H : Hp), PE (X.blockT scope cl C (os ++ ys) os fp s H) elt te)
    (hsw : swapsWith (.ListComp elt [⟨tg, iter, [], 0⟩] scope pos) (some (.Name y py)) spos.line X.env = pure true := by rfl) (hs : ∀ x, foldedSetIterable iter X.env x = pure x := by intro _; rfl) :
    PS X (.Assign [.Name y py] (.ListComp elt [⟨tg, iter, [], 0⟩] scope pos) spos) (tAsg (tCompT wi os.length g js te) (gName i)) := by
  intro pins s σ H D I h
  have ncell : ∀ y ∈ scope.names, y.2 ≠ .cell := fun y hy z => by
    have q := List.all_eq_true.mp ok.nocell y hy
    rw [z] at q
    simp at q
  have nloc : ∀ y ∈ scope.names, y.2 = .local → scope.names.lookup y.1 = some .local := fun y hy z => by
    have q := List.all_eq_true.mp ok.loc y hy
    rw [z] at q
    simpa using q
  show wpAny _ _ (exec _ X.env) _ _ _
  rw [exec_Assign_Name_used _ _ _ _ hsw]
  refine wpAny_bind (wpAny_standAt (wpAny_bind ?_))
  show wpAny _ X.A (do let _ ← comprehension (.ListComp elt [⟨tg, iter, [], 0⟩] scope pos) scope X.env _ (newList []) false (eval iter X.env) (some (assign (.Name y py) X.env))) _ _ s
  refine wpAny_bind (wpAny_mono (wpAny_comprehension_free (use := some (assign (.Name y py) X.env)) (Q := fun _ s' => SP X pins D .next s') rfl hs ok.clos ok.kind nloc (thn (hi pins s σ H _ I h) fun v s1 h1 => thn h1 fun itv s2 h2 => ?_)) (fun _ s' hq => wpAny_pure (wpAny_pure hq)) fun _ _ e => e)
  obtain ⟨it, fp, tn, J, H2, rfl, I2, T, st2, f2, q2⟩ := h2
  obtain ⟨W, ⟨m0, w0⟩, turn⟩ := q2 s2.heap.objs.size (I2.hok.fresh (Nat.le_refl _))
  refine wpAny_newObj_type (wpAny_newFunctionEnv ncell (by intro y hy; simp at hy) (fun h1 hns hsb => ?_) ok.kind)
  have I3 := I2.laid (a := s2.heap.objs.size) (o := .lst []) (h' := s2.heap.push { cls := .type "list", dict := none, data := .seq ([] : List Value).toArray }) (t' := s2.toks) (fun b u q => Heap.get?_push_of_some _ q) (Nat.le_refl _)
    ⟨Nat.zero_le _, [], 0, .nil, Heap.get?_push_size _ rfl⟩
  have fpo : ∀ b ∈ fp, b < s2.heap.objs.size := fun b hb => by
    obtain ⟨o, e, _⟩ := T.obj 0 _ st2 b hb
    exact Heap.lt_size e
  have f3 : ∀ b ∈ fp, FpOk X pins (upd H2 s2.heap.objs.size (.lst [])) b := fun b hb => ⟨by rw [upd_ne (Nat.ne_of_lt (fpo b hb))]; exact (f2 b hb).1, (f2 b hb).2⟩
  generalize hs3 : ({ s2 with heap := s2.heap.push { cls := .type "list", dict := none, data := .seq ([] : List Value).toArray }, toks := s2.toks } : Shared) = s3 at I3
  have e3 : s3.heap = s2.heap.push { cls := .type "list", dict := none, data := .seq ([] : List Value).toArray } := by rw [← hs3]
  have lt3 : ∀ b ∈ fp, b < s3.heap.objs.size := fun b hb => by rw [e3, Heap.size_push]; exact Nat.lt_succ_of_lt (fpo b hb)
  dsimp only at hns hsb ⊢
  rw [← e3] at hns hsb
  have hk : ∀ b o, s3.heap.get? b = some o → h1.get? b = some o := fun b o e => hsb.extBut b o (Nat.ne_of_lt (Heap.lt_size e)) (Heap.get?_push_of_some _ e)
  have J0 := block_startT (h1 := h1) ok I3 f3 lt3 hns hk (s2.toks + 0)
  have t0 : tn 0 h1 := T.keep 0 _ _ st2 fun b hb o e => hk b o (by rw [e3]; exact Heap.get?_push_of_some _ e)
  have fpB : ∀ {H' : Hp}, (∀ b ∈ fp, H' b = none) → ∀ b ∈ fp, FpOk (X.blockT scope cl s3.heap.objs.size (os ++ ys) os fp s3 (upd H2 s2.heap.objs.size (.lst []))) [] H' b := fun {H'} hn b hb =>
    ⟨hn b hb, Nat.ne_of_lt (lt3 b hb), fun z => (List.mem_cons.mp (I3.stkSub b z)).elim (f3 b hb).2.1 (f3 b hb).2.2.1, .inl hb, fun x c e => (f3 b hb).2.2.2.2.1 x c (ok.sub (x, c) (PySem.mem_of_lookup e)), fun p hp => absurd (show p ∈ ([] : List (Addr × Obj)) from hp) (by simp)⟩
  have loop : codeAny (model X.prog X.w) X.A (.compLoop (.ListComp elt [⟨tg, iter, [], 0⟩] scope pos) 0 (.ref it) (.ref s2.heap.objs.size) (compEnvC scope cl s3.heap.objs.size X.env))
      (compPost (model X.prog X.w) X.A X.xe (some (assign (.Name y py) X.env)) (fun _ s' => SP X pins D .next s') (.ref s2.heap.objs.size) s3.heap.objs.size) { s3 with heap := h1, toks := s2.toks + 0 } := by
    refine compLoop_own (fun n s' => ∃ i zs o0 H', Inv (X.blockT scope cl s3.heap.objs.size (os ++ ys) os fp s3 (upd H2 s2.heap.objs.size (.lst []))) [] (o0 ++ freesOf js σ) H' s' ∧ o0.length = os.length ∧ tn i s'.heap ∧ (∀ b ∈ fp, H' b = none) ∧ W i n zs H') ?_ m0
      ⟨0, [], os.map (fun _ => none), _, J0, List.length_map _, t0, fun b hb => (f3 b hb).1, w0⟩
    rintro n s5 ⟨i, zs, o0, H5, I5, l5, t5, n5, w5⟩
    obtain ⟨hD, hw⟩ := turn i n zs H5 w5
    rcases hw with ⟨stop, qn⟩ | ⟨go, hz, step⟩
    · refine thn (T.done (X.blockT scope cl s3.heap.objs.size (os ++ ys) os fp s3 (upd H2 s2.heap.objs.size (.lst []))) rfl rfl rfl hc i [] s5 _ H5 (fun _ _ => False) I5 (fpB n5) t5 stop) fun r s6 ⟨hr, I6⟩ => ?_
      subst hr
      obtain ⟨m, hn, _⟩ := id I6.loc
      have J : Inv X pins σ H5 s6 := block_endT (h' := s6.heap) I3 f3 I6 (Heap.SameBut.refl _ _)
      have fC := I3.fpOk (Nat.le_refl _) (show H5 s3.heap.objs.size = none from I6.free)
      obtain ⟨k0, k1, k2, k3, k4, k5⟩ := fC
      show wpAny _ X.A (assign (.Name y py) X.env (.ref s2.heap.objs.size)) _ _ _
      refine wpAny_assign_Name (store_ok2 (v := .ref s2.heap.objs.size) J hN hi' (.inl hy) rfl (fun s7 I7 hsb => ?_) (.inr hy))
      obtain ⟨a', sb, ha⟩ := hsb
      have ne : s3.heap.objs.size ≠ a' := by
        rcases ha with z | z
        · rw [z]; exact k1
        · exact fun w => k4 _ _ z w.symm
      exact ⟨m, hn.sameBut sb ne, fun h' hs' => ⟨_, H5, I7.turned (t' := s7.toks) (fun b o hb e => (hs'.2 b hb).trans e) k0 k1 k3 k4 k5, qn⟩⟩
    · refine thn (T.item (X.blockT scope cl s3.heap.objs.size (os ++ ys) os fp s3 (upd H2 s2.heap.objs.size (.lst []))) rfl rfl rfl hc i [] s5 _ H5 (fun _ _ => False) I5 (fpB n5) t5 go) fun r s6 ⟨u, hr, h6⟩ => ?_
      subst hr
      refine thn h6 fun _ s7 ⟨x, H7, I7, r7, y7, t7, n7⟩ => ?_
      have I7' := I7.pinned (fpB n7) (T.obj _ _ t7)
      have hst := step x H7 y7
      refine thn (hg _ _ _ _ _ s7 _ H7 x u _ I7' r7 (hst o0 l5)) fun _ s8 ⟨σ8, H8, I8, ⟨o8, l8, e8⟩, hst⟩ => ?_
      subst e8
      refine thn (he _ _ _ _ _ s8 _ H8 _ I8 hst) fun yv s9 ⟨y, H9, I9, r9, hD9, m', hm, w9⟩ => ?_
      refine thn (mt_append _ s9 _ H9 (.ref s2.heap.objs.size) [y] (.ref s2.heap.objs.size) [yv] (fun _ H' => H' = upd H9 s2.heap.objs.size (.lst (zs ++ [y]))) I9 rfl (.cons r9 .nil) ⟨_, zs, y, rfl, rfl, hD9, hz, rfl⟩) fun _ s10 ⟨_, H10, I10, _, e10⟩ => ?_
      subst e10
      refine ⟨m', hm, i + 1, zs ++ [y], o8, _, I10.unpinned, l8, T.keep _ _ _ t7 fun b hb o e => (I10.pin (b, o) (List.mem_append_right _ (List.mem_append_right _ (mem_pinsAt hb e)))).1, fun b hb => ?_, w9⟩
      obtain ⟨o, e, d⟩ := T.obj _ _ t7 b hb
      exact (I10.pin (b, o) (List.mem_append_right _ (List.mem_append_right _ (mem_pinsAt hb e)))).2.1
  subst hs3
  exact codeAny_compStart_list loop (T.self _ 0 _ _ _ t0 loop)
end
end L2
set_option Elab.async false
set_option linter.all false
set_option maxRecDepth 100000
namespace Sw
open PySem L2 XH
/-! ### own classes: their defs as callers see them -/
structure DxM (P : Program) (w : World) (K : PySem.W.Frag) (mg : Str → Option Value) (base : Heap) (CX : CXT) (k : Nat) (f : Addr) (ps : List Str) (dvs : List V) (sp : Sp) where
  fd : FuncData
  ok : FnOk P w K mg base CX k f fd ps sp
  b : Binds K fd ps []
  bd : ∃ ds, Binds K fd ps ds ∧ Vals dvs ds
def DxM.calm {P : Program} {w : World} {K : PySem.W.Frag} {mg : Str → Option Value} {base : Heap} {k : Nat} {f : Addr} {ps : List Str} {dvs : List V} {sp sp0 : Sp} (D : DxM P w K mg base (CX1 P w) k f ps dvs sp) (h : ∀ vs H Q E, sp0 vs H Q E → sp vs H Q E0) : DxM P w K mg base CX0 k f ps dvs sp0 :=
  ⟨D.fd, D.ok.noraise h, D.b, D.bd⟩
/-- o.m(..), the def at f, whatever the class -/
def tMethA (K : PySem.W.Frag) (m : Str) (f : Addr) (sp : Sp) (dvs : List V) (ta : TE) (t : TA) : TE := fun σ H Q => ta σ H fun x H1 => ∃ a C dx fs, x = .ref a ∧ H1 a = some (.ins C dx fs) ∧ Cls K C ∧ Meth K C m f ∧ fs.lookup m = none ∧
  t σ H1 fun vs H2 => sp (x :: (vs ++ dvs)) H2 Q E0
/-- the def m of the class, asked of the class itself -/
structure ClsM (K : PySem.W.Frag) (C : Addr) (m : Str) (f : Addr) : Prop where
  sp : PySem.W.specialIn K (.ref C) "__getattribute__" = some (some (.builtin "type.__getattribute__"))
  rd : PySem.W.readsIn K C (.type "type") = true
  fc : PySem.W.findCls K (.ref C) (.type "type") m = some (.val (.ref f))
  kp : PySem.W.keepIn K (.ref f) = true
section
variable {X : Cx} {k j : Nat} {f C : Addr} {ps : List Str} {sp : Sp} {dvs : List V} {x m : Str} {p pos apos : Pos} {e o : Expr} {es : List Expr} {ta tb : TE} {t : TA}
theorem pmake0 (M : Mk X.K C f) (D : DxM X.prog X.w X.K X.mg X.base CX0 k f ps dvs sp) (hr : Room j X.A) (hk : k + 1 ≤ j) (hg : Gl X x) (hm : X.mg x = some (.ref C)) (ha : PA X (e :: es) t) (hdb : (x == ("__debug__" : Str)) = false := by decide)
    (he : starEach (e :: es) X.env = (false, eval e X.env) :: starEach es X.env := by rfl) (hpl : (backTo pos (starEach es X.env)).any (·.1) = false := by rfl) : PE X (.Call (.Name x p) (e :: es) [] pos) (tMake C sp [] E0 t) :=
  pe_make M D.ok (hr.mono hk) hg hm D.b .nil pass0 ha hdb he hpl
theorem pmake0d (M : Mk X.K C f) (D : DxM X.prog X.w X.K X.mg X.base CX0 k f ps dvs sp) (hr : Room j X.A) (hk : k + 1 ≤ j) (hg : Gl X x) (hm : X.mg x = some (.ref C)) (ha : PA X (e :: es) t) (hdb : (x == ("__debug__" : Str)) = false := by decide)
    (he : starEach (e :: es) X.env = (false, eval e X.env) :: starEach es X.env := by rfl) (hpl : (backTo pos (starEach es X.env)).any (·.1) = false := by rfl) : PE X (.Call (.Name x p) (e :: es) [] pos) (tMake C sp dvs E0 t) := by
  obtain ⟨ds, hb, hv⟩ := D.bd
  exact pe_make M D.ok (hr.mono hk) hg hm hb hv pass0 ha hdb he hpl
/-- C.m(self, ..) -/
theorem pclsm {pl : Sem Bool} (M : ClsM X.K C m f) (D : DxM X.prog X.w X.K X.mg X.base CX0 k f ps dvs sp) (hr : Room j X.A) (hk : k ≤ j) (hg : Gl X x) (hm : X.mg x = some (.ref C)) (ha : PA X (e :: es) t) (hdb : (x == ("__debug__" : Str)) = false := by decide)
    (hst : starEach (e :: es) X.env = (false, eval e X.env) :: starEach es X.env := by rfl) (hpl : (backTo pos (starEach es X.env)).any (·.1) = false := by rfl)
    (ht : eval (.Call (.Attribute (.Name x p) m apos) (e :: es) [] pos) X.env = (do
      let ov ← eval (.Name x p) X.env
      standAt apos.atName
      let (f, first) ← holding [ov] (getMethod ov m pl)
      callWith pos f first (backTo pos (starEach (e :: es) X.env)) (backToKw pos (keywordEach [] X.env))) := by rfl) :
    PE X (.Call (.Attribute (.Name x p) m apos) (e :: es) [] pos) (tCall sp [] E0 t) := by
  intro pins s σ H Q I h
  refine PySem.W.methodCall_KW (pl := pl) (ld_glob I hg hm ?_ hdb) ht
  refine PySem.W.method_cls I.kIn M.sp (PySem.W.cls_value I.kIn M.rd M.fc rfl ?_)
  have I1 := I.tok (s.toks + 1)
  refine PySem.W.callWith_K (first := []) (h₀ := X.base) I.ok.mod.kin M.kp (thn (ha pos pins _ σ H _ I1 h) fun us s2 ⟨vs, H2, I2, r, q2⟩ => ⟨I2.kIn, ?_⟩) hst hpl
  exact run_fn D.ok (hr.mono hk) D.b .nil pass0 I2 r q2
end
end Sw
set_option Elab.async false
set_option linter.all false
set_option maxRecDepth 100000
namespace Sw
open PySem L2 XH
/-! ### steps: their fields -/
def stepF (nm l m u s : V) : List (Str × V) := putF "second" s (putF "uses" u (putF "most" m (putF "least" l (putF "name" nm []))))
def warmF (nm l m u s f : V) : List (Str × V) := putF "fill" f (stepF nm l m u s)
theorem stepF_len {nm l m u s : V} : (stepF nm l m u s).length ≤ 5 := by
  unfold stepF
  have h1 := length_putF "name" nm []
  have h2 := length_putF "least" l (putF "name" nm [])
  have h3 := length_putF "most" m (putF "least" l (putF "name" nm []))
  have h4 := length_putF "uses" u (putF "most" m (putF "least" l (putF "name" nm [])))
  have h5 := length_putF "second" s (putF "uses" u (putF "most" m (putF "least" l (putF "name" nm []))))
  simp at h1
  omega
/-- all but a stays -/
def Kept (H H' : Hp) (a : Addr) : Prop := ∀ b o, H b = some o → b ≠ a → H' b = some o
theorem Kept.refl (H : Hp) (a : Addr) : Kept H H a := fun _ _ h _ => h
theorem Kept.put {H H' : Hp} {a : Addr} (k : Kept H H' a) (o : HO) : Kept H (upd H' a o) a := fun b u h n => by rw [upd_ne n]; exact k b u h n
theorem Kept.new {H H' : Hp} {a p : Addr} (k : Kept H H' a) (hp : H' p = none) (o : HO) : Kept H (upd H' p o) a := fun b u h n => by
  have e := k b u h n
  rw [upd_ne (ne_of_none e hp)]
  exact e
theorem Kept.trans {H H1 H2 : Hp} {a : Addr} (k : Kept H H1 a) (l : Kept H1 H2 a) : Kept H H2 a := fun b o h n => l b o (k b o h n) n
theorem made_same {H H' : Hp} {x dx C : Addr} (nx : H x = none) (nd : H dx = none) (k : Kept (upd (upd H dx (.own x)) x (.ins C dx [])) H' x) : Same H H' := fun b o h => by
  have n1 := ne_of_none h nx
  exact k b o (by rw [upd_ne n1, upd_ne (ne_of_none h nd)]; exact h) n1
structure StepC (K : PySem.W.Frag) (C : Addr) : Prop where
  cl : Cls K C
  name : NoAttr K C "name"
  least : NoAttr K C "least"
  most : NoAttr K C "most"
  uses : NoAttr K C "uses"
  second : NoAttr K C "second"
def spStepInit (K : PySem.W.Frag) : Sp := fun vs H Q _ => ∃ (a C dx : Addr) (nm l m : V), vs = [.ref a, nm, l, m, .non, .non] ∧ H a = some (.ins C dx []) ∧ StepC K C ∧
  ∀ (u : Addr) (H' : Hp), u ≠ a → Kept H H' a → H' u = some (.lst []) → H' a = some (.ins C dx (stepF nm l m (.ref u) .non)) → Q .non H'
def spWarmInit (K : PySem.W.Frag) : Sp := fun vs H Q _ => ∃ (a C dx : Addr) (nm l m fl : V), vs = [.ref a, nm, l, m, fl, .non, .non] ∧ H a = some (.ins C dx []) ∧ StepC K C ∧ NoAttr K C "fill" ∧
  ∀ (u : Addr) (H' : Hp), u ≠ a → Kept H H' a → H' u = some (.lst []) → H' a = some (.ins C dx (warmF nm l m (.ref u) .non fl)) → Q .non H'
/-! ### rounds -/
structure Rnd (n p q fp fq sp sq : Int) : Prop where
  lo : p * fp * sq ≤ n * (sp * q * fq)
  hi : (n - 1) * (sp * q * fq) < p * fp * sq
  bd : Bd 2000 n
def spRounds (K : PySem.W.Frag) : Sp := fun vs H Q _ => ∃ (a C dx t tf ts : Addr) (fs : List (Str × V)) (p q fp fq sp sq : Int), vs = [.ref a, .ref tf, .ref ts] ∧ H a = some (.ins C dx fs) ∧ Cls K C ∧ NoAttr K C "fill" ∧ fs.lookup ("fill" : Str) = some (.ref t) ∧
  FrIn K 201 H t p q ∧ FrIn K 201 H tf fp fq ∧ FrIn K 201 H ts sp sq ∧ 0 < sp ∧ ∀ (n : Int) (H' : Hp), Same H H' → Rnd n p q fp fq sp sq → Q (.int n) H'
def spOneRound : Sp := fun vs H Q _ => ∃ a b c : V, vs = [a, b, c] ∧ Q (.int 1) H
def spRight (K : PySem.W.Frag) : Sp := fun vs H Q _ => ∃ (n p q fp fq sp sq : Int) (t tf ts : Addr), vs = [.int n, .ref t, .ref tf, .ref ts] ∧ FrIn K 201 H t p q ∧ FrIn K 201 H tf fp fq ∧ FrIn K 201 H ts sp sq ∧ Rnd n p q fp fq sp sq ∧ Q (.bl true) H
def spOne (K : PySem.W.Frag) (f : Addr) : Sp := fun vs H Q _ => ∃ (a C dx : Addr) (fs : List (Str × V)) (b c : V), vs = [.ref a, b, c] ∧ H a = some (.ins C dx fs) ∧ Cls K C ∧ Meth K C "rounds" f ∧ fs.lookup ("rounds" : Str) = none ∧ Q (.bl true) H
def spNumP : Sp := fun vs H Q _ => ∃ c : Int, vs = [.int c] ∧ ∀ n : Int, 0 < n → Bd 67 n → Q (.int n) H
def spDivP : Sp := fun vs H Q _ => ∃ a b : Int, vs = [.int a, .int b] ∧ 0 ≤ a ∧ 0 ≤ b ∧ Q (.int (gcdI a b)) H
def spLowP : Sp := fun vs H Q _ => ∃ a b : Int, vs = [.int a, .int b] ∧ 0 < a ∧ 0 < b ∧ Bd 8500 b ∧ ∀ p q : Int, Fr p q a b → 0 < p → Pair H Q p q
def spFracP (K : PySem.W.Frag) : Sp := fun vs H Q _ => ∃ (a : Addr) (ns : List Int) (k : Int), vs = [.ref a, .int k] ∧ SqL K H a (ns.map V.int) ∧ 0 ≤ k ∧ ∀ (p q : Int) (t : Addr) (H' : Hp), Same H H' → FrIn K 67 H' t p q → 0 < p → Q (.ref t) H'
end Sw
set_option Elab.async false
set_option linter.all false
set_option maxRecDepth 100000
namespace L2
open PySem PySem.Spec PyProof.Rows XH
section
variable {X : Cx}
end
end L2
namespace Sw
open PySem L2 XH PySem.NumText
/-! ### a row's words, sign by sign -/
def blS : Str := Str.ofString " "
theorem bl_mk : blS = mkS [32] := by decide
theorem join_snocC (s w c : Str) : ∀ ws : List Str, Str.join s (ws ++ [w ++ c]) = Str.join s (ws ++ [w]) ++ c
  | [] => rfl
  | [x] => by
    show x ++ s ++ (w ++ c) = x ++ s ++ w ++ c
    exact sL_inj (by simp [sL_app])
  | x :: y :: r => by
    have ih := join_snocC s w c (y :: r)
    show x ++ s ++ Str.join s ((y :: r) ++ [w ++ c]) = x ++ s ++ Str.join s ((y :: r) ++ [w]) ++ c
    rw [ih]
    exact sL_inj (by simp [sL_app])
/-- what was walked of the row: its words, the last one perhaps not whole -/
structure Wk (z : Str) (i : Nat) (ws : List Str) (w : Str) : Prop where
  join : Str.join blS (ws ++ [w]) = mkS ((sL z).take i)
  free : ∀ x ∈ ws ++ [w], 32 ∉ sL x
theorem Wk.zero (z : Str) : Wk z 0 [] Str.empty := ⟨rfl, by simp [empty_mk, sL_mk]⟩
theorem Wk.sign {z : Str} {i c : Nat} {ws : List Str} {w : Str} (h : Wk z i ws w) (e : (sL z)[i]? = some c) (n : c ≠ 32) : Wk z (i + 1) ws (w ++ ⟨#[c]⟩) := by
  refine ⟨?_, ?_⟩
  · rw [join_snocC, h.join, List.take_succ, e, one_mk, mk_app]
    rfl
  · intro x hx
    rcases List.mem_append.mp hx with k | k
    · exact h.free x (List.mem_append.mpr (.inl k))
    · simp at k
      subst k
      rw [sL_app, one_mk, sL_mk]
      have := h.free w (by simp)
      simp [this]
      omega
theorem Wk.done {z : Str} {ws : List Str} {w : Str} (h : Wk z (sL z).length ws w) : Txt.split z (mkS [32]) = ws ++ [w] := by
  have j := h.join
  rw [List.take_of_length_le (Nat.le_refl _), mk_sL, bl_mk] at j
  rw [← j]
  exact split_of (by simp) h.free
theorem Wk.few {z : Str} {i : Nat} {ws : List Str} {w : Str} (h : Wk z i ws w) (hi : i ≤ (sL z).length) : ws.length ≤ i ∧ w.length ≤ i := by
  have j := congrArg Str.length h.join
  rw [← StrLaws.glued_eq_join, PySem.size_glued, mk_len, List.length_take, bl_mk, mk_len] at j
  simp at j
  omega
def spSplit : Sp := fun vs H Q _ => ∃ z : Str, vs = [.str z] ∧ z.length ≤ 1000 ∧ (Str.empty ∈ Txt.split z (mkS [32]) → ∀ H', Same H H' → Q .non H') ∧ (Str.empty ∉ Txt.split z (mkS [32]) → ∀ (l : Addr) (H' : Hp), Same H H' → H' l = some (.lst ((Txt.split z (mkS [32])).map V.str)) → Q (.ref l) H')
def spStream : Sp := fun vs H Q _ => ∃ c m : Int, vs = [.int c, .int m] ∧ 0 ≤ m ∧ m ≤ 50 ∧ ∀ (l : Addr) (H' : Hp) (xs : List Int), Same H H' → H' l = some (.lst (xs.map V.int)) → (xs.length : Int) = m → (∀ x ∈ xs, 0 ≤ x ∧ x < 2 ^ 31) → Q (.ref l) H'
def spSign1 : Sp := fun vs H Q _ => ∃ n : Int, vs = [.int n] ∧ ∀ c : Nat, Q (.str ⟨#[c]⟩) H
def spWord6 : Sp := fun vs H Q _ => ∃ c : Int, vs = [.int c] ∧ ∀ (z : Str) (H' : Hp), z.length ≤ 6 → Same H H' → Q (.str z) H'
def spTextN (K : PySem.W.Frag) (n : Nat) : Sp := fun vs H Q _ => ∃ (a : Addr) (ns : List Int), vs = [.ref a] ∧ SqL K H a (ns.map V.int) ∧ ns.length ≤ 63 ∧ ∀ (z : Str) (H' : Hp), z.length ≤ n → Same H H' → Q (.str z) H'
def spNumOf : Sp := fun vs H Q _ => ∃ (z : Str) (lo hi : Int), vs = [.str z, .int lo, .int hi] ∧ z.length ≤ 1000000 ∧ (fig? (sL z) = none → Q .non H) ∧ ∀ n : Nat, fig? (sL z) = some n → Q (if (n : Int) < lo ∨ hi < (n : Int) then .non else .int n) H
def spNear0 : Sp := fun vs H Q _ => ∃ z : Str, vs = [.str z] ∧ z.length ≤ 600 ∧ ∀ n : Int, Q (.int n) H
theorem ixKT {X : Cx} {K : PySem.W.Frag} (h : X.K = K) : IxR X (rIxL K) := by
  subst h
  exact ix_list
theorem dQt {v : V} {Q : V → Prop} (q : Q (.bl true)) : Q (.bl (decide (v = v))) := by rw [decide_eq_true rfl]; exact q
/-- PA, shut -/
structure PAk (X : Cx) (es : List Expr) (t : TA) : Prop where
  h : PA X es t
/-- PSs, shut -/
structure PSsk (X : Cx) (b : List Stmt) (t : TS) : Prop where
  h : PSs X b t
end Sw
set_option Elab.async false
set_option linter.all false
set_option maxRecDepth 100000
namespace L2
open PySem PySem.Spec PyProof.Rows XH
section
variable {X : Cx}
theorem call_int_bl : CallR X (.type "int") (fun xs H Q => ∃ b, xs = [.bl b] ∧ Q (.int (if b = true then 1 else 0)) H) := by
  intro pins s σ H xs us Q I r h
  obtain ⟨b, rfl, q⟩ := h
  obtain ⟨u, rfl, hu⟩ := vals1 r
  obtain rfl : u = Value.bool b := hu
  exact call_int_bool ⟨.int _, H, I.tok _, ⟨_, rfl⟩, q⟩
theorem ix_tupK {K : PySem.W.Frag} (h : X.K = K) : IxR X (rIxT K) := by
  subst h
  exact ix_tup
theorem op_notInK {K : PySem.W.Frag} (h : X.K = K) : OpR X (compareOp .NotIn) (rIn K true) := by
  subst h
  exact op_notIn_seq
end
/-- which items stay, told by their places -/
def pickN (n : Nat) (pr : Nat → Bool) (f : Nat → V) : List V := ((List.range n).filter pr).map f
theorem pickN_succ (n : Nat) (pr : Nat → Bool) (f : Nat → V) : pickN (n + 1) pr f = pickN n pr f ++ (if pr n = true then [f n] else []) := by
  unfold pickN
  rw [List.range_succ, List.filter_append, List.map_append]
  congr 1
  cases h : pr n <;> simp [List.filter_cons, h]
theorem pickN_len (n : Nat) (pr : Nat → Bool) (f : Nat → V) : (pickN n pr f).length ≤ n := by
  unfold pickN
  rw [List.length_map]
  have := List.length_filter_le pr (List.range n)
  rwa [List.length_range] at this
theorem compIf_gen {J : It} {n : Nat} {js : List Nat} {tc : TT} {te : TE} {σ : L2.St} {H1 : Hp} {Q : VK} (pr : Nat → Bool) (f : Nat → V) (hz : n ≤ sizeLine)
    (hgo : ∀ i H2, Same H1 H2 → i < n → J.go i H2) (hst : ∀ H2, Same H1 H2 → J.stop n H2)
    (step : ∀ i, i < n → ∀ H2 x H3, Same H1 H2 → J.yld i H2 x H3 → H3 = H2 ∧ (∀ R : Bool → Hp → Prop, R (pr i) H2 → tc (some x :: freesOf js σ) H2 R) ∧ (pr i = true → ∀ Q' : VK, Q' (f i) H2 → te (some x :: freesOf js σ) H2 Q'))
    (fin : ∀ p H', H1 p = none → Same H1 H' → H' p = some (.lst (pickN n pr f)) → Q (.ref p) H') : compIR js tc te σ Q J H1 := by
  intro p hp
  refine ⟨fun i m ys H2 => i ≤ n ∧ m = n - i ∧ ys = pickN i pr f ∧ Same H1 H2 ∧ H2 p = some (.lst ys), ⟨n, Nat.zero_le _, rfl, rfl, Sw.same_new hp _, upd_same⟩, ?_⟩
  rintro i m ys H2 ⟨hi, rfl, rfl, g, e⟩
  refine ⟨e, ?_⟩
  by_cases hin : i < n
  · refine .inr ⟨hgo i H2 g hin, ?_, fun x H3 hy => ?_⟩
    · have := pickN_len i pr f
      omega
    obtain ⟨rfl, h1, h2⟩ := step i hin H2 x H3 g hy
    refine h1 _ ?_
    have tk := pickN_succ i pr f
    cases hpr : pr i with
    | true =>
      rw [hpr, if_pos rfl] at tk
      rw [if_pos rfl]
      exact h2 hpr _ ⟨e, n - (i + 1), by omega, hin, rfl, tk.symm, Sw.sUpd g hp _, upd_same⟩
    | false =>
      rw [hpr, if_neg (by decide), List.append_nil] at tk
      rw [if_neg (by decide)]
      exact ⟨n - (i + 1), by omega, hin, rfl, tk.symm, g, e⟩
  · have e2 : i = n := by omega
    subst e2
    exact .inl ⟨hst H2 g, fin p H2 hp g e⟩
theorem compIf_at {K : PySem.W.Frag} {a : Addr} {xs : List V} {js : List Nat} {tc : TT} {te : TE} {σ : L2.St} {H1 : Hp} {Q : VK} (pr : Nat → Bool) (f : Nat → V) (hS : SqL K H1 a xs) (hz : xs.length ≤ sizeLine)
    (s1 : ∀ i x, xs[i]? = some x → ∀ H2, Same H1 H2 → ∀ R : Bool → Hp → Prop, R (pr i) H2 → tc (some x :: freesOf js σ) H2 R)
    (s2 : ∀ i x, xs[i]? = some x → ∀ H2, Same H1 H2 → ∀ Q' : VK, Q' (f i) H2 → te (some x :: freesOf js σ) H2 Q')
    (fin : ∀ p H', H1 p = none → Same H1 H' → H' p = some (.lst (pickN xs.length pr f)) → Q (.ref p) H') : compIR js tc te σ Q (Itl K a) H1 := by
  refine compIf_gen pr f hz (fun i H2 g hi => ⟨xs, xs[i], g.seq hS, List.getElem?_eq_getElem hi⟩) (fun H2 g => ⟨xs, g.seq hS, Nat.le_refl _⟩) (fun i hi H2 x H3 g hy => ?_) fin
  obtain ⟨rfl, hx⟩ := hy
  have ex := hx xs (g.seq hS)
  exact ⟨rfl, s1 i x ex _ g, fun _ => s2 i x ex _ g⟩
theorem compIf_rng {n : Nat} {js : List Nat} {tc : TT} {te : TE} {σ : L2.St} {H1 : Hp} {Q : VK} (pr : Nat → Bool) (f : Nat → V) (hz : n ≤ sizeLine)
    (s1 : ∀ i : Nat, i < n → ∀ H2, Same H1 H2 → ∀ R : Bool → Hp → Prop, R (pr i) H2 → tc (some (.int (0 + (i : Int))) :: freesOf js σ) H2 R)
    (s2 : ∀ i : Nat, i < n → ∀ H2, Same H1 H2 → ∀ Q' : VK, Q' (f i) H2 → te (some (.int (0 + (i : Int))) :: freesOf js σ) H2 Q')
    (fin : ∀ p H', H1 p = none → Same H1 H' → H' p = some (.lst (pickN n pr f)) → Q (.ref p) H') : compIR js tc te σ Q (Itr 0 n) H1 := by
  refine compIf_gen pr f hz (fun i H2 g hi => hi) (fun H2 g => Nat.le_refl n) (fun i hi H2 x H3 g hy => ?_) fin
  obtain ⟨rfl, rfl⟩ := hy
  exact ⟨rfl, s1 i hi _ g, fun _ => s2 i hi _ g⟩
/-! ### things alike, of any depth -/
def All2 (R : V → V → Prop) : List V → List V → Prop
  | [], [] => True
  | x :: xs, y :: ys => R x y ∧ All2 R xs ys
  | _, _ => False
theorem All2.len {R : V → V → Prop} : ∀ {xs ys : List V}, All2 R xs ys → xs.length = ys.length
  | [], [], _ => rfl
  | _ :: _, _ :: _, h => by simp [All2.len h.2]
  | [], _ :: _, h => h.elim
  | _ :: _, [], h => h.elim
def Alk (K : PySem.W.Frag) (H : Hp) : Nat → V → V → Prop
  | 0, x, y => x = y ∧ Smp x
  | n + 1, x, y => Alk K H n x y ∨ ∃ a b xs ys, x = .ref a ∧ y = .ref b ∧ ((SqT K H a xs ∧ SqT K H b ys) ∨ (SqL K H a xs ∧ SqL K H b ys)) ∧ All2 (Alk K H n) xs ys
theorem all2_eq {A : Around} {s : Shared} {R : V → V → Prop} (hR : ∀ x y u w, R x y → RelV x u → RelV y w → SeqAt.EqAt A s u w true) : ∀ {xs ys : List V} {us ws : List Value}, All2 R xs ys → Vals xs us → Vals ys ws → ∀ j (h1 : j < us.length) (h2 : j < ws.length), SeqAt.EqAt A s us[j] ws[j] true
  | [], [], _, _, _, .nil, .nil, j, h1, _ => absurd h1 (by simp)
  | _ :: _, _ :: _, _, _, h, .cons r1 _, .cons r2 _, 0, _, _ => hR _ _ _ _ h.1 r1 r2
  | _ :: _, _ :: _, _, _, h, .cons _ t1, .cons _ t2, j + 1, h1, h2 => all2_eq hR h.2 t1 t2 j (by simpa using h1) (by simpa using h2)
theorem alk_eq {X : Cx} {pins : List (Addr × Obj)} {σ : St} {H : Hp} {s : Shared} (I : Inv X pins σ H s) : ∀ (n : Nat) (A : Around) (x y : V) (u w : Value), A.units + n < cLine → Alk X.K H n x y → RelV x u → RelV y w → SeqAt.EqAt A s u w true
  | 0, A, x, y, u, w, _, h, r1, r2 => by
    obtain ⟨rfl, hs⟩ := h
    exact eqat_smp hs r1 r2
  | n + 1, A, x, y, u, w, hu, h, r1, r2 => by
    rcases h with h | ⟨a, b, xs, ys, rfl, rfl, hq, hA⟩
    · exact alk_eq I n A x y u w (by omega) h r1 r2
    cases r1
    cases r2
    by_cases e : a = b
    · subst e
      exact SeqAt.EqAt.same _
    refine SeqAt.EqAt.of_refs e ?_
    have ih := fun x y u w => alk_eq I n A.in1 x y u w (by show A.units + 1 + n < _; omega)
    rcases hq with ⟨h1, h2⟩ | ⟨h1, h2⟩
    · obtain ⟨i1, v1, p1, _⟩ := I.tuple h1
      obtain ⟨i2, v2, p2, _⟩ := I.tuple h2
      have k := SeqAt.RcAt.tuples (A := A) (e := fun _ => true) p1 p2 (by omega) fun j g1 g2 => all2_eq (A := A.in1) (s := s) ih hA v1 v2 j (by simpa using g1) (by simpa using g2)
      have e1 : ∀ m, ((List.range m).all fun _ => true) = true := fun m => by simp
      rw [e1] at k
      simpa [← v1.length, ← v2.length, hA.len] using k
    · obtain ⟨i1, v1, p1, _⟩ := I.list h1
      obtain ⟨i2, v2, p2, _⟩ := I.list h2
      have k := SeqAt.RcAt.lists (A := A) (e := fun _ => true) p1.isList p2.isList (by simp [← v1.length, ← v2.length, hA.len]) (by omega) fun j g1 g2 => all2_eq (A := A.in1) (s := s) ih hA v1 v2 j (by simpa using g1) (by simpa using g2)
      have e1 : ∀ m, ((List.range m).all fun _ => true) = true := fun m => by simp
      rw [e1] at k
      exact k
theorem op_eqA {X : Cx} (n : Nat) (hu : X.A.units + (n + 1) < cLine) : OpR X (compareOp .Eq) (fun x y H Q => ∃ a b xs ys, x = .ref a ∧ y = .ref b ∧ SqL X.K H a xs ∧ SqL X.K H b ys ∧ All2 (Alk X.K H n) xs ys ∧ Q (.bl true) H) := by
  intro pins s σ H x y v u Q I rx ry h
  obtain ⟨a, b, xs, ys, rfl, rfl, h1, h2, hA, hq⟩ := h
  cases rx
  cases ry
  obtain ⟨i1, v1, p1, _⟩ := I.list h1
  obtain ⟨i2, v2, p2, _⟩ := I.list h2
  refine SeqAt.eq_listAt (e := fun _ => true) p1.isList p2.isList (by simp [← v1.length, ← v2.length, hA.len]) (by omega) (fun j g1 g2 => ?_) ?_
  · exact all2_eq (A := X.A.in1) (s := s) (fun x y u w => alk_eq I n X.A.in1 x y u w (by show X.A.units + 1 + n < _; omega)) hA v1 v2 j (by simpa using g1) (by simpa using g2)
  · exact ⟨.bl true, H, I, by show Value.bool _ = Value.bool _; simp, hq⟩
end L2
namespace Sw
open PySem L2 XH
abbrev Lnk := Str × Int × Int × Int
/-- a list of links -/
structure LK (H : Hp) (l : Addr) (ks : List Lnk) : Prop where
  ex : ∃ as : List Addr, as.length = ks.length ∧ H l = some (.lst (as.map V.ref)) ∧ ∀ (i : Nat) (a : Addr) (k : Lnk), as[i]? = some a → ks[i]? = some k → H a = some (.tup [.str k.1, .int k.2.1, .int k.2.2.1, .int k.2.2.2])
theorem LK.same {H H' : Hp} {l : Addr} {ks : List Lnk} (h : LK H l ks) (g : Same H H') : LK H' l ks := by
  obtain ⟨as, h1, h2, h3⟩ := h.ex
  exact ⟨as, h1, g _ _ h2, fun i a k e1 e2 => g _ _ (h3 i a k e1 e2)⟩
/-- another list of the same things -/
theorem LK.copy {H H' : Hp} {l l' : Addr} {ks : List Lnk} (h : LK H l ks) (g : Same H H') {xs : List V} (e : H l = some (.lst xs)) (e' : H' l' = some (.lst xs)) : LK H' l' ks := by
  obtain ⟨as, h1, h2, h3⟩ := h.ex
  rw [e] at h2
  cases h2
  exact ⟨as, h1, e', fun i a k e1 e2 => g _ _ (h3 i a k e1 e2)⟩
theorem LK.snoc {H : Hp} {l a : Addr} {ks : List Lnk} {k : Lnk} (h : LK H l ks) (ha : H a = some (.tup [.str k.1, .int k.2.1, .int k.2.2.1, .int k.2.2.2])) :
    ∃ xs, H l = some (.lst xs) ∧ xs.length = ks.length ∧ LK (upd H l (.lst (xs ++ [.ref a]))) l (ks ++ [k]) := by
  obtain ⟨as, h1, h2, h3⟩ := h.ex
  have keep : ∀ {b : Addr} {zs : List V} {o : HO}, H b = some (.tup zs) → (upd H l o) b = some (.tup zs) := fun {b zs o} hb => by
    rw [upd_ne (fun z => by subst z; rw [h2] at hb; cases hb)]
    exact hb
  refine ⟨_, h2, by simp [h1], as ++ [a], by simp [h1], by rw [upd_same, List.map_append]; rfl, fun i b p e1 e2 => ?_⟩
  by_cases hi : i < as.length
  · rw [List.getElem?_append_left hi] at e1
    rw [List.getElem?_append_left (by omega)] at e2
    exact keep (h3 i b p e1 e2)
  · have e3 : i = as.length := by
      have := (List.getElem?_eq_some_iff.mp e1).1
      simp at this
      omega
    subst e3
    rw [List.getElem?_append_right (by omega)] at e1
    rw [List.getElem?_append_right (by omega), h1] at e2
    simp at e1 e2
    subst e1
    subst e2
    exact keep ha
abbrev Tsk := Int × Int
/-- a list of tasks, each with the one way (1, 2, []) -/
structure TK (H : Hp) (l : Addr) (ts : List Tsk) : Prop where
  ex : ∃ as : List Addr, as.length = ts.length ∧ H l = some (.lst (as.map V.ref)) ∧ ∀ (i : Nat) (a : Addr) (t : Tsk), as[i]? = some a → ts[i]? = some t → ∃ w v e, H a = some (.tup [.int t.1, .int t.2, .ref w]) ∧ H w = some (.lst [.ref v]) ∧ H v = some (.tup [.int 1, .int 2, .ref e]) ∧ H e = some (.lst []) ∧ w ≠ l ∧ e ≠ l
theorem TK.same {H H' : Hp} {l : Addr} {ts : List Tsk} (h : TK H l ts) (g : Same H H') : TK H' l ts := by
  obtain ⟨as, h1, h2, h3⟩ := h.ex
  refine ⟨as, h1, g _ _ h2, fun i a t e1 e2 => ?_⟩
  obtain ⟨w, v, e, k1, k2, k3, k4, k5⟩ := h3 i a t e1 e2
  exact ⟨w, v, e, g _ _ k1, g _ _ k2, g _ _ k3, g _ _ k4, k5⟩
theorem TK.alk {K : PySem.W.Frag} {H : Hp} {l m : Addr} {ts : List Tsk} (h : TK H l ts) (h' : TK H m ts) : ∃ xs ys, H l = some (.lst xs) ∧ H m = some (.lst ys) ∧ All2 (Alk K H 4) xs ys := by
  obtain ⟨as, a1, a2, a3⟩ := h.ex
  obtain ⟨bs, b1, b2, b3⟩ := h'.ex
  refine ⟨_, _, a2, b2, ?_⟩
  clear a2 b2 h h'
  induction ts generalizing as bs with
  | nil =>
    cases as with
    | nil =>
      cases bs with
      | nil => trivial
      | cons => simp at b1
    | cons => simp at a1
  | cons t ts ih =>
    cases as with
    | nil => simp at a1
    | cons a as =>
      cases bs with
      | nil => simp at b1
      | cons b bs =>
        refine ⟨?_, ih as (by simpa using a1) (fun i c u e1 e2 => a3 (i + 1) c u e1 e2) bs (by simpa using b1) (fun i c u e1 e2 => b3 (i + 1) c u e1 e2)⟩
        obtain ⟨w, v, e, k1, k2, k3, k4, _⟩ := a3 0 a t rfl rfl
        obtain ⟨w', v', e', k1', k2', k3', k4', _⟩ := b3 0 b t rfl rfl
        have sm : ∀ (n : Nat) (i : Int), Alk K H n (.int i) (.int i) := fun n i => by
          induction n with
          | zero => exact ⟨rfl, trivial⟩
          | succ n ih => exact .inl ih
        exact .inr ⟨a, b, _, _, rfl, rfl, .inl ⟨SqT.of k1, SqT.of k1'⟩, sm _ _, sm _ _, .inr ⟨w, w', _, _, rfl, rfl, .inr ⟨SqL.of k2, SqL.of k2'⟩, .inr ⟨v, v', _, _, rfl, rfl, .inl ⟨SqT.of k3, SqT.of k3'⟩, sm _ _, sm _ _, .inr ⟨e, e', _, _, rfl, rfl, .inr ⟨SqL.of k4, SqL.of k4'⟩, trivial⟩, trivial⟩, trivial⟩, trivial⟩
theorem TK.snoc {H : Hp} {l a w v e : Addr} {ts : List Tsk} {t : Tsk} (h : TK H l ts) (k1 : H a = some (.tup [.int t.1, .int t.2, .ref w])) (k2 : H w = some (.lst [.ref v])) (k3 : H v = some (.tup [.int 1, .int 2, .ref e])) (k4 : H e = some (.lst [])) (wl : w ≠ l) (el : e ≠ l) :
    ∃ xs, H l = some (.lst xs) ∧ xs.length = ts.length ∧ TK (upd H l (.lst (xs ++ [.ref a]))) l (ts ++ [t]) := by
  obtain ⟨as, h1, h2, h3⟩ := h.ex
  have keep : ∀ {b : Addr} {zs : List V} {o : HO}, H b = some (.tup zs) → (upd H l o) b = some (.tup zs) := fun {b zs o} hb => by
    rw [upd_ne (fun z => by subst z; rw [h2] at hb; cases hb)]
    exact hb
  have keepL : ∀ {b : Addr} {o q : HO}, b ≠ l → H b = some q → (upd H l o) b = some q := fun {b o q} hn hb => by
    rw [upd_ne hn]
    exact hb
  refine ⟨_, h2, by simp [h1], as ++ [a], by simp [h1], by rw [upd_same, List.map_append]; rfl, fun i b p e1 e2 => ?_⟩
  by_cases hi : i < as.length
  · rw [List.getElem?_append_left hi] at e1
    rw [List.getElem?_append_left (by omega)] at e2
    obtain ⟨w, v, e, j1, j2, j3, j4, j5, j6⟩ := h3 i b p e1 e2
    exact ⟨w, v, e, keep j1, keepL j5 j2, keep j3, keepL j6 j4, j5, j6⟩
  · have e3 : i = as.length := by
      have := (List.getElem?_eq_some_iff.mp e1).1
      simp at this
      omega
    subst e3
    rw [List.getElem?_append_right (by omega)] at e1
    rw [List.getElem?_append_right (by omega), h1] at e2
    simp at e1 e2
    subst e1
    subst e2
    exact ⟨w, v, e, keep k1, keepL wl k2, keep k3, keepL el k4, wl, el⟩
def lkD : Lnk := (Str.empty, 0, 0, 0)
def waited (ks : List Lnk) : List V := pickN ks.length (fun i => !decide (V.str (ks.getD i lkD).1 = V.str "apart")) (fun i => .int (ks.getD i lkD).2.2.1)
def plates (ks : List Lnk) (ts : List Tsk) : List V := pickN ts.length (fun i => !inV (.int (ts.getD i (0, 0)).1) (waited ks)) (fun i => .int (0 + (i : Int)))
def spAlikeI : Sp := fun vs H Q _ => ∃ i : Int, vs = [.int i, .int i] ∧ Q (.bl true) H
def spNever : Sp := fun _ _ _ _ => False
def spAlikeL : Sp := fun vs H Q _ => ∃ (l m : Addr) (xs : List Int), vs = [.ref l, .ref m] ∧ H l = some (.lst (xs.map V.int)) ∧ H m = some (.lst (xs.map V.int)) ∧ xs.length ≤ 1000 ∧ Q (.bl true) H
def spPlates (K : PySem.W.Frag) : Sp := fun vs H Q _ => ∃ (r C dx lk lt : Addr) (fs : List (Str × V)) (ks : List Lnk) (ts : List Tsk), vs = [.ref r, .ref lt] ∧ H r = some (.ins C dx fs) ∧ Cls K C ∧ NoAttr K C "links" ∧ fs.lookup ("links" : Str) = some (.ref lk) ∧ LK H lk ks ∧ TK H lt ts ∧ ks.length ≤ 1000 ∧ ts.length ≤ 1000 ∧
  ∀ (l : Addr) (H' : Hp), H l = none → Same H H' → H' l = some (.lst (plates ks ts)) → Q (.ref l) H'
def spDueP : Sp := fun vs H Q _ => ∃ (lk lt : Addr) (ks : List Lnk) (ts : List Tsk), vs = [.ref lk, .ref lt] ∧ LK H lk ks ∧ TK H lt ts ∧ ks.length ≤ 1000 ∧ ts.length ≤ 1000 ∧
  ∀ (l : Addr) (H' : Hp), H l = none → Same H H' → H' l = some (.lst (plates ks ts)) → Q (.ref l) H'
theorem plates_ints (ks : List Lnk) (ts : List Tsk) : ∃ xs : List Int, plates ks ts = xs.map V.int ∧ xs.length ≤ ts.length := by
  unfold plates pickN
  refine ⟨((List.range ts.length).filter (fun i => !inV (.int (ts.getD i (0, 0)).1) (waited ks))).map (fun i : Nat => 0 + (i : Int)), by rw [List.map_map]; rfl, ?_⟩
  rw [List.length_map]
  have := List.length_filter_le (fun i => !inV (.int (ts.getD i (0, 0)).1) (waited ks)) (List.range ts.length)
  rwa [List.length_range] at this
theorem waited_flat (ks : List Lnk) : (waited ks).all flatV = true := by
  unfold waited pickN
  rw [List.all_eq_true]
  intro x hx
  obtain ⟨i, _, rfl⟩ := List.mem_map.mp hx
  rfl
/-! ### recipes -/
def recF (nm p t s l : V) : List (Str × V) := putF "links" l (putF "steps" s (putF "takes" t (putF "plates" p (putF "name" nm []))))
theorem recF_links {nm p t s l : V} : (recF nm p t s l).lookup ("links" : Str) = some l := by
  unfold recF
  rw [lookup_putF, if_pos rfl]
structure RecC (K : PySem.W.Frag) (C : Addr) : Prop where
  cl : Cls K C
  name : NoAttr K C "name"
  plates : NoAttr K C "plates"
  takes : NoAttr K C "takes"
  steps : NoAttr K C "steps"
  links : NoAttr K C "links"
def spRecInit (K : PySem.W.Frag) : Sp := fun vs H Q _ => ∃ (a C dx lt ls lk : Addr) (nm p : V) (xt xs xk : List V), vs = [.ref a, nm, p, .ref lt, .ref ls, .ref lk] ∧ H a = some (.ins C dx []) ∧ RecC K C ∧ H lt = some (.lst xt) ∧ H ls = some (.lst xs) ∧ H lk = some (.lst xk) ∧
  ∀ (u : Addr) (t s : V) (H' : Hp), u ≠ a → Kept H H' a → H' u = some (.lst xk) → H' a = some (.ins C dx (recF nm p t s (.ref u))) → Q .non H'
def spCountsP (K : PySem.W.Frag) : Sp := fun vs H Q _ => ∃ (a : Addr) (ns : List Int), vs = [.ref a] ∧ SqL K H a (ns.map V.int) ∧ ns.length ≤ 63 ∧ ∀ (l : Addr) (H' : Hp) (cs : List Int), Same H H' → H' l = some (.lst (cs.map V.int)) → cs.length ≤ 8 → (∀ c ∈ cs, 1 ≤ c ∧ c ≤ 3) → Q (.ref l) H'
def spStepsP : Sp := fun vs H Q _ => ∃ (lc ln : Addr) (cs : List Int) (zs : List Str), vs = [.ref lc, .ref ln] ∧ H lc = some (.lst (cs.map V.int)) ∧ H ln = some (.lst (zs.map V.str)) ∧ cs.length = zs.length ∧ cs.length ≤ 8 ∧ (∀ c ∈ cs, 1 ≤ c ∧ c ≤ 3) ∧
  ∀ (l : Addr) (H' : Hp) (xs : List V), Same H H' → H' l = some (.lst xs) → Q (.ref l) H'
def spLinksP (K : PySem.W.Frag) : Sp := fun vs H Q _ => ∃ (a : Addr) (ns : List Int) (m : Int), vs = [.ref a, .int m] ∧ SqL K H a (ns.map V.int) ∧ ns.length ≤ 63 ∧ 0 ≤ m ∧ m ≤ 8 ∧ ∀ (l : Addr) (H' : Hp) (ks : List Lnk), Same H H' → LK H' l ks → ks.length ≤ 100 → Q (.ref l) H'
def tasksP (cs : List Int) : Nat → List Tsk
  | 0 => []
  | i + 1 => tasksP cs i ++ (List.range (cs.getD i 0).toNat).map fun t : Nat => ((0 + (i : Int) : Int), (0 + (t : Int) : Int))
def spTasksP : Sp := fun vs H Q _ => ∃ (lc : Addr) (cs : List Int), vs = [.ref lc] ∧ H lc = some (.lst (cs.map V.int)) ∧ cs.length ≤ 8 ∧ (∀ c ∈ cs, 1 ≤ c ∧ c ≤ 3) ∧ ∀ (l : Addr) (H' : Hp), Same H H' → TK H' l (tasksP cs cs.length) → (tasksP cs cs.length).length ≤ 24 → Q (.ref l) H'
theorem tasksP_len {cs : List Int} (h : ∀ c ∈ cs, 1 ≤ c ∧ c ≤ 3) : ∀ i, (tasksP cs i).length ≤ 3 * i
  | 0 => by simp [tasksP]
  | i + 1 => by
    have ih := tasksP_len h i
    have : (cs.getD i 0).toNat ≤ 3 := by
      rw [List.getD_eq_getElem?_getD]
      cases e : cs[i]? with
      | none => simp
      | some c =>
        have := h c (List.mem_of_getElem? e)
        simp
        omega
    simp only [tasksP, List.length_append, List.length_map, List.length_range]
    omega
theorem ref_at {as : List Addr} {i : Nat} {x : V} (h : (as.map V.ref)[i]? = some x) : ∃ a, as[i]? = some a ∧ x = .ref a := by
  rw [List.getElem?_map] at h
  cases e : as[i]? with
  | none => rw [e] at h; cases h
  | some a => rw [e] at h; cases h; exact ⟨a, rfl, rfl⟩
theorem same_at {α : Type} {as : List Addr} {ks : List α} {d : α} {i : Nat} {a : Addr} (h : as.length = ks.length) (ha : as[i]? = some a) : ∃ k, ks[i]? = some k ∧ ks.getD i d = k := by
  have il := (List.getElem?_eq_some_iff.mp ha).1
  exact ⟨ks[i]'(by omega), List.getElem?_eq_getElem (by omega), by rw [List.getD_eq_getElem?_getD, List.getElem?_eq_getElem (by omega)]; rfl⟩
theorem compT_tup {K : PySem.W.Frag} {a : Addr} {xs : List V} {n : Nat} {g : TG} {js : List Nat} {te : TE} {σ : L2.St} {H1 : Hp} {Q : VK} (P : Nat → List V → Prop) (hS : SqL K H1 a xs) (hz : xs.length ≤ sizeLine)
    (step : ∀ (i : Nat) (x : V), xs[i]? = some x → ∀ H3, Same H1 H3 → ∀ o : L2.St, o.length = n → ∀ Q' : VK, (∀ (b : Addr) (zs : List V) (H4 : Hp), H4 b = some (.tup zs) → P i zs → Same H3 H4 → Q' (.ref b) H4) →
      g x (o ++ freesOf js σ) H3 fun σ4 H4 => (∃ o' : L2.St, o'.length = n ∧ σ4 = o' ++ freesOf js σ) ∧ te σ4 H4 Q')
    (fin : ∀ (p : Addr) (as : List Addr) (H' : Hp), H1 p = none → as.length = xs.length → (∀ (i : Nat) (b : Addr), as[i]? = some b → ∃ zs, H' b = some (.tup zs) ∧ P i zs) → Same H1 H' → H' p = some (.lst (as.map V.ref)) → Q (.ref p) H') :
    compRT n g js te σ Q (Itl K a) H1 := by
  intro p hp
  refine ⟨fun i m ys H2 => i ≤ xs.length ∧ m = xs.length - i ∧ ∃ as : List Addr, ys = as.map V.ref ∧ as.length = i ∧ (∀ (j : Nat) (b : Addr), as[j]? = some b → ∃ zs, H2 b = some (.tup zs) ∧ P j zs) ∧ Same H1 H2 ∧ H2 p = some (.lst ys), ⟨xs.length, Nat.zero_le _, rfl, [], rfl, rfl, fun j y e => by simp at e, same_new hp _, upd_same⟩, ?_⟩
  rintro i m ys H2 ⟨hi, rfl, as, rfl, hl, hP, g2, e⟩
  refine ⟨e, ?_⟩
  have S2 := g2.seq hS
  by_cases hin : i < xs.length
  · refine .inr ⟨⟨xs, xs[i], S2, List.getElem?_eq_getElem hin⟩, by rw [List.length_map]; omega, fun x H3 hy o ho => ?_⟩
    obtain ⟨rfl, hx⟩ := hy
    have ex := hx xs S2
    refine step i x ex H3 g2 o ho _ fun b zs H4 hb pb g4 => ⟨g4 _ _ e, xs.length - (i + 1), by omega, hin, rfl, as ++ [b], by simp, by simp [hl], fun j c hj => ?_, sUpd (g2.trans g4) hp _, upd_same⟩
    have kp : ∀ {c : Addr} {zs : List V} {o : HO}, H4 c = some (.tup zs) → (upd H4 p o) c = some (.tup zs) := fun {c zs o} hc => by
      rw [upd_ne (fun z => by subst z; rw [g4 _ _ e] at hc; cases hc)]
      exact hc
    by_cases hj' : j < as.length
    · rw [List.getElem?_append_left hj'] at hj
      obtain ⟨zs', h1, h2⟩ := hP j c hj
      exact ⟨zs', kp (g4 _ _ h1), h2⟩
    · have ej : j = i := by
        have := (List.getElem?_eq_some_iff.mp hj).1
        simp at this
        omega
      subst ej
      rw [List.getElem?_append_right (by omega), hl] at hj
      simp at hj
      subst hj
      exact ⟨zs, kp hb, pb⟩
  · have e2 : i = xs.length := by omega
    subst e2
    exact .inl ⟨⟨xs, S2, Nat.le_refl _⟩, fin p as H2 hp hl hP g2 e⟩
theorem made_keep {H : Hp} {x dx b : Addr} {o o1 o2 : HO} (nx : H x = none) (nd : H dx = none) (h : H b = some o) : (upd (upd H dx o1) x o2) b = some o := by
  rw [upd_ne (ne_of_none h nx), upd_ne (ne_of_none h nd)]
  exact h
def turnK (k : Lnk) : Lnk := (k.1, k.2.2.1, k.2.1, k.2.2.2)
theorem cut_none (xs : List V) : cutV xs (some 2) (some (2 + 24 * 0)) = [] := by
  unfold cutV HT.sIx
  simp
end Sw
set_option Elab.async false
set_option linter.all false
set_option maxRecDepth 100000
namespace Lk43
open PySem L2 Sw XH PyProof.Rows
def top (i : Nat) : Stmt := PySem.Challenge.pw_stovework_k43_plates.main.body.getD i (.Pass ⟨0, 0, 0, 0⟩)
def clsAt (s : Stmt) (i : Nat) : Stmt := match s with | .ClassDef _ _ _ body _ _ _ _ _ _ _ => body.getD i (.Pass ⟨0, 0, 0, 0⟩) | _ => s
abbrev sStep_init : Stmt := clsAt (top 4) 0
abbrev sWarm_init : Stmt := clsAt (top 6) 0
abbrev sRecipe_init : Stmt := clsAt (top 9) 0
abbrev splates_of : Stmt := top 2
abbrev s_law_cell_at : Stmt := top 11
abbrev s_law_names : Stmt := top 12
abbrev s_law_alike_vf : Stmt := top 13
abbrev s_law_alike_v0 : Stmt := top 13
abbrev s_law_alike : Stmt := top 13
abbrev s_law_counts : Stmt := top 14
abbrev s_law_steps : Stmt := top 15
abbrev s_law_links : Stmt := top 16
abbrev s_law_tasks : Stmt := top 17
abbrev s_law_due : Stmt := top 18
abbrev slaw : Stmt := top 19
structure Bn (K : PySem.W.Frag) (mg : Str → Option Value) (c_Cut c_Recipe c_Rest c_Step c_Warm f_Step_init f_Warm_init f_Recipe_init : Addr) : Prop where
  b_len : mg "len" = none
  b_isinstance : mg "isinstance" = none
  b_int : mg "int" = none
  b_bool : mg "bool" = none
  b_tuple : mg "tuple" = none
  b_str : mg "str" = none
  b_list : mg "list" = none
  b_range : mg "range" = none
  m_Cut : mg "Cut" = some (.ref c_Cut)
  m_Recipe : mg "Recipe" = some (.ref c_Recipe)
  m_Rest : mg "Rest" = some (.ref c_Rest)
  m_Step : mg "Step" = some (.ref c_Step)
  m_Warm : mg "Warm" = some (.ref c_Warm)
  cl_Step : Cls K c_Step
  mk_Step : Mk K c_Step f_Step_init
  cl_Cut : Cls K c_Cut
  mk_Cut : Mk K c_Cut f_Step_init
  cl_Warm : Cls K c_Warm
  mk_Warm : Mk K c_Warm f_Warm_init
  cl_Rest : Cls K c_Rest
  mk_Rest : Mk K c_Rest f_Step_init
  cl_Recipe : Cls K c_Recipe
  mk_Recipe : Mk K c_Recipe f_Recipe_init
  na_Step_name : NoAttr K c_Step "name"
  na_Step_least : NoAttr K c_Step "least"
  na_Step_most : NoAttr K c_Step "most"
  na_Step_uses : NoAttr K c_Step "uses"
  na_Step_second : NoAttr K c_Step "second"
  na_Cut_name : NoAttr K c_Cut "name"
  na_Cut_least : NoAttr K c_Cut "least"
  na_Cut_most : NoAttr K c_Cut "most"
  na_Cut_uses : NoAttr K c_Cut "uses"
  na_Cut_second : NoAttr K c_Cut "second"
  na_Rest_name : NoAttr K c_Rest "name"
  na_Rest_least : NoAttr K c_Rest "least"
  na_Rest_most : NoAttr K c_Rest "most"
  na_Rest_uses : NoAttr K c_Rest "uses"
  na_Rest_second : NoAttr K c_Rest "second"
  na_Warm_name : NoAttr K c_Warm "name"
  na_Warm_least : NoAttr K c_Warm "least"
  na_Warm_most : NoAttr K c_Warm "most"
  na_Warm_uses : NoAttr K c_Warm "uses"
  na_Warm_second : NoAttr K c_Warm "second"
  na_Warm_fill : NoAttr K c_Warm "fill"
  na_Recipe_name : NoAttr K c_Recipe "name"
  na_Recipe_plates : NoAttr K c_Recipe "plates"
  na_Recipe_takes : NoAttr K c_Recipe "takes"
  na_Recipe_steps : NoAttr K c_Recipe "steps"
  na_Recipe_links : NoAttr K c_Recipe "links"
  cm_Step___init__ : ClsM K c_Step "__init__" f_Step_init
section
variable {P : Program} {w : World} {K : PySem.W.Frag} {mg : Str → Option Value} {base : Heap} {f : Addr} {fd : FuncData} {c_Cut c_Recipe c_Rest c_Step c_Warm f_Step_init f_Warm_init f_Recipe_init : Addr}
theorem scStep_init : FnScope ["self", "name", "least", "most", "uses", "second"] ["self", "name", "least", "most", "uses", "second"] (defScope sStep_init) := ⟨rfl, rfl, rfl, by decide +kernel, rfl, by decide +kernel, by decide +kernel⟩
set_option maxHeartbeats 4000000 in
theorem okStep_init {dV : Value} (F : FunD K "__init__" "Step.__init__" sStep_init dV f fd) (B : Bn K mg c_Cut c_Recipe c_Rest c_Step c_Warm f_Step_init f_Warm_init f_Recipe_init)  : FnOk P w K mg base CX0 1 f fd ["self", "name", "least", "most", "uses", "second"] (spStepInit K) := by
  have sc := scStep_init
  refine F.ok sc (fun vs H Q E h => ?_) (fun cdv A outer s H vs Q E hr h => ?_)
  · obtain ⟨a, C, dx, nm, l, m, rfl, _⟩ := h
    rfl
  obtain ⟨a, C, dx, nm, l, m, rfl, e0, sc0, q⟩ := h
  refine ⟨_, (pss_cons (ps_fld (pv 0) (pv 1) rfl) (pss_cons (ps_fld (pv 0) (pv 2) rfl) (pss_cons (ps_fld (pv 0) (pv 3) rfl) (pss_cons (ps_fld (pv 0) (pe_ifExp (pt_cmpR op_isN (pv 4) pe_non (nomark _)) (pe_lst pa_nil) (pe_callTy call_list_of rfl B.b_list boot_list (pa_cons (pv 4) pa_nil))) rfl) (pss_one (ps_fld (pv 0) (pe_ifExp (pt_cmpR op_isN (pv 5) pe_non (nomark _)) pe_non (pe_tup (pa_cons (pe_ix ix_tup (pv 5) pe_int (fun _ _ => rfl)) (pa_cons (pe_ix ix_tup (pv 5) pe_int (fun _ _ => rfl)) (pa_cons (pe_callTy call_list_of rfl B.b_list boot_list (pa_cons (pe_ix ix_tup (pv 5) pe_int (fun _ _ => rfl)) pa_nil)) pa_nil))))) rfl)))))), ?_⟩
  refine ⟨_, rfl, _, rfl, a, C, dx, _, rfl, e0, sc0.cl, sc0.name, (by decide), ?_⟩
  refine ⟨_, rfl, _, rfl, a, C, dx, _, rfl, upd_same, sc0.cl, sc0.least, (by have := length_putF "name" nm []; simp at this; omega), ?_⟩
  refine ⟨_, rfl, _, rfl, a, C, dx, _, rfl, upd_same, sc0.cl, sc0.most, (by have := length_putF "name" nm []; have := length_putF "least" l (putF "name" nm []); simp at *; omega), ?_⟩
  have k0 := (((Kept.refl H a).put (.ins C dx (putF "name" nm []))).put (.ins C dx (putF "least" l (putF "name" nm [])))).put (.ins C dx (putF "most" m (putF "least" l (putF "name" nm []))))
  have ea : (upd (upd (upd H a (.ins C dx (putF "name" nm []))) a (.ins C dx (putF "least" l (putF "name" nm [])))) a (.ins C dx (putF "most" m (putF "least" l (putF "name" nm []))))) a = some (.ins C dx (putF "most" m (putF "least" l (putF "name" nm [])))) := upd_same
  generalize upd (upd (upd H a (.ins C dx (putF "name" nm []))) a (.ins C dx (putF "least" l (putF "name" nm [])))) a (.ins C dx (putF "most" m (putF "least" l (putF "name" nm [])))) = H1 at k0 ea ⊢
  have l3 : (putF "most" m (putF "least" l (putF "name" nm []))).length ≤ 3 := by
    have h1 := length_putF "name" nm []
    have h2 := length_putF "least" l (putF "name" nm [])
    have h3 := length_putF "most" m (putF "least" l (putF "name" nm []))
    simp at h1
    omega
  refine ⟨_, rfl, rfl, _, rfl, dT rfl ⟨(by show 0 ≤ sizeLine; decide), fun u nu => ?_⟩⟩
  have ua : u ≠ a := fun z => by rw [z, ea] at nu; cases nu
  refine ⟨_, rfl, a, C, dx, _, rfl, (by rw [upd_ne (Ne.symm ua)]; exact ea), sc0.cl, sc0.uses, (by omega), ?_⟩
  refine ⟨_, rfl, rfl, _, rfl, dT rfl ⟨_, rfl, a, C, dx, _, rfl, upd_same, sc0.cl, sc0.second, (by have := length_putF "uses" (.ref u) (putF "most" m (putF "least" l (putF "name" nm []))); omega), ?_⟩⟩
  refine q u _ ua (((k0.new nu _).put _).put _) (by rw [upd_ne ua, upd_ne ua]; exact upd_same) upd_same

theorem scWarm_init : FnScope ["self", "name", "least", "most", "fill", "uses", "second"] ["self", "name", "least", "most", "fill", "uses", "second"] (defScope sWarm_init) := ⟨rfl, rfl, rfl, by decide +kernel, rfl, by decide +kernel, by decide +kernel⟩
set_option maxHeartbeats 4000000 in
theorem okWarm_init {dV : Value} (F : FunD K "__init__" "Warm.__init__" sWarm_init dV f fd) (B : Bn K mg c_Cut c_Recipe c_Rest c_Step c_Warm f_Step_init f_Warm_init f_Recipe_init) (DStep_init : DxM P w K mg base CX0 1 f_Step_init ["self", "name", "least", "most", "uses", "second"] [.non, .non] (spStepInit K)) : FnOk P w K mg base CX0 2 f fd ["self", "name", "least", "most", "fill", "uses", "second"] (spWarmInit K) := by
  have sc := scWarm_init
  refine F.ok sc (fun vs H Q E h => ?_) (fun cdv A outer s H vs Q E hr h => ?_)
  · obtain ⟨a, C, dx, nm, l, m, fl, rfl, _⟩ := h
    rfl
  obtain ⟨a, C, dx, nm, l, m, fl, rfl, e0, sc0, nf, q⟩ := h
  refine ⟨_, (pss_cons (ps_expr (pclsm B.cm_Step___init__ DStep_init hr (by decide) rfl B.m_Step (pa_cons (pv 0) (pa_cons (pv 1) (pa_cons (pv 2) (pa_cons (pv 3) (pa_cons (pv 5) (pa_cons (pv 6) pa_nil)))))))) (pss_one (ps_fld (pv 0) (pv 4) rfl))), ?_⟩
  refine ⟨_, rfl, _, rfl, _, rfl, _, rfl, _, rfl, _, rfl, a, C, dx, nm, l, m, rfl, e0, sc0, fun u H1 ua k1 eu ea => ?_⟩
  exact ⟨_, rfl, _, rfl, a, C, dx, _, rfl, ea, sc0.cl, nf, (by have := stepF_len (nm := nm) (l := l) (m := m) (u := .ref u) (s := .non); omega), q u _ ua (k1.put _) (by rw [upd_ne ua]; exact eu) upd_same⟩

theorem scRecipe_init : FnScope ["self", "name", "plates", "takes", "steps", "links"] ["self", "name", "plates", "takes", "steps", "links"] (defScope sRecipe_init) := ⟨rfl, rfl, rfl, by decide +kernel, rfl, by decide +kernel, by decide +kernel⟩
set_option maxHeartbeats 4000000 in
theorem okRecipe_init {dV : Value} (F : FunD K "__init__" "Recipe.__init__" sRecipe_init dV f fd) (B : Bn K mg c_Cut c_Recipe c_Rest c_Step c_Warm f_Step_init f_Warm_init f_Recipe_init)  : FnOk P w K mg base CX0 1 f fd ["self", "name", "plates", "takes", "steps", "links"] (spRecInit K) := by
  have sc := scRecipe_init
  refine F.ok sc (fun vs H Q E h => ?_) (fun cdv A outer s H vs Q E hr h => ?_)
  · obtain ⟨a, C, dx, lt, ls, lk, nm, p, xt, xs, xk, rfl, _⟩ := h
    rfl
  obtain ⟨a, C, dx, lt, ls, lk, nm, p, xt, xs, xk, rfl, e0, sc0, et, es, ek, q⟩ := h
  refine ⟨_, (pss_cons (ps_fld (pv 0) (pv 1) rfl) (pss_cons (ps_fld (pv 0) (pv 2) rfl) (pss_cons (ps_fld (pv 0) (pe_callTy call_list_of rfl B.b_list boot_list (pa_cons (pv 3) pa_nil)) rfl) (pss_cons (ps_fld (pv 0) (pe_callTy call_list_of rfl B.b_list boot_list (pa_cons (pv 4) pa_nil)) rfl) (pss_one (ps_fld (pv 0) (pe_callTy call_list_of rfl B.b_list boot_list (pa_cons (pv 5) pa_nil)) rfl)))))), ?_⟩
  have ne : ∀ {b : Addr} {zs : List V}, H b = some (.lst zs) → b ≠ a := fun hb z => by subst z; rw [e0] at hb; cases hb
  refine ⟨_, rfl, _, rfl, a, C, dx, _, rfl, e0, sc0.cl, sc0.name, (by decide), ?_⟩
  refine ⟨_, rfl, _, rfl, a, C, dx, _, rfl, upd_same, sc0.cl, sc0.plates, (by have := length_putF "name" nm []; simp at this; omega), ?_⟩
  have k0 := ((Kept.refl H a).put (.ins C dx (putF "name" nm []))).put (.ins C dx (putF "plates" p (putF "name" nm [])))
  have ea : (upd (upd H a (.ins C dx (putF "name" nm []))) a (.ins C dx (putF "plates" p (putF "name" nm [])))) a = some (.ins C dx (putF "plates" p (putF "name" nm []))) := upd_same
  generalize upd (upd H a (.ins C dx (putF "name" nm []))) a (.ins C dx (putF "plates" p (putF "name" nm []))) = H1 at k0 ea ⊢
  have l2 : (putF "plates" p (putF "name" nm [])).length ≤ 2 := by
    have h1 := length_putF "name" nm []
    have h2 := length_putF "plates" p (putF "name" nm [])
    simp at h1
    omega
  obtain ⟨f2, ef2⟩ : ∃ f2, f2 = putF "plates" p (putF "name" nm []) := ⟨_, rfl⟩
  rw [← ef2] at ea l2
  have et1 := k0 _ _ et (ne et)
  refine ⟨_, rfl, lt, xt, rfl, .inl (SqL.of et1), fun la na => ?_⟩
  have laa : la ≠ a := fun z => by rw [z, ea] at na; cases na
  refine ⟨_, rfl, a, C, dx, _, rfl, (by rw [upd_ne (Ne.symm laa)]; exact ea), sc0.cl, sc0.takes, (by omega), ?_⟩
  have k1 := (k0.new na (.lst xt)).put (.ins C dx (putF "takes" (.ref la) f2))
  have ea1 : (upd (upd H1 la (.lst xt)) a (.ins C dx (putF "takes" (.ref la) f2))) a = some (.ins C dx (putF "takes" (.ref la) f2)) := upd_same
  generalize upd (upd H1 la (.lst xt)) a (.ins C dx (putF "takes" (.ref la) f2)) = H2 at k1 ea1 ⊢
  have l3 := length_putF "takes" (.ref la) f2
  obtain ⟨f3, ef3⟩ : ∃ f3, f3 = putF "takes" (.ref la) f2 := ⟨_, rfl⟩
  rw [← ef3] at ea1 l3
  have es1 := k1 _ _ es (ne es)
  refine ⟨_, rfl, ls, xs, rfl, .inl (SqL.of es1), fun lb nb => ?_⟩
  have lba : lb ≠ a := fun z => by rw [z, ea1] at nb; cases nb
  refine ⟨_, rfl, a, C, dx, _, rfl, (by rw [upd_ne (Ne.symm lba)]; exact ea1), sc0.cl, sc0.steps, (by omega), ?_⟩
  have k2 := (k1.new nb (.lst xs)).put (.ins C dx (putF "steps" (.ref lb) f3))
  have ea2 : (upd (upd H2 lb (.lst xs)) a (.ins C dx (putF "steps" (.ref lb) f3))) a = some (.ins C dx (putF "steps" (.ref lb) f3)) := upd_same
  generalize upd (upd H2 lb (.lst xs)) a (.ins C dx (putF "steps" (.ref lb) f3)) = H3 at k2 ea2 ⊢
  have l4 := length_putF "steps" (.ref lb) f3
  obtain ⟨f4, ef4⟩ : ∃ f4, f4 = putF "steps" (.ref lb) f3 := ⟨_, rfl⟩
  rw [← ef4] at ea2 l4
  have ek1 := k2 _ _ ek (ne ek)
  refine ⟨_, rfl, lk, xk, rfl, .inl (SqL.of ek1), fun lc nc => ?_⟩
  have lca : lc ≠ a := fun z => by rw [z, ea2] at nc; cases nc
  refine ⟨_, rfl, a, C, dx, _, rfl, (by rw [upd_ne (Ne.symm lca)]; exact ea2), sc0.cl, sc0.links, (by omega), ?_⟩
  refine q lc (.ref la) (.ref lb) _ lca ((k2.new nc (.lst xk)).put _) (by rw [upd_ne lca]; exact upd_same) ?_
  rw [upd_same, ef4, ef3, ef2]
  rfl

theorem scplates_of : FnScope ["recipe", "tasks", "waited_for"] ["recipe", "tasks"] (defScope splates_of) := ⟨rfl, rfl, rfl, by decide +kernel, rfl, by decide +kernel, by decide +kernel⟩
set_option maxHeartbeats 4000000 in
theorem okplates_of {dV : Value} (F : FunD K "plates_of" "plates_of" splates_of dV f fd) (B : Bn K mg c_Cut c_Recipe c_Rest c_Step c_Warm f_Step_init f_Warm_init f_Recipe_init)  : FnOk P w K mg base CX0 1 f fd ["recipe", "tasks"] (spPlates K) := by
  have sc := scplates_of
  refine F.ok sc (fun vs H Q E h => ?_) (fun cdv A outer s H vs Q E hr h => ?_)
  · obtain ⟨r, C, dx, lk, lt, fs, ks, ts, rfl, _⟩ := h
    rfl
  obtain ⟨r, C, dx, lk, lt, fs, ks, ts, rfl, er, cl, na, lu, hk, ht, kl, tl, q⟩ := h
  have s4 : (5000 : Nat) ≤ sizeLine := by decide
  refine ⟨_, (pss_cons (ps_set (i := 2) sc.nd rfl (Or.inr rfl) (pe_compIf (own := "link") (ys := []) (js := []) rfl (cok atn .nil (by decide) rfl rfl rfl rfl rfl rfl rfl rfl) (pi_list (pe_fld (pv 0) rfl)) (fun C fp s H => (pt_cmpR op_ne (pe_ix (ix_tupK (K := K) rfl) (pv 0) pe_int (fun _ _ => rfl)) pe_str (nomark _))) (fun C fp s H => (pe_ix (ix_tupK (K := K) rfl) (pv 0) pe_int (fun _ _ => rfl))))) (pss_one (ps_ret (pe_compIf (own := "place") (ys := ["waited_for", "tasks"]) (js := [2, 1]) rfl (cok (atc (atc atn)) (.cons rfl (.cons rfl .nil)) (by decide) rfl rfl rfl rfl rfl rfl rfl rfl) (pi_range1 rfl B.b_range (pa_cons (pe_callB call_len_seq rfl B.b_len boot_len (pa_cons (pv 1) pa_nil)) pa_nil)) (fun C fp s H => (pt_cmpR (op_notInK (K := K) rfl) (pe_ix (ix_tupK (K := K) rfl) (pe_ix (ixKT (K := K) rfl) (pv 2) (pv 0) (fun _ _ => rfl)) pe_int (fun _ _ => rfl)) (pv 1) (by with_unfolding_all rfl))) (fun C fp s H => (pv 0)))))), ?_⟩
  obtain ⟨as, a1, a2, a3⟩ := hk.ex
  obtain ⟨bs, b1, b2, b3⟩ := ht.ex
  refine ⟨_, rfl, r, C, dx, fs, _, rfl, er, cl, na, lu, lk, rfl, ⟨_, SqL.of a2⟩, ?_⟩
  refine compIf_at (xs := as.map V.ref) (fun i => !decide (V.str (ks.getD i lkD).1 = V.str "apart")) (fun i => .int (ks.getD i lkD).2.2.1) (SqL.of a2) (by rw [List.length_map]; omega) (fun i x hx H2 g2 R hR => ?_) (fun i x hx H2 g2 Q' hQ => ?_) (fun p H1 np g1 e1 => ?_)
  · obtain ⟨a, ha, rfl⟩ := ref_at hx
    obtain ⟨k, hk', hd⟩ := same_at (d := lkD) a1 ha
    have et := g2 _ _ (a3 i a k ha hk')
    rw [hd] at hR
    exact ⟨_, rfl, a, _, _, _, rfl, rfl, SqT.of et, rfl, rfl, _, rfl, hR⟩
  · obtain ⟨a, ha, rfl⟩ := ref_at hx
    obtain ⟨k, hk', hd⟩ := same_at (d := lkD) a1 ha
    have et := g2 _ _ (a3 i a k ha hk')
    rw [hd] at hQ
    exact ⟨_, rfl, a, _, _, _, rfl, rfl, SqT.of et, rfl, hQ⟩
  have ew : H1 p = some (.lst (waited ks)) := by
    rw [e1, List.length_map, a1]
    rfl
  have e2 := g1 _ _ b2
  refine ⟨_, rfl, lt, _, rfl, .inl (SqL.of e2), _, rfl, (by omega), (by rw [List.length_map]; omega), ?_⟩
  refine compIf_rng (fun i => !inV (.int (ts.getD i (0, 0)).1) (waited ks)) (fun i => .int (0 + (i : Int))) (by rw [List.length_map]; omega) (fun i hi H2 g2 R hR => ?_) (fun i hi H2 g2 Q' hQ => ⟨_, rfl, hQ⟩) (fun p2 H2 np2 g2 e3 => ?_)
  · have hi' : i < bs.length := by rw [List.length_map] at hi; omega
    obtain ⟨t, ht', hd⟩ := same_at (d := ((0, 0) : Tsk)) b1 (List.getElem?_eq_getElem hi')
    obtain ⟨w, v, e, k1, _⟩ := b3 i _ t (List.getElem?_eq_getElem hi') ht'
    have at_ : atI (bs.map V.ref) (0 + (i : Int)) = some (.ref bs[i]) := by
      rw [Int.zero_add]
      exact atI_nat (by rw [List.getElem?_map, List.getElem?_eq_getElem hi']; rfl)
    rw [hd] at hR
    exact ⟨_, rfl, _, rfl, lt, _, _, _, rfl, rfl, SqL.of (g2 _ _ e2), at_, _, _, _, _, rfl, rfl, SqT.of (g2 _ _ (g1 _ _ k1)), rfl, _, rfl, p, _, rfl, .inl (SqL.of (g2 _ _ ew)), rfl, waited_flat ks, _, rfl, hR⟩
  · refine q p2 H2 (g1.free np2) (g1.trans g2) ?_
    rw [e3]
    unfold plates
    rw [Int.toNat_natCast, List.length_map, b1]

theorem sc_law_cell_at : FnScope ["_law_script", "_law_k"] ["_law_script", "_law_k"] (defScope s_law_cell_at) := ⟨rfl, rfl, rfl, by decide +kernel, rfl, by decide +kernel, by decide +kernel⟩
set_option maxHeartbeats 4000000 in
theorem ok_law_cell_at {dV : Value} (F : FunD K "_law_cell_at" "_law_cell_at" s_law_cell_at dV f fd) (B : Bn K mg c_Cut c_Recipe c_Rest c_Step c_Warm f_Step_init f_Warm_init f_Recipe_init)  : FnOk P w K mg base CX0 1 f fd ["_law_script", "_law_k"] (spCell K) := by
  have sc := sc_law_cell_at
  refine F.ok sc (fun vs H Q E h => ?_) (fun cdv A outer s H vs Q E hr h => ?_)
  · obtain ⟨a, ns, k, rfl, _⟩ := h
    rfl
  obtain ⟨a, ns, k, rfl, hS, h0, q⟩ := h
  refine ⟨_, (pss_cons (ps_if (pt_cmpR op_lt (pv 1) (pe_callB call_len_seq rfl B.b_len boot_len (pa_cons (pv 0) pa_nil)) (nomark _)) (pss_one (ps_ret (pe_ix ix_list (pv 0) (pv 1) (fun _ _ => rfl)))) pss_nil) (pss_one (ps_ret pe_int))), ?_⟩
  refine ⟨_, rfl, _, rfl, a, _, rfl, .inl hS, _, _, rfl, rfl, _, rfl, d2 (fun c => ?_) (fun c => ?_)⟩
  · obtain ⟨v, hv⟩ := cell_ok h0 c
    exact ⟨_, rfl, _, rfl, a, _, _, _, rfl, rfl, hS, hv, q v⟩
  · exact q 0

theorem sc_law_names : FnScope ["_law_number", "_law_many", "_law_cell", "_law_letters", "_law_base", "_law_k", "_law_at", "_law_size", "_law_step", "_law_core", "_law_names_here", "_law_sign"] ["_law_number", "_law_many"] (defScope s_law_names) := ⟨rfl, rfl, rfl, by decide +kernel, rfl, by decide +kernel, by decide +kernel⟩
set_option maxHeartbeats 4000000 in
theorem ok_law_names {dV : Value} (F : FunD K "_law_names" "_law_names" s_law_names dV f fd) (B : Bn K mg c_Cut c_Recipe c_Rest c_Step c_Warm f_Step_init f_Warm_init f_Recipe_init)  : FnOk P w K mg base CX0 1 f fd ["_law_number", "_law_many"] spNames0 := by
  have sc := sc_law_names
  refine F.ok sc (fun vs H Q E h => ?_) (fun cdv A outer s H vs Q E hr h => ?_)
  · obtain ⟨n, m, rfl, _⟩ := h
    rfl
  obtain ⟨nb, many, rfl, m0, m1, q⟩ := h
  refine ⟨_, (pss_cons (ps_set (i := 2) sc.nd rfl (Or.inl rfl) (pe_op op_modN (pv 0) pe_int)) (pss_cons (ps_set (i := 3) sc.nd rfl (Or.inl rfl) pe_str) (pss_cons (ps_set (i := 4) sc.nd rfl (Or.inl rfl) pe_str) (pss_cons (ps_for PassesOwn.never rfl (pi_range1 rfl B.b_range (pa_cons pe_int pa_nil)) (pg_name (i := 5) sc.nd rfl (Or.inl rfl)) (pss_one (ps_set (i := 4) sc.nd rfl (Or.inl rfl) (pe_op op_add_str (pv 4) (pe_ix ix_str (pv 3) (pe_op op_modN (pe_op op_modN (pe_op op_mulB (pe_op op_add (pv 2) pe_int) (pe_op op_add (pe_op op_add (pe_op op_mulB (pv 5) (pv 5)) (pe_op op_mulB pe_int (pv 5))) pe_int)) pe_int) pe_int) (fun _ _ => rfl)))))) (pss_cons (ps_set (i := 6) sc.nd rfl (Or.inl rfl) (pe_op op_modN (pe_op op_fdivB (pv 2) pe_int) pe_int)) (pss_cons (ps_set (i := 7) sc.nd rfl (Or.inl rfl) (pe_op op_modN (pe_op op_fdivB (pv 2) pe_int) pe_int)) (pss_cons (ps_set (i := 8) sc.nd rfl (Or.inl rfl) (pe_ix ix_list (pe_lst (pa_cons pe_int (pa_cons pe_int (pa_cons pe_int (pa_cons pe_int (pa_cons pe_int (pa_cons pe_int (pa_cons pe_int (pa_cons pe_int pa_nil))))))))) (pe_op op_modN (pe_op op_fdivB (pv 2) pe_int) pe_int) (fun _ _ => rfl))) (pss_cons (ps_set (i := 9) sc.nd rfl (Or.inl rfl) (pe_slice sl_str (pv 4) po_none (po_some (pv 7)))) (pss_cons (ps_set (i := 10) sc.nd rfl (Or.inl rfl) (pe_lst pa_nil)) (pss_cons (ps_for PassesOwn.never rfl (pi_range1 rfl B.b_range (pa_cons (pv 1) pa_nil)) (pg_name (i := 5) sc.nd rfl (Or.inl rfl)) (pss_cons (ps_set (i := 11) sc.nd rfl (Or.inl rfl) (pe_ix ix_str (pv 3) (pe_op op_modN (pe_op op_add (pe_op op_fdivB (pv 2) pe_int) (pe_op op_mulB (pv 5) (pv 8))) pe_int) (fun _ _ => rfl))) (pss_one (ps_if (pt_cmpR op_gt (pv 1) pe_int (nomark _)) (pss_one (ps_expr (pe_bm PySem.F.plainAttrs_list PySem.F.slot_list_append PySem.F.type_list_append mt_append (pv 10) (pa_cons (pe_op op_add_str (pe_op op_add_str (pe_op op_add_str (pe_slice sl_str (pv 9) po_none (po_some (pv 6))) (pe_ix ix_str (pv 3) (pe_op op_fdivB (pv 5) pe_int) (fun _ _ => rfl))) (pv 11)) (pe_slice sl_str (pv 9) (po_some (pv 6)) po_none)) pa_nil)))) (pss_one (ps_if (PW.pt (pw_and (pt_cmpR op_eq (pe_op op_modN (pv 2) pe_int) pe_int (nomark _)) (pw_and1 (pt_cmpR op_le (pv 1) pe_int (nomark _))))) (pss_one (ps_expr (pe_bm PySem.F.plainAttrs_list PySem.F.slot_list_append PySem.F.type_list_append mt_append (pv 10) (pa_cons (pe_slice sl_str (pv 4) po_none (po_some (pe_op op_add (pv 5) pe_int))) pa_nil)))) (pss_one (ps_if (pt_cmpR op_eq (pe_op op_modN (pv 2) pe_int) pe_int (nomark _)) (pss_one (ps_expr (pe_bm PySem.F.plainAttrs_list PySem.F.slot_list_append PySem.F.type_list_append mt_append (pv 10) (pa_cons (pe_op op_add_str (pe_slice sl_str (pv 4) po_none (po_some (pe_op op_modN (pv 5) pe_int))) (pv 11)) pa_nil)))) (pss_one (ps_expr (pe_bm PySem.F.plainAttrs_list PySem.F.slot_list_append PySem.F.type_list_append mt_append (pv 10) (pa_cons (pe_op op_add_str (pe_op op_add_str (pe_slice sl_str (pv 9) po_none (po_some (pv 6))) (pv 11)) (pe_slice sl_str (pv 9) (po_some (pv 6)) po_none)) pa_nil)))))))))))) (pss_one (ps_ret (pv 10))))))))))))), ?_⟩
  refine ⟨_, rfl, _, _, rfl, rfl, (by show (1000003 : Int) ≠ 0; decide), ?_⟩
  have c0 := Int.fmod_nonneg_of_pos nb (show (0 : Int) < 1000003 by decide)
  have c1 := Int.fmod_lt_of_pos nb (show (0 : Int) < 1000003 by decide)
  have s9 : (9000 : Nat) ≤ sizeLine := by decide
  have one : ∀ c : Nat, (⟨#[c]⟩ : Str).length = 1 := fun _ => rfl
  have sm : ∀ (x : Int), 0 ≤ x → x < 2 ^ 30 → Bd 30 x := fun x h0 h1 => by unfold Bd; omega
  have bd3 : Bd 30 (3 : Int) := by unfold Bd; decide
  try dsimp only [gName, tNext]
  refine cut (fun σ H' => H = H' ∧ ∃ c : Int, 0 ≤ c ∧ c < 1000003 ∧ σ = [some (.int nb), some (.int many), some (.int c), some (.str lettT), none, none, none, none, none, none, none, none]) (fun N hN => hN _ _ ⟨rfl, _, c0, c1, rfl⟩) ?_
  clear c0 c1
  rintro σ _ ⟨rfl, c, c0, c1, rfl⟩
  refine cut (fun σ H' => H = H' ∧ σ = [some (.int nb), some (.int many), some (.int c), some (.str lettT), some (.str ""), none, none, none, none, none, none, none]) (fun N hN => hN _ _ ⟨rfl, rfl⟩) ?_
  rintro σ _ ⟨rfl, rfl⟩
  refine cut (fun σ H' => H = H' ∧ ∃ (b : Str) (o5 : Option V), σ = [some (.int nb), some (.int many), some (.int c), some (.str lettT), some (.str b), o5, none, none, none, none, none, none] ∧ b.length ≤ 12) (fun N hN => ?_) ?_
  · refine ⟨_, rfl, (by decide), (by decide), for_range (fun i σ H' => H = H' ∧ ∃ (b : Str) (o5 : Option V), σ = [some (.int nb), some (.int many), some (.int c), some (.str lettT), some (.str b), o5, none, none, none, none, none, none] ∧ b.length = i) ⟨rfl, _, none, rfl, rfl⟩ (fun i σ H' hi hP => ?_) (fun σ H' hP => ?_)⟩
    · obtain ⟨rfl, b, o5, rfl, hb⟩ := hP
      have hi' : i < 12 := hi
      have bk : Bd 30 (0 + (i : Int)) := sm _ (by omega) (by omega)
      have b1 : Bd 60 ((0 + (i : Int)) * (0 + (i : Int))) := bk.mul bk
      have b2 : Bd 60 (3 * (0 + (i : Int))) := bd3.mul bk
      have b3 : Bd 62 ((0 + (i : Int)) * (0 + (i : Int)) + 3 * (0 + (i : Int)) + 7) := (b1.add b2).add ((show Bd 61 (7 : Int) by unfold Bd; decide))
      have i0 := Int.fmod_nonneg_of_pos (((c + 1) * ((0 + (i : Int)) * (0 + (i : Int)) + 3 * (0 + (i : Int)) + 7)).fmod 1013) (show (0 : Int) < 26 by decide)
      have i1 := Int.fmod_lt_of_pos (((c + 1) * ((0 + (i : Int)) * (0 + (i : Int)) + 3 * (0 + (i : Int)) + 7)).fmod 1013) (show (0 : Int) < 26 by decide)
      obtain ⟨ch, hch⟩ := lett_at i0 i1
      refine ⟨_, rfl, _, rfl, _, rfl, _, _, rfl, rfl, _, rfl, _, rfl, _, _, rfl, rfl, bk.ok bk, _, rfl, _, _, rfl, rfl, bd3.ok bk, _, _, rfl, rfl, _, _, rfl, rfl, _, _, rfl, rfl, (sm (c + 1) (by omega) (by omega)).ok b3, _, _, rfl, rfl, (by show (1013 : Int) ≠ 0; decide), _, _, rfl, rfl, (by show (26 : Int) ≠ 0; decide), lettT, _, ch, rfl, rfl, (by decide), hch, _, _, rfl, rfl, ?_, ?_⟩
      · rw [one]; omega
      · exact ⟨rfl, _, _, rfl, by rw [Str.length_append, one, hb]⟩
    · obtain ⟨rfl, b, o5, rfl, hb⟩ := hP
      exact hN _ _ ⟨rfl, b, o5, rfl, by rw [hb]; exact Nat.le_refl _⟩
  rintro σ _ ⟨rfl, b, o5, rfl, hb⟩
  have hz : b.length ≤ sizeLine := by omega
  have a0 := Int.fmod_nonneg_of_pos (c.fdiv 3) (show (0 : Int) < 11 by decide)
  have z0 := Int.fmod_nonneg_of_pos (c.fdiv 40) (show (0 : Int) < 11 by decide)
  have t0 := Int.fmod_nonneg_of_pos (c.fdiv 500) (show (0 : Int) < 8 by decide)
  have t1 := Int.fmod_lt_of_pos (c.fdiv 500) (show (0 : Int) < 8 by decide)
  refine ⟨_, rfl, _, _, rfl, rfl, ⟨by show (3 : Int) ≠ 0; decide, PyProof.noPylong_small (by decide)⟩, _, _, rfl, rfl, (by show (11 : Int) ≠ 0; decide), ?_⟩
  refine ⟨_, rfl, _, _, rfl, rfl, ⟨by show (40 : Int) ≠ 0; decide, PyProof.noPylong_small (by decide)⟩, _, _, rfl, rfl, (by show (11 : Int) ≠ 0; decide), ?_⟩
  refine ⟨(by show 8 ≤ sizeLine; decide), fun ls ns => ?_⟩
  have g1 := same_new ns (.lst [.int 1, .int 3, .int 5, .int 7, .int 9, .int 11, .int 15, .int 17])
  obtain ⟨v, hv, ev⟩ := atI_in (xs := [V.int 1, V.int 3, V.int 5, V.int 7, V.int 9, V.int 11, V.int 15, V.int 17]) t0 (by show (c.fdiv 500).fmod 8 < ((8 : Nat) : Int); exact t1)
  obtain ⟨st, rfl, st0, st1⟩ : ∃ y : Int, v = .int y ∧ 0 ≤ y ∧ y < 20 := by
    simp at hv
    rcases hv with rfl | rfl | rfl | rfl | rfl | rfl | rfl | rfl
    all_goals exact ⟨_, rfl, by decide, by decide⟩
  refine ⟨_, rfl, _, _, rfl, rfl, ⟨by show (500 : Int) ≠ 0; decide, PyProof.noPylong_small (by decide)⟩, _, _, rfl, rfl, (by show (8 : Int) ≠ 0; decide), ls, _, _, _, rfl, rfl, SqL.of upd_same, ev, ?_⟩
  refine ⟨_, rfl, _, rfl, _, rfl, b, rfl, hz, ?_⟩
  have hc : (cutS b none (some ((c.fdiv 40).fmod 11))).length ≤ 12 := Nat.le_trans (cutS_length _ _ _) hb
  refine ⟨(by show 0 ≤ sizeLine; decide), fun lp np => ?_⟩
  generalize cutS b none (some ((c.fdiv 40).fmod 11)) = core at *
  have cz : core.length ≤ sizeLine := by omega
  have g2 := g1.trans (same_new np (.lst []))
  have cl : ∀ lo hi, (cutS core lo hi).length ≤ 12 := fun lo hi => Nat.le_trans (cutS_length _ _ _) hc
  have bl : ∀ lo hi, (cutS b lo hi).length ≤ 12 := fun lo hi => Nat.le_trans (cutS_length _ _ _) hb
  try dsimp only [gName, tNext]
  refine cut (fun σ H' => Same H H' ∧ ∃ (zs : List Str) (o5 o11 : Option V), σ = [some (.int nb), some (.int many), some (.int c), some (.str lettT), some (.str b), o5, some (.int ((c.fdiv 3).fmod 11)), some (.int ((c.fdiv 40).fmod 11)), some (.int st), some (.str core), some (.ref lp), o11] ∧ (zs.length : Int) = many ∧ H' lp = some (.lst (zs.map V.str))) (fun N hN => ?_) ?_
  · refine ⟨_, rfl, _, rfl, (by omega), (by omega), for_range (fun i σ H' => Same H H' ∧ ∃ (zs : List Str) (o5 o11 : Option V), σ = [some (.int nb), some (.int many), some (.int c), some (.str lettT), some (.str b), o5, some (.int ((c.fdiv 3).fmod 11)), some (.int ((c.fdiv 40).fmod 11)), some (.int st), some (.str core), some (.ref lp), o11] ∧ zs.length = i ∧ H' lp = some (.lst (zs.map V.str))) ⟨g2, [], o5, none, rfl, rfl, upd_same⟩ (fun i σ H' hi hP => ?_) (fun σ H' hP => ?_)⟩
    · obtain ⟨g, zs, o5, o11, rfl, hl, e⟩ := hP
      have hi' : (i : Int) < many := by have : i < many.toNat := hi; omega
      have i0 := Int.fmod_nonneg_of_pos (c.fdiv 7 + (0 + (i : Int)) * st) (show (0 : Int) < 26 by decide)
      have i1 := Int.fmod_lt_of_pos (c.fdiv 7 + (0 + (i : Int)) * st) (show (0 : Int) < 26 by decide)
      obtain ⟨ch, hch⟩ := lett_at i0 i1
      have k0 : 0 ≤ (0 + (i : Int)).fdiv 26 := by rw [Int.fdiv_eq_ediv_of_nonneg _ (by decide)]; omega
      have k1 : (0 + (i : Int)).fdiv 26 < 26 := by rw [Int.fdiv_eq_ediv_of_nonneg _ (by decide)]; omega
      obtain ⟨ch2, hch2⟩ := lett_at k0 k1
      have app : ∀ (z : Str), Same H (upd H' lp (.lst (zs.map V.str ++ [.str z]))) ∧ upd H' lp (.lst (zs.map V.str ++ [.str z])) lp = some (.lst ((zs ++ [z]).map V.str)) := fun z => ⟨sUpd g (g1.free np) _, by rw [upd_same, List.map_append]; rfl⟩
      have lnp : (zs.map V.str).length < sizeLine := by rw [List.length_map, hl]; omega
      refine ⟨_, rfl, _, rfl, _, _, rfl, rfl, ⟨by show (7 : Int) ≠ 0; decide, PyProof.noPylong_small (by decide)⟩, _, rfl, _, rfl, _, _, rfl, rfl, (sm _ (by omega) (by omega)).ok (sm st (by omega) (by omega)), _, _, rfl, rfl, _, _, rfl, rfl, (by show (26 : Int) ≠ 0; decide), lettT, _, ch, rfl, rfl, (by decide), hch, ?_⟩
      refine ⟨_, rfl, _, _, rfl, rfl, _, rfl, d2 (fun _ => ?_) (fun _ => ?_)⟩
      · refine ⟨_, rfl, .inl ⟨rfl, _, SqL.of e⟩, _, rfl, _, rfl, _, rfl, core, rfl, cz, _, rfl, _, rfl, _, _, rfl, rfl, ⟨by show (26 : Int) ≠ 0; decide, PyProof.noPylong_small (by decide)⟩, lettT, _, ch2, rfl, rfl, (by decide), hch2, _, _, rfl, rfl, ?_, _, rfl, _, _, rfl, rfl, ?_, _, rfl, _, rfl, _, rfl, core, rfl, cz, _, _, rfl, rfl, ?_, lp, _, _, rfl, rfl, e, lnp, (app _).1, _, _, _, rfl, by rw [List.length_append, hl]; rfl, (app _).2⟩
        all_goals (simp only [Str.length_append, one]; have l1 := cl none (some ((c.fdiv 3).fmod 11)); have l2 := cl (some ((c.fdiv 3).fmod 11)) none; have l3 := bl none (some ((0 + (i : Int)).fmod 11)); omega)
      · refine ⟨_, rfl, _, _, rfl, rfl, (by show (3 : Int) ≠ 0; decide), rfl, _, rfl, d2I (fun _ => ⟨_, rfl, _, _, rfl, rfl, _, rfl, d2 (fun _ => ?_) (fun _ => ?_)⟩) (fun _ => ?_)⟩
        · exact ⟨_, rfl, .inl ⟨rfl, _, SqL.of e⟩, _, rfl, _, rfl, _, _, rfl, rfl, _, rfl, b, rfl, hz, lp, _, _, rfl, rfl, e, lnp, (app _).1, _, _, _, rfl, by rw [List.length_append, hl]; rfl, (app _).2⟩
        · refine ⟨_, rfl, _, _, rfl, rfl, (by show (3 : Int) ≠ 0; decide), rfl, _, rfl, d2I (fun _ => ?_) (fun _ => ?_)⟩
          · refine ⟨_, rfl, .inl ⟨rfl, _, SqL.of e⟩, _, rfl, _, rfl, _, _, rfl, rfl, (by show (11 : Int) ≠ 0; decide), _, rfl, b, rfl, hz, _, rfl, _, _, rfl, rfl, ?_, lp, _, _, rfl, rfl, e, lnp, (app _).1, _, _, _, rfl, by rw [List.length_append, hl]; rfl, (app _).2⟩
            (simp only [Str.length_append, one]; have l1 := cl none (some ((c.fdiv 3).fmod 11)); have l2 := cl (some ((c.fdiv 3).fmod 11)) none; have l3 := bl none (some ((0 + (i : Int)).fmod 11)); omega)
          · refine ⟨_, rfl, .inl ⟨rfl, _, SqL.of e⟩, _, rfl, _, rfl, _, rfl, core, rfl, cz, _, rfl, _, _, rfl, rfl, ?_, _, rfl, _, rfl, _, rfl, core, rfl, cz, _, _, rfl, rfl, ?_, lp, _, _, rfl, rfl, e, lnp, (app _).1, _, _, _, rfl, by rw [List.length_append, hl]; rfl, (app _).2⟩
            all_goals (simp only [Str.length_append, one]; have l1 := cl none (some ((c.fdiv 3).fmod 11)); have l2 := cl (some ((c.fdiv 3).fmod 11)) none; have l3 := bl none (some ((0 + (i : Int)).fmod 11)); omega)
        · refine ⟨_, rfl, _, _, rfl, rfl, (by show (3 : Int) ≠ 0; decide), rfl, _, rfl, d2I (fun _ => ?_) (fun _ => ?_)⟩
          · refine ⟨_, rfl, .inl ⟨rfl, _, SqL.of e⟩, _, rfl, _, rfl, _, _, rfl, rfl, (by show (11 : Int) ≠ 0; decide), _, rfl, b, rfl, hz, _, rfl, _, _, rfl, rfl, ?_, lp, _, _, rfl, rfl, e, lnp, (app _).1, _, _, _, rfl, by rw [List.length_append, hl]; rfl, (app _).2⟩
            (simp only [Str.length_append, one]; have l1 := cl none (some ((c.fdiv 3).fmod 11)); have l2 := cl (some ((c.fdiv 3).fmod 11)) none; have l3 := bl none (some ((0 + (i : Int)).fmod 11)); omega)
          · refine ⟨_, rfl, .inl ⟨rfl, _, SqL.of e⟩, _, rfl, _, rfl, _, rfl, core, rfl, cz, _, rfl, _, _, rfl, rfl, ?_, _, rfl, _, rfl, _, rfl, core, rfl, cz, _, _, rfl, rfl, ?_, lp, _, _, rfl, rfl, e, lnp, (app _).1, _, _, _, rfl, by rw [List.length_append, hl]; rfl, (app _).2⟩
            all_goals (simp only [Str.length_append, one]; have l1 := cl none (some ((c.fdiv 3).fmod 11)); have l2 := cl (some ((c.fdiv 3).fmod 11)) none; have l3 := bl none (some ((0 + (i : Int)).fmod 11)); omega)
    · obtain ⟨g, zs, o5, o11, rfl, hl, e⟩ := hP
      exact hN _ _ ⟨g, zs, o5, o11, rfl, by omega, e⟩
  rintro σ H1 ⟨g, zs, o5', o11, rfl, hl, e⟩
  exact ⟨_, rfl, q lp H1 zs g e hl⟩

theorem sc_law_alike_vf : FnScope ["_law_found", "_law_due_here", "_law_k"] ["_law_found", "_law_due_here"] (defScope s_law_alike_vf) := ⟨rfl, rfl, rfl, by decide +kernel, rfl, by decide +kernel, by decide +kernel⟩
set_option maxHeartbeats 4000000 in
theorem ok_law_alike_vf {dV : Value} (F : FunD K "_law_alike" "_law_alike" s_law_alike_vf dV f fd) (B : Bn K mg c_Cut c_Recipe c_Rest c_Step c_Warm f_Step_init f_Warm_init f_Recipe_init)  : FnOk P w K mg base CX0 1 f fd ["_law_found", "_law_due_here"] spNever := by
  have sc := sc_law_alike_vf
  exact ⟨fun _ _ _ _ h => h.elim, fun _ _ _ _ _ _ _ _ _ _ _ _ _ h => h.elim⟩

theorem sc_law_alike_v0 : FnScope ["_law_found", "_law_due_here", "_law_k"] ["_law_found", "_law_due_here"] (defScope s_law_alike_v0) := ⟨rfl, rfl, rfl, by decide +kernel, rfl, by decide +kernel, by decide +kernel⟩
set_option maxHeartbeats 4000000 in
theorem ok_law_alike_v0 {dV : Value} (F : FunD K "_law_alike" "_law_alike" s_law_alike_v0 dV f fd) (B : Bn K mg c_Cut c_Recipe c_Rest c_Step c_Warm f_Step_init f_Warm_init f_Recipe_init) (D_law_alike_vf : Dx P w K mg base CX0 1 "_law_alike" ["_law_found", "_law_due_here"] [] spNever) : FnOk P w K mg base CX0 2 f fd ["_law_found", "_law_due_here"] spAlikeI := by
  have sc := sc_law_alike_v0
  refine F.ok sc (fun vs H Q E h => ?_) (fun cdv A outer s H vs Q E hr h => ?_)
  · obtain ⟨i, rfl, _⟩ := h
    rfl
  obtain ⟨i, rfl, q⟩ := h
  refine ⟨_, (pss_cons (ps_if (pt_val (pe_callB (call_isiT (K := K) rfl) rfl B.b_isinstance boot_isinstance (pa_cons (pv 1) (pa_cons (pe_bltn (v := .ty "str") rfl B.b_str boot_str rfl) pa_nil)))) (pss_one (ps_ret (pe_and (pe_callB (call_isiT (K := K) rfl) rfl B.b_isinstance boot_isinstance (pa_cons (pv 0) (pa_cons (pe_bltn (v := .ty "str") rfl B.b_str boot_str rfl) pa_nil))) (pe_one (pe_cmpR op_eq (pv 0) (pv 1) (nomark _)))))) pss_nil) (pss_cons (ps_if (pt_val (pe_callB (call_isiT (K := K) rfl) rfl B.b_isinstance boot_isinstance (pa_cons (pv 1) (pa_cons (pe_bltn (v := .ty "int") rfl B.b_int boot_int rfl) pa_nil)))) (pss_one (ps_ret (pe_and (pe_callB (call_isiT (K := K) rfl) rfl B.b_isinstance boot_isinstance (pa_cons (pv 0) (pa_cons (pe_bltn (v := .ty "int") rfl B.b_int boot_int rfl) pa_nil))) (pe_and (pe_not (pe_callB (call_isiT (K := K) rfl) rfl B.b_isinstance boot_isinstance (pa_cons (pv 0) (pa_cons (pe_bltn (v := .ty "bool") rfl B.b_bool boot_bool rfl) pa_nil)))) (pe_one (pe_cmpR op_eq (pv 0) (pv 1) (nomark _))))))) pss_nil) (pss_cons (ps_if (pt_val (pe_callB (call_isiT (K := K) rfl) rfl B.b_isinstance boot_isinstance (pa_cons (pv 1) (pa_cons (pe_bltn (v := .ty "tuple") rfl B.b_tuple boot_tuple rfl) pa_nil)))) (pss_one (ps_if (pt_not (pt_val (pe_callB (call_isiT (K := K) rfl) rfl B.b_isinstance boot_isinstance (pa_cons (pv 0) (pa_cons (pe_bltn (v := .ty "tuple") rfl B.b_tuple boot_tuple rfl) pa_nil))))) (pss_one (ps_ret pe_bl)) pss_nil)) (pss_one (ps_if (pt_not (pt_val (pe_callB (call_isiT (K := K) rfl) rfl B.b_isinstance boot_isinstance (pa_cons (pv 0) (pa_cons (pe_bltn (v := .ty "list") rfl B.b_list boot_list rfl) pa_nil))))) (pss_one (ps_ret pe_bl)) pss_nil))) (pss_cons (ps_if (pt_cmpR op_ne (pe_callB call_len_seq rfl B.b_len boot_len (pa_cons (pv 0) pa_nil)) (pe_callB call_len_seq rfl B.b_len boot_len (pa_cons (pv 1) pa_nil)) (nomark _)) (pss_one (ps_ret pe_bl)) pss_nil) (pss_cons (ps_for PassesOwn.never rfl (pi_range1 rfl B.b_range (pa_cons (pe_callB call_len_seq rfl B.b_len boot_len (pa_cons (pv 1) pa_nil)) pa_nil)) (pg_name (i := 2) sc.nd rfl (Or.inl rfl)) (pss_one (ps_if (pt_not (pt_val (pcall0 D_law_alike_vf hr (by decide) rfl (pa_cons (pe_ix ix_list (pv 0) (pv 2) (fun _ _ => rfl)) (pa_cons (pe_ix ix_list (pv 1) (pv 2) (fun _ _ => rfl)) pa_nil))))) (pss_one (ps_ret pe_bl)) pss_nil))) (pss_one (ps_ret pe_bl))))))), ?_⟩
  refine ⟨_, rfl, _, _, _, false, rfl, .int _, rfl, _, rfl, iteF ?_⟩
  refine ⟨_, rfl, _, _, _, true, rfl, .int _, rfl, _, rfl, iteT ?_⟩
  exact ⟨_, rfl, _, _, _, true, rfl, .int _, rfl, _, rfl, iteT ⟨_, rfl, _, _, _, false, rfl, .int _, rfl, _, rfl, _, rfl, iteT ⟨_, rfl, _, rfl, rfl, dQt (Q := fun v => Q v _) q⟩⟩⟩

theorem sc_law_alike : FnScope ["_law_found", "_law_due_here", "_law_k"] ["_law_found", "_law_due_here"] (defScope s_law_alike) := ⟨rfl, rfl, rfl, by decide +kernel, rfl, by decide +kernel, by decide +kernel⟩
set_option maxHeartbeats 4000000 in
theorem ok_law_alike {dV : Value} (F : FunD K "_law_alike" "_law_alike" s_law_alike dV f fd) (B : Bn K mg c_Cut c_Recipe c_Rest c_Step c_Warm f_Step_init f_Warm_init f_Recipe_init) (D_law_alike_v0 : Dx P w K mg base CX0 2 "_law_alike" ["_law_found", "_law_due_here"] [] spAlikeI) : FnOk P w K mg base CX0 3 f fd ["_law_found", "_law_due_here"] spAlikeL := by
  have sc := sc_law_alike
  refine F.ok sc (fun vs H Q E h => ?_) (fun cdv A outer s H vs Q E hr h => ?_)
  · obtain ⟨l, m, xs, rfl, _⟩ := h
    rfl
  obtain ⟨l, m, xs, rfl, el, em, hx, q⟩ := h
  have s4 : (5000 : Nat) ≤ sizeLine := by decide
  refine ⟨_, (pss_cons (ps_if (pt_val (pe_callB (call_isiT (K := K) rfl) rfl B.b_isinstance boot_isinstance (pa_cons (pv 1) (pa_cons (pe_bltn (v := .ty "str") rfl B.b_str boot_str rfl) pa_nil)))) (pss_one (ps_ret (pe_and (pe_callB (call_isiT (K := K) rfl) rfl B.b_isinstance boot_isinstance (pa_cons (pv 0) (pa_cons (pe_bltn (v := .ty "str") rfl B.b_str boot_str rfl) pa_nil))) (pe_one (pe_cmpR op_eq (pv 0) (pv 1) (nomark _)))))) pss_nil) (pss_cons (ps_if (pt_val (pe_callB (call_isiT (K := K) rfl) rfl B.b_isinstance boot_isinstance (pa_cons (pv 1) (pa_cons (pe_bltn (v := .ty "int") rfl B.b_int boot_int rfl) pa_nil)))) (pss_one (ps_ret (pe_and (pe_callB (call_isiT (K := K) rfl) rfl B.b_isinstance boot_isinstance (pa_cons (pv 0) (pa_cons (pe_bltn (v := .ty "int") rfl B.b_int boot_int rfl) pa_nil))) (pe_and (pe_not (pe_callB (call_isiT (K := K) rfl) rfl B.b_isinstance boot_isinstance (pa_cons (pv 0) (pa_cons (pe_bltn (v := .ty "bool") rfl B.b_bool boot_bool rfl) pa_nil)))) (pe_one (pe_cmpR op_eq (pv 0) (pv 1) (nomark _))))))) pss_nil) (pss_cons (ps_if (pt_val (pe_callB (call_isiT (K := K) rfl) rfl B.b_isinstance boot_isinstance (pa_cons (pv 1) (pa_cons (pe_bltn (v := .ty "tuple") rfl B.b_tuple boot_tuple rfl) pa_nil)))) (pss_one (ps_if (pt_not (pt_val (pe_callB (call_isiT (K := K) rfl) rfl B.b_isinstance boot_isinstance (pa_cons (pv 0) (pa_cons (pe_bltn (v := .ty "tuple") rfl B.b_tuple boot_tuple rfl) pa_nil))))) (pss_one (ps_ret pe_bl)) pss_nil)) (pss_one (ps_if (pt_not (pt_val (pe_callB (call_isiT (K := K) rfl) rfl B.b_isinstance boot_isinstance (pa_cons (pv 0) (pa_cons (pe_bltn (v := .ty "list") rfl B.b_list boot_list rfl) pa_nil))))) (pss_one (ps_ret pe_bl)) pss_nil))) (pss_cons (ps_if (pt_cmpR op_ne (pe_callB call_len_seq rfl B.b_len boot_len (pa_cons (pv 0) pa_nil)) (pe_callB call_len_seq rfl B.b_len boot_len (pa_cons (pv 1) pa_nil)) (nomark _)) (pss_one (ps_ret pe_bl)) pss_nil) (pss_cons (ps_for PassesOwn.never rfl (pi_range1 rfl B.b_range (pa_cons (pe_callB call_len_seq rfl B.b_len boot_len (pa_cons (pv 1) pa_nil)) pa_nil)) (pg_name (i := 2) sc.nd rfl (Or.inl rfl)) (pss_one (ps_if (pt_not (pt_val (pcall0 D_law_alike_v0 hr (by decide) rfl (pa_cons (pe_ix ix_list (pv 0) (pv 2) (fun _ _ => rfl)) (pa_cons (pe_ix ix_list (pv 1) (pv 2) (fun _ _ => rfl)) pa_nil))))) (pss_one (ps_ret pe_bl)) pss_nil))) (pss_one (ps_ret pe_bl))))))), ?_⟩
  refine ⟨_, rfl, _, _, _, false, rfl, .lst em, rfl, _, rfl, iteF ?_⟩
  refine ⟨_, rfl, _, _, _, false, rfl, .lst em, rfl, _, rfl, iteF ?_⟩
  try dsimp only [gName, tNext]
  refine cut (fun σ H' => H = H' ∧ σ = [some (.ref l), some (.ref m), none]) (fun N hN => ?_) ?_
  · exact ⟨_, rfl, _, _, _, false, rfl, .lst em, rfl, _, rfl, iteF ⟨_, rfl, _, _, _, true, rfl, .lst el, rfl, _, rfl, iteF (hN _ _ ⟨rfl, rfl⟩)⟩⟩
  rintro σ _ ⟨rfl, rfl⟩
  refine ⟨_, rfl, l, _, rfl, .inl (SqL.of el), _, rfl, m, _, rfl, .inl (SqL.of em), rfl, _, rfl, nF rfl ?_⟩
  refine ⟨_, rfl, m, _, rfl, .inl (SqL.of em), _, rfl, (by omega), (by rw [List.length_map]; omega), for_range (fun i σ H' => H = H' ∧ ∃ o2 : Option V, σ = [some (.ref l), some (.ref m), o2]) ⟨rfl, none, rfl⟩ (fun i σ H' hi hP => ?_) (fun σ H' hP => ?_)⟩
  · obtain ⟨rfl, o2, rfl⟩ := hP
    have hi' : i < xs.length := by rw [List.length_map] at hi; omega
    have at_ : atI (xs.map V.int) (0 + (i : Int)) = some (.int xs[i]) := by
      rw [Int.zero_add]
      exact atI_nat (by rw [List.getElem?_map, List.getElem?_eq_getElem hi']; rfl)
    exact ⟨_, rfl, _, rfl, l, _, _, _, rfl, rfl, SqL.of el, at_, _, rfl, _, rfl, m, _, _, _, rfl, rfl, SqL.of em, at_, _, rfl, _, rfl, iteF ⟨rfl, _, rfl⟩⟩
  · obtain ⟨rfl, o2, rfl⟩ := hP
    exact q

theorem sc_law_counts : FnScope ["_law_script", "_law_cell", "_law_counts_here", "_law_k", "_law_number"] ["_law_script"] (defScope s_law_counts) := ⟨rfl, rfl, rfl, by decide +kernel, rfl, by decide +kernel, by decide +kernel⟩
set_option maxHeartbeats 4000000 in
theorem ok_law_counts {dV : Value} (F : FunD K "_law_counts" "_law_counts" s_law_counts dV f fd) (B : Bn K mg c_Cut c_Recipe c_Rest c_Step c_Warm f_Step_init f_Warm_init f_Recipe_init) (D_law_cell_at : Dx P w K mg base CX0 1 "_law_cell_at" ["_law_script", "_law_k"] [] (spCell K)) : FnOk P w K mg base CX0 2 f fd ["_law_script"] (spCountsP K) := by
  have sc := sc_law_counts
  refine F.ok sc (fun vs H Q E h => ?_) (fun cdv A outer s H vs Q E hr h => ?_)
  · obtain ⟨a, ns, rfl, _⟩ := h
    rfl
  obtain ⟨a, ns, rfl, hS, h63, q⟩ := h
  have s4 : (5000 : Nat) ≤ sizeLine := by decide
  refine ⟨_, (pss_cons (ps_set (i := 1) sc.nd rfl (Or.inl rfl) (pe_op op_modN (pcall0 D_law_cell_at hr (by decide) rfl (pa_cons (pv 0) (pa_cons pe_int pa_nil))) (pe_op op_powB pe_int pe_int))) (pss_cons (ps_set (i := 2) sc.nd rfl (Or.inl rfl) (pe_lst pa_nil)) (pss_cons (ps_for PassesOwn.never rfl (pi_range1 rfl B.b_range (pa_cons (pe_op op_modN (pv 1) pe_int) pa_nil)) (pg_name (i := 3) sc.nd rfl (Or.inl rfl)) (pss_cons (ps_set (i := 4) sc.nd rfl (Or.inl rfl) (pe_op op_modN (pe_op op_mulB (pe_op op_add (pe_op op_fdivB (pv 1) pe_int) pe_int) (pe_op op_add (pe_op op_add (pe_op op_mulB (pv 3) (pv 3)) (pe_op op_mulB pe_int (pv 3))) pe_int)) pe_int)) (pss_one (ps_expr (pe_bm PySem.F.plainAttrs_list PySem.F.slot_list_append PySem.F.type_list_append mt_append (pv 2) (pa_cons (pe_ix ix_list (pe_lst (pa_cons pe_int (pa_cons (pe_op op_add pe_int (pe_op op_modN (pe_op op_fdivB (pv 4) pe_int) pe_int)) (pa_cons (pe_op op_add pe_int (pe_op op_modN (pe_op op_fdivB (pv 4) pe_int) pe_int)) pa_nil)))) (pe_op op_modN (pv 4) pe_int) (fun _ _ => rfl)) pa_nil)))))) (pss_one (ps_ret (pv 2)))))), ?_⟩
  refine cut (fun σ H' => H = H' ∧ ∃ c : Int, σ = [some (.ref a), some (.int c), none, none, none] ∧ 0 ≤ c ∧ c < 10 ^ 12) (fun N hN => ⟨_, rfl, a, ns, 0, rfl, hS, (by decide), fun c0 => ⟨_, _, rfl, rfl, ⟨by decide, by decide⟩, _, _, rfl, rfl, (by show (10 ^ 12 : Int) ≠ 0; decide), hN _ _ ⟨rfl, _, rfl, Int.fmod_nonneg_of_pos c0 (show (0 : Int) < 10 ^ 12 by decide), Int.fmod_lt_of_pos c0 (show (0 : Int) < 10 ^ 12 by decide)⟩⟩⟩) ?_
  rintro σ _ ⟨rfl, c, rfl, a0, a1⟩
  refine ⟨(by show 0 ≤ sizeLine; decide), fun l nl => ?_⟩
  have r0 := Int.fmod_nonneg_of_pos c (show (0 : Int) < 9 by decide)
  have r1 := Int.fmod_lt_of_pos c (show (0 : Int) < 9 by decide)
  have cb : Bd 41 (c.fdiv 9 + 1) := by
    rw [Int.fdiv_eq_ediv_of_nonneg _ (by decide)]
    unfold Bd
    omega
  try dsimp only [gName, tNext]
  refine cut (fun σ H' => ∃ (xs : List Int) (o3 o4 : Option V), σ = [some (.ref a), some (.int c), some (.ref l), o3, o4] ∧ Same H H' ∧ H' l = some (.lst (xs.map V.int)) ∧ xs.length ≤ 8 ∧ ∀ x ∈ xs, 1 ≤ x ∧ x ≤ 3) (fun N hN => ?_) ?_
  · refine ⟨_, rfl, _, _, rfl, rfl, (by show (9 : Int) ≠ 0; decide), _, rfl, (by omega), (by omega), for_range (fun i σ H' => ∃ (xs : List Int) (o3 o4 : Option V), σ = [some (.ref a), some (.int c), some (.ref l), o3, o4] ∧ Same H H' ∧ H' l = some (.lst (xs.map V.int)) ∧ xs.length = i ∧ ∀ x ∈ xs, 1 ≤ x ∧ x ≤ 3) ⟨[], none, none, rfl, same_new nl _, upd_same, rfl, by simp⟩ (fun i σ H2 hi hP => ?_) (fun σ H2 hP => ?_)⟩
    · obtain ⟨xs, o3, o4, rfl, g, e, hl, hx⟩ := hP
      have i8 : i < 9 := by omega
      have ib : Bd 8 (0 + (i : Int)) := by unfold Bd; omega
      have b3 : Bd 8 (3 : Int) := by unfold Bd; decide
      have kk0 : 0 ≤ (0 + (i : Int)) * (0 + (i : Int)) := Int.mul_nonneg (by omega) (by omega)
      have kk1 : (0 + (i : Int)) * (0 + (i : Int)) ≤ 8 * 8 := Int.mul_le_mul (by omega) (by omega) (by omega) (by omega)
      have kb : Bd 30 ((0 + (i : Int)) * (0 + (i : Int)) + 3 * (0 + (i : Int)) + 5) := by
        unfold Bd
        omega
      refine ⟨_, rfl, _, _, rfl, rfl, ⟨by decide, PyProof.noPylong_small (by decide)⟩, _, _, rfl, rfl, _, rfl, _, rfl, _, _, rfl, rfl, ib.ok ib, _, rfl, _, _, rfl, rfl, b3.ok ib, _, _, rfl, rfl, _, _, rfl, rfl, _, _, rfl, rfl, cb.ok kb, _, _, rfl, rfl, (by show (1009 : Int) ≠ 0; decide), ?_⟩
      obtain ⟨n, en⟩ : ∃ n, n = ((c.fdiv 9 + 1) * ((0 + (i : Int)) * (0 + (i : Int)) + 3 * (0 + (i : Int)) + 5)).fmod 1009 := ⟨_, rfl⟩
      have f3 := fun x : Int => And.intro (Int.fmod_nonneg_of_pos x (show (0 : Int) < 3 by decide)) (Int.fmod_lt_of_pos x (show (0 : Int) < 3 by decide))
      obtain ⟨v, hv, hat⟩ := atI_in (xs := [V.int 1, .int (1 + (n.fdiv 3).fmod 3), .int (1 + (n.fdiv 9).fmod 3)]) (f3 n).1 (by simpa using (f3 n).2)
      have fa := f3 (n.fdiv 3)
      have fb := f3 (n.fdiv 9)
      obtain ⟨w, rfl, w1, w3⟩ : ∃ w : Int, v = .int w ∧ 1 ≤ w ∧ w ≤ 3 := by
        simp only [List.mem_cons, List.not_mem_nil, or_false] at hv
        rcases hv with rfl | rfl | rfl
        · exact ⟨_, rfl, by omega, by omega⟩
        · exact ⟨_, rfl, by omega, by omega⟩
        · exact ⟨_, rfl, by omega, by omega⟩
      subst en
      refine ⟨_, rfl, .inl ⟨rfl, _, SqL.of e⟩, _, rfl, _, _, rfl, rfl, ⟨by decide, PyProof.noPylong_small (by decide)⟩, _, _, rfl, rfl, (by show (3 : Int) ≠ 0; decide), _, _, rfl, rfl, _, rfl, _, _, rfl, rfl, ⟨by decide, PyProof.noPylong_small (by decide)⟩, _, _, rfl, rfl, (by show (3 : Int) ≠ 0; decide), _, _, rfl, rfl, (by show 3 ≤ sizeLine; decide), fun m nm => ?_⟩
      have e' := fun o => same_new nm o _ _ e
      refine ⟨_, rfl, _, _, rfl, rfl, (by show (3 : Int) ≠ 0; decide), m, _, _, _, rfl, rfl, SqL.of upd_same, hat, l, _, _, rfl, rfl, e' _, (by rw [List.length_map]; omega), ?_⟩
      refine ⟨xs ++ [w], _, _, rfl, sUpd (g.trans (same_new nm _)) nl _, by rw [upd_same, List.map_append]; rfl, by simp [hl], fun x hx' => ?_⟩
      rcases List.mem_append.mp hx' with k | k
      · exact hx x k
      · rw [List.mem_singleton] at k
        subst k
        exact ⟨w1, w3⟩
    · obtain ⟨xs, o3, o4, rfl, g, e, hl, hx⟩ := hP
      exact hN _ _ ⟨xs, o3, o4, rfl, g, e, by omega, hx⟩
  rintro σ H' ⟨xs, o3, o4, rfl, g, e, hl, hx⟩
  exact ⟨_, rfl, q l H' xs g e hl hx⟩

theorem sc_law_steps : FnScope ["_law_counts_here", "_law_names_here", "_law_steps_here", "_law_k"] ["_law_counts_here", "_law_names_here"] (defScope s_law_steps) := ⟨rfl, rfl, rfl, by decide +kernel, rfl, by decide +kernel, by decide +kernel⟩
set_option maxHeartbeats 4000000 in
theorem ok_law_steps {dV : Value} (F : FunD K "_law_steps" "_law_steps" s_law_steps dV f fd) (B : Bn K mg c_Cut c_Recipe c_Rest c_Step c_Warm f_Step_init f_Warm_init f_Recipe_init) (DStep_init : DxM P w K mg base CX0 1 f_Step_init ["self", "name", "least", "most", "uses", "second"] [.non, .non] (spStepInit K)) (DWarm_init : DxM P w K mg base CX0 2 f_Warm_init ["self", "name", "least", "most", "fill", "uses", "second"] [.non, .non] (spWarmInit K)) : FnOk P w K mg base CX0 4 f fd ["_law_counts_here", "_law_names_here"] spStepsP := by
  have sc := sc_law_steps
  refine F.ok sc (fun vs H Q E h => ?_) (fun cdv A outer s H vs Q E hr h => ?_)
  · obtain ⟨lc, ln, cs, zs, rfl, _⟩ := h
    rfl
  obtain ⟨lc, ln, cs, zs, rfl, ec, en, cz, c8, hc, q⟩ := h
  have s4 : (5000 : Nat) ≤ sizeLine := by decide
  refine ⟨_, (pss_cons (ps_set (i := 2) sc.nd rfl (Or.inl rfl) (pe_lst pa_nil)) (pss_cons (ps_for PassesOwn.never rfl (pi_range1 rfl B.b_range (pa_cons (pe_callB call_len_seq rfl B.b_len boot_len (pa_cons (pv 0) pa_nil)) pa_nil)) (pg_name (i := 3) sc.nd rfl (Or.inl rfl)) (pss_one (ps_if (pt_cmpR op_gt (pe_ix ix_list (pv 0) (pv 3) (fun _ _ => rfl)) pe_int (nomark _)) (pss_one (ps_expr (pe_bm PySem.F.plainAttrs_list PySem.F.slot_list_append PySem.F.type_list_append mt_append (pv 2) (pa_cons (pmake0d B.mk_Warm DWarm_init hr (by decide) rfl B.m_Warm (pa_cons (pe_ix ix_list (pv 1) (pv 3) (fun _ _ => rfl)) (pa_cons pe_int (pa_cons pe_int (pa_cons (pe_tup (pa_cons (pe_ix ix_list (pv 0) (pv 3) (fun _ _ => rfl)) (pa_cons pe_int pa_nil))) pa_nil))))) pa_nil)))) (pss_one (ps_if (pt_cmpR op_eq (pe_op op_modN (pv 3) pe_int) pe_int (nomark _)) (pss_one (ps_expr (pe_bm PySem.F.plainAttrs_list PySem.F.slot_list_append PySem.F.type_list_append mt_append (pv 2) (pa_cons (pmake0d B.mk_Rest DStep_init hr (by decide) rfl B.m_Rest (pa_cons (pe_ix ix_list (pv 1) (pv 3) (fun _ _ => rfl)) (pa_cons pe_int (pa_cons pe_int pa_nil)))) pa_nil)))) (pss_one (ps_expr (pe_bm PySem.F.plainAttrs_list PySem.F.slot_list_append PySem.F.type_list_append mt_append (pv 2) (pa_cons (pmake0d B.mk_Cut DStep_init hr (by decide) rfl B.m_Cut (pa_cons (pe_ix ix_list (pv 1) (pv 3) (fun _ _ => rfl)) (pa_cons pe_int (pa_cons pe_int pa_nil)))) pa_nil))))))))) (pss_one (ps_ret (pv 2))))), ?_⟩
  refine ⟨(by show 0 ≤ sizeLine; decide), fun l nl => ?_⟩
  try dsimp only [gName, tNext]
  refine cut (fun σ H' => ∃ (xs : List V) (o3 : Option V), σ = [some (.ref lc), some (.ref ln), some (.ref l), o3] ∧ Same H H' ∧ H' l = some (.lst xs)) (fun N hN => ?_) ?_
  · refine ⟨_, rfl, lc, _, rfl, .inl (SqL.of (same_new nl _ _ _ ec)), _, rfl, (by omega), (by rw [List.length_map]; omega), for_range (fun i σ H' => ∃ (xs : List V) (o3 : Option V), σ = [some (.ref lc), some (.ref ln), some (.ref l), o3] ∧ Same H H' ∧ H' l = some (.lst xs) ∧ xs.length = i) ⟨[], none, rfl, same_new nl _, upd_same, rfl⟩ (fun i σ H2 hi hP => ?_) (fun σ H2 hP => ?_)⟩
    · obtain ⟨xs, o3, rfl, g, e, xl⟩ := hP
      have hi' : i < cs.length := by rw [List.length_map] at hi; omega
      have at_ : atI (cs.map V.int) (0 + (i : Int)) = some (.int cs[i]) := by
        rw [Int.zero_add]
        exact atI_nat (by rw [List.getElem?_map, List.getElem?_eq_getElem hi']; rfl)
      have atn : atI (zs.map V.str) (0 + (i : Int)) = some (.str (zs[i]'(by omega))) := by
        rw [Int.zero_add]
        exact atI_nat (by rw [List.getElem?_map, List.getElem?_eq_getElem (by omega)]; rfl)
      have en2 := g _ _ en
      have ec2 := g _ _ ec
      refine ⟨_, rfl, _, rfl, lc, _, _, _, rfl, rfl, SqL.of ec2, at_, _, _, rfl, rfl, _, rfl, d2 (fun c => ?_) (fun c => ?_)⟩
      · refine ⟨_, rfl, .inl ⟨rfl, _, SqL.of e⟩, _, rfl, _, rfl, ln, _, _, _, rfl, rfl, SqL.of en2, atn, _, rfl, _, rfl, lc, _, _, _, rfl, rfl, SqL.of ec2, at_, (by show 2 ≤ sizeLine; decide), fun t nt => fun x dx nx nd nxd => ⟨x, _, dx, _, _, _, _, rfl, upd_same, ⟨B.cl_Warm, B.na_Warm_name, B.na_Warm_least, B.na_Warm_most, B.na_Warm_uses, B.na_Warm_second⟩, B.na_Warm_fill, fun u H6 ux k6 eu ex => ⟨rfl, ?_⟩⟩⟩
        have g6 := (same_new nt _).trans (made_same nx nd k6)
        exact ⟨l, xs, _, rfl, rfl, g6 _ _ e, (by omega), xs ++ [.ref x], _, rfl, sUpd (g.trans g6) nl _, upd_same, by simp [xl]⟩
      refine ⟨_, rfl, _, _, rfl, rfl, (by show (2 : Int) ≠ 0; decide), rfl, _, rfl, d2I (fun c2 => ?_) (fun c2 => ?_)⟩
      · refine ⟨_, rfl, .inl ⟨rfl, _, SqL.of e⟩, _, rfl, _, rfl, ln, _, _, _, rfl, rfl, SqL.of en2, atn, fun x dx nx nd nxd => ⟨x, _, dx, _, _, _, rfl, upd_same, ⟨B.cl_Rest, B.na_Rest_name, B.na_Rest_least, B.na_Rest_most, B.na_Rest_uses, B.na_Rest_second⟩, fun u H6 ux k6 eu ex => ⟨rfl, ?_⟩⟩⟩
        have g6 := made_same nx nd k6
        exact ⟨l, xs, _, rfl, rfl, g6 _ _ e, (by omega), xs ++ [.ref x], _, rfl, sUpd (g.trans g6) nl _, upd_same, by simp [xl]⟩
      · refine ⟨_, rfl, .inl ⟨rfl, _, SqL.of e⟩, _, rfl, _, rfl, ln, _, _, _, rfl, rfl, SqL.of en2, atn, fun x dx nx nd nxd => ⟨x, _, dx, _, _, _, rfl, upd_same, ⟨B.cl_Cut, B.na_Cut_name, B.na_Cut_least, B.na_Cut_most, B.na_Cut_uses, B.na_Cut_second⟩, fun u H6 ux k6 eu ex => ⟨rfl, ?_⟩⟩⟩
        have g6 := made_same nx nd k6
        exact ⟨l, xs, _, rfl, rfl, g6 _ _ e, (by omega), xs ++ [.ref x], _, rfl, sUpd (g.trans g6) nl _, upd_same, by simp [xl]⟩
    · obtain ⟨xs, o3, rfl, g, e, xl⟩ := hP
      exact hN _ _ ⟨xs, o3, rfl, g, e⟩
  rintro σ H' ⟨xs, o3, rfl, g, e⟩
  exact ⟨_, rfl, q l H' xs g e⟩

theorem sc_law_links : FnScope ["_law_script", "_law_many", "_law_links_here", "_law_cell", "_law_at", "_law_other", "_law_turns"] ["_law_script", "_law_many"] (defScope s_law_links) := ⟨rfl, rfl, rfl, by decide +kernel, rfl, by decide +kernel, by decide +kernel⟩
set_option maxHeartbeats 4000000 in
theorem ok_law_links {dV : Value} (F : FunD K "_law_links" "_law_links" s_law_links dV f fd) (B : Bn K mg c_Cut c_Recipe c_Rest c_Step c_Warm f_Step_init f_Warm_init f_Recipe_init)  : FnOk P w K mg base CX0 2 f fd ["_law_script", "_law_many"] (spLinksP K) := by
  have sc := sc_law_links
  refine F.ok sc (fun vs H Q E h => ?_) (fun cdv A outer s H vs Q E hr h => ?_)
  · obtain ⟨a, ns, m, rfl, _⟩ := h
    rfl
  obtain ⟨a, ns, m, rfl, hS, h63, m0, m8, q⟩ := h
  have s4 : (5000 : Nat) ≤ sizeLine := by decide
  refine ⟨_, (pss_cons (ps_set (i := 2) sc.nd rfl (Or.inl rfl) (pe_lst pa_nil)) (pss_cons (ps_for PassesOwn.never rfl (pi_list (pe_slice sl_list (pv 0) (po_some pe_int) (po_some (pe_op op_add pe_int (pe_op op_mulB pe_int (pe_callTy call_int_bl rfl B.b_int boot_int (pa_cons (pe_cmpR op_gt (pv 1) pe_int (nomark _)) pa_nil))))))) (pg_name (i := 3) sc.nd rfl (Or.inl rfl)) (pss_cons (ps_set (i := 4) sc.nd rfl (Or.inl rfl) (pe_op op_modN (pe_op op_fdivB (pv 3) pe_int) (pv 1))) (pss_cons (ps_set (i := 5) sc.nd rfl (Or.inl rfl) (pe_op op_modN (pe_op op_add (pe_op op_add (pv 4) pe_int) (pe_op op_modN (pe_op op_fdivB (pe_op op_fdivB (pv 3) pe_int) (pv 1)) (pe_op op_sub (pv 1) pe_int))) (pv 1))) (pss_cons (ps_set (i := 6) sc.nd rfl (Or.inl rfl) pe_int) (pss_cons (ps_if (pt_cmpR op_eq (pe_op op_modN (pv 3) pe_int) pe_int (nomark _)) (pss_one (ps_set (i := 6) sc.nd rfl (Or.inl rfl) (pe_op op_modN (pe_op op_fdivB (pv 3) pe_int) pe_int))) pss_nil) (pss_one (ps_expr (pe_bm PySem.F.plainAttrs_list PySem.F.slot_list_append PySem.F.type_list_append mt_append (pv 2) (pa_cons (pe_tup (pa_cons (pe_ix ix_list (pe_lst (pa_cons pe_str (pa_cons pe_str (pa_cons pe_str pa_nil)))) (pe_op op_modN (pv 3) pe_int) (fun _ _ => rfl)) (pa_cons (pv 4) (pa_cons (pv 5) (pa_cons (pv 6) pa_nil))))) pa_nil))))))))) (pss_one (ps_ret (pv 2))))), ?_⟩
  refine ⟨(by show 0 ≤ sizeLine; decide), fun l nl => ?_⟩
  have g0 := same_new nl (.lst [])
  have lk0 : LK (upd H l (.lst [])) l [] := ⟨[], rfl, upd_same, fun i a t e => by simp at e⟩
  try dsimp only [gName, tNext]
  refine cut (fun σ H' => ∃ (ks : List Lnk) (o3 o4 o5 o6 : Option V), σ = [some (.ref a), some (.int m), some (.ref l), o3, o4, o5, o6] ∧ Same H H' ∧ LK H' l ks ∧ ks.length ≤ 100) (fun N hN => ?_) ?_
  · refine ⟨_, rfl, _, rfl, _, rfl, _, _, rfl, rfl, _, rfl, _, _, rfl, rfl, IntMulOk.of_left (by decide), _, _, rfl, rfl, _, rfl, a, _, rfl, g0.seq hS, fun c hc => ?_⟩
    have hcl := cutV_length (ns.map V.int) (some 2) (some (2 + 24 * (if decide (m > 1) = true then 1 else 0)))
    rw [List.length_map] at hcl
    have nc : H c = none := g0.free hc
    have cn : c ≠ l := fun z => by rw [z, upd_same] at hc; cases hc
    have g1 := g0.trans (same_new hc (.lst (cutV (ns.map V.int) (some 2) (some (2 + 24 * (if decide (m > 1) = true then 1 else 0))))))
    have lk1 := lk0.same (same_new hc (.lst (cutV (ns.map V.int) (some 2) (some (2 + 24 * (if decide (m > 1) = true then 1 else 0))))))
    refine ⟨c, rfl, ⟨_, SqL.of upd_same⟩, for_list (xs := cutV (ns.map V.int) (some 2) (some (2 + 24 * (if decide (m > 1) = true then 1 else 0)))) (fun i σ H' => H' c = some (.lst (cutV (ns.map V.int) (some 2) (some (2 + 24 * (if decide (m > 1) = true then 1 else 0))))) ∧ ∃ (ks : List Lnk) (o3 o4 o5 o6 : Option V), σ = [some (.ref a), some (.int m), some (.ref l), o3, o4, o5, o6] ∧ Same H H' ∧ LK H' l ks ∧ ks.length = i) ⟨upd_same, [], none, none, none, none, rfl, g1, lk1, rfl⟩ (fun i σ H' _ h => SqL.of h.1) ?_ ?_⟩
    · rintro i x σ H2 hx ⟨ec, ks, o3, o4, o5, o6, rfl, g, lk, kl⟩
      have il := (List.getElem?_eq_some_iff.mp hx).1
      have m1 : m > 1 := by
        by_cases k : m > 1
        · exact k
        · rw [decide_eq_false k, if_neg (by decide), cut_none] at hx
          simp at hx
      obtain ⟨v, rfl⟩ : ∃ v : Int, x = .int v := by
        have mm := List.mem_of_getElem? hx
        unfold cutV at mm
        have mm := List.mem_of_mem_drop (List.mem_of_mem_take mm)
        obtain ⟨c, _, e⟩ := List.mem_map.mp mm
        exact ⟨c, e.symm⟩
      have mz : m ≠ 0 := by omega
      refine ⟨_, rfl, _, _, rfl, rfl, ⟨by decide, PyProof.noPylong_small (by decide)⟩, _, rfl, _, _, rfl, rfl, mz, ?_⟩
      refine ⟨_, rfl, _, _, rfl, rfl, _, rfl, _, _, rfl, rfl, ⟨by decide, PyProof.noPylong_small (by decide)⟩, _, rfl, _, _, rfl, rfl, ⟨mz, PyProof.noPylong_small (by omega)⟩, _, rfl, _, _, rfl, rfl, _, _, rfl, rfl, (by omega), _, _, rfl, rfl, _, rfl, _, _, rfl, rfl, mz, ?_⟩
      try dsimp only [gName, tNext]
      refine cut (fun σ H' => H2 = H' ∧ ∃ at_ ot : Int, σ = [some (.ref a), some (.int m), some (.ref l), some (.int v), some (.int at_), some (.int ot), some (.int 0)]) (fun N hN => hN _ _ ⟨rfl, _, _, rfl⟩) ?_
      rintro σ _ ⟨rfl, at_, ot, rfl⟩
      refine cut (fun σ H' => H2 = H' ∧ ∃ t : Int, σ = [some (.ref a), some (.int m), some (.ref l), some (.int v), some (.int at_), some (.int ot), some (.int t)]) (fun N hN => ?_) ?_
      · refine ⟨_, rfl, _, _, rfl, rfl, (by show (3 : Int) ≠ 0; decide), rfl, _, rfl, d2I (fun _ => ?_) (fun _ => hN _ _ ⟨rfl, _, rfl⟩)⟩
        exact ⟨_, rfl, _, _, rfl, rfl, ⟨by decide, PyProof.noPylong_small (by decide)⟩, _, _, rfl, rfl, (by show (9 : Int) ≠ 0; decide), hN _ _ ⟨rfl, _, rfl⟩⟩
      rintro σ _ ⟨rfl, t, rfl⟩
      obtain ⟨as, a1, a2, a3⟩ := lk.ex
      have r0 := Int.fmod_nonneg_of_pos v (show (0 : Int) < 3 by decide)
      have r1 := Int.fmod_lt_of_pos v (show (0 : Int) < 3 by decide)
      obtain ⟨w, hw, hat⟩ := atI_in (xs := ([Str.ofString "after", Str.ofString "within", Str.ofString "apart"]).map V.str) r0 (by simpa using r1)
      obtain ⟨wd, _, rfl⟩ := List.mem_map.mp hw
      refine ⟨_, rfl, .inl ⟨rfl, _, SqL.of a2⟩, (by show 3 ≤ sizeLine; decide), fun p np => ⟨_, rfl, _, _, rfl, rfl, (by show (3 : Int) ≠ 0; decide), p, _, _, .str wd, rfl, rfl, SqL.of upd_same, hat, _, rfl, _, rfl, _, rfl, (by show 4 ≤ sizeLine; decide), fun b nb => ?_⟩⟩
      have g3 := same_new np (.lst [.str (Str.ofString "after"), .str (Str.ofString "within"), .str (Str.ofString "apart")])
      have g4 := same_new nb (.tup [.str wd, .int at_, .int ot, .int t])
      have g34 := g3.trans g4
      obtain ⟨xs, ex, xl, lk4⟩ := (lk.same g34).snoc (a := b) (k := (wd, at_, ot, t)) upd_same
      refine ⟨l, xs, _, rfl, rfl, ex, (by omega), ?_⟩
      exact ⟨by rw [upd_ne cn]; exact g34 _ _ ec, ks ++ [(wd, at_, ot, t)], _, _, _, _, rfl, sUpd (g.trans g34) nl _, lk4, by simp [kl]⟩
    · rintro σ H2 ⟨ec, ks, o3, o4, o5, o6, rfl, g, lk, kl⟩
      exact hN _ _ ⟨ks, o3, o4, o5, o6, rfl, g, lk, by omega⟩
  rintro σ H' ⟨ks, o3, o4, o5, o6, rfl, g, lk, kl⟩
  exact ⟨_, rfl, q l H' ks g lk kl⟩

theorem sc_law_tasks : FnScope ["_law_counts_here", "_law_tasks_here", "_law_k", "_law_turn"] ["_law_counts_here"] (defScope s_law_tasks) := ⟨rfl, rfl, rfl, by decide +kernel, rfl, by decide +kernel, by decide +kernel⟩
set_option maxHeartbeats 4000000 in
theorem ok_law_tasks {dV : Value} (F : FunD K "_law_tasks" "_law_tasks" s_law_tasks dV f fd) (B : Bn K mg c_Cut c_Recipe c_Rest c_Step c_Warm f_Step_init f_Warm_init f_Recipe_init)  : FnOk P w K mg base CX0 1 f fd ["_law_counts_here"] spTasksP := by
  have sc := sc_law_tasks
  refine F.ok sc (fun vs H Q E h => ?_) (fun cdv A outer s H vs Q E hr h => ?_)
  · obtain ⟨lc, cs, rfl, _⟩ := h
    rfl
  obtain ⟨lc, cs, rfl, ec, c8, hc, q⟩ := h
  have s4 : (5000 : Nat) ≤ sizeLine := by decide
  refine ⟨_, (pss_cons (ps_set (i := 1) sc.nd rfl (Or.inl rfl) (pe_lst pa_nil)) (pss_cons (ps_for PassesOwn.never rfl (pi_range1 rfl B.b_range (pa_cons (pe_callB call_len_seq rfl B.b_len boot_len (pa_cons (pv 0) pa_nil)) pa_nil)) (pg_name (i := 2) sc.nd rfl (Or.inl rfl)) (pss_one (ps_for PassesOwn.never rfl (pi_range1 rfl B.b_range (pa_cons (pe_ix ix_list (pv 0) (pv 2) (fun _ _ => rfl)) pa_nil)) (pg_name (i := 3) sc.nd rfl (Or.inl rfl)) (pss_one (ps_expr (pe_bm PySem.F.plainAttrs_list PySem.F.slot_list_append PySem.F.type_list_append mt_append (pv 1) (pa_cons (pe_tup (pa_cons (pv 2) (pa_cons (pv 3) (pa_cons (pe_lst (pa_cons (pe_tup (pa_cons pe_int (pa_cons pe_int (pa_cons (pe_lst pa_nil) pa_nil)))) pa_nil)) pa_nil)))) pa_nil))))))) (pss_one (ps_ret (pv 1))))), ?_⟩
  refine ⟨(by show 0 ≤ sizeLine; decide), fun l nl => ?_⟩
  try dsimp only [gName, tNext]
  have tl := tasksP_len hc
  have c24 := tl cs.length
  refine cut (fun σ H' => ∃ (o2 o3 : Option V), σ = [some (.ref lc), some (.ref l), o2, o3] ∧ Same H H' ∧ TK H' l (tasksP cs cs.length)) (fun N hN => ?_) ?_
  · refine ⟨_, rfl, lc, _, rfl, .inl (SqL.of (same_new nl _ _ _ ec)), _, rfl, (by omega), (by rw [List.length_map]; omega), for_range (fun i σ H' => ∃ (o2 o3 : Option V), σ = [some (.ref lc), some (.ref l), o2, o3] ∧ Same H H' ∧ TK H' l (tasksP cs i)) ⟨none, none, rfl, same_new nl _, ⟨[], rfl, upd_same, fun i a t e => by simp at e⟩⟩ (fun i σ H2 hi hP => ?_) (fun σ H2 hP => ?_)⟩
    · obtain ⟨o2, o3, rfl, g, tk⟩ := hP
      have hi' : i < cs.length := by rw [List.length_map] at hi; omega
      have hci := hc _ (List.getElem_mem hi')
      have at_ : atI (cs.map V.int) (0 + (i : Int)) = some (.int cs[i]) := by
        rw [Int.zero_add]
        exact atI_nat (by rw [List.getElem?_map, List.getElem?_eq_getElem hi']; rfl)
      have gd : cs.getD i 0 = cs[i] := by rw [List.getD_eq_getElem?_getD, List.getElem?_eq_getElem hi']; rfl
      have li := tl i
      refine ⟨_, rfl, _, rfl, lc, _, _, _, rfl, rfl, SqL.of (g _ _ ec), at_, _, rfl, (by omega), (by omega), for_range (fun j σ H' => ∃ (o3 : Option V), σ = [some (.ref lc), some (.ref l), some (.int (0 + (i : Int))), o3] ∧ Same H H' ∧ TK H' l (tasksP cs i ++ (List.range j).map fun t : Nat => ((0 + (i : Int) : Int), (0 + (t : Int) : Int)))) ⟨_, rfl, g, by simpa using tk⟩ (fun j σ H3 hj hP => ?_) (fun σ H3 hP => ?_)⟩
      · obtain ⟨o3, rfl, g3, tk3⟩ := hP
        obtain ⟨as, a1, a2, a3⟩ := tk3.ex
        refine ⟨_, rfl, .inl ⟨rfl, _, SqL.of a2⟩, _, rfl, _, rfl, (by show 0 ≤ sizeLine; decide), fun e ne => ⟨(by show 3 ≤ sizeLine; decide), fun v nv => ⟨(by show 1 ≤ sizeLine; decide), fun w nw => ⟨(by show 3 ≤ sizeLine; decide), fun a na => ?_⟩⟩⟩⟩
        have g4 := same_new ne (.lst [])
        have g5 := same_new nv (.tup [.int 1, .int 2, .ref e])
        have g6 := same_new nw (.lst [.ref v])
        have g7 := same_new na (.tup [.int (0 + (i : Int)), .int (0 + (j : Int)), .ref w])
        have g47 := ((g4.trans g5).trans g6).trans g7
        have k4 := g7 _ _ (g6 _ _ (g5 _ _ (show upd H3 e (.lst []) e = _ from upd_same)))
        have k3 := g7 _ _ (g6 _ _ (show upd (upd H3 e (.lst [])) v (.tup [.int 1, .int 2, .ref e]) v = _ from upd_same))
        have k2 := g7 _ _ (show upd (upd (upd H3 e (.lst [])) v (.tup [.int 1, .int 2, .ref e])) w (.lst [.ref v]) w = _ from upd_same)
        have el : e ≠ l := fun z => by rw [z, a2] at ne; cases ne
        have wl : w ≠ l := fun z => by rw [z, g5 _ _ (g4 _ _ a2)] at nw; cases nw
        obtain ⟨xs, ex, xl, tk4⟩ := (tk3.same g47).snoc (t := (0 + (i : Int), 0 + (j : Int))) upd_same k2 k3 k4 wl el
        have xl' : xs.length ≤ 30 := by
          rw [xl, List.length_append, List.length_map, List.length_range]
          omega
        refine ⟨l, xs, _, rfl, rfl, ex, (by omega), ?_⟩
        refine ⟨_, rfl, sUpd (g3.trans g47) nl _, ?_⟩
        rw [List.range_succ, List.map_append, ← List.append_assoc]
        exact tk4
      · obtain ⟨o3, rfl, g3, tk3⟩ := hP
        refine ⟨_, _, rfl, g3, ?_⟩
        show TK H3 l (tasksP cs i ++ _)
        rw [gd]
        exact tk3
    · obtain ⟨o2, o3, rfl, g, tk⟩ := hP
      rw [Int.toNat_natCast, List.length_map] at tk
      exact hN _ _ ⟨o2, o3, rfl, g, tk⟩
  rintro σ H' ⟨o2, o3, rfl, g, tk⟩
  exact ⟨_, rfl, q l H' g tk (by omega)⟩

theorem sc_law_due : FnScope ["_law_links_here", "_law_tasks_here", "_law_ahead"] ["_law_links_here", "_law_tasks_here"] (defScope s_law_due) := ⟨rfl, rfl, rfl, by decide +kernel, rfl, by decide +kernel, by decide +kernel⟩
set_option maxHeartbeats 4000000 in
theorem ok_law_due {dV : Value} (F : FunD K "_law_due" "_law_due" s_law_due dV f fd) (B : Bn K mg c_Cut c_Recipe c_Rest c_Step c_Warm f_Step_init f_Warm_init f_Recipe_init)  : FnOk P w K mg base CX0 1 f fd ["_law_links_here", "_law_tasks_here"] spDueP := by
  have sc := sc_law_due
  refine F.ok sc (fun vs H Q E h => ?_) (fun cdv A outer s H vs Q E hr h => ?_)
  · obtain ⟨lk, lt, ks, ts, rfl, _⟩ := h
    rfl
  obtain ⟨lk, lt, ks, ts, rfl, hk, ht, kl, tl, q⟩ := h
  have s4 : (5000 : Nat) ≤ sizeLine := by decide
  refine ⟨_, (pss_cons (ps_set (i := 2) sc.nd rfl (Or.inr rfl) (pe_compIf (own := "_law_link") (ys := []) (js := []) rfl (cok atn .nil (by decide) rfl rfl rfl rfl rfl rfl rfl rfl) (pi_list (pv 0)) (fun C fp s H => (pt_cmpR op_ne (pe_ix (ix_tupK (K := K) rfl) (pv 0) pe_int (fun _ _ => rfl)) pe_str (nomark _))) (fun C fp s H => (pe_ix (ix_tupK (K := K) rfl) (pv 0) pe_int (fun _ _ => rfl))))) (pss_one (ps_ret (pe_compIf (own := "_law_k") (ys := ["_law_ahead", "_law_tasks_here"]) (js := [2, 1]) rfl (cok (atc (atc atn)) (.cons rfl (.cons rfl .nil)) (by decide) rfl rfl rfl rfl rfl rfl rfl rfl) (pi_range1 rfl B.b_range (pa_cons (pe_callB call_len_seq rfl B.b_len boot_len (pa_cons (pv 1) pa_nil)) pa_nil)) (fun C fp s H => (pt_cmpR (op_notInK (K := K) rfl) (pe_ix (ix_tupK (K := K) rfl) (pe_ix (ixKT (K := K) rfl) (pv 2) (pv 0) (fun _ _ => rfl)) pe_int (fun _ _ => rfl)) (pv 1) (by with_unfolding_all rfl))) (fun C fp s H => (pv 0)))))), ?_⟩
  obtain ⟨as, a1, a2, a3⟩ := hk.ex
  obtain ⟨bs, b1, b2, b3⟩ := ht.ex
  refine ⟨_, rfl, lk, rfl, ⟨_, SqL.of a2⟩, ?_⟩
  refine compIf_at (xs := as.map V.ref) (fun i => !decide (V.str (ks.getD i lkD).1 = V.str "apart")) (fun i => .int (ks.getD i lkD).2.2.1) (SqL.of a2) (by rw [List.length_map]; omega) (fun i x hx H2 g2 R hR => ?_) (fun i x hx H2 g2 Q' hQ => ?_) (fun p H1 np g1 e1 => ?_)
  · obtain ⟨a, ha, rfl⟩ := ref_at hx
    obtain ⟨k, hk', hd⟩ := same_at (d := lkD) a1 ha
    have et := g2 _ _ (a3 i a k ha hk')
    rw [hd] at hR
    exact ⟨_, rfl, a, _, _, _, rfl, rfl, SqT.of et, rfl, rfl, _, rfl, hR⟩
  · obtain ⟨a, ha, rfl⟩ := ref_at hx
    obtain ⟨k, hk', hd⟩ := same_at (d := lkD) a1 ha
    have et := g2 _ _ (a3 i a k ha hk')
    rw [hd] at hQ
    exact ⟨_, rfl, a, _, _, _, rfl, rfl, SqT.of et, rfl, hQ⟩
  have ew : H1 p = some (.lst (waited ks)) := by
    rw [e1, List.length_map, a1]
    rfl
  have e2 := g1 _ _ b2
  refine ⟨_, rfl, lt, _, rfl, .inl (SqL.of e2), _, rfl, (by omega), (by rw [List.length_map]; omega), ?_⟩
  refine compIf_rng (fun i => !inV (.int (ts.getD i (0, 0)).1) (waited ks)) (fun i => .int (0 + (i : Int))) (by rw [List.length_map]; omega) (fun i hi H2 g2 R hR => ?_) (fun i hi H2 g2 Q' hQ => ⟨_, rfl, hQ⟩) (fun p2 H2 np2 g2 e3 => ?_)
  · have hi' : i < bs.length := by rw [List.length_map] at hi; omega
    obtain ⟨t, ht', hd⟩ := same_at (d := ((0, 0) : Tsk)) b1 (List.getElem?_eq_getElem hi')
    obtain ⟨w, v, e, k1, _⟩ := b3 i _ t (List.getElem?_eq_getElem hi') ht'
    have at_ : atI (bs.map V.ref) (0 + (i : Int)) = some (.ref bs[i]) := by
      rw [Int.zero_add]
      exact atI_nat (by rw [List.getElem?_map, List.getElem?_eq_getElem hi']; rfl)
    rw [hd] at hR
    exact ⟨_, rfl, _, rfl, lt, _, _, _, rfl, rfl, SqL.of (g2 _ _ e2), at_, _, _, _, _, rfl, rfl, SqT.of (g2 _ _ (g1 _ _ k1)), rfl, _, rfl, p, _, rfl, .inl (SqL.of (g2 _ _ ew)), rfl, waited_flat ks, _, rfl, hR⟩
  · refine q p2 H2 (g1.free np2) (g1.trans g2) ?_
    rw [e3]
    unfold plates
    rw [Int.toNat_natCast, List.length_map, b1]

theorem sclaw : FnScope ["_law_script", "_law_counts_here", "_law_names_here", "_law_links_here", "_law_turned", "_law_recipe", "_law_beside", "_law_handed", "_law_found"] ["_law_script"] (defScope slaw) := ⟨rfl, rfl, rfl, by decide +kernel, rfl, by decide +kernel, by decide +kernel⟩
set_option maxHeartbeats 4000000 in
theorem oklaw {dV : Value} (F : FunD K "law" "law" slaw dV f fd) (B : Bn K mg c_Cut c_Recipe c_Rest c_Step c_Warm f_Step_init f_Warm_init f_Recipe_init) (DRecipe_init : DxM P w K mg base CX0 1 f_Recipe_init ["self", "name", "plates", "takes", "steps", "links"] [] (spRecInit K)) (Dplates_of : Dx P w K mg base CX0 1 "plates_of" ["recipe", "tasks"] [] (spPlates K)) (D_law_cell_at : Dx P w K mg base CX0 1 "_law_cell_at" ["_law_script", "_law_k"] [] (spCell K)) (D_law_names : Dx P w K mg base CX0 1 "_law_names" ["_law_number", "_law_many"] [] spNames0) (D_law_alike : Dx P w K mg base CX0 3 "_law_alike" ["_law_found", "_law_due_here"] [] spAlikeL) (D_law_counts : Dx P w K mg base CX0 2 "_law_counts" ["_law_script"] [] (spCountsP K)) (D_law_steps : Dx P w K mg base CX0 4 "_law_steps" ["_law_counts_here", "_law_names_here"] [] spStepsP) (D_law_links : Dx P w K mg base CX0 2 "_law_links" ["_law_script", "_law_many"] [] (spLinksP K)) (D_law_tasks : Dx P w K mg base CX0 1 "_law_tasks" ["_law_counts_here"] [] spTasksP) (D_law_due : Dx P w K mg base CX0 1 "_law_due" ["_law_links_here", "_law_tasks_here"] [] spDueP) : FnOk P w K mg base CX0 5 f fd ["_law_script"] (spLaw K) := by
  have sc := sclaw
  refine F.ok sc (fun vs H Q E h => ?_) (fun cdv A outer s H vs Q E hr h => ?_)
  · obtain ⟨a, ns, rfl, _⟩ := h
    rfl
  obtain ⟨a, ns, rfl, hS, h63, qq⟩ := h
  have s4 : (5000 : Nat) ≤ sizeLine := by decide
  refine ⟨_, (pss_cons (ps_set (i := 1) sc.nd rfl (Or.inl rfl) (pcall0 D_law_counts hr (by decide) rfl (pa_cons (pv 0) pa_nil))) (pss_cons (ps_set (i := 2) sc.nd rfl (Or.inl rfl) (pcall0 D_law_names hr (by decide) rfl (pa_cons (pcall0 D_law_cell_at hr (by decide) rfl (pa_cons (pv 0) (pa_cons pe_int pa_nil))) (pa_cons (pe_callB call_len_seq rfl B.b_len boot_len (pa_cons (pv 1) pa_nil)) pa_nil)))) (pss_cons (ps_set (i := 3) sc.nd rfl (Or.inl rfl) (pcall0 D_law_links hr (by decide) rfl (pa_cons (pv 0) (pa_cons (pe_callB call_len_seq rfl B.b_len boot_len (pa_cons (pv 1) pa_nil)) pa_nil)))) (pss_cons (ps_compT sc.nd (i := 4) rfl rfl (os := ["_law_word", "_law_at", "_law_other", "_law_turns"]) (ys := []) (js := []) rfl (cokT atn .nil rfl rfl rfl rfl rfl rfl rfl) (pi_list (pv 3)) (fun C fp s H => pg_tupK (K := K) (n := 4) rfl rfl (pgs_cons (pg_nameT (os := ["_law_word", "_law_at", "_law_other", "_law_turns"]) (ys := []) (i := 0) (by decide) rfl rfl) (pgs_cons (pg_nameT (os := ["_law_word", "_law_at", "_law_other", "_law_turns"]) (ys := []) (i := 1) (by decide) rfl rfl) (pgs_cons (pg_nameT (os := ["_law_word", "_law_at", "_law_other", "_law_turns"]) (ys := []) (i := 2) (by decide) rfl rfl) (pgs_cons (pg_nameT (os := ["_law_word", "_law_at", "_law_other", "_law_turns"]) (ys := []) (i := 3) (by decide) rfl rfl) pgs_nil))))) (fun C fp s H => (pe_tup (pa_cons (pv 0) (pa_cons (pv 2) (pa_cons (pv 1) (pa_cons (pv 3) pa_nil))))))) (pss_cons (ps_set (i := 5) sc.nd rfl (Or.inl rfl) (pmake0 B.mk_Recipe DRecipe_init hr (by decide) rfl B.m_Recipe (pa_cons pe_str (pa_cons pe_int (pa_cons (pe_lst pa_nil) (pa_cons (pcall0 D_law_steps hr (by decide) rfl (pa_cons (pv 1) (pa_cons (pv 2) pa_nil))) (pa_cons (pe_callTy call_list_of rfl B.b_list boot_list (pa_cons (pv 3) pa_nil)) pa_nil))))))) (pss_cons (ps_set (i := 6) sc.nd rfl (Or.inl rfl) (pmake0 B.mk_Recipe DRecipe_init hr (by decide) rfl B.m_Recipe (pa_cons pe_str (pa_cons pe_int (pa_cons (pe_lst pa_nil) (pa_cons (pcall0 D_law_steps hr (by decide) rfl (pa_cons (pv 1) (pa_cons (pv 2) pa_nil))) (pa_cons (pe_callTy call_list_of rfl B.b_list boot_list (pa_cons (pv 4) pa_nil)) pa_nil))))))) (pss_cons (ps_set (i := 7) sc.nd rfl (Or.inl rfl) (pcall0 D_law_tasks hr (by decide) rfl (pa_cons (pv 1) pa_nil))) (pss_cons (ps_set (i := 8) sc.nd rfl (Or.inl rfl) (pcall0 Dplates_of hr (by decide) rfl (pa_cons (pv 5) (pa_cons (pv 7) pa_nil)))) (pss_cons (ps_if (pt_not (pt_val (pcall0 D_law_alike hr (by decide) rfl (pa_cons (pv 8) (pa_cons (pcall0 D_law_due hr (by decide) rfl (pa_cons (pv 3) (pa_cons (pv 7) pa_nil))) pa_nil))))) (pss_one (ps_ret pe_bl)) pss_nil) (pss_cons (ps_expr (pe_bm PySem.F.plainAttrs_list PySem.F.slot_list_append PySem.F.type_list_append mt_append (pv 8) (pa_cons pe_int pa_nil))) (pss_cons (ps_if (pt_not (pt_val (pcall0 D_law_alike hr (by decide) rfl (pa_cons (pcall0 Dplates_of hr (by decide) rfl (pa_cons (pv 6) (pa_cons (pv 7) pa_nil))) (pa_cons (pcall0 D_law_due hr (by decide) rfl (pa_cons (pv 4) (pa_cons (pv 7) pa_nil))) pa_nil))))) (pss_one (ps_ret pe_bl)) pss_nil) (pss_one (ps_ret (pe_and (pcall0 D_law_alike hr (by decide) rfl (pa_cons (pcall0 Dplates_of hr (by decide) rfl (pa_cons (pv 5) (pa_cons (pv 7) pa_nil))) (pa_cons (pcall0 D_law_due hr (by decide) rfl (pa_cons (pv 3) (pa_cons (pv 7) pa_nil))) pa_nil))) (pe_one (pe_cmpR (op_eqA 4 (Nat.lt_trans (Nat.add_lt_add_left (by decide : 4 + 1 < 64) _) hr.units)) (pv 7) (pcall0 D_law_tasks hr (by decide) rfl (pa_cons (pv 1) pa_nil)) (nomark _))))))))))))))))), ?_⟩
  refine ⟨_, rfl, a, ns, rfl, hS, h63, fun lc H1 cs g1 ec c8 hc => ?_⟩
  have S1 := g1.seq hS
  have lcs : ((cs.map V.int).length : Int) = cs.length := by rw [List.length_map]
  refine ⟨_, rfl, a, ns, 1, rfl, S1, (by decide), fun c1 => ⟨_, rfl, lc, _, rfl, .inl (SqL.of ec), c1, _, rfl, (by omega), (by omega), fun ln H2 zs g2 en zl => ?_⟩⟩
  have ec2 := g2 _ _ ec
  have S2 := g2.seq S1
  refine ⟨_, rfl, _, rfl, lc, _, rfl, .inl (SqL.of ec2), a, ns, _, rfl, S2, h63, (by omega), (by omega), fun lk H3 ks g3 hk kl => ?_⟩
  have ec3 := g3 _ _ ec2
  have en3 := g3 _ _ en
  try dsimp only [gName, tNext]
  refine cut (fun σ H' => Same H3 H' ∧ ∃ lt, σ = [some (.ref a), some (.ref lc), some (.ref ln), some (.ref lk), some (.ref lt), none, none, none, none] ∧ LK H' lt (ks.map turnK)) (fun N hN => ?_) ?_
  · obtain ⟨as, a1, a2, a3⟩ := hk.ex
    refine ⟨_, rfl, lk, rfl, ⟨_, SqL.of a2⟩, compT_tup (xs := as.map V.ref) (fun i zs => ∀ k, ks[i]? = some k → zs = [.str k.1, .int k.2.2.1, .int k.2.1, .int k.2.2.2]) (SqL.of a2) (by rw [List.length_map]; omega) (fun i x hx H4 g4 o ho Q' hQ => ?_) (fun p bs H4 np hl ht g4 e4 => ?_)⟩
    · obtain ⟨b, hb, rfl⟩ := ref_at hx
      obtain ⟨k, hk', _⟩ := same_at (d := lkD) a1 hb
      have et := g4 _ _ (a3 i b k hb hk')
      obtain ⟨o1, o2, o3, o4, rfl⟩ : ∃ o1 o2 o3 o4 : Option V, o = [o1, o2, o3, o4] := by
        match o, ho with
        | [o1, o2, o3, o4], _ => exact ⟨o1, o2, o3, o4, rfl⟩
      refine ⟨b, _, rfl, SqT.of et, rfl, _, _, rfl, _, _, rfl, _, _, rfl, _, _, rfl, rfl, ⟨[some (.str k.1), some (.int k.2.1), some (.int k.2.2.1), some (.int k.2.2.2)], rfl, rfl⟩, ?_⟩
      exact ⟨_, rfl, _, rfl, _, rfl, _, rfl, (by show 4 ≤ sizeLine; decide), fun t nt => hQ t _ _ upd_same (fun k' hk2 => by rw [hk'] at hk2; cases hk2; rfl) (same_new nt _)⟩
    · rw [List.length_map] at hl
      refine hN _ _ ⟨g4, p, rfl, bs, by rw [List.length_map]; omega, e4, fun i b k e1 e2 => ?_⟩
      rw [List.getElem?_map] at e2
      cases hk2 : ks[i]? with
      | none => rw [hk2] at e2; cases e2
      | some k0 =>
        rw [hk2] at e2
        cases e2
        obtain ⟨zs', h1, h2⟩ := ht i b e1
        rw [h1, h2 k0 hk2]
        rfl
  rintro σ H4 ⟨g4, lt, rfl, ht⟩
  have ec4 := g4 _ _ ec3
  have en4 := g4 _ _ en3
  have hk4 := hk.same g4
  have czl : cs.length = zs.length := by omega
  refine cut (fun σ H' => Same H4 H' ∧ ∃ r1 dx u nm p t s, σ = [some (.ref a), some (.ref lc), some (.ref ln), some (.ref lk), some (.ref lt), some (.ref r1), none, none, none] ∧ H' r1 = some (.ins c_Recipe dx (recF nm p t s (.ref u))) ∧ LK H' u ks) (fun N hN => ?_) ?_
  · obtain ⟨as, a1, a2, a3⟩ := hk4.ex
    refine ⟨(by show 0 ≤ sizeLine; decide), fun l0 n0 => ?_⟩
    have g5 := same_new n0 (.lst [])
    refine ⟨_, rfl, _, rfl, lc, ln, cs, zs, rfl, g5 _ _ ec4, g5 _ _ en4, czl, c8, hc, fun ls H6 xs g6 es => ?_⟩
    have g56 := g5.trans g6
    refine ⟨_, rfl, lk, _, rfl, .inl (SqL.of (g56 _ _ a2)), fun la na => ?_⟩
    have g7 := same_new na (.lst (as.map V.ref))
    have g57 := g56.trans g7
    refine fun x dx nx nd nxd => ⟨x, _, dx, l0, ls, la, _, _, [], xs, _, rfl, upd_same, ⟨B.cl_Recipe, B.na_Recipe_name, B.na_Recipe_plates, B.na_Recipe_takes, B.na_Recipe_steps, B.na_Recipe_links⟩, made_keep nx nd (g7 _ _ (g6 _ _ upd_same)), made_keep nx nd (g7 _ _ es), made_keep nx nd upd_same, fun u t s H8 ux k8 eu ex => ⟨rfl, ?_⟩⟩
    have g8 := g57.trans (made_same nx nd k8)
    exact hN _ _ ⟨g8, x, dx, u, _, _, t, s, rfl, ex, hk4.copy g8 a2 eu⟩
  rintro σ H5 ⟨g5, r1, dx1, u1, nm1, p1, t1, s1, rfl, er1, hu1⟩
  have ec5 := g5 _ _ ec4
  have en5 := g5 _ _ en4
  have hk5 := hk4.same g5
  have ht5 := ht.same g5
  refine cut (fun σ H' => Same H5 H' ∧ ∃ r2 dx u nm p t s, σ = [some (.ref a), some (.ref lc), some (.ref ln), some (.ref lk), some (.ref lt), some (.ref r1), some (.ref r2), none, none] ∧ H' r2 = some (.ins c_Recipe dx (recF nm p t s (.ref u))) ∧ LK H' u (ks.map turnK)) (fun N hN => ?_) ?_
  · obtain ⟨as, a1, a2, a3⟩ := ht5.ex
    refine ⟨(by show 0 ≤ sizeLine; decide), fun l0 n0 => ?_⟩
    have g5 := same_new n0 (.lst [])
    refine ⟨_, rfl, _, rfl, lc, ln, cs, zs, rfl, g5 _ _ ec5, g5 _ _ en5, czl, c8, hc, fun ls H6 xs g6 es => ?_⟩
    have g56 := g5.trans g6
    refine ⟨_, rfl, lt, _, rfl, .inl (SqL.of (g56 _ _ a2)), fun la na => ?_⟩
    have g7 := same_new na (.lst (as.map V.ref))
    have g57 := g56.trans g7
    refine fun x dx nx nd nxd => ⟨x, _, dx, l0, ls, la, _, _, [], xs, _, rfl, upd_same, ⟨B.cl_Recipe, B.na_Recipe_name, B.na_Recipe_plates, B.na_Recipe_takes, B.na_Recipe_steps, B.na_Recipe_links⟩, made_keep nx nd (g7 _ _ (g6 _ _ upd_same)), made_keep nx nd (g7 _ _ es), made_keep nx nd upd_same, fun u t s H8 ux k8 eu ex => ⟨rfl, ?_⟩⟩
    have g8 := g57.trans (made_same nx nd k8)
    exact hN _ _ ⟨g8, x, dx, u, _, _, t, s, rfl, ex, ht5.copy g8 a2 eu⟩
  rintro σ H6 ⟨g6, r2, dx2, u2, nm2, p2, t2, s2, rfl, er2, hu2⟩
  have ec6 := g6 _ _ ec5
  have hk6 := hk5.same g6
  have ht6 := ht5.same g6
  have er1 := g6 _ _ er1
  have hu1 := hu1.same g6
  refine ⟨_, rfl, lc, cs, rfl, ec6, c8, hc, fun lh H7 g7 tk tl => ?_⟩
  have ec7 := g7 _ _ ec6
  have hk7 := hk6.same g7
  have ht7 := ht6.same g7
  have er1 := g7 _ _ er1
  have hu1 := hu1.same g7
  have er2 := g7 _ _ er2
  have hu2 := hu2.same g7
  clear g1 g2 g3 g4 g5 g6 g7
  have kl2 : (ks.map turnK).length ≤ 100 := by rw [List.length_map]; exact kl
  refine ⟨_, rfl, _, rfl, r1, _, dx1, u1, lh, _, ks, _, rfl, er1, B.cl_Recipe, B.na_Recipe_links, recF_links, hu1, tk, (by omega), (by omega), fun lf H8 nf g8 ef => ?_⟩
  obtain ⟨ps, eps, pl⟩ := plates_ints ks (tasksP cs cs.length)
  obtain ⟨ps2, eps2, pl2⟩ := plates_ints (ks.map turnK) (tasksP cs cs.length)
  rw [eps] at ef
  try dsimp only [gName, tNext]
  refine cut (fun σ H' => Same H8 H' ∧ σ = [some (.ref a), some (.ref lc), some (.ref ln), some (.ref lk), some (.ref lt), some (.ref r1), some (.ref r2), some (.ref lh), some (.ref lf)]) (fun N hN => ?_) ?_
  · refine ⟨_, rfl, _, rfl, _, rfl, lk, lh, ks, _, rfl, hk7.same g8, tk.same g8, (by omega), (by omega), fun ld H9 nd g9 ed => ?_⟩
    rw [eps] at ed
    exact ⟨lf, ld, ps, rfl, g9 _ _ ef, ed, (by omega), _, rfl, iteF (hN _ _ ⟨g9, rfl⟩)⟩
  rintro σ H9 ⟨g9, rfl⟩
  have ef9 := g9 _ _ ef
  refine ⟨_, rfl, .inl ⟨rfl, _, SqL.of ef9⟩, lf, _, _, rfl, rfl, ef9, (by rw [List.length_map]; omega), ?_⟩
  have g10 := sUpd (g8.trans g9) nf (.lst (ps.map V.int ++ [.int 0]))
  generalize upd H9 lf (.lst (ps.map V.int ++ [.int 0])) = H10 at g10 ⊢
  have ec10 := g10 _ _ ec7
  have hk10 := hk7.same g10
  have ht10 := ht7.same g10
  have er1 := g10 _ _ er1
  have hu1 := hu1.same g10
  have er2 := g10 _ _ er2
  have hu2 := hu2.same g10
  have tk10 := tk.same g10
  try dsimp only [gName, tNext]
  refine cut (fun σ H' => Same H10 H' ∧ σ = [some (.ref a), some (.ref lc), some (.ref ln), some (.ref lk), some (.ref lt), some (.ref r1), some (.ref r2), some (.ref lh), some (.ref lf)]) (fun N hN => ?_) ?_
  · refine ⟨_, rfl, _, rfl, r2, _, dx2, u2, lh, _, ks.map turnK, _, rfl, er2, B.cl_Recipe, B.na_Recipe_links, recF_links, hu2, tk10, (by omega), (by omega), fun l2 H11 n2 g11 e2 => ?_⟩
    rw [eps2] at e2
    refine ⟨_, rfl, _, rfl, lt, lh, ks.map turnK, _, rfl, ht10.same g11, tk10.same g11, (by omega), (by omega), fun ld H12 nd g12 ed => ?_⟩
    rw [eps2] at ed
    exact ⟨l2, ld, ps2, rfl, g12 _ _ e2, ed, (by omega), _, rfl, iteF (hN _ _ ⟨g11.trans g12, rfl⟩)⟩
  rintro σ H11 ⟨g11, rfl⟩
  have er1 := g11 _ _ er1
  have hu1 := hu1.same g11
  have tk11 := tk10.same g11
  have hk11 := hk10.same g11
  have ec11 := g11 _ _ ec10
  refine ⟨_, rfl, _, rfl, r1, _, dx1, u1, lh, _, ks, _, rfl, er1, B.cl_Recipe, B.na_Recipe_links, recF_links, hu1, tk11, (by omega), (by omega), fun l2 H12 n2 g12 e2 => ?_⟩
  rw [eps] at e2
  refine ⟨_, rfl, _, rfl, lk, lh, ks, _, rfl, hk11.same g12, tk11.same g12, (by omega), (by omega), fun ld H13 nd g13 ed => ?_⟩
  rw [eps] at ed
  refine ⟨l2, ld, ps, rfl, g13 _ _ e2, ed, (by omega), _, rfl, iteT ?_⟩
  have g1213 := g12.trans g13
  refine ⟨_, rfl, _, rfl, lc, cs, rfl, g1213 _ _ ec11, c8, hc, fun lh2 H14 g14 tk2 _ => ?_⟩
  obtain ⟨xs, ys, e3, e4, al⟩ := ((tk11.same g1213).same g14).alk (K := K) tk2
  exact ⟨lh, lh2, xs, ys, rfl, rfl, SqL.of e3, SqL.of e4, al, qq _⟩

end
set_option maxHeartbeats 4000000 in
theorem all_mk {l : PySem.W.OpenLaw} {w : World} {K : PySem.W.Frag} {h : Heap} {mg : Str → Option Value} {fa fplates_of f_law_cell_at f_law_names f_law_alike f_law_counts f_law_steps f_law_links f_law_tasks f_law_due flaw c_Cut c_Recipe c_Rest c_Step c_Warm f_Step_init f_Warm_init f_Recipe_init : Addr} (X : K.In h) (G : h.Ns mainGlobals mg) (hfa : mg "law" = some (.ref fa))
    {odplates_of anplates_of : Option Addr} {slplates_of : Array (Option Value)} {ocplates_of kVplates_of dcplates_of pmplates_of cdplates_of ctplates_of : Value}
    {od_law_cell_at an_law_cell_at : Option Addr} {sl_law_cell_at : Array (Option Value)} {oc_law_cell_at kV_law_cell_at dc_law_cell_at pm_law_cell_at cd_law_cell_at ct_law_cell_at : Value}
    {od_law_names an_law_names : Option Addr} {sl_law_names : Array (Option Value)} {oc_law_names kV_law_names dc_law_names pm_law_names cd_law_names ct_law_names : Value}
    {od_law_alike an_law_alike : Option Addr} {sl_law_alike : Array (Option Value)} {oc_law_alike kV_law_alike dc_law_alike pm_law_alike cd_law_alike ct_law_alike : Value}
    {od_law_counts an_law_counts : Option Addr} {sl_law_counts : Array (Option Value)} {oc_law_counts kV_law_counts dc_law_counts pm_law_counts cd_law_counts ct_law_counts : Value}
    {od_law_steps an_law_steps : Option Addr} {sl_law_steps : Array (Option Value)} {oc_law_steps kV_law_steps dc_law_steps pm_law_steps cd_law_steps ct_law_steps : Value}
    {od_law_links an_law_links : Option Addr} {sl_law_links : Array (Option Value)} {oc_law_links kV_law_links dc_law_links pm_law_links cd_law_links ct_law_links : Value}
    {od_law_tasks an_law_tasks : Option Addr} {sl_law_tasks : Array (Option Value)} {oc_law_tasks kV_law_tasks dc_law_tasks pm_law_tasks cd_law_tasks ct_law_tasks : Value}
    {od_law_due an_law_due : Option Addr} {sl_law_due : Array (Option Value)} {oc_law_due kV_law_due dc_law_due pm_law_due cd_law_due ct_law_due : Value}
    {odlaw anlaw : Option Addr} {sllaw : Array (Option Value)} {oclaw kVlaw dclaw pmlaw cdlaw ctlaw : Value}
    {odStep_init anStep_init : Option Addr} {slStep_init : Array (Option Value)} {ocStep_init kVStep_init dcStep_init pmStep_init cdStep_init ctStep_init : Value}
    {odWarm_init anWarm_init : Option Addr} {slWarm_init : Array (Option Value)} {ocWarm_init kVWarm_init dcWarm_init pmWarm_init cdWarm_init ctWarm_init : Value}
    {odRecipe_init anRecipe_init : Option Addr} {slRecipe_init : Array (Option Value)} {ocRecipe_init kVRecipe_init dcRecipe_init pmRecipe_init cdRecipe_init ctRecipe_init : Value}
    {TStep_init : Addr} {ToStep_init : Value} {TdStep_init : Option Addr} {TnStep_init : Nat} {TsStep_init : Array (Option Value)}
    {TWarm_init : Addr} {ToWarm_init : Value} {TdWarm_init : Option Addr} {TnWarm_init : Nat} {TsWarm_init : Array (Option Value)}
    (aplates_of : PySem.W.nsIn K mainGlobals "plates_of" = some (some (.ref fplates_of)))
    (lplates_of : K.lookup fplates_of = some ⟨ocplates_of, odplates_of, .func (PySem.W.fnOf "plates_of" "plates_of" (defArgs splates_of) (defBody splates_of) (defScope splates_of) .none kVplates_of dcplates_of pmplates_of anplates_of cdplates_of ctplates_of), slplates_of⟩) (cplates_of : PySem.W.codeIn K cdplates_of "plates_of" = true) (kplates_of : PySem.W.keepIn K (.ref fplates_of) = true)
    (a_law_cell_at : PySem.W.nsIn K mainGlobals "_law_cell_at" = some (some (.ref f_law_cell_at)))
    (l_law_cell_at : K.lookup f_law_cell_at = some ⟨oc_law_cell_at, od_law_cell_at, .func (PySem.W.fnOf "_law_cell_at" "_law_cell_at" (defArgs s_law_cell_at) (defBody s_law_cell_at) (defScope s_law_cell_at) .none kV_law_cell_at dc_law_cell_at pm_law_cell_at an_law_cell_at cd_law_cell_at ct_law_cell_at), sl_law_cell_at⟩) (c_law_cell_at : PySem.W.codeIn K cd_law_cell_at "_law_cell_at" = true) (k_law_cell_at : PySem.W.keepIn K (.ref f_law_cell_at) = true)
    (a_law_names : PySem.W.nsIn K mainGlobals "_law_names" = some (some (.ref f_law_names)))
    (l_law_names : K.lookup f_law_names = some ⟨oc_law_names, od_law_names, .func (PySem.W.fnOf "_law_names" "_law_names" (defArgs s_law_names) (defBody s_law_names) (defScope s_law_names) .none kV_law_names dc_law_names pm_law_names an_law_names cd_law_names ct_law_names), sl_law_names⟩) (c_law_names : PySem.W.codeIn K cd_law_names "_law_names" = true) (k_law_names : PySem.W.keepIn K (.ref f_law_names) = true)
    (a_law_alike : PySem.W.nsIn K mainGlobals "_law_alike" = some (some (.ref f_law_alike)))
    (l_law_alike : K.lookup f_law_alike = some ⟨oc_law_alike, od_law_alike, .func (PySem.W.fnOf "_law_alike" "_law_alike" (defArgs s_law_alike) (defBody s_law_alike) (defScope s_law_alike) .none kV_law_alike dc_law_alike pm_law_alike an_law_alike cd_law_alike ct_law_alike), sl_law_alike⟩) (c_law_alike : PySem.W.codeIn K cd_law_alike "_law_alike" = true) (k_law_alike : PySem.W.keepIn K (.ref f_law_alike) = true)
    (a_law_counts : PySem.W.nsIn K mainGlobals "_law_counts" = some (some (.ref f_law_counts)))
    (l_law_counts : K.lookup f_law_counts = some ⟨oc_law_counts, od_law_counts, .func (PySem.W.fnOf "_law_counts" "_law_counts" (defArgs s_law_counts) (defBody s_law_counts) (defScope s_law_counts) .none kV_law_counts dc_law_counts pm_law_counts an_law_counts cd_law_counts ct_law_counts), sl_law_counts⟩) (c_law_counts : PySem.W.codeIn K cd_law_counts "_law_counts" = true) (k_law_counts : PySem.W.keepIn K (.ref f_law_counts) = true)
    (a_law_steps : PySem.W.nsIn K mainGlobals "_law_steps" = some (some (.ref f_law_steps)))
    (l_law_steps : K.lookup f_law_steps = some ⟨oc_law_steps, od_law_steps, .func (PySem.W.fnOf "_law_steps" "_law_steps" (defArgs s_law_steps) (defBody s_law_steps) (defScope s_law_steps) .none kV_law_steps dc_law_steps pm_law_steps an_law_steps cd_law_steps ct_law_steps), sl_law_steps⟩) (c_law_steps : PySem.W.codeIn K cd_law_steps "_law_steps" = true) (k_law_steps : PySem.W.keepIn K (.ref f_law_steps) = true)
    (a_law_links : PySem.W.nsIn K mainGlobals "_law_links" = some (some (.ref f_law_links)))
    (l_law_links : K.lookup f_law_links = some ⟨oc_law_links, od_law_links, .func (PySem.W.fnOf "_law_links" "_law_links" (defArgs s_law_links) (defBody s_law_links) (defScope s_law_links) .none kV_law_links dc_law_links pm_law_links an_law_links cd_law_links ct_law_links), sl_law_links⟩) (c_law_links : PySem.W.codeIn K cd_law_links "_law_links" = true) (k_law_links : PySem.W.keepIn K (.ref f_law_links) = true)
    (a_law_tasks : PySem.W.nsIn K mainGlobals "_law_tasks" = some (some (.ref f_law_tasks)))
    (l_law_tasks : K.lookup f_law_tasks = some ⟨oc_law_tasks, od_law_tasks, .func (PySem.W.fnOf "_law_tasks" "_law_tasks" (defArgs s_law_tasks) (defBody s_law_tasks) (defScope s_law_tasks) .none kV_law_tasks dc_law_tasks pm_law_tasks an_law_tasks cd_law_tasks ct_law_tasks), sl_law_tasks⟩) (c_law_tasks : PySem.W.codeIn K cd_law_tasks "_law_tasks" = true) (k_law_tasks : PySem.W.keepIn K (.ref f_law_tasks) = true)
    (a_law_due : PySem.W.nsIn K mainGlobals "_law_due" = some (some (.ref f_law_due)))
    (l_law_due : K.lookup f_law_due = some ⟨oc_law_due, od_law_due, .func (PySem.W.fnOf "_law_due" "_law_due" (defArgs s_law_due) (defBody s_law_due) (defScope s_law_due) .none kV_law_due dc_law_due pm_law_due an_law_due cd_law_due ct_law_due), sl_law_due⟩) (c_law_due : PySem.W.codeIn K cd_law_due "_law_due" = true) (k_law_due : PySem.W.keepIn K (.ref f_law_due) = true)
    (alaw : PySem.W.nsIn K mainGlobals "law" = some (some (.ref flaw)))
    (llaw : K.lookup flaw = some ⟨oclaw, odlaw, .func (PySem.W.fnOf "law" "law" (defArgs slaw) (defBody slaw) (defScope slaw) .none kVlaw dclaw pmlaw anlaw cdlaw ctlaw), sllaw⟩) (claw : PySem.W.codeIn K cdlaw "law" = true) (klaw : PySem.W.keepIn K (.ref flaw) = true)
    (zb_len : PySem.W.nsIn K mainGlobals "len" = some none)
    (zb_isinstance : PySem.W.nsIn K mainGlobals "isinstance" = some none)
    (zb_int : PySem.W.nsIn K mainGlobals "int" = some none)
    (zb_bool : PySem.W.nsIn K mainGlobals "bool" = some none)
    (zb_tuple : PySem.W.nsIn K mainGlobals "tuple" = some none)
    (zb_str : PySem.W.nsIn K mainGlobals "str" = some none)
    (zb_list : PySem.W.nsIn K mainGlobals "list" = some none)
    (zb_range : PySem.W.nsIn K mainGlobals "range" = some none)
    (zm_Cut : PySem.W.nsIn K mainGlobals "Cut" = some (some (.ref c_Cut)))
    (zm_Recipe : PySem.W.nsIn K mainGlobals "Recipe" = some (some (.ref c_Recipe)))
    (zm_Rest : PySem.W.nsIn K mainGlobals "Rest" = some (some (.ref c_Rest)))
    (zm_Step : PySem.W.nsIn K mainGlobals "Step" = some (some (.ref c_Step)))
    (zm_Warm : PySem.W.nsIn K mainGlobals "Warm" = some (some (.ref c_Warm)))
    (atStep_init : PySem.W.findIn K (.ref c_Step) "__init__" = some (some (.ref f_Step_init)))
    (lStep_init : K.lookup f_Step_init = some ⟨ocStep_init, odStep_init, .func (PySem.W.fnOf "__init__" "Step.__init__" (defArgs sStep_init) (defBody sStep_init) (defScope sStep_init) (.ref TStep_init) kVStep_init dcStep_init pmStep_init anStep_init cdStep_init ctStep_init), slStep_init⟩) (cStep_init : PySem.W.codeIn K cdStep_init "Step.__init__" = true) (kStep_init : PySem.W.keepIn K (.ref f_Step_init) = true)
    (atWarm_init : PySem.W.findIn K (.ref c_Warm) "__init__" = some (some (.ref f_Warm_init)))
    (lWarm_init : K.lookup f_Warm_init = some ⟨ocWarm_init, odWarm_init, .func (PySem.W.fnOf "__init__" "Warm.__init__" (defArgs sWarm_init) (defBody sWarm_init) (defScope sWarm_init) (.ref TWarm_init) kVWarm_init dcWarm_init pmWarm_init anWarm_init cdWarm_init ctWarm_init), slWarm_init⟩) (cWarm_init : PySem.W.codeIn K cdWarm_init "Warm.__init__" = true) (kWarm_init : PySem.W.keepIn K (.ref f_Warm_init) = true)
    (atRecipe_init : PySem.W.findIn K (.ref c_Recipe) "__init__" = some (some (.ref f_Recipe_init)))
    (lRecipe_init : K.lookup f_Recipe_init = some ⟨ocRecipe_init, odRecipe_init, .func (PySem.W.fnOf "__init__" "Recipe.__init__" (defArgs sRecipe_init) (defBody sRecipe_init) (defScope sRecipe_init) .none kVRecipe_init dcRecipe_init pmRecipe_init anRecipe_init cdRecipe_init ctRecipe_init), slRecipe_init⟩) (cRecipe_init : PySem.W.codeIn K cdRecipe_init "Recipe.__init__" = true) (kRecipe_init : PySem.W.keepIn K (.ref f_Recipe_init) = true)
    (dStep_init : K.lookup TStep_init = some ⟨ToStep_init, TdStep_init, .seq #[.none, .none] TnStep_init, TsStep_init⟩)
    (dWarm_init : K.lookup TWarm_init = some ⟨ToWarm_init, TdWarm_init, .seq #[.none, .none] TnWarm_init, TsWarm_init⟩)
    (zcl_Step : Cls K c_Step)
    (zmk_Step : Mk K c_Step f_Step_init)
    (zcl_Cut : Cls K c_Cut)
    (zmk_Cut : Mk K c_Cut f_Step_init)
    (zcl_Warm : Cls K c_Warm)
    (zmk_Warm : Mk K c_Warm f_Warm_init)
    (zcl_Rest : Cls K c_Rest)
    (zmk_Rest : Mk K c_Rest f_Step_init)
    (zcl_Recipe : Cls K c_Recipe)
    (zmk_Recipe : Mk K c_Recipe f_Recipe_init)
    (zna_Step_name : NoAttr K c_Step "name")
    (zna_Step_least : NoAttr K c_Step "least")
    (zna_Step_most : NoAttr K c_Step "most")
    (zna_Step_uses : NoAttr K c_Step "uses")
    (zna_Step_second : NoAttr K c_Step "second")
    (zna_Cut_name : NoAttr K c_Cut "name")
    (zna_Cut_least : NoAttr K c_Cut "least")
    (zna_Cut_most : NoAttr K c_Cut "most")
    (zna_Cut_uses : NoAttr K c_Cut "uses")
    (zna_Cut_second : NoAttr K c_Cut "second")
    (zna_Rest_name : NoAttr K c_Rest "name")
    (zna_Rest_least : NoAttr K c_Rest "least")
    (zna_Rest_most : NoAttr K c_Rest "most")
    (zna_Rest_uses : NoAttr K c_Rest "uses")
    (zna_Rest_second : NoAttr K c_Rest "second")
    (zna_Warm_name : NoAttr K c_Warm "name")
    (zna_Warm_least : NoAttr K c_Warm "least")
    (zna_Warm_most : NoAttr K c_Warm "most")
    (zna_Warm_uses : NoAttr K c_Warm "uses")
    (zna_Warm_second : NoAttr K c_Warm "second")
    (zna_Warm_fill : NoAttr K c_Warm "fill")
    (zna_Recipe_name : NoAttr K c_Recipe "name")
    (zna_Recipe_plates : NoAttr K c_Recipe "plates")
    (zna_Recipe_takes : NoAttr K c_Recipe "takes")
    (zna_Recipe_steps : NoAttr K c_Recipe "steps")
    (zna_Recipe_links : NoAttr K c_Recipe "links")
    (zcm_Step___init__ : ClsM K c_Step "__init__" f_Step_init)
    : ∃ fd : FuncData, (∀ (s : Shared) (v : Value), BindsTo s fd ⟨[v], []⟩ [("_law_script", v)]) ∧ ∀ base : Heap, K.In base → base.Ns mainGlobals mg → FnOk l.prog w K mg base CX0 5 fa fd ["_law_script"] (spLaw K) := by
  have e := hfa.symm.trans (PySem.W.mg_of X G alaw)
  cases e
  have B : Bn K mg c_Cut c_Recipe c_Rest c_Step c_Warm f_Step_init f_Warm_init f_Recipe_init := ⟨PySem.W.mg_none_of X G zb_len, PySem.W.mg_none_of X G zb_isinstance, PySem.W.mg_none_of X G zb_int, PySem.W.mg_none_of X G zb_bool, PySem.W.mg_none_of X G zb_tuple, PySem.W.mg_none_of X G zb_str, PySem.W.mg_none_of X G zb_list, PySem.W.mg_none_of X G zb_range, PySem.W.mg_of X G zm_Cut, PySem.W.mg_of X G zm_Recipe, PySem.W.mg_of X G zm_Rest, PySem.W.mg_of X G zm_Step, PySem.W.mg_of X G zm_Warm, zcl_Step, zmk_Step, zcl_Cut, zmk_Cut, zcl_Warm, zmk_Warm, zcl_Rest, zmk_Rest, zcl_Recipe, zmk_Recipe, zna_Step_name, zna_Step_least, zna_Step_most, zna_Step_uses, zna_Step_second, zna_Cut_name, zna_Cut_least, zna_Cut_most, zna_Cut_uses, zna_Cut_second, zna_Rest_name, zna_Rest_least, zna_Rest_most, zna_Rest_uses, zna_Rest_second, zna_Warm_name, zna_Warm_least, zna_Warm_most, zna_Warm_uses, zna_Warm_second, zna_Warm_fill, zna_Recipe_name, zna_Recipe_plates, zna_Recipe_takes, zna_Recipe_steps, zna_Recipe_links, zcm_Step___init__⟩
  have FStep_init := funD_mk (st := sStep_init) lStep_init cStep_init kStep_init
  have FWarm_init := funD_mk (st := sWarm_init) lWarm_init cWarm_init kWarm_init
  have FRecipe_init := funD_mk (st := sRecipe_init) lRecipe_init cRecipe_init kRecipe_init
  have Fplates_of := funD_mk (st := splates_of) lplates_of cplates_of kplates_of
  have F_law_cell_at := funD_mk (st := s_law_cell_at) l_law_cell_at c_law_cell_at k_law_cell_at
  have F_law_names := funD_mk (st := s_law_names) l_law_names c_law_names k_law_names
  have F_law_alike_vf := funD_mk (st := s_law_alike_vf) l_law_alike c_law_alike k_law_alike
  have F_law_alike_v0 := funD_mk (st := s_law_alike_v0) l_law_alike c_law_alike k_law_alike
  have F_law_alike := funD_mk (st := s_law_alike) l_law_alike c_law_alike k_law_alike
  have F_law_counts := funD_mk (st := s_law_counts) l_law_counts c_law_counts k_law_counts
  have F_law_steps := funD_mk (st := s_law_steps) l_law_steps c_law_steps k_law_steps
  have F_law_links := funD_mk (st := s_law_links) l_law_links c_law_links k_law_links
  have F_law_tasks := funD_mk (st := s_law_tasks) l_law_tasks c_law_tasks k_law_tasks
  have F_law_due := funD_mk (st := s_law_due) l_law_due c_law_due k_law_due
  have Flaw := funD_mk (st := slaw) llaw claw klaw
  refine ⟨PySem.W.fnOf "law" "law" (defArgs slaw) (defBody slaw) (defScope slaw) .none kVlaw dclaw pmlaw anlaw cdlaw ctlaw, ?bind, fun base _ _ => ?ok⟩
  case bind => exact fun s v => .of_eq rfl
  case ok =>
    have DStep_init : DxM l.prog w K mg base CX0 1 f_Step_init ["self", "name", "least", "most", "uses", "second"] [.non, .non] (spStepInit K) := ⟨_, okStep_init FStep_init B , FStep_init.binds (ps := ["self", "name", "least", "most", "uses", "second"]) (ds := []) dStep_init rfl fun _ _ _ _ _ _ us hl => match us, hl with | [_, _, _, _, _, _], _ => ⟨_, rfl, rfl⟩, ⟨[.none, .none], FStep_init.binds (ps := ["self", "name", "least", "most", "uses", "second"]) (ds := [.none, .none]) dStep_init rfl fun _ _ _ _ _ _ us hl => match us, hl with | [_, _, _, _], _ => ⟨_, rfl, rfl⟩ | [], h => absurd h (by simp) | [_], h => absurd h (by simp) | [_, _], h => absurd h (by simp) | [_, _, _], h => absurd h (by simp) | _ :: _ :: _ :: _ :: _ :: _, h => absurd h (by simp), .cons rfl (.cons rfl .nil)⟩⟩
    have DWarm_init : DxM l.prog w K mg base CX0 2 f_Warm_init ["self", "name", "least", "most", "fill", "uses", "second"] [.non, .non] (spWarmInit K) := ⟨_, okWarm_init FWarm_init B DStep_init, FWarm_init.binds (ps := ["self", "name", "least", "most", "fill", "uses", "second"]) (ds := []) dWarm_init rfl fun _ _ _ _ _ _ us hl => match us, hl with | [_, _, _, _, _, _, _], _ => ⟨_, rfl, rfl⟩, ⟨[.none, .none], FWarm_init.binds (ps := ["self", "name", "least", "most", "fill", "uses", "second"]) (ds := [.none, .none]) dWarm_init rfl fun _ _ _ _ _ _ us hl => match us, hl with | [_, _, _, _, _], _ => ⟨_, rfl, rfl⟩ | [], h => absurd h (by simp) | [_], h => absurd h (by simp) | [_, _], h => absurd h (by simp) | [_, _, _], h => absurd h (by simp) | [_, _, _, _], h => absurd h (by simp) | _ :: _ :: _ :: _ :: _ :: _ :: _, h => absurd h (by simp), .cons rfl (.cons rfl .nil)⟩⟩
    have bRecipe_init := FRecipe_init.binds0 (ps := ["self", "name", "plates", "takes", "steps", "links"]) fun _ _ _ _ _ _ us hl => match us, hl with | [_, _, _, _, _, _], _ => rfl
    have DRecipe_init : DxM l.prog w K mg base CX0 1 f_Recipe_init ["self", "name", "plates", "takes", "steps", "links"] [] (spRecInit K) := ⟨_, okRecipe_init FRecipe_init B , bRecipe_init, ⟨[], bRecipe_init, .nil⟩⟩
    have bplates_of := Fplates_of.binds0 (ps := ["recipe", "tasks"]) fun _ _ _ _ _ _ us hl => match us, hl with | [_, _], _ => rfl
    have Dplates_of : Dx l.prog w K mg base CX0 1 "plates_of" ["recipe", "tasks"] [] (spPlates K) := ⟨fplates_of, _, okplates_of Fplates_of B , PySem.W.mg_of X G aplates_of, kplates_of, bplates_of, ⟨[], bplates_of, .nil⟩⟩
    have b_law_cell_at := F_law_cell_at.binds0 (ps := ["_law_script", "_law_k"]) fun _ _ _ _ _ _ us hl => match us, hl with | [_, _], _ => rfl
    have D_law_cell_at : Dx l.prog w K mg base CX0 1 "_law_cell_at" ["_law_script", "_law_k"] [] (spCell K) := ⟨f_law_cell_at, _, ok_law_cell_at F_law_cell_at B , PySem.W.mg_of X G a_law_cell_at, k_law_cell_at, b_law_cell_at, ⟨[], b_law_cell_at, .nil⟩⟩
    have b_law_names := F_law_names.binds0 (ps := ["_law_number", "_law_many"]) fun _ _ _ _ _ _ us hl => match us, hl with | [_, _], _ => rfl
    have D_law_names : Dx l.prog w K mg base CX0 1 "_law_names" ["_law_number", "_law_many"] [] spNames0 := ⟨f_law_names, _, ok_law_names F_law_names B , PySem.W.mg_of X G a_law_names, k_law_names, b_law_names, ⟨[], b_law_names, .nil⟩⟩
    have b_law_alike_vf := F_law_alike_vf.binds0 (ps := ["_law_found", "_law_due_here"]) fun _ _ _ _ _ _ us hl => match us, hl with | [_, _], _ => rfl
    have D_law_alike_vf : Dx l.prog w K mg base CX0 1 "_law_alike" ["_law_found", "_law_due_here"] [] spNever := ⟨f_law_alike, _, ok_law_alike_vf F_law_alike_vf B , PySem.W.mg_of X G a_law_alike, k_law_alike, b_law_alike_vf, ⟨[], b_law_alike_vf, .nil⟩⟩
    have b_law_alike_v0 := F_law_alike_v0.binds0 (ps := ["_law_found", "_law_due_here"]) fun _ _ _ _ _ _ us hl => match us, hl with | [_, _], _ => rfl
    have D_law_alike_v0 : Dx l.prog w K mg base CX0 2 "_law_alike" ["_law_found", "_law_due_here"] [] spAlikeI := ⟨f_law_alike, _, ok_law_alike_v0 F_law_alike_v0 B D_law_alike_vf, PySem.W.mg_of X G a_law_alike, k_law_alike, b_law_alike_v0, ⟨[], b_law_alike_v0, .nil⟩⟩
    have b_law_alike := F_law_alike.binds0 (ps := ["_law_found", "_law_due_here"]) fun _ _ _ _ _ _ us hl => match us, hl with | [_, _], _ => rfl
    have D_law_alike : Dx l.prog w K mg base CX0 3 "_law_alike" ["_law_found", "_law_due_here"] [] spAlikeL := ⟨f_law_alike, _, ok_law_alike F_law_alike B D_law_alike_v0, PySem.W.mg_of X G a_law_alike, k_law_alike, b_law_alike, ⟨[], b_law_alike, .nil⟩⟩
    have b_law_counts := F_law_counts.binds0 (ps := ["_law_script"]) fun _ _ _ _ _ _ us hl => match us, hl with | [_], _ => rfl
    have D_law_counts : Dx l.prog w K mg base CX0 2 "_law_counts" ["_law_script"] [] (spCountsP K) := ⟨f_law_counts, _, ok_law_counts F_law_counts B D_law_cell_at, PySem.W.mg_of X G a_law_counts, k_law_counts, b_law_counts, ⟨[], b_law_counts, .nil⟩⟩
    have b_law_steps := F_law_steps.binds0 (ps := ["_law_counts_here", "_law_names_here"]) fun _ _ _ _ _ _ us hl => match us, hl with | [_, _], _ => rfl
    have D_law_steps : Dx l.prog w K mg base CX0 4 "_law_steps" ["_law_counts_here", "_law_names_here"] [] spStepsP := ⟨f_law_steps, _, ok_law_steps F_law_steps B DStep_init DWarm_init, PySem.W.mg_of X G a_law_steps, k_law_steps, b_law_steps, ⟨[], b_law_steps, .nil⟩⟩
    have b_law_links := F_law_links.binds0 (ps := ["_law_script", "_law_many"]) fun _ _ _ _ _ _ us hl => match us, hl with | [_, _], _ => rfl
    have D_law_links : Dx l.prog w K mg base CX0 2 "_law_links" ["_law_script", "_law_many"] [] (spLinksP K) := ⟨f_law_links, _, ok_law_links F_law_links B , PySem.W.mg_of X G a_law_links, k_law_links, b_law_links, ⟨[], b_law_links, .nil⟩⟩
    have b_law_tasks := F_law_tasks.binds0 (ps := ["_law_counts_here"]) fun _ _ _ _ _ _ us hl => match us, hl with | [_], _ => rfl
    have D_law_tasks : Dx l.prog w K mg base CX0 1 "_law_tasks" ["_law_counts_here"] [] spTasksP := ⟨f_law_tasks, _, ok_law_tasks F_law_tasks B , PySem.W.mg_of X G a_law_tasks, k_law_tasks, b_law_tasks, ⟨[], b_law_tasks, .nil⟩⟩
    have b_law_due := F_law_due.binds0 (ps := ["_law_links_here", "_law_tasks_here"]) fun _ _ _ _ _ _ us hl => match us, hl with | [_, _], _ => rfl
    have D_law_due : Dx l.prog w K mg base CX0 1 "_law_due" ["_law_links_here", "_law_tasks_here"] [] spDueP := ⟨f_law_due, _, ok_law_due F_law_due B , PySem.W.mg_of X G a_law_due, k_law_due, b_law_due, ⟨[], b_law_due, .nil⟩⟩
    exact oklaw Flaw B DRecipe_init Dplates_of D_law_cell_at D_law_names D_law_alike D_law_counts D_law_steps D_law_links D_law_tasks D_law_due
theorem walk {l : PySem.W.OpenLaw} {q : Program} {loose : List Str} {XP : (Str → Option Value) → Heap → Prop} {YP : World → Heap → Prop} {d : DefRec} {K : Params → PySem.W.Frag} (hn : l.most = some 63) (hdf : d.params.defaults = [])
    (hY : ∀ (w : World) (h : Heap), YP w h → (K w.params).In h)
    (F : ∀ (w : World) (mg : Str → Option Value) (fa : Addr) (h : Heap), (K w.params).In h → h.Ns mainGlobals mg → mg d.name = some (.ref fa) →
      ∃ fd : FuncData, (∀ (s : Shared) (u : Value), BindsTo s fd ⟨[u], []⟩ [("_law_script", u)]) ∧ ∀ base : Heap, (K w.params).In base → base.Ns mainGlobals mg → FnOk l.prog w (K w.params) mg base CX0 5 fa fd ["_law_script"] (spLaw (K w.params))) :
    PySem.W.WalkO q loose XP YP l.row.toRowW d [] (fun f vs => PySem.call f vs) :=
  L2.walk_of (n := 63) (k := 5) (x := "_law_script") (CX := fun _ => CX0) (sp := fun w => spLaw (K w.params)) hn (by decide) hdf ⟨rfl, by decide, by decide⟩ hY F (fun _ _ a ns hl _ hS => ⟨a, ns, rfl, hS, hl, fun _ => rfl⟩) fun _ _ _ _ _ z => z
end Lk43
open PySem PySem.W PyProof.Rows
set_option maxRecDepth 100000 in
set_option maxHeartbeats 0 in
theorem PySem.Challenge.cw_stovework_k43_plates_holds : PySem.Challenge.rw_stovework_k43_plates.Holds := by
  w_on; o_law; k_head; (case hw => w_witness2)
  k_fill
  refine Lk43.walk (l := PySem.Challenge.rw_stovework_k43_plates) rfl rfl (fun w h Y => PySem.W.kIn_of Y) ?F
  case F =>
    intro w mg fa h KX G hmg
    refine' Lk43.all_mk KX G hmg ?h0 ?h1 ?h2 ?h3 ?h4 ?h5 ?h6 ?h7 ?h8 ?h9 ?h10 ?h11 ?h12 ?h13 ?h14 ?h15 ?h16 ?h17 ?h18 ?h19 ?h20 ?h21 ?h22 ?h23 ?h24 ?h25 ?h26 ?h27 ?h28 ?h29 ?h30 ?h31 ?h32 ?h33 ?h34 ?h35 ?h36 ?h37 ?h38 ?h39 ?h40 ?h41 ?h42 ?h43 ?h44 ?h45 ?h46 ?h47 ?h48 ?h49 ?h50 ?h51 ?h52 ?h53 ?h54 ?h55 ?h56 ?h57 ?h58 ?h59 ?h60 ?h61 ?h62 ?h63 ?h64 ?h65 ?h66 ?h67 ?h68 ?h69 ?h70 ?h71 ?h72 ?h73 ?h74 ?h75 ?h76 ?h77 ?h78 ?h79 ?h80 ?h81 ?h82 ?h83 ?h84 ?h85 ?h86 ?h87 ?h88 ?h89 ?h90 ?h91 ?h92 ?h93 ?h94 ?h95 ?h96 ?h97 ?h98 ?h99 ?h100 ?h101 ?h102 ?h103
    (case h0 => k_is)
    (case h1 => k_is)
    (case h2 => k_is)
    (case h3 => k_is)
    (case h4 => k_is)
    (case h5 => k_is)
    (case h6 => k_is)
    (case h7 => k_is)
    (case h8 => k_is)
    (case h9 => k_is)
    (case h10 => k_is)
    (case h11 => k_is)
    (case h12 => k_is)
    (case h13 => k_is)
    (case h14 => k_is)
    (case h15 => k_is)
    (case h16 => k_is)
    (case h17 => k_is)
    (case h18 => k_is)
    (case h19 => k_is)
    (case h20 => k_is)
    (case h21 => k_is)
    (case h22 => k_is)
    (case h23 => k_is)
    (case h24 => k_is)
    (case h25 => k_is)
    (case h26 => k_is)
    (case h27 => k_is)
    (case h28 => k_is)
    (case h29 => k_is)
    (case h30 => k_is)
    (case h31 => k_is)
    (case h32 => k_is)
    (case h33 => k_is)
    (case h34 => k_is)
    (case h35 => k_is)
    (case h36 => k_is)
    (case h37 => k_is)
    (case h38 => k_is)
    (case h39 => k_is)
    (case h40 => k_is)
    (case h41 => k_is)
    (case h42 => k_is)
    (case h43 => k_is)
    (case h44 => k_is)
    (case h45 => k_is)
    (case h46 => k_is)
    (case h47 => k_is)
    (case h48 => k_is)
    (case h49 => k_is)
    (case h50 => k_is)
    (case h51 => k_is)
    (case h52 => k_is)
    (case h53 => k_is)
    (case h54 => k_is)
    (case h55 => k_is)
    (case h56 => k_is)
    (case h57 => k_is)
    (case h58 => k_is)
    (case h59 => k_is)
    (case h60 => k_is)
    (case h61 => k_is)
    (case h62 => k_is)
    (case h63 => k_is)
    (case h64 => k_is)
    (case h65 => k_is)
    (case h66 => k_is)
    (case h67 => exact ⟨by k_is, by k_is, by k_is, by k_is⟩)
    (case h68 => exact ⟨by k_is, by k_is, by k_is, by k_is⟩)
    (case h69 => exact ⟨by k_is, by k_is, by k_is, by k_is⟩)
    (case h70 => exact ⟨by k_is, by k_is, by k_is, by k_is⟩)
    (case h71 => exact ⟨by k_is, by k_is, by k_is, by k_is⟩)
    (case h72 => exact ⟨by k_is, by k_is, by k_is, by k_is⟩)
    (case h73 => exact ⟨by k_is, by k_is, by k_is, by k_is⟩)
    (case h74 => exact ⟨by k_is, by k_is, by k_is, by k_is⟩)
    (case h75 => exact ⟨by k_is, by k_is, by k_is, by k_is⟩)
    (case h76 => exact ⟨by k_is, by k_is, by k_is, by k_is⟩)
    (case h77 => unfold L2.NoAttr; k_is)
    (case h78 => unfold L2.NoAttr; k_is)
    (case h79 => unfold L2.NoAttr; k_is)
    (case h80 => unfold L2.NoAttr; k_is)
    (case h81 => unfold L2.NoAttr; k_is)
    (case h82 => unfold L2.NoAttr; k_is)
    (case h83 => unfold L2.NoAttr; k_is)
    (case h84 => unfold L2.NoAttr; k_is)
    (case h85 => unfold L2.NoAttr; k_is)
    (case h86 => unfold L2.NoAttr; k_is)
    (case h87 => unfold L2.NoAttr; k_is)
    (case h88 => unfold L2.NoAttr; k_is)
    (case h89 => unfold L2.NoAttr; k_is)
    (case h90 => unfold L2.NoAttr; k_is)
    (case h91 => unfold L2.NoAttr; k_is)
    (case h92 => unfold L2.NoAttr; k_is)
    (case h93 => unfold L2.NoAttr; k_is)
    (case h94 => unfold L2.NoAttr; k_is)
    (case h95 => unfold L2.NoAttr; k_is)
    (case h96 => unfold L2.NoAttr; k_is)
    (case h97 => unfold L2.NoAttr; k_is)
    (case h98 => unfold L2.NoAttr; k_is)
    (case h99 => unfold L2.NoAttr; k_is)
    (case h100 => unfold L2.NoAttr; k_is)
    (case h101 => unfold L2.NoAttr; k_is)
    (case h102 => unfold L2.NoAttr; k_is)
    (case h103 => exact ⟨by k_is, by k_is, by k_is, by k_is⟩)
