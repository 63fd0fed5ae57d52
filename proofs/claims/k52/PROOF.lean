import PyProof.Rows.All
import Wide.All
import OpenK.AllK
import Wide.FinOn
import Lean
import PyProof.EqAt
import PyProof.EqKinds
import PyProof.TupleCall
import PyProof.NeKinds
import PyProof.StationsW
import PyProof.RulesAs
import PyProof.ExcArgsOwn
import PyProof.CompFree
import PyProof.ExcInit
import PyProof.ConsumeWalk
import PyProof.Rows.SeqGen
import PyProof.StrWalks
import PyProof.SliceStr2
import PyProof.MeetsStr
import KE.KIntText
import PyProof.Rows.FStr
import PyProof.StrCalls6
import PyProof.StrBlockL
import PyProof.ToksMono
import PyProof.WalkInts
import PyProof.Rows.MinMaxN
import PyProof.StrLawsReplace
import PyProof.StrLawsTight
import PyProof.Rows.StrLawsPart
import PyProof.DictWalks
import KE.KEqDict
import KE.KDictLaws
import KE.KRevIter
import PyProof.ListCopy
import PyProof.CollectIter
import PyProof.Rows.SetFrom
import PyProof.Rows.SortShellK
import PyProof.Rows.SortStr
import PyProof.Rows.SortWalk
import KE.KDictSum
import KE.KSortTup
import PyProof.TupleOfSeq
import PyProof.Rows.SortRuns
import PyProof.FactsAll.tuple_2
import PyProof.WalksEnum
import PyProof.EnumMake
import PyProof.EnumFor
import PyProof.ZipIter
import KE.KDictOf
import PyProof.DictItems
import PyProof.FactsAll.dict_itemiterator_1
import PySem.Challenge.RW_stovework_k52_plans_and_none
set_option Elab.async false
set_option linter.all false
set_option maxRecDepth 100000
/-! THE HAND LAYER, for ints, bools, texts, own classes, LISTS and tuples (index, slices, in, append, pop ..), calls, loops. Paste it whole ahead of your own text; what your proof does not reach may be deleted. -/
namespace L2
open PySem PySem.Spec PyProof.Rows

/-- a key: an int or a str -/
abbrev Key := Sum Int Str
def keyIs : Key → Value → Bool
  | .inl k, v => Value.isInt k v
  | .inr x, v => Value.isStrOf x v
def keyH (w : World) : Key → Int
  | .inl k => hashInt k
  | .inr x => hashStr w x
theorem keyIs_shape : ∀ {k : Key} {v : Value}, keyIs k v = true → (∃ i t, k = Sum.inl i ∧ v = Value.int i t) ∨ (∃ x t, k = Sum.inr x ∧ v = Value.str x t)
  | .inl i, v, h => by
    obtain ⟨t, e⟩ := Value.isInt_shape (k := i) (v := v) h
    exact .inl ⟨i, t, rfl, e⟩
  | .inr x, v, h => by
    obtain ⟨t, e⟩ := Value.isStrOf_shape (x := x) (v := v) h
    exact .inr ⟨x, t, rfl, e⟩
theorem keyIs_int (i : Int) (t : Tok) : keyIs (.inl i) (.int i t) = true := by simp [keyIs, Value.isInt]
theorem keyIs_str (x : Str) (t : Tok) : keyIs (.inr x) (.str x t) = true := by simp [keyIs, Value.isStrOf]
theorem key_ll (a b : Int) : decide ((Sum.inl a : Key) = Sum.inl b) = (a == b) := by
  by_cases e : a = b
  · subst e; simp
  · have h : ¬ (Sum.inl a : Key) = Sum.inl b := fun q => e (Sum.inl.inj q)
    rw [decide_eq_false h]
    exact (beq_eq_false_iff_ne.mpr e).symm
theorem key_rr (a b : Str) : decide ((Sum.inr a : Key) = Sum.inr b) = decide (a = b) := by
  by_cases e : a = b
  · subst e; simp
  · have h : ¬ (Sum.inr a : Key) = Sum.inr b := fun q => e (Sum.inr.inj q)
    rw [decide_eq_false h, decide_eq_false e]
theorem key_lr (a : Int) (b : Str) : decide ((Sum.inl a : Key) = Sum.inr b) = false := decide_eq_false (fun q => nomatch q)
theorem key_rl (a : Str) (b : Int) : decide ((Sum.inr a : Key) = Sum.inl b) = false := decide_eq_false (fun q => nomatch q)

def mixKind (prog : Program) (w : World) : PySem.KeyKind prog w Key where
  is := keyIs
  hash := keyH w
  inj := fun v a b ha hb => by
    rcases keyIs_shape ha with ⟨i, t, rfl, rfl⟩ | ⟨x, t, rfl, rfl⟩
    · rcases keyIs_shape hb with ⟨j, u, rfl, e⟩ | ⟨y, u, rfl, e⟩
      · injection e with e1 _; rw [e1]
      · exact nomatch e
    · rcases keyIs_shape hb with ⟨j, u, rfl, e⟩ | ⟨y, u, rfl, e⟩
      · exact nomatch e
      · injection e with e1 _; rw [e1]
  byValue := fun k v h => by
    rcases keyIs_shape h with ⟨i, t, rfl, rfl⟩ | ⟨x, t, rfl, rfl⟩ <;> rfl
  pyHash := fun hv h => by
    rcases keyIs_shape hv with ⟨i, t, rfl, rfl⟩ | ⟨x, t, rfl, rfl⟩
    · exact wpAny_pyHash_int h
    · exact wpAny_pyHash_str h
  eqBool := fun hu hv h => by
    rcases keyIs_shape hu with ⟨i, t, rfl, rfl⟩ | ⟨x, t, rfl, rfl⟩
    · rcases keyIs_shape hv with ⟨j, u, rfl, rfl⟩ | ⟨y, u, rfl, rfl⟩
      · rw [key_ll] at h; exact wpAny_eqBool_int h
      · rw [key_lr] at h; exact SeqAt.EqAt.int_str i t y u _ _ _ _ h
    · rcases keyIs_shape hv with ⟨j, u, rfl, rfl⟩ | ⟨y, u, rfl, rfl⟩
      · rw [key_rl] at h; exact SeqAt.EqAt.str_int x t j u _ _ _ _ h
      · rw [key_rr] at h; exact wpAny_eqBool_str h
  «strs» := fun k x t v h => by
    rcases keyIs_shape h with ⟨i, u, rfl, e⟩ | ⟨y, u, rfl, e⟩
    · exact nomatch e
    · injection e with e1 _
      subst e1
      cases v <;> rfl

theorem mixKind_int (prog : Program) (w : World) (i : Int) (t : Tok) : (mixKind prog w).is (.inl i) (.int i t) = true := keyIs_int i t
theorem mixKind_str (prog : Program) (w : World) (x : Str) (t : Tok) : (mixKind prog w).is (.inr x) (.str x t) = true := keyIs_str x t
end L2

namespace L2
open PySem PySem.Spec PyProof.Rows

/-- a value, without the heap -/
inductive V where
  | non | bl (b : Bool) | int (i : Int) | str (x : Str) | byt (b : Array UInt8) | flt (b : UInt64) | ref (a : Addr) | ty (n : String)
  deriving DecidableEq

def RelV : V → Value → Prop
  | .non, u => u = Value.none
  | .bl b, u => u = Value.bool b
  | .int i, u => ∃ t, u = Value.int i t
  | .str x, u => ∃ t, u = Value.str x t
  | .byt b, u => ∃ t, u = Value.bytes b t
  | .flt b, u => ∃ t, u = Value.float b t
  | .ref a, u => u = Value.ref a
  | .ty n, u => u = Value.type n

abbrev Vals : List V → List Value → Prop := Paired RelV
theorem Vals.length {xs : List V} {us : List Value} (r : Vals xs us) : xs.length = us.length := Paired.length r
theorem Vals.get : ∀ {xs : List V} {us : List Value} {i : Nat} {x : V}, Vals xs us → xs[i]? = some x → ∃ u, us[i]? = some u ∧ RelV x u
  | _, _, _, _, .nil, e => by simp at e
  | _, _, 0, _, .cons r _, e => by simp at e; subst e; exact ⟨_, rfl, r⟩
  | _, _, i + 1, x, .cons _ t, e => by
    obtain ⟨u, h1, h2⟩ := Vals.get (i := i) (x := x) t (by simpa using e)
    exact ⟨u, by simpa using h1, h2⟩
theorem Vals.append : ∀ {xs ys : List V} {us ws : List Value}, Vals xs us → Vals ys ws → Vals (xs ++ ys) (us ++ ws)
  | _, _, _, _, .nil, s => s
  | _, _, _, _, .cons r t, s => .cons r (Vals.append t s)
theorem Vals.take : ∀ {xs : List V} {us : List Value} (n : Nat), Vals xs us → Vals (xs.take n) (us.take n)
  | _, _, 0, _ => .nil
  | _, _, _ + 1, .nil => .nil
  | _, _, n + 1, .cons r t => .cons r (Vals.take n t)
theorem Vals.drop : ∀ {xs : List V} {us : List Value} (n : Nat), Vals xs us → Vals (xs.drop n) (us.drop n)
  | _, _, 0, r => r
  | _, _, _ + 1, .nil => .nil
  | _, _, n + 1, .cons _ t => Vals.drop n t
def RelO : Option V → Option Value → Prop
  | some v, some u => RelV v u
  | none, none => True
  | _, _ => False
def KV {κ : Type} : List (κ × V) → List (κ × Value) → Prop := Paired fun (p : κ × V) (q : κ × Value) => p.1 = q.1 ∧ RelV p.2 q.2

/-- a key of a dict (00_mix): an int or a text -/
def kV : Key → V
  | .inl i => .int i
  | .inr x => .str x

/-- what stands at a tracked address -/
inductive HO where
  /-- a list -/
  | lst (xs : List V)
  /-- a tuple (never changes) -/
  | tup (xs : List V)
  /-- a dict whose keys are ints and texts; one whose keys are tuples of ints and texts (the empty one is both) -/
  | dK (kvs : List (Key × V)) | dT (kvs : List (List Key × V))
  /-- a set of ints: its members, its size -/
  | set (S : Int → Bool) (n : Nat)
  /-- an instance of the class at C, its dict at dx, its attributes -/
  | ins (C dx : Addr) (fs : List (Str × V))
  /-- the dict of the instance at x -/
  | own (x : Addr)
  /-- the dict of an exception -/
  | xd (fs : List (Str × V))
  /-- a bound method, f of x -/
  | met (f x : Addr)
  /-- a range object lo, lo + 1, .. below hi -/
  | rng (lo hi : Int)
  /-- a thing that is known to the object (the script; a dict while a loop walks it): read, never written while it is so -/
  | frz (o : Obj) (u : HO)
  /-- a code object's table -/
  | tbl (ps : Array Value)
  /-- any other thing, by what is true of its one object (a def of one's own: SetO a S n := HO.ext fun h => ..) -/
  | ext (φ : Heap → Prop)

abbrev Hp := Addr → Option HO
def upd (H : Hp) (a : Addr) (o : HO) : Hp := fun b => if b = a then some o else H b
theorem upd_same {H : Hp} {a : Addr} {o : HO} : upd H a o a = some o := by unfold upd; rw [if_pos rfl]
theorem upd_ne {H : Hp} {a b : Addr} {o : HO} (h : b ≠ a) : upd H a o b = H b := by unfold upd; rw [if_neg h]
theorem upd_upd {H : Hp} {a : Addr} {o u : HO} : upd (upd H a o) a u = upd H a u := by
  funext b; unfold upd; split <;> rfl
/-- two objects of different content stand apart -/
theorem ne_of {H : Hp} {a b : Addr} {o u : HO} (h : H a = some o) (h' : H b = some u) (d : o ≠ u) : a ≠ b := by
  intro e; subst e; rw [h] at h'; exact d (Option.some.inj h')
theorem ne_of_none {H : Hp} {a b : Addr} {o : HO} (h : H a = some o) (h' : H b = none) : a ≠ b := by
  intro e; subst e; rw [h] at h'; cases h'

section
variable (P : Program) (w : World)
def ObjOk (H : Hp) (h : Heap) (a : Addr) : HO → Prop
  | .lst xs => xs.length ≤ sizeLine ∧ ∃ (its : List Value) (n : Nat), Vals xs its ∧ h.get? a = some { cls := .type "list", data := .seq its.toArray n }
  | .tup xs => xs.length ≤ sizeLine ∧ ∃ its : List Value, Vals xs its ∧ IsTup h a its.toArray
  | .dK kvs => kvs.length ≤ sizeLine ∧ (a == sysModules) = false ∧ ∃ vs, KV kvs vs ∧ h.DictOf (mixKind P w) a vs
  | .dT kvs => kvs.length ≤ sizeLine ∧ (a == sysModules) = false ∧ ∃ xs : List (List Key × Addr × Value),
      Paired (fun (p : List Key × V) (q : List Key × Addr × Value) => p.1 = q.1 ∧ H q.2.1 = some (.tup (p.1.map kV)) ∧ RelV p.2 q.2.2) kvs xs ∧
      ∃ o es ep, h.get? a = some o ∧ o.ExactDict ∧ o.data = .dict es ep ∧ es.toList = xs.map (entryOfKey (tupleKind (mixKind P w))) ∧ (xs.map (·.1)).Nodup
  | .set S n => h.SetOf (intKind P w) a S n
  | .ins C dx fs => H dx = some (.own a) ∧ fs.length ≤ 1000 ∧ dx ≠ a ∧ h.get? a = some (PySem.W.instObj C dx) ∧
      ∃ mA, h.Ns1 dx mA ∧ (∀ f, RelO (fs.lookup f) (mA f)) ∧ PySem.Within mA (fs.map (·.1))
  | .own _ => ∃ o, h.get? a = some o
  | .xd fs => ∃ mA, h.Ns1 a mA ∧ ∀ f, RelO (fs.lookup f) (mA f)
  | .rng lo hi => ∃ t u v, h.get? a = some { cls := .type "range", data := .fields #[.int lo t, .int hi u, .int 1 v] }
  | .frz o u => h.get? a = some o ∧ ObjOk H h a u
  | .tbl ps => h.get? a = some { cls := .none, data := .fields ps }
  | .met f x => h.get? a = some (PySem.W.methodObj (.ref f) (.ref x))
  | .ext φ => φ h ∧ (∃ o, h.get? a = some o) ∧ ∀ h1 h2 : Heap, φ h1 → (∀ o, h1.get? a = some o → h2.get? a = some o) → φ h2
/-- the abstract heap is held -/
def HOk (H : Hp) (h : Heap) : Prop := ∀ a o, H a = some o → ObjOk P w H h a o
end

section
variable {P : Program} {w : World} {H H' : Hp} {h h' : Heap} {a : Addr} {o : HO}
theorem ObjOk.lt (x : ObjOk P w H h a o) : a < h.objs.size := by
  cases o with
  | lst xs => obtain ⟨_, _, _, _, e⟩ := x; exact Heap.lt_size e
  | tup xs => obtain ⟨_, _, _, p⟩ := x; exact p.lt
  | dK kvs => obtain ⟨_, _, _, _, o, _, _, e, _⟩ := x; exact Heap.lt_size e
  | dT kvs => obtain ⟨_, _, _, _, o, _, _, e, _⟩ := x; exact Heap.lt_size e
  | set S n => obtain ⟨o, _, _, _, e, _⟩ := x; exact Heap.lt_size e
  | ins C dx fs => obtain ⟨_, _, _, e, _⟩ := x; exact Heap.lt_size e
  | own y => obtain ⟨_, e⟩ := x; exact Heap.lt_size e
  | xd fs => obtain ⟨_, ⟨_, _, _, e, _⟩, _⟩ := x; exact Heap.lt_size e
  | rng lo hi => obtain ⟨_, _, _, e⟩ := x; exact Heap.lt_size e
  | frz ob u => obtain ⟨e, _⟩ := x; exact Heap.lt_size e
  | tbl ps => exact Heap.lt_size (show h.get? a = some _ from x)
  | met f y => exact Heap.lt_size (show h.get? a = some _ from x)
  | ext φ => obtain ⟨_, ⟨_, e⟩, _⟩ := x; exact Heap.lt_size e
theorem Paired.mapP {α β : Type} {F G : α → β → Prop} : ∀ {l₁ : List α} {l₂ : List β}, Paired F l₁ l₂ → (∀ a b, F a b → G a b) → Paired G l₁ l₂
  | _, _, .nil, _ => .nil
  | _, _, .cons r t, f => .cons (f _ _ r) (Paired.mapP t f)
/-- what an object's description leans on: its own object, its own dict, the tuples -/
theorem ObjOk.stay (x : ObjOk P w H h a o) (k : ∀ b u, (b = a ∨ H b = some (.own a)) → h.get? b = some u → h'.get? b = some u)
    (ho : ∀ b, H b = some (.own a) → H' b = some (.own a)) (ht : ∀ b xs, H b = some (.tup xs) → H' b = some (.tup xs)) : ObjOk P w H' h' a o := by
  induction o with
  | lst xs => obtain ⟨z, its, n, r, e⟩ := x; exact ⟨z, its, n, r, k _ _ (.inl rfl) e⟩
  | tup xs => obtain ⟨z, its, r, ob, e, c⟩ := x; exact ⟨z, its, r, ob, k _ _ (.inl rfl) e, c⟩
  | dK kvs => obtain ⟨z, y, vs, r, ob, es, ep, e, c⟩ := x; exact ⟨z, y, vs, r, ob, es, ep, k _ _ (.inl rfl) e, c⟩
  | dT kvs =>
    obtain ⟨z, y, xs, r, ob, es, ep, e, c⟩ := x
    exact ⟨z, y, xs, Paired.mapP r fun p q z => ⟨z.1, ht _ _ z.2.1, z.2.2⟩, ob, es, ep, k _ _ (.inl rfl) e, c⟩
  | set S n => obtain ⟨ob, es, ep, t, e, c⟩ := x; exact ⟨ob, es, ep, t, k _ _ (.inl rfl) e, c⟩
  | ins C dx fs =>
    obtain ⟨d, z, ne, e, mA, ⟨od, es, ep, e2, c⟩, r⟩ := x
    exact ⟨ho _ d, z, ne, k _ _ (.inl rfl) e, mA, ⟨od, es, ep, k _ _ (.inr d) e2, c⟩, r⟩
  | own y => obtain ⟨ob, e⟩ := x; exact ⟨ob, k _ _ (.inl rfl) e⟩
  | xd fs => obtain ⟨mA, ⟨od, es, ep, e, c⟩, r⟩ := x; exact ⟨mA, ⟨od, es, ep, k _ _ (.inl rfl) e, c⟩, r⟩
  | rng lo hi => obtain ⟨t, u, v, e⟩ := x; exact ⟨t, u, v, k _ _ (.inl rfl) e⟩
  | frz ob u ih => obtain ⟨e, q⟩ := x; exact ⟨k _ _ (.inl rfl) e, ih q⟩
  | tbl ps =>
    have e : h.get? a = some { cls := .none, data := .fields ps } := x
    show h'.get? a = some { cls := .none, data := .fields ps }
    exact k a _ (.inl rfl) e
  | met f y =>
    have e : h.get? a = some (PySem.W.methodObj (.ref f) (.ref y)) := x
    show h'.get? a = some (PySem.W.methodObj (.ref f) (.ref y))
    exact k a _ (.inl rfl) e
  | ext φ => obtain ⟨p, ⟨o, e⟩, st⟩ := x; exact ⟨st _ _ p fun o q => k _ _ (.inl rfl) q, ⟨o, k _ _ (.inl rfl) e⟩, st⟩
theorem HOk.lt (x : HOk P w H h) (e : H a = some o) : a < h.objs.size := (x a o e).lt
theorem HOk.fresh (x : HOk P w H h) (e : h.objs.size ≤ a) : H a = none := by
  cases q : H a with
  | none => rfl
  | some u => exact absurd (Nat.lt_of_lt_of_le (x.lt q) e) (Nat.lt_irrefl _)
/-- every object of the heap is kept -/
theorem HOk.kept (x : HOk P w H h) (k : ∀ b u, h.get? b = some u → h'.get? b = some u) : HOk P w H h' := fun a o e =>
  (x a o e).stay (fun b u _ q => k b u q) (fun _ q => q) fun _ _ q => q
/-- a new object is laid and tracked -/
theorem HOk.laid (x : HOk P w H h) (k : ∀ b u, h.get? b = some u → h'.get? b = some u) (hp : h.objs.size ≤ a) (new : ObjOk P w (upd H a o) h' a o) : HOk P w (upd H a o) h' := fun b u e => by
  have hn := x.fresh hp
  by_cases hb : b = a
  · subst hb; rw [upd_same] at e; cases e; exact new
  · rw [upd_ne hb] at e
    exact (x b u e).stay (fun c v _ q => k c v q) (fun c q => by rw [upd_ne (ne_of_none q hn)]; exact q) fun c xs q => by rw [upd_ne (ne_of_none q hn)]; exact q
end

/-- what may be read as u: it is u, or a known u -/
def Rd (H : Hp) (a : Addr) (u : HO) : Prop := H a = some u ∨ ∃ o, H a = some (.frz o u)
theorem Rd.ok {P : Program} {w : World} {H : Hp} {h : Heap} {a : Addr} {u : HO} (r : Rd H a u) (x : HOk P w H h) : ObjOk P w H h a u := by
  rcases r with r | ⟨o, r⟩
  · exact x a u r
  · obtain ⟨_, q⟩ := x a _ r
    exact q
/-- what may be written -/
def Mut : Option HO → Prop
  | some (.lst _) => True
  | some (.dK _) => True
  | some (.dT _) => True
  | some (.set _ _) => True
  | some (.ins _ _ _) => True
  | some (.ext _) => True
  | _ => False
section
variable {P : Program} {w : World} {H : Hp} {h h' : Heap} {x e : Addr} {o' : HO}
/-- the object at e is changed: x itself, or the dict of the instance x -/
theorem HOk.write (ok : HOk P w H h) (mu : Mut (H x)) (he : e = x ∨ H e = some (.own x)) (k : ∀ b u, b ≠ e → h.get? b = some u → h'.get? b = some u) (heo : ∃ u, h'.get? e = some u)
    (new : ObjOk P w (upd H x o') h' x o') : HOk P w (upd H x o') h' := fun b u q => by
  have nown : ∀ c y, H c = some (.own y) → c ≠ x := fun c y r z => by subst z; rw [r] at mu; exact mu
  have ntup : ∀ c xs, H c = some (.tup xs) → c ≠ x := fun c xs r z => by subst z; rw [r] at mu; exact mu
  by_cases hb : b = x
  · subst hb; rw [upd_same] at q; cases q; exact new
  · rw [upd_ne hb] at q
    by_cases hbe : b = e
    · have q' : H b = some (.own x) := by
        rcases he with z | z
        · exact absurd (hbe.trans z) hb
        · rw [hbe]; exact z
      rw [q] at q'; cases q'
      obtain ⟨v, hv⟩ := heo
      exact ⟨v, by rw [hbe]; exact hv⟩
    · refine (ok b u q).stay (fun c v hc r => k c v ?_ r) (fun c r => by rw [upd_ne (nown c b r)]; exact r) fun c xs r => by rw [upd_ne (ntup c xs r)]; exact r
      rcases hc with rfl | hc
      · exact hbe
      · rintro rfl
        rcases he with z | z
        · exact nown c b hc z
        · rw [hc] at z; cases z; exact hb rfl
end

/-! ### kept unless tracked; of the frames at fs (the callers') the slots may change (an exception that passes writes there); of the records at ex (iterators) nothing is said -/
structure Un (fs ex : List Addr) (H H' : Hp) (h h' : Heap) : Prop where
  keep : ∀ b o, h.get? b = some o → H b = none → b ∉ fs → b ∉ ex → h'.get? b = some o
  slot : ∀ b o, h.get? b = some o → H b = none → b ∈ fs → b ∉ ex → ∃ sl, h'.get? b = some { o with slots := sl }
  free : ∀ b o, h.get? b = some o → H b = none → b ∉ ex → H' b = none
  there : ∀ b o, h.get? b = some o → b ∉ ex → ∃ o', h'.get? b = some o'
  tups : ∀ b xs, H b = some (.tup xs) → H' b = some (.tup xs)
  frzs : ∀ b o u, H b = some (.frz o u) → H' b = some (.frz o u)
  tbls : ∀ b ps, H b = some (.tbl ps) → ∃ more, H' b = some (.tbl (ps ++ more))
section
variable {fs fs' ex ex' : List Addr} {H H1 H2 : Hp} {h h1 h2 h' : Heap} {a x e : Addr} {o : HO}
theorem Un.any (u : Un fs ex H H1 h h1) {b : Addr} {ob : Obj} (q : h.get? b = some ob) (n : H b = none) (hx : b ∉ ex) : ∃ sl, h1.get? b = some { ob with slots := sl } := by
  by_cases hb : b ∈ fs
  · exact u.slot b ob q n hb hx
  · exact ⟨ob.slots, u.keep b ob q n hb hx⟩
theorem Un.kept (k : ∀ b u, h.get? b = some u → h'.get? b = some u) : Un fs ex H H h h' :=
  ⟨fun b ob q _ _ _ => k b ob q, fun b ob q _ _ _ => ⟨ob.slots, k b ob q⟩, fun _ _ _ n _ => n, fun b ob q _ => ⟨ob, k b ob q⟩, fun _ _ q => q, fun _ _ _ q => q, fun _ ps q => ⟨#[], by rw [q]; simp⟩⟩
theorem Un.refl : Un fs ex H H h h := Un.kept fun _ _ q => q
theorem Un.laid (k : ∀ b u, h.get? b = some u → h'.get? b = some u) (hp : h.objs.size ≤ a) (hn : H a = none) : Un fs ex H (upd H a o) h h' where
  keep := fun b u q _ _ _ => k b u q
  slot := fun b u q _ _ _ => ⟨u.slots, k b u q⟩
  free := fun b u q n _ => by rw [upd_ne (Nat.ne_of_lt (Nat.lt_of_lt_of_le (Heap.lt_size q) hp))]; exact n
  there := fun b u q _ => ⟨u, k b u q⟩
  tups := fun b xs q => by rw [upd_ne (ne_of_none q hn)]; exact q
  frzs := fun b u xs q => by rw [upd_ne (ne_of_none q hn)]; exact q
  tbls := fun b ps q => ⟨#[], by rw [upd_ne (ne_of_none q hn), q]; simp⟩
theorem Un.write (mu : Mut (H x)) (he : e = x ∨ H e = some (.own x)) (k : ∀ b u, b ≠ e → h.get? b = some u → h'.get? b = some u) (heo : ∃ u, h'.get? e = some u) : Un fs ex H (upd H x o) h h' := by
  have hx : ∀ b, H b = none → b ≠ x := fun b n z => by subst z; rw [n] at mu; exact mu
  have hb : ∀ b, H b = none → b ≠ e := fun b n z => by
    subst z
    rcases he with r | r
    · exact hx b n r
    · rw [n] at r; cases r
  have hm : ∀ b u, H b = some u → ¬ Mut (some u) → b ≠ x := fun b u q nm z => by subst z; rw [q] at mu; exact nm mu
  refine ⟨fun b u q n _ _ => k b u (hb b n) q, fun b u q n _ _ => ⟨u.slots, k b u (hb b n) q⟩, fun b u q n _ => by rw [upd_ne (hx b n)]; exact n, fun b u q _ => ?_,
    fun b xs q => by rw [upd_ne (hm b _ q fun z => z)]; exact q, fun b u xs q => by rw [upd_ne (hm b _ q fun z => z)]; exact q, fun b ps q => ⟨#[], by rw [upd_ne (hm b _ q fun z => z), q]; simp⟩⟩
  by_cases hbe : b = e
  · subst hbe; exact heo
  · exact ⟨u, k b u hbe q⟩
end

/-! ### the heap without what is tracked -/
def trk (h : Heap) (H : Hp) : List Addr := (List.range h.objs.size).filter fun a => (H a).isSome
def hidT (h : Heap) (H : Hp) : Heap := PySem.W.hideAll h (trk h H)
theorem hidT_size (h : Heap) (H : Hp) : (hidT h H).objs.size = h.objs.size := PySem.W.hideAll_size _ _
theorem hidT_get {h : Heap} {H : Hp} {b : Addr} {o : Obj} (e : h.get? b = some o) (n : H b = none) : (hidT h H).get? b = some o :=
  PySem.W.hideAll_get _ e fun hm => by
    have q : (H b).isSome = true := (List.mem_filter.mp hm).2
    rw [n] at q; simp at q
theorem of_hidT {h : Heap} {H : Hp} {b : Addr} {o : Obj} (e : (hidT h H).get? b = some o) : h.get? b = some o ∧ H b = none := by
  have e' : h.get? b = some o := PySem.W.of_hideAll (trk h H) e
  refine ⟨e', ?_⟩
  cases q : H b with
  | none => rfl
  | some x =>
    have hm : b ∈ trk h H := List.mem_filter.mpr ⟨List.mem_range.mpr (Heap.lt_size e'), by simp [q]⟩
    have z : (hidT h H).get? b = none := PySem.W.hideAll_none (trk h H) hm
    rw [z] at e; cases e

/-! ### OpenK's ledger, filled with every new object but one -/
end L2

namespace L2
open PySem PySem.Spec PyProof.Rows

/-- the module's facts, over the base: the heap at the law's entry without what is tracked there -/
structure Mod (K : PySem.W.Frag) (mg : Str → Option Value) (base : Heap) : Prop where
  kin : K.In base
  glob : base.Ns mainGlobals mg
  blt : ∃ mb, base.Ns builtinsNs mb ∧ ∀ x : Str, x ≠ "__name__" → mb x = bootBuiltins x
  nolimit : base.NoLimit

/-- the context: a def's body (or a comprehension's block) running. base: fixed through the whole law; s₀, H₀: the entry; outer: the frames whose slots others may change (a def's callers); stack: all frames that run;
   ex: iterators that were made ahead of the entry and are walked here (a comprehension's); fn: the names whose cells were made at the entry (a def: all; a comprehension's block: its own); calm: not within an except suite; pn: pins that every state bears; xe: what is wanted of an exception that leaves the code -/
structure Cx where
  prog : Program
  w : World
  K : PySem.W.Frag
  mg : Str → Option Value
  base : Heap
  A : Around
  N : List Str
  s₀ : Shared
  H₀ : Hp
  env : Env
  outer : List Env
  stack : List Env
  ex : List Addr
  fn : Str → Bool
  calm : Bool
  pn : List (Addr × Obj)
  xe : Value → Shared → Prop
/-- the callers' frames -/
def frs (l : List Env) : List Addr := l.filterMap (·.frame)
abbrev Cx.fs (X : Cx) : List Addr := frs X.outer

def Vis (sc : Scope) (x : Str) : Prop := sc.names.lookup x = some .local ∨ sc.names.lookup x = some .cell ∨ sc.names.lookup x = some .free
def Loc (sc : Scope) (x : Str) : Prop := sc.names.lookup x = some .local ∨ sc.names.lookup x = some .cell
def Look (env : Env) (h : Heap) (m : Str → Option Value) (x : Str) (u : Value) : Prop :=
  (env.kindOf x = some .local ∧ m x = some u) ∨ ((env.kindOf x = some .cell ∨ env.kindOf x = some .free) ∧ ∃ c, env.cells.lookup x = some c ∧ h.IsCell c (some u))

structure Cx.Ok (X : Cx) : Prop where
  mod : Mod X.K X.mg X.base
  kind : X.env.scope.kind = .function
  glob : X.env.globals = mainGlobals
  blt : X.env.builtins = builtinsNs
  above : X.s₀.heap.objs.size ≤ X.env.locals
  inj : ∀ x y c, X.env.cells.lookup x = some c → X.env.cells.lookup y = some c → x = y
  has : ∀ x, (X.env.kindOf x = some .cell ∨ X.env.kindOf x = some .free) → ∃ c, X.env.cells.lookup x = some c
  cab : ∀ x c, X.fn x = true → X.env.cells.lookup x = some c → X.s₀.heap.objs.size ≤ c
  hd : X.calm = true → X.A.handled = none
  frames : X.A.frames = some X.stack
  stk : X.stack = X.outer ∨ (X.stack = X.env :: X.outer ∧ X.env.frame = some X.env.locals)
  exf : ∀ b ∈ X.ex, b ≠ X.env.locals ∧ ∀ x c, X.env.cells.lookup x = some c → c ≠ b
  bs : ∀ b o, X.base.get? b = some o → X.s₀.heap.get? b = some o ∧ X.H₀ b = none
  bsz : X.base.objs.size ≤ X.s₀.heap.objs.size
  noex : ∀ b o, X.base.get? b = some o → b ∉ X.ex
  exfs : ∀ b ∈ X.ex, b ∉ X.fs
  funs : X.s₀.heap.FunFrames X.base X.outer
  frf : ∀ b ∈ X.fs, X.H₀ b = none

structure Inv (X : Cx) (pins : List (Addr × Obj)) (σ : List (Option V)) (H : Hp) (s : Shared) : Prop where
  ok : X.Ok
  os : s.os = X.s₀.os
  bare : AllBare s.gens
  base : Un X.fs X.ex X.H₀ H X.s₀.heap s.heap
  loc : ∃ m, s.heap.Ns X.env.locals m ∧ ∀ (i : Nat) (x : Str) (v : V), X.N[i]? = some x → σ[i]? = some (some v) → Vis X.env.scope x → ∃ u, RelV v u ∧ Look X.env s.heap m x u
  cell : ∀ x c, X.env.cells.lookup x = some c → ∃ v, s.heap.IsCell c v
  free : H X.env.locals = none
  freeC : ∀ x c, X.env.cells.lookup x = some c → H c = none
  pin : ∀ p ∈ X.pn ++ pins, s.heap.get? p.1 = some p.2 ∧ H p.1 = none ∧ p.1 ≠ X.env.locals ∧ p.1 ∉ X.fs ∧ ∀ v, p.2.data ≠ .cell v
  hok : HOk X.prog X.w H s.heap
  len : σ.length = X.N.length

section
variable {X : Cx} {pins : List (Addr × Obj)} {σ : List (Option V)} {H H' : Hp} {s : Shared} {h' : Heap}

theorem Cx.Ok.nofr (ok : X.Ok) {b : Addr} {o : Obj} (e : X.base.get? b = some o) : b ∉ X.fs := fun hb => by
  have := (ok.funs.mem hb).1
  rw [e] at this; cases this
theorem Inv.bs (I : Inv X pins σ H s) : ∀ b o, X.base.get? b = some o → s.heap.get? b = some o ∧ H b = none := fun b o e =>
  ⟨I.base.keep b o (I.ok.bs b o e).1 (I.ok.bs b o e).2 (I.ok.nofr e) (I.ok.noex b o e), I.base.free b o (I.ok.bs b o e).1 (I.ok.bs b o e).2 (I.ok.noex b o e)⟩
theorem Inv.bk (I : Inv X pins σ H s) : ∀ b o, X.base.get? b = some o → s.heap.get? b = some o := fun b o e => (I.bs b o e).1
theorem Inv.mod (I : Inv X pins σ H s) : Mod X.K X.mg X.base := I.ok.mod
theorem Inv.kIn (I : Inv X pins σ H s) : X.K.In s.heap := I.ok.mod.kin.keeps I.bk
theorem Inv.lt (I : Inv X pins σ H s) : X.env.locals < s.heap.objs.size := let ⟨_, hn, _⟩ := I.loc; hn.lt
theorem Inv.sz (I : Inv X pins σ H s) : X.s₀.heap.objs.size ≤ s.heap.objs.size := Nat.le_trans I.ok.above (Nat.le_of_lt I.lt)
theorem Inv.nofs (I : Inv X pins σ H s) {a : Addr} (h : s.heap.objs.size ≤ a) : a ∉ X.fs := fun hb => by
  obtain ⟨_, o, ho, _⟩ := I.ok.funs.mem hb
  exact absurd (Nat.lt_of_lt_of_le (Heap.lt_size ho) (Nat.le_trans I.sz h)) (Nat.lt_irrefl _)
theorem Inv.cne (I : Inv X pins σ H s) : ∀ x c, X.env.cells.lookup x = some c → c ≠ X.env.locals := fun x c e z => by
  obtain ⟨v, o, ho, hd⟩ := I.cell x c e
  obtain ⟨m, ⟨o', es, ep, ho', hd', _⟩, _⟩ := I.loc
  rw [z, ho'] at ho; cases ho; rw [hd'] at hd; cases hd
theorem Inv.funs (I : Inv X pins σ H s) : s.heap.FunFrames X.base X.outer := by
  have all : ∀ (l : List Env), (∀ b ∈ frs l, b ∈ X.fs) → X.s₀.heap.FunFrames X.base l → s.heap.FunFrames X.base l := by
    intro l
    induction l with
    | nil => intro _ _; trivial
    | cons env r ih =>
      intro hs hl
      obtain ⟨hk, ⟨L, o, hf, hn, ho, hd⟩, hr⟩ := hl
      have hL : L ∈ X.fs := hs L (by unfold frs; rw [List.filterMap_cons, hf]; exact List.mem_cons_self)
      obtain ⟨sl, e⟩ := I.base.slot L o ho (I.ok.frf L hL) hL fun z => I.ok.exfs L z hL
      exact ⟨hk, ⟨L, _, hf, hn, e, hd⟩, ih (fun b hb => hs b (by unfold frs; rw [List.filterMap_cons, hf]; exact List.mem_cons_of_mem _ hb)) hr⟩
  exact all X.outer (fun _ hb => hb) I.ok.funs

/-- the frames that run, for a call -/
theorem Inv.stack (I : Inv X pins σ H s) : s.heap.FunFrames X.base X.stack := by
  rcases I.ok.stk with e | ⟨e, hf⟩
  · rw [e]; exact I.funs
  · rw [e]
    obtain ⟨m, hn, _⟩ := I.loc
    refine .cons (by rw [I.ok.kind]; decide) hf hn ?_ I.funs
    exact Heap.get?_none_of_le (Nat.le_trans I.ok.bsz I.ok.above)
theorem Inv.stkSub (I : Inv X pins σ H s) : ∀ b ∈ frs X.stack, b ∈ X.env.locals :: X.fs := fun b hb => by
  rcases I.ok.stk with e | ⟨e, hf⟩
  · rw [e] at hb; exact List.mem_cons_of_mem _ hb
  · rw [e] at hb
    unfold frs at hb
    rw [List.filterMap_cons, hf] at hb
    exact hb
theorem Inv.stkFree (I : Inv X pins σ H s) : ∀ b ∈ frs X.stack, H b = none := fun b hb => by
  rcases List.mem_cons.mp (I.stkSub b hb) with e | hb
  · rw [e]; exact I.free
  · obtain ⟨_, o, ho, _⟩ := I.ok.funs.mem hb
    exact I.base.free b o ho (I.ok.frf b hb) fun z => I.ok.exfs b z hb

/-- THE STEP: the untracked objects but the frame and the records at ch are kept (the callers' frames up to slots), the frame's map is kept, the new abstract heap is held -/
theorem Inv.step {g' : Array GenState} {t' : Nat} {d' : Drawn} {ch : List Addr} (I : Inv X pins σ H s)
    (hch : ∀ b ∈ ch, (b ∈ X.ex ∨ X.s₀.heap.objs.size ≤ b) ∧ b ≠ X.env.locals ∧ (∀ x c, X.env.cells.lookup x = some c → c ≠ b) ∧ ∀ p ∈ X.pn ++ pins, p.1 ≠ b)
    (keep : ∀ b o, b ≠ X.env.locals → b ∉ X.fs → b ∉ ch → s.heap.get? b = some o → H b = none → h'.get? b = some o)
    (slot : ∀ b o, b ≠ X.env.locals → b ∈ X.fs → b ∉ ch → s.heap.get? b = some o → H b = none → ∃ sl, h'.get? b = some { o with slots := sl }) (free : ∀ b o, b ∉ ch → s.heap.get? b = some o → H b = none → H' b = none)
    (there : ∀ b o, b ∉ ch → s.heap.get? b = some o → ∃ o', h'.get? b = some o')
    (tups : ∀ b xs, H b = some (.tup xs) → H' b = some (.tup xs)) (frzs : ∀ b o u, H b = some (.frz o u) → H' b = some (.frz o u)) (tbls : ∀ b ps, H b = some (.tbl ps) → ∃ more, H' b = some (.tbl (ps ++ more)))
    (ns : ∀ m, s.heap.Ns X.env.locals m → h'.Ns X.env.locals m) (hok : HOk X.prog X.w H' h') (hg : AllBare g') :
    Inv X pins σ H' { s with heap := h', gens := g', drawn := d', toks := t' } := by
  have neL : ∀ b o, X.s₀.heap.get? b = some o → b ≠ X.env.locals := fun b o e => Nat.ne_of_lt (Nat.lt_of_lt_of_le (Heap.lt_size e) I.ok.above)
  have neC : ∀ b o, X.s₀.heap.get? b = some o → b ∉ X.ex → b ∉ ch := fun b o e hx hb => by
    rcases (hch b hb).1 with z | z
    · exact hx z
    · exact absurd (Nat.lt_of_lt_of_le (Heap.lt_size e) z) (Nat.lt_irrefl _)
  have cellK : ∀ x c, X.env.cells.lookup x = some c → ∀ v, s.heap.IsCell c v → h'.IsCell c v := fun x c e v ⟨o, ho, hd⟩ => by
    have nch : c ∉ ch := fun z => (hch c z).2.2.1 x c e rfl
    by_cases hc : c ∈ X.fs
    · obtain ⟨sl, q⟩ := slot c o (I.cne x c e) hc nch ho (I.freeC x c e)
      exact ⟨_, q, hd⟩
    · exact ⟨o, keep c o (I.cne x c e) hc nch ho (I.freeC x c e), hd⟩
  refine ⟨I.ok, I.os, hg, ⟨fun b o e n hb hx => ?_, fun b o e n hb hx => ?_, fun b o e n hx => ?_, fun b o e hx => ?_, fun b xs e => tups b xs (I.base.tups b xs e), fun b o xs e => frzs b o xs (I.base.frzs b o xs e), fun b ps e => ?_⟩, ?_, fun x c e => ?_, ?_, fun x c e => ?_, fun p hp => ?_, hok, I.len⟩
  · exact keep b o (neL b o e) hb (neC b o e hx) (I.base.keep b o e n hb hx) (I.base.free b o e n hx)
  · obtain ⟨sl, e1⟩ := I.base.slot b o e n hb hx
    obtain ⟨sl', e2⟩ := slot b _ (neL b o e) hb (neC b o e hx) e1 (I.base.free b o e n hx)
    exact ⟨sl', e2⟩
  · obtain ⟨o', e1⟩ := I.base.there b o e hx
    exact free b o' (neC b o e hx) e1 (I.base.free b o e n hx)
  · obtain ⟨o', e1⟩ := I.base.there b o e hx
    exact there b o' (neC b o e hx) e1
  · obtain ⟨m1, e1⟩ := I.base.tbls b ps e
    obtain ⟨m2, e2⟩ := tbls b _ e1
    exact ⟨m1 ++ m2, by rw [e2, Array.append_assoc]⟩
  · obtain ⟨m, hn, hl⟩ := I.loc
    refine ⟨m, ns m hn, fun i x v e1 e2 e3 => ?_⟩
    obtain ⟨u, r, l⟩ := hl i x v e1 e2 e3
    refine ⟨u, r, ?_⟩
    rcases l with l | ⟨k, c, e, z⟩
    · exact .inl l
    · exact .inr ⟨k, c, e, cellK x c e _ z⟩
  · obtain ⟨v, z⟩ := I.cell x c e
    exact ⟨v, cellK x c e v z⟩
  · obtain ⟨m, ⟨o, _, _, ho, _⟩, _⟩ := I.loc
    exact free _ o (fun z => (hch _ z).2.1 rfl) ho I.free
  · obtain ⟨v, o, ho, hd⟩ := I.cell x c e
    exact free c o (fun z => (hch c z).2.2.1 x c e rfl) ho (I.freeC x c e)
  · obtain ⟨e, n, ne, nf, d⟩ := I.pin p hp
    have nch : p.1 ∉ ch := fun z => (hch p.1 z).2.2.2 p hp rfl
    exact ⟨keep p.1 p.2 ne nf nch e n, free p.1 p.2 nch e n, ne, nf, d⟩
/-- .. where the frame's own object is kept too -/
theorem Inv.un {t' : Nat} (I : Inv X pins σ H s) (u : Un X.fs [] H H' s.heap h') (hok : HOk X.prog X.w H' h') : Inv X pins σ H' { s with heap := h', toks := t' } := by
  obtain ⟨m, ⟨o, es, ep, ho, r⟩, _⟩ := id I.loc
  obtain ⟨sl, hL⟩ := u.any ho I.free (by simp)
  exact I.step (g' := s.gens) (d' := s.drawn) (ch := []) (fun _ z => nomatch z) (fun b o _ hb _ e n => u.keep b o e n hb (by simp)) (fun b o _ hb _ e n => u.slot b o e n hb (by simp)) (fun b o _ e n => u.free b o e n (by simp)) (fun b o _ e => u.there b o e (by simp)) u.tups u.frzs u.tbls (fun m' hm => by
    obtain ⟨o', es', ep', ho', r'⟩ := hm
    rw [ho] at ho'; cases ho'
    exact ⟨_, es', ep', hL, r'⟩) hok I.bare
/-- behind a call (or a comprehension's block): the slots of this frame may have changed too, the records at ch may have turned -/
theorem Inv.call {g' : Array GenState} {t' : Nat} {d' : Drawn} {ch : List Addr} (I : Inv X pins σ H s) (u : Un (frs X.stack) ch H H' s.heap h') (hok : HOk X.prog X.w H' h') (hg : AllBare g')
    (hch : ∀ b ∈ ch, (b ∈ X.ex ∨ X.s₀.heap.objs.size ≤ b) ∧ b ≠ X.env.locals ∧ (∀ x c, X.env.cells.lookup x = some c → c ≠ b) ∧ ∀ p ∈ X.pn ++ pins, p.1 ≠ b) :
    Inv X pins σ H' { s with heap := h', gens := g', drawn := d', toks := t' } := by
  obtain ⟨m, ⟨o, es, ep, ho, r⟩, _⟩ := id I.loc
  obtain ⟨sl, hL⟩ := u.any ho I.free fun z => (hch _ z).2.1 rfl
  exact I.step (ch := ch) hch (fun b o hL hb hc e n => u.keep b o e n (fun z => (List.mem_cons.mp (I.stkSub b z)).elim hL hb) hc) (fun b o _ _ hc e n => u.any e n hc) (fun b o hc e n => u.free b o e n hc) (fun b o hc e => u.there b o e hc) u.tups u.frzs u.tbls (fun m' hm => by
    obtain ⟨o', es', ep', ho', r'⟩ := hm
    rw [ho] at ho'; cases ho'
    exact ⟨_, es', ep', hL, r'⟩) hok hg
/-- an untracked record of ours (an iterator) has turned -/
theorem Inv.turned {t' : Nat} {it : Addr} (I : Inv X pins σ H s) (k : ∀ b o, b ≠ it → s.heap.get? b = some o → h'.get? b = some o) (hn : H it = none) (hL : it ≠ X.env.locals)
    (h1 : it ∈ X.ex ∨ X.s₀.heap.objs.size ≤ it) (h2 : ∀ x c, X.env.cells.lookup x = some c → c ≠ it) (h3 : ∀ p ∈ X.pn ++ pins, p.1 ≠ it) : Inv X pins σ H { s with heap := h', toks := t' } := by
  have nit : ∀ b u, H b = some u → b ≠ it := fun b u e z => by rw [z, hn] at e; cases e
  refine I.step (g' := s.gens) (d' := s.drawn) (ch := [it]) (fun b hb => ?_) (fun b o _ _ hc e _ => k b o (fun z => hc (by simp [z])) e) (fun b o _ _ hc e _ => ⟨o.slots, k b o (fun z => hc (by simp [z])) e⟩) (fun _ _ _ _ n => n)
    (fun b o hc e => ⟨o, k b o (fun z => hc (by simp [z])) e⟩) (fun _ _ e => e) (fun _ _ _ e => e) (fun b ps e => ⟨#[], by rw [e]; simp⟩) (fun m hm => ?_) (fun b u e => ?_) I.bare
  · have e : b = it := by simpa using hb
    subst e
    exact ⟨h1, hL, h2, h3⟩
  · obtain ⟨o, es, ep, ho, r⟩ := hm
    exact ⟨o, es, ep, k _ o (Ne.symm hL) ho, r⟩
  · refine (I.hok b u e).stay (fun c v hc q => k c v ?_ q) (fun _ q => q) fun _ _ q => q
    rcases hc with z | z
    · rw [z]; exact nit b u e
    · exact nit c _ z
theorem Inv.tok (I : Inv X pins σ H s) (t : Nat) : Inv X pins σ H { s with toks := t } := I.un (h' := s.heap) (t' := t) Un.refl I.hok
/-- all objects kept -/
theorem Inv.kept {t' : Nat} (I : Inv X pins σ H s) (k : ∀ b u, s.heap.get? b = some u → h'.get? b = some u) : Inv X pins σ H { s with heap := h', toks := t' } := I.un (Un.kept k) (I.hok.kept k)
/-- a new object laid and tracked -/
theorem Inv.laid {a : Addr} {o : HO} {t' : Nat} (I : Inv X pins σ H s) (k : ∀ b u, s.heap.get? b = some u → h'.get? b = some u) (hp : s.heap.objs.size ≤ a) (new : ObjOk X.prog X.w (upd H a o) h' a o) :
    Inv X pins σ (upd H a o) { s with heap := h', toks := t' } := I.un (Un.laid k hp (I.hok.fresh hp)) (I.hok.laid k hp new)
/-- an object written -/
theorem Inv.write {x e : Addr} {o : HO} {t' : Nat} (I : Inv X pins σ H s) (mu : Mut (H x)) (he : e = x ∨ H e = some (.own x)) (k : ∀ b u, b ≠ e → s.heap.get? b = some u → h'.get? b = some u) (heo : ∃ u, h'.get? e = some u)
    (new : ObjOk X.prog X.w (upd H x o) h' x o) : Inv X pins σ (upd H x o) { s with heap := h', toks := t' } := I.un (Un.write mu he k heo) (I.hok.write mu he k heo new)
theorem Inv.pins_of {pins' : List (Addr × Obj)} (I : Inv X pins σ H s) (h : ∀ p ∈ pins', s.heap.get? p.1 = some p.2 ∧ H p.1 = none ∧ p.1 ≠ X.env.locals ∧ p.1 ∉ X.fs ∧ ∀ v, p.2.data ≠ .cell v) : Inv X pins' σ H s :=
  ⟨I.ok, I.os, I.bare, I.base, I.loc, I.cell, I.free, I.freeC, fun p hp => (List.mem_append.mp hp).elim (fun z => I.pin p (List.mem_append_left _ z)) (h p), I.hok, I.len⟩

theorem nodup_ix {N : List Str} (hN : N.Nodup) {i j : Nat} {x : Str} (a : N[i]? = some x) (b : N[j]? = some x) : i = j := by
  obtain ⟨h1, e1⟩ := List.getElem?_eq_some_iff.mp a
  obtain ⟨h2, e2⟩ := List.getElem?_eq_some_iff.mp b
  exact (List.getElem_inj hN).mp (e1.trans e2.symm)

/-- a name is stored; what changed -/
theorem store_ok2 {M : Model} {A : Around} {E : Value → Shared → Prop} {i : Nat} {x : Str} {v : V} {u : Value} {Q : Unit → Shared → Prop} (I : Inv X pins σ H s) (hN : X.N.Nodup) (hi : X.N[i]? = some x) (hx : Loc X.env.scope x) (r : RelV v u)
    (h : ∀ s', Inv X pins (σ.set i (some v)) H s' → (∃ a, Heap.SameBut a s.heap s'.heap ∧ (a = X.env.locals ∨ X.env.cells.lookup x = some a)) → Q () s') (hf : X.fn x = true ∨ X.env.scope.names.lookup x = some .local := by first | exact .inl rfl | exact .inr rfl | assumption) : wpAny M A (storeName X.env x u) Q E s := by
  obtain ⟨m, hn, hl⟩ := id I.loc
  have hcls : (X.env.scope.kind == .class || (X.env.scope.kind == .module && X.env.locals != X.env.globals)) = false := by rw [I.ok.kind]; rfl
  have hiσ : i < σ.length := by rw [I.len]; exact (List.getElem?_eq_some_iff.mp hi).1
  have cne := I.cne
  have tracked : ∀ {a : Addr} {h' : Heap}, (∃ o, s.heap.get? a = some o ∧ H a = none) → Heap.SameBut a s.heap h' → HOk X.prog X.w H h' := fun {a h'} ha hs b ob e => by
    obtain ⟨_, _, hfree⟩ := ha
    refine (I.hok b ob e).stay (fun c w' hc q => (hs.2 c ?_).trans q) (fun _ q => q) fun _ _ q => q
    rintro rfl
    rcases hc with rfl | hc
    · rw [hfree] at e; cases e
    · rw [hfree] at hc; cases hc
  rcases hx with hk | hk
  · refine wpAny_storeName_local hk hn (fun h' hn' hs => ?_) hcls
    obtain ⟨oL, _, _, hoL, _⟩ := id hn
    refine h _ ⟨I.ok, I.os, I.bare, ⟨fun b o e n hb hx => ?_, fun b o e n hb hx => ?_, I.base.free, fun b o e hx => ?_, I.base.tups, I.base.frzs, I.base.tbls⟩, ⟨_, hn', fun j y v' e1 e2 e3 => ?_⟩, fun y c e => ?_, I.free, I.freeC, fun p hp => ?_, tracked ⟨oL, hoL, I.free⟩ hs, by simpa using I.len⟩ ⟨_, hs, .inl rfl⟩
    · exact (hs.2 b (Nat.ne_of_lt (Nat.lt_of_lt_of_le (Heap.lt_size e) I.ok.above))).trans (I.base.keep b o e n hb hx)
    · obtain ⟨sl, e1⟩ := I.base.slot b o e n hb hx
      exact ⟨sl, (hs.2 b (Nat.ne_of_lt (Nat.lt_of_lt_of_le (Heap.lt_size e) I.ok.above))).trans e1⟩
    · obtain ⟨o', e1⟩ := I.base.there b o e hx
      exact ⟨o', (hs.2 b (Nat.ne_of_lt (Nat.lt_of_lt_of_le (Heap.lt_size e) I.ok.above))).trans e1⟩
    · by_cases hj : j = i
      · subst hj
        rw [hi] at e1; cases e1
        rw [List.getElem?_set_self hiσ] at e2
        cases e2
        exact ⟨u, r, .inl ⟨hk, by simp⟩⟩
      · rw [List.getElem?_set_ne (Ne.symm hj)] at e2
        obtain ⟨u', r', q⟩ := hl j y v' e1 e2 e3
        refine ⟨u', r', ?_⟩
        rcases q with ⟨k, e⟩ | ⟨k, c, e, z⟩
        · refine .inl ⟨k, ?_⟩
          have : y ≠ x := fun e => hj (nodup_ix hN e1 (e ▸ hi))
          simp [this, e]
        · exact .inr ⟨k, c, e, z.sameBut hs (cne y c e)⟩
    · obtain ⟨w', z⟩ := I.cell y c e
      exact ⟨w', z.sameBut hs (cne y c e)⟩
    · obtain ⟨e, n, ne, nf, d⟩ := I.pin p hp
      exact ⟨(hs.2 p.1 ne).trans e, n, ne, nf, d⟩
  · have hfn : X.fn x = true := by
      rcases hf with z | z
      · exact z
      · rw [z] at hk; cases hk
    obtain ⟨c, hc⟩ := I.ok.has x (.inl hk)
    obtain ⟨w', z⟩ := I.cell x c hc
    refine wpAny_storeName_cell I.ok.kind hk hc z (fun h' hc' hs => ?_)
    obtain ⟨oc, hoc, hocd⟩ := id z
    refine h { s with heap := h' } ⟨I.ok, I.os, I.bare, ⟨fun b o e n hb hx => ?_, fun b o e n hb hx => ?_, I.base.free, fun b o e hx => ?_, I.base.tups, I.base.frzs, I.base.tbls⟩, ⟨m, hn.sameBut hs (Ne.symm (cne x c hc)), fun j y v' e1 e2 e3 => ?_⟩, fun y c' e => ?_, I.free, I.freeC, fun p hp => ?_, tracked ⟨oc, hoc, I.freeC x c hc⟩ hs, by simpa using I.len⟩ ⟨c, hs, .inr hc⟩
    · exact (hs.2 b (Nat.ne_of_lt (Nat.lt_of_lt_of_le (Heap.lt_size e) (I.ok.cab x c hfn hc)))).trans (I.base.keep b o e n hb hx)
    · obtain ⟨sl, e1⟩ := I.base.slot b o e n hb hx
      exact ⟨sl, (hs.2 b (Nat.ne_of_lt (Nat.lt_of_lt_of_le (Heap.lt_size e) (I.ok.cab x c hfn hc)))).trans e1⟩
    · obtain ⟨o', e1⟩ := I.base.there b o e hx
      exact ⟨o', (hs.2 b (Nat.ne_of_lt (Nat.lt_of_lt_of_le (Heap.lt_size e) (I.ok.cab x c hfn hc)))).trans e1⟩
    · by_cases hj : j = i
      · subst hj
        rw [hi] at e1; cases e1
        rw [List.getElem?_set_self hiσ] at e2
        cases e2
        exact ⟨u, r, .inr ⟨.inl hk, c, hc, hc'⟩⟩
      · rw [List.getElem?_set_ne (Ne.symm hj)] at e2
        obtain ⟨u', r', q⟩ := hl j y v' e1 e2 e3
        refine ⟨u', r', ?_⟩
        rcases q with q | ⟨k, c', e, z'⟩
        · exact .inl q
        · refine .inr ⟨k, c', e, z'.sameBut hs ?_⟩
          rintro rfl
          exact hj (nodup_ix hN e1 (I.ok.inj _ _ _ e hc ▸ hi))
    · by_cases hcc : c' = c
      · subst hcc; exact ⟨_, hc'⟩
      · obtain ⟨w2, z2⟩ := I.cell y c' e
        exact ⟨w2, z2.sameBut hs hcc⟩
    · obtain ⟨e, n, ne, nf, d⟩ := I.pin p hp
      refine ⟨(hs.2 p.1 ?_).trans e, n, ne, nf, d⟩
      intro q
      rw [q, hoc] at e
      have q' : oc = p.2 := Option.some.inj e
      exact d w' (by rw [← q']; exact hocd)
theorem store_ok {M : Model} {A : Around} {E : Value → Shared → Prop} {i : Nat} {x : Str} {v : V} {u : Value} {Q : Unit → Shared → Prop} (I : Inv X pins σ H s) (hN : X.N.Nodup) (hi : X.N[i]? = some x) (hx : Loc X.env.scope x) (r : RelV v u)
    (h : ∀ s', Inv X pins (σ.set i (some v)) H s' → Q () s') (hf : X.fn x = true ∨ X.env.scope.names.lookup x = some .local := by first | exact .inl rfl | exact .inr rfl | assumption) : wpAny M A (storeName X.env x u) Q E s :=
  store_ok2 I hN hi hx r (fun s' I' _ => h s' I') hf
/-- behind a call or a block, the state as it is -/
theorem Inv.call' {s' : Shared} {ch : List Addr} (I : Inv X pins σ H s) (ho : s'.os = s.os) (u : Un (frs X.stack) ch H H' s.heap s'.heap) (hok : HOk X.prog X.w H' s'.heap) (hg : AllBare s'.gens)
    (hch : ∀ b ∈ ch, (b ∈ X.ex ∨ X.s₀.heap.objs.size ≤ b) ∧ b ≠ X.env.locals ∧ (∀ x c, X.env.cells.lookup x = some c → c ≠ b) ∧ ∀ p ∈ X.pn ++ pins, p.1 ≠ b) : Inv X pins σ H' s' := by
  obtain ⟨h', g', d', t', o'⟩ := s'
  have e : o' = s.os := ho
  subst e
  exact I.call (g' := g') (t' := t') (d' := d') u hok hg hch
end

/-! ### the judgements -/
/-- an exception: its class, its own dict's address (where it has one), the abstract heap behind it -/
abbrev XK := Value → Option Addr → Hp → Prop
abbrev St := List (Option V)
abbrev VK := V → Hp → Prop
/-- an expression's reading; a test's; an argument list's -/
abbrev TE := St → Hp → VK → Prop
abbrev TT := St → Hp → (Bool → Hp → Prop) → Prop
abbrev TA := St → Hp → (List V → Hp → Prop) → Prop
/-- what is wanted behind a statement -/
structure Ends where
  nx : St → Hp → Prop
  rt : VK
  bk : St → Hp → Prop := fun _ _ => False
  ct : St → Hp → Prop := fun _ _ => False
abbrev TS := Ends → St → Hp → Prop

def EP (X : Cx) (pins : List (Addr × Obj)) (σ : St) (Q : VK) (u : Value) (s' : Shared) : Prop := ∃ v H', Inv X pins σ H' s' ∧ RelV v u ∧ Q v H'
def TP (X : Cx) (pins : List (Addr × Obj)) (σ : St) (Q : Bool → Hp → Prop) (b : Bool) (s' : Shared) : Prop := ∃ H', Inv X pins σ H' s' ∧ Q b H'
def AP (X : Cx) (pins : List (Addr × Obj)) (σ : St) (Q : List V → Hp → Prop) (us : List Value) (s' : Shared) : Prop := ∃ vs H', Inv X pins σ H' s' ∧ Vals vs us ∧ Q vs H'
def SP (X : Cx) (pins : List (Addr × Obj)) (D : Ends) (f : Flow) (s' : Shared) : Prop :=
  match f with
  | .next => ∃ σ' H', Inv X pins σ' H' s' ∧ D.nx σ' H'
  | .brk => ∃ σ' H', Inv X pins σ' H' s' ∧ D.bk σ' H'
  | .cont => ∃ σ' H', Inv X pins σ' H' s' ∧ D.ct σ' H'
  | .ret u => ∃ v σ' H', Inv X pins σ' H' s' ∧ RelV v u ∧ D.rt v H'

def PE (X : Cx) (e : Expr) (t : TE) : Prop :=
  ∀ (pins : List (Addr × Obj)) (s : Shared) (σ : St) (H : Hp) (Q : VK), Inv X pins σ H s → t σ H Q → wpAny (model X.prog X.w) X.A (eval e X.env) (EP X pins σ Q) X.xe s
def PT (X : Cx) (e : Expr) (t : TT) : Prop :=
  ∀ (pins : List (Addr × Obj)) (s : Shared) (σ : St) (H : Hp) (Q : Bool → Hp → Prop), Inv X pins σ H s → t σ H Q → wpAny (model X.prog X.w) X.A (isTrue e X.env (eval e X.env)) (TP X pins σ Q) X.xe s
/-- a test whatever its 'whole' is (and, or) -/
def PW (X : Cx) (e : Expr) (t : TT) : Prop :=
  ∀ (whole : Sem Value) (pins : List (Addr × Obj)) (s : Shared) (σ : St) (H : Hp) (Q : Bool → Hp → Prop), Inv X pins σ H s → t σ H Q → wpAny (model X.prog X.w) X.A (isTrue e X.env whole) (TP X pins σ Q) X.xe s
theorem PW.pt {X : Cx} {e : Expr} {t : TT} (h : PW X e t) : PT X e t := h _
/-- an argument list (no star), from the left -/
def PA (X : Cx) (es : List Expr) (t : TA) : Prop :=
  ∀ (pos : Pos) (pins : List (Addr × Obj)) (s : Shared) (σ : St) (H : Hp) (Q : List V → Hp → Prop), Inv X pins σ H s → t σ H Q → wpAny (model X.prog X.w) X.A (spliced (backTo pos (starEach es X.env))) (AP X pins σ Q) X.xe s
def PS (X : Cx) (st : Stmt) (t : TS) : Prop :=
  ∀ (pins : List (Addr × Obj)) (s : Shared) (σ : St) (H : Hp) (D : Ends), Inv X pins σ H s → t D σ H → wpAny (model X.prog X.w) X.A (exec st X.env) (SP X pins D) X.xe s
def PSs (X : Cx) (st : List Stmt) (t : TS) : Prop :=
  ∀ (pins : List (Addr × Obj)) (s : Shared) (σ : St) (H : Hp) (D : Ends), Inv X pins σ H s → t D σ H → wpAny (model X.prog X.w) X.A (execs st X.env) (SP X pins D) X.xe s
/-- weaken the end -/
theorem thn {α : Type} {t : Sem α} {Q Q' : α → Shared → Prop} {M : Model} {A : Around} {E : Value → Shared → Prop} {s : Shared} (h : wpAny M A t Q E s) (hQ : ∀ a s, Q a s → Q' a s) : wpAny M A t Q' E s := wpAny_mono h hQ fun _ _ x => x
end L2

namespace L2
open PySem PySem.Spec PyProof.Rows
section
variable {X : Cx}

/-! ### names and constants -/
def tVar (i : Nat) : TE := fun σ H Q => ∃ v, σ[i]? = some (some v) ∧ Q v H
def tC (v : V) : TE := fun _ H Q => Q v H
theorem pe_var {i : Nat} {x : Str} {pos : Pos} (hN : X.N[i]? = some x) (hv : Vis X.env.scope x) (hd : (x == ("__debug__" : Str)) = false := by decide) (hcd : (x == ("__classdict__" : Str)) = false := by decide) : PE X (.Name x pos) (tVar i) := by
  intro pins s σ H Q I h
  obtain ⟨v, e, h⟩ := h
  obtain ⟨m, hn, hl⟩ := I.loc
  obtain ⟨u, r, l⟩ := hl i x v hN e hv
  have fin : EP X pins σ Q u s := ⟨v, H, I, r, h⟩
  rcases l with ⟨hk, hm⟩ | ⟨hk, c, hc, hcell⟩
  · exact wpAny_Name (wpAny_loadName_local I.ok.kind hk hn hm fin) hd
  · rcases hk with hk | hk
    · exact wpAny_Name (wpAny_loadName_cell I.ok.kind hk hc hcell fin) hd
    · exact wpAny_Name (wpAny_loadName_free I.ok.kind hk hc hcell fin hcd) hd
theorem pe_int {i j pos} : PE X (.Constant (.int i) j pos) (tC (.int i)) := fun _ _ _ H _ I h => wpAny_Constant_int ⟨.int i, H, I.tok _, ⟨_, rfl⟩, h⟩
theorem pe_bl {b j pos} : PE X (.Constant (.bool b) j pos) (tC (.bl b)) := fun _ _ _ H _ I h => Constant_bool ⟨.bl b, H, I, rfl, h⟩
theorem pe_non {j pos} : PE X (.Constant .none j pos) (tC .non) := fun _ _ _ H _ I h => Constant_none ⟨.non, H, I, rfl, h⟩
theorem pe_str {x j pos} : PE X (.Constant (.str x) j pos) (tC (.str x)) := fun _ _ _ H _ I h => Calls.Constant_str ⟨.str x, H, I.tok _, ⟨_, rfl⟩, h⟩

/-- a global name of the def -/
def Gl (X : Cx) (x : Str) : Prop := X.env.kindOf x = some .globalImplicit
theorem ld_glob {E : Value → Shared → Prop} {pins : List (Addr × Obj)} {s : Shared} {σ : St} {H : Hp} {x : Str} {u : Value} {pos : Pos} {Q : Value → Shared → Prop} (I : Inv X pins σ H s) (hg : Gl X x) (hm : X.mg x = some u) (h : Q u s)
    (hd : (x == ("__debug__" : Str)) = false := by decide) : wpAny (model X.prog X.w) X.A (eval (.Name x pos) X.env) Q E s :=
  Calls.Name_function_global I.ok.kind hg (Calls.loadGlobal_global (by rw [I.ok.glob]; exact I.mod.glob.keeps I.bk) hm h) hd
theorem ld_blt {E : Value → Shared → Prop} {pins : List (Addr × Obj)} {s : Shared} {σ : St} {H : Hp} {x : Str} {u : Value} {pos : Pos} {Q : Value → Shared → Prop} (I : Inv X pins σ H s) (hg : Gl X x) (hm : X.mg x = none) (hv : bootBuiltins x = some u) (h : Q u s)
    (hn : x ≠ "__name__" := by decide) (hd : (x == ("__debug__" : Str)) = false := by decide) : wpAny (model X.prog X.w) X.A (eval (.Name x pos) X.env) Q E s := by
  obtain ⟨mb, h1, h2⟩ := I.mod.blt
  exact Calls.Name_function_global I.ok.kind hg (Calls.loadGlobal_builtin (by rw [I.ok.glob]; exact I.mod.glob.keeps I.bk) hm (by rw [I.ok.blt]; exact h1.keeps I.bk) ((h2 x hn).trans hv) h) hd
/-- a module's constant, a class, a function, as a value -/
theorem pe_glob {x : Str} {v : V} {u : Value} {pos : Pos} (hg : Gl X x) (hm : X.mg x = some u) (r : RelV v u) (hd : (x == ("__debug__" : Str)) = false := by decide) : PE X (.Name x pos) (tC v) :=
  fun _ _ _ H _ I h => ld_glob I hg hm ⟨v, H, I, r, h⟩ hd
theorem pe_bltn {x : Str} {v : V} {u : Value} {pos : Pos} (hg : Gl X x) (hm : X.mg x = none) (hv : bootBuiltins x = some u) (r : RelV v u) (hn : x ≠ "__name__" := by decide) (hd : (x == ("__debug__" : Str)) = false := by decide) : PE X (.Name x pos) (tC v) :=
  fun _ _ _ H _ I h => ld_blt I hg hm hv ⟨v, H, I, r, h⟩ hn hd

/-! ### arithmetic -/
variable {a b : Expr} {ta tb : TE} {pos : Pos}
/-! ### comparisons -/
/-- a comparison as a value, as a test -/
def tB (t : TE) : TT := fun σ H Q => t σ H fun x H1 => ∃ c, x = .bl c ∧ Q c H1
/-- an expression whose value is a bool, as a test -/
theorem pt_val {e : Expr} {t : TE} (h : PE X e t) (he : ∀ whole, isTrue e X.env whole = (do let v ← whole; standAt e.pos; holding [v] (truthy v)) := by intro _; rfl) : PT X e (tB t) := by
  intro pins s σ H Q I hw
  refine isTrue_plain (thn (h pins s σ H _ I hw) fun v s1 ⟨x, H1, I1, r1, q1⟩ => ?_) (he _)
  obtain ⟨d, rfl, q⟩ := q1
  cases r1
  exact wpAny_truthy_bool ⟨H1, I1, q⟩

/-! ### and, or, not -/
variable {tA tB' : TT} {rest : List Expr}
def tAnd (t u : TT) : TT := fun σ H Q => t σ H fun c H1 => if c = true then u σ H1 Q else Q false H1
def tOr (t u : TT) : TT := fun σ H Q => t σ H fun c H1 => if c = true then Q true H1 else u σ H1 Q
def tNot (t : TT) : TT := fun σ H Q => t σ H fun c H1 => Q (!c) H1
theorem pw_and1 (ha : PT X a tA) : PW X (.BoolOp .And [a] pos) tA := by
  intro wh pins s σ H Q I h
  refine isTrue_and (thn (ha pins s σ H Q I h) fun c s1 e => ?_)
  cases c with
  | true => exact isTrue_and_nil e
  | false => exact e
theorem pw_or1 (ha : PT X a tA) : PW X (.BoolOp .Or [a] pos) tA := by
  intro wh pins s σ H Q I h
  refine isTrue_or (thn (ha pins s σ H Q I h) fun c s1 e => ?_)
  cases c with
  | false => exact isTrue_or_nil e
  | true => exact e
theorem pw_and (ha : PT X a tA) (hb : PW X (.BoolOp .And (b :: rest) pos) tB') : PW X (.BoolOp .And (a :: b :: rest) pos) (tAnd tA tB') := by
  intro wh pins s σ H Q I h
  refine isTrue_and (thn (ha pins s σ H _ I h) fun c s1 ⟨H1, I1, q1⟩ => ?_)
  cases c with
  | true => exact hb wh pins s1 σ H1 Q I1 q1
  | false => exact ⟨H1, I1, q1⟩
theorem pw_or (ha : PT X a tA) (hb : PW X (.BoolOp .Or (b :: rest) pos) tB') : PW X (.BoolOp .Or (a :: b :: rest) pos) (tOr tA tB') := by
  intro wh pins s σ H Q I h
  refine isTrue_or (thn (ha pins s σ H _ I h) fun c s1 ⟨H1, I1, q1⟩ => ?_)
  cases c with
  | true => exact ⟨H1, I1, q1⟩
  | false => exact hb wh pins s1 σ H1 Q I1 q1
theorem pt_not (ha : PT X a tA) : PT X (.UnaryOp .Not a pos) (tNot tA) := by
  intro pins s σ H Q I h
  exact isTrue_not (ha pins s σ H (fun c H1 => Q (!c) H1) I h)
/-- .. as values (bools) -/
def tAndV (ta tb : TE) : TE := fun σ H Q => ta σ H fun x H1 => ∃ c, x = .bl c ∧ if c = true then tb σ H1 Q else Q (.bl false) H1
def tNotV (ta : TE) : TE := fun σ H Q => ta σ H fun x H1 => ∃ c, x = .bl c ∧ Q (.bl (!c)) H1
theorem pe_one {op} {t : TE} (h : PE X a t) : PE X (.BoolOp op [a] pos) t := fun pins s σ H Q I hw => BoolOp_one (h pins s σ H Q I hw)
theorem pe_and (ha : PE X a ta) (hb : PE X (.BoolOp .And (b :: rest) pos) tb) : PE X (.BoolOp .And (a :: b :: rest) pos) (tAndV ta tb) := by
  intro pins s σ H Q I h
  refine BoolOp_and (thn (ha pins s σ H _ I h) fun v s1 ⟨x, H1, I1, r1, q1⟩ => ?_)
  obtain ⟨c, rfl, q1⟩ := q1
  cases r1
  refine wpAny_truthy_bool ?_
  cases c with
  | true => exact hb pins s1 σ H1 Q I1 q1
  | false => exact ⟨.bl false, H1, I1, rfl, q1⟩
theorem pe_not (ha : PE X a ta) : PE X (.UnaryOp .Not a pos) (tNotV ta) := by
  intro pins s σ H Q I h
  refine UnaryOp_ (thn (ha pins s σ H _ I h) fun v s1 ⟨x, H1, I1, r1, q1⟩ => ?_)
  obtain ⟨c, rfl, q1⟩ := q1
  cases r1
  exact not_of (wpAny_truthy_bool ⟨.bl (!c), H1, I1, rfl, q1⟩)
/-- a if t else b -/
def tIf (t : TT) (ta tb : TE) : TE := fun σ H Q => t σ H fun c H1 => if c = true then ta σ H1 Q else tb σ H1 Q
theorem pe_ifExp {c : Expr} (hc : PT X c tA) (ha : PE X a ta) (hb : PE X b tb) : PE X (.IfExp c a b pos) (tIf tA ta tb) := by
  intro pins s σ H Q I h
  refine wpAny_IfExp (thn (hc pins s σ H _ I h) fun d s1 ⟨H1, I1, q1⟩ => ?_)
  cases d with
  | true => exact ha pins s1 σ H1 Q I1 q1
  | false => exact hb pins s1 σ H1 Q I1 q1
end
end L2

namespace L2
open PySem PySem.Spec PyProof.Rows

/-! ### a list, a tuple that is read: tracked, frozen, or an object of the module -/
def SqL (K : PySem.W.Frag) (H : Hp) (a : Addr) (xs : List V) : Prop :=
  Rd H a (.lst xs) ∨
    ∃ (o : Obj) (its : Array Value) (n : Nat), K.lookup a = some o ∧ o.cls = .type "list" ∧ o.dict = none ∧ o.data = .seq its n ∧ its.size ≤ sizeLine ∧ Vals xs its.toList
def SqT (K : PySem.W.Frag) (H : Hp) (a : Addr) (xs : List V) : Prop :=
  Rd H a (.tup xs) ∨
    ∃ (o : Obj) (its : Array Value) (n : Nat), K.lookup a = some o ∧ o.cls = .type "tuple" ∧ o.data = .seq its n ∧ its.size ≤ sizeLine ∧ Vals xs its.toList
def absV : Value → Option V
  | .none => some .non
  | .bool b => some (.bl b)
  | .int i _ => some (.int i)
  | .str x _ => some (.str x)
  | .bytes b _ => some (.byt b)
  | .float b _ => some (.flt b)
  | .ref a => some (.ref a)
  | .type n => some (.ty n)
  | _ => none
theorem RelV.abs {x : V} {u : Value} (r : RelV x u) : absV u = some x := by
  cases x with
  | non => cases r; rfl
  | bl _ => cases r; rfl
  | int _ => obtain ⟨t, rfl⟩ := r; rfl
  | str _ => obtain ⟨t, rfl⟩ := r; rfl
  | byt _ => obtain ⟨t, rfl⟩ := r; rfl
  | flt _ => obtain ⟨t, rfl⟩ := r; rfl
  | ref _ => cases r; rfl
  | ty _ => cases r; rfl
theorem RelV.inj {x y : V} {u : Value} (r : RelV x u) (q : RelV y u) : x = y := Option.some.inj (r.abs.symm.trans q.abs)
theorem Vals.inj : ∀ {xs ys : List V} {us : List Value}, Vals xs us → Vals ys us → xs = ys
  | _, _, _, .nil, .nil => rfl
  | _, _, _, .cons r t, .cons r' t' => by rw [r.inj r', Vals.inj t t']
section
variable {X : Cx} {pins : List (Addr × Obj)} {σ : St} {H : Hp} {s : Shared} {a : Addr} {xs ys : List V}
theorem SqL.of {K : PySem.W.Frag} (h : H a = some (.lst xs)) : SqL K H a xs := .inl (.inl h)
theorem SqT.of {K : PySem.W.Frag} (h : H a = some (.tup xs)) : SqT K H a xs := .inl (.inl h)
theorem Inv.list (I : Inv X pins σ H s) (h : SqL X.K H a xs) : ∃ its : List Value, Vals xs its ∧ PlainL s.heap a its.toArray ∧ xs.length ≤ sizeLine := by
  rcases h with h | ⟨o, its, n, hk, hc, hd, hs, hz, r⟩
  · obtain ⟨z, its, n, r, e⟩ := h.ok I.hok
    exact ⟨its, r, ⟨_, n, e, rfl, rfl, rfl⟩, z⟩
  · refine ⟨its.toList, r, ⟨o, n, I.kIn a o hk, hc, hd, by simpa using hs⟩, ?_⟩
    have e := r.length
    simp only [Array.length_toList] at e
    omega
theorem Inv.tuple (I : Inv X pins σ H s) (h : SqT X.K H a xs) : ∃ its : List Value, Vals xs its ∧ IsTup s.heap a its.toArray ∧ xs.length ≤ sizeLine := by
  rcases h with h | ⟨o, its, n, hk, hc, hs, hz, r⟩
  · obtain ⟨z, its, r, p⟩ := h.ok I.hok
    exact ⟨its, r, p, z⟩
  · refine ⟨its.toList, r, ⟨o, I.kIn a o hk, hc, n, by simpa using hs⟩, ?_⟩
    have e := r.length
    simp only [Array.length_toList] at e
    omega
theorem Inv.list_inj (I : Inv X pins σ H s) (h : SqL X.K H a xs) (h' : SqL X.K H a ys) : xs = ys := by
  obtain ⟨its, r, ⟨o, n, e, _, _, d⟩, _⟩ := I.list h
  obtain ⟨its', r', ⟨o', n', e', _, _, d'⟩, _⟩ := I.list h'
  rw [e] at e'; cases e'
  rw [d] at d'
  injection d' with d1 _
  have : its = its' := by simpa using congrArg Array.toList d1
  subst this
  exact r.inj r'
end

/-! ### another wish about exceptions -/
abbrev Cx.wish (X : Cx) (E : Value → Shared → Prop) : Cx := { X with xe := E }
/-- no exception leaves -/
abbrev Cx.nox (X : Cx) : Cx := X.wish fun _ _ => False
theorem Cx.Ok.wish {X : Cx} (ok : X.Ok) (E : Value → Shared → Prop) : (X.wish E).Ok :=
  ⟨ok.mod, ok.kind, ok.glob, ok.blt, ok.above, ok.inj, ok.has, ok.cab, ok.hd, ok.frames, ok.stk, ok.exf, ok.bs, ok.bsz, ok.noex, ok.exfs, ok.funs, ok.frf⟩
theorem Cx.Ok.unwish {X : Cx} {E : Value → Shared → Prop} (ok : (X.wish E).Ok) : X.Ok :=
  ⟨ok.mod, ok.kind, ok.glob, ok.blt, ok.above, ok.inj, ok.has, ok.cab, ok.hd, ok.frames, ok.stk, ok.exf, ok.bs, ok.bsz, ok.noex, ok.exfs, ok.funs, ok.frf⟩
section
variable {X : Cx} {pins : List (Addr × Obj)} {σ : St} {H : Hp} {s : Shared} {E : Value → Shared → Prop}
theorem Inv.wish (I : Inv X pins σ H s) (E : Value → Shared → Prop) : Inv (X.wish E) pins σ H s := ⟨I.ok.wish E, I.os, I.bare, I.base, I.loc, I.cell, I.free, I.freeC, I.pin, I.hok, I.len⟩
theorem Inv.unwish (I : Inv (X.wish E) pins σ H s) : Inv X pins σ H s := ⟨I.ok.unwish, I.os, I.bare, I.base, I.loc, I.cell, I.free, I.freeC, I.pin, I.hok, I.len⟩
theorem SP.unwish {D : Ends} {f : Flow} {s' : Shared} (h : SP (X.wish E) pins D f s') : SP X pins D f s' := by
  cases f with
  | next => obtain ⟨σ', H', I, q⟩ := h; exact ⟨σ', H', I.unwish, q⟩
  | brk => obtain ⟨σ', H', I, q⟩ := h; exact ⟨σ', H', I.unwish, q⟩
  | cont => obtain ⟨σ', H', I, q⟩ := h; exact ⟨σ', H', I.unwish, q⟩
  | ret u => obtain ⟨v, σ', H', I, r, q⟩ := h; exact ⟨v, σ', H', I.unwish, r, q⟩
theorem PSs.nox {st : List Stmt} {t : TS} (h : PSs X.nox st t) : PSs X st t := fun pins s σ H D I hw =>
  wpAny_mono (h pins s σ H D (I.wish _) hw) (fun _ _ q => q.unwish) fun _ _ z => False.elim z
end

/-! ### blocks and small statements -/
section
variable {X : Cx} {st : Stmt} {rest : List Stmt} {t u : TS} {e : Expr} {te : TE} {pos : Pos}
def tNext : TS := fun D σ H => D.nx σ H
def tSeq (t u : TS) : TS := fun D σ H => t { D with nx := u D } σ H
theorem pss_nil : PSs X [] tNext := fun _ _ σ H _ I h => wpAny_execs_nil ⟨σ, H, I, h⟩
theorem pss_cons (h1 : PS X st t) (h2 : PSs X rest u) : PSs X (st :: rest) (tSeq t u) := by
  intro pins s σ H D I h
  refine wpAny_execs_cons (thn (h1 pins s σ H { D with nx := u D } I h) fun f s1 q => ?_)
  cases f with
  | next =>
    obtain ⟨σ', H', I', q⟩ := q
    exact h2 pins s1 σ' H' D I' q
  | ret v => exact q
  | brk => exact q
  | cont => exact q
theorem pss_one (h1 : PS X st t) : PSs X [st] t := by
  intro pins s σ H D I h
  refine wpAny_execs_cons (thn (h1 pins s σ H D I h) fun f s1 q => ?_)
  cases f with
  | next => exact wpAny_execs_nil q
  | ret v => exact q
  | brk => exact q
  | cont => exact q
/-- in a def's body nothing is shown -/
theorem Inv.quiet {pins : List (Addr × Obj)} {σ : St} {H : Hp} {s : Shared} (I : Inv X pins σ H s) : interactive X.env = false := by simp [interactive, I.ok.kind]
/-- an expression whose value is dropped -/
def tDrop (te : TE) : TS := fun D σ H => te σ H fun _ H1 => D.nx σ H1
theorem ps_expr (he : PE X e te) (hs : swapsWith e none pos.line X.env = pure false := by rfl) : PS X (.Expr e pos) (tDrop te) := by
  intro pins s σ H D I h
  exact wpAny_Expr_any (thn (he pins s σ H _ I h) fun v s1 ⟨x, H1, I1, r1, q1⟩ => ⟨σ, H1, I1, q1⟩) I.quiet hs
def tRet (te : TE) : TS := fun D σ H => te σ H D.rt
theorem ps_ret (he : PE X e te) : PS X (.Return (some e) pos) (tRet te) := by
  intro pins s σ H D I h
  exact wpAny_Return_some (thn (he pins s σ H _ I h) fun v s1 ⟨x, H1, I1, r1, q1⟩ => ⟨x, σ, H1, I1, r1, q1⟩)
def tIfS (c : TT) (t u : TS) : TS := fun D σ H => c σ H fun b H1 => if b = true then t D σ H1 else u D σ H1
theorem ps_if {c : Expr} {a b : List Stmt} {tc : TT} (hc : PT X c tc) (ha : PSs X a t) (hb : PSs X b u) : PS X (.If c a b pos) (tIfS tc t u) := by
  intro pins s σ H D I h
  refine wpAny_If (thn (hc pins s σ H _ I h) fun d s1 ⟨H1, I1, q1⟩ => ?_)
  cases d with
  | true => exact ha pins s1 σ H1 D I1 q1
  | false => exact hb pins s1 σ H1 D I1 q1
/-- code that the proof never comes to -/
def tNever : TS := fun _ _ _ => False
theorem ps_never : PS X st tNever := fun _ _ _ _ _ _ h => h.elim
theorem pss_never {sts : List Stmt} : PSs X sts tNever := fun _ _ _ _ _ _ h => h.elim
end

/-! ### targets -/
abbrev TG := V → St → Hp → (St → Hp → Prop) → Prop
abbrev TGs := List V → St → Hp → (St → Hp → Prop) → Prop
def PG (X : Cx) (target : Expr) (t : TG) : Prop :=
  ∀ (pins : List (Addr × Obj)) (s : Shared) (σ : St) (H : Hp) (v : V) (u : Value) (Q : St → Hp → Prop), Inv X pins σ H s → RelV v u → t v σ H Q →
    wpAny (model X.prog X.w) X.A (assign target X.env u) (fun _ s' => ∃ σ' H', Inv X pins σ' H' s' ∧ Q σ' H') X.xe s
/-- several targets, one after another -/
def PGs (X : Cx) (ts : List Expr) (t : TGs) : Prop :=
  ∀ (pins : List (Addr × Obj)) (s : Shared) (σ : St) (H : Hp) (vs : List V) (us : List Value) (Q : St → Hp → Prop), Inv X pins σ H s → Vals vs us → t vs σ H Q →
    wpAny (model X.prog X.w) X.A (assignInOrder ((assignEach ts X.env).map (·.2)) us) (fun _ s' => ∃ σ' H', Inv X pins σ' H' s' ∧ Q σ' H') X.xe s
section
variable {X : Cx} {pos : Pos}
def gName (i : Nat) : TG := fun v σ H Q => Q (σ.set i (some v)) H
theorem pg_name {i : Nat} {x : Str} (hN : X.N.Nodup) (hi : X.N[i]? = some x) (hx : Loc X.env.scope x) (hf : X.fn x = true ∨ X.env.scope.names.lookup x = some .local := by first | exact .inl rfl | exact .inr rfl | assumption) : PG X (.Name x pos) (gName i) := by
  intro pins s σ H v u Q I r h
  exact wpAny_assign_Name (store_ok I hN hi hx r (fun s' I' => ⟨_, H, I', h⟩) hf)
def gNil : TGs := fun vs σ H Q => vs = [] ∧ Q σ H
def gCons (t : TG) (u : TGs) : TGs := fun vs σ H Q => ∃ v r, vs = v :: r ∧ t v σ H fun σ' H' => u r σ' H' Q
theorem pgs_nil : PGs X [] gNil := by
  intro pins s σ H vs us Q I r h
  obtain ⟨e, h⟩ := h
  subst e
  cases r
  exact assignInOrder_nil ⟨σ, H, I, h⟩
theorem pgs_cons {e : Expr} {es : List Expr} {t : TG} {u : TGs} (h1 : PG X e t) (h2 : PGs X es u)
    (hs : (assignEach (e :: es) X.env).map (·.2) = assign e X.env :: (assignEach es X.env).map (·.2) := by rfl) : PGs X (e :: es) (gCons t u) := by
  intro pins s σ H vs us Q I r h
  obtain ⟨v, vr, e1, h⟩ := h
  subst e1
  cases r with
  | cons r rr =>
    rw [hs]
    refine assignInOrder_cons (thn (h1 pins s σ H _ _ _ I r h) fun _ s1 ⟨σ1, H1, I1, q1⟩ => ?_)
    exact h2 pins s1 σ1 H1 _ _ Q I1 rr q1
/-- (a, b, ..) = a tuple of that length -/
def gTup (K : PySem.W.Frag) (n : Nat) (t : TGs) : TG := fun v σ H Q => ∃ a xs, v = .ref a ∧ SqT K H a xs ∧ xs.length = n ∧ t xs σ H Q
theorem pg_tup {es : List Expr} {k : Nat} {t : TGs} {n : Nat} (hc : X.calm = true) (h : PGs X es t)
    (hn : (assignEach es X.env).length = n := by rfl) (hst : (assignEach es X.env).findIdx? (·.1) = none := by rfl) : PG X (.Tuple es k pos) (gTup X.K n t) := by
  intro pins s σ H v u Q I r hw
  obtain ⟨a, xs, e1, hq, hl, hw⟩ := hw
  subst e1
  cases r
  obtain ⟨its, rv, ht, hz⟩ := I.tuple hq
  refine assign_Tuple_tuple (I.ok.hd hc) ht (by simp [hn, ← hl, rv.length]) hst fun h' hx => ?_
  have I1 : Inv X pins σ H { s with heap := h' } := I.kept (t' := s.toks) fun b o e => hx b o (Nat.ne_of_lt (Heap.lt_size e)) e
  exact h pins _ σ H xs _ Q I1 (by simpa using rv) hw
/-- target = value -/
def tAsg (te : TE) (g : TG) : TS := fun D σ H => te σ H fun x H1 => g x σ H1 D.nx
theorem ps_asg {tg e : Expr} {te : TE} {g : TG} (he : PE X e te) (hg : PG X tg g) (hs : swapsWithSole [tg] e pos.line X.env = pure false := by rfl) (hw : swappedStores [tg] e X.env = pure none := by rfl)
    (h1 : (assignEach [tg] X.env).map (·.2) = [assign tg X.env] := by rfl) : PS X (.Assign [tg] e pos) (tAsg te g) := by
  intro pins s σ H D I h
  refine wpAny_Assign_stores (thn (he pins s σ H _ I h) fun v s1 ⟨x, H1, I1, r1, q1⟩ => ?_) hs hw
  rw [h1]
  exact thn (hg pins s1 σ H1 x v _ I1 r1 q1) fun _ s2 q => q
/-- name = value -/
theorem ps_set {i : Nat} {x : Str} {e : Expr} {te : TE} {pos' : Pos} (hN : X.N.Nodup) (hi : X.N[i]? = some x) (hx : Loc X.env.scope x) (he : PE X e te) (hs : swapsWith e (some (.Name x pos')) pos.line X.env = pure false := by rfl) (hf : X.fn x = true ∨ X.env.scope.names.lookup x = some .local := by first | exact .inl rfl | exact .inr rfl | assumption) :
    PS X (.Assign [.Name x pos'] e pos) (tAsg te (gName i)) := by
  intro pins s σ H D I h
  refine wpAny_Assign_Name (thn (he pins s σ H _ I h) fun v s1 ⟨y, H1, I1, r1, q1⟩ => ?_) hs
  exact store_ok I1 hN hi hx r1 (fun s2 I2 => ⟨_, H1, I2, q1⟩) hf
end

/-! ### while -/
section
variable {X : Cx} {pos : Pos}
end

/-! ### what a loop or a comprehension walks -/
/-- at turn i: it yields x (the heap may grow), or it stops -/
structure It where
  go : Nat → Hp → Prop
  yld : Nat → Hp → V → Hp → Prop
  stop : Nat → Hp → Prop
/-- the iterator's own objects may turn: they are not the frame's, not pinned, younger than the entry (or a comprehension's own) -/
def FpOk (X : Cx) (pins : List (Addr × Obj)) (H : Hp) (b : Addr) : Prop :=
  H b = none ∧ b ≠ X.env.locals ∧ b ∉ X.fs ∧ (b ∈ X.ex ∨ X.s₀.heap.objs.size ≤ b) ∧ (∀ x c, X.env.cells.lookup x = some c → c ≠ b) ∧ ∀ p ∈ X.pn ++ pins, p.1 ≠ b
theorem Inv.fpOk {X : Cx} {pins : List (Addr × Obj)} {σ : St} {H H' : Hp} {s : Shared} {b : Addr} (I : Inv X pins σ H s) (hb : s.heap.objs.size ≤ b) (hn : H' b = none) : FpOk X pins H' b := by
  refine ⟨hn, Nat.ne_of_gt (Nat.lt_of_lt_of_le I.lt hb), I.nofs hb, .inr (Nat.le_trans I.sz hb), fun x c e z => ?_, fun p hp z => ?_⟩
  · obtain ⟨v, q⟩ := I.cell x c e
    exact absurd (Nat.lt_of_lt_of_le q.lt (by rw [z]; exact hb)) (Nat.lt_irrefl _)
  · exact absurd (Nat.lt_of_lt_of_le (Heap.lt_size (I.pin p hp).1) (by rw [z]; exact hb)) (Nat.lt_irrefl _)
structure Turn (P : Program) (w : World) (K : PySem.W.Frag) (tg : Expr) (J : It) (fp : List Addr) (it : Addr) (tn : Nat → Heap → Prop) : Prop where
  mem : it ∈ fp
  obj : ∀ i h, tn i h → ∀ b ∈ fp, ∃ o, h.get? b = some o ∧ ∀ v, o.data ≠ .cell v
  keep : ∀ i h h', tn i h → (∀ b ∈ fp, ∀ o, h.get? b = some o → h'.get? b = some o) → tn i h'
  item : ∀ (X : Cx), X.prog = P → X.w = w → X.K = K → X.calm = true → ∀ (i : Nat) (pins : List (Addr × Obj)) (s : Shared) (σ : St) (H : Hp) (E : Value → Shared → Prop), Inv X pins σ H s → (∀ b ∈ fp, FpOk X pins H b) → tn i s.heap → J.go i H →
    wpAny (model P w) X.A (pyNext (.ref it)) (fun r s1 => ∃ u, r = some u ∧
      wpAny (model P w) X.A (letOwnedTupleGo tg (.ref it) u) (fun _ s2 => ∃ x H', Inv X pins σ H' s2 ∧ RelV x u ∧ J.yld i H x H' ∧ tn (i + 1) s2.heap ∧ ∀ b ∈ fp, H' b = none) E s1) E s
  done : ∀ (X : Cx), X.prog = P → X.w = w → X.K = K → X.calm = true → ∀ (i : Nat) (pins : List (Addr × Obj)) (s : Shared) (σ : St) (H : Hp) (E : Value → Shared → Prop), Inv X pins σ H s → (∀ b ∈ fp, FpOk X pins H b) → tn i s.heap → J.stop i H →
    wpAny (model P w) X.A (pyNext (.ref it)) (fun r s1 => r = none ∧ Inv X pins σ H s1) E s
  self : ∀ (A : Around) (i : Nat) (s : Shared) (Q : Value → Shared → Prop) (E : Value → Shared → Prop), tn i s.heap → Q (.ref it) s → wpAny (model P w) A (pyIter (.ref it)) Q E s
abbrev TI := St → Hp → (It → Hp → Prop) → Prop
/-- an iterator has come -/
def PIE (X : Cx) (pins : List (Addr × Obj)) (σ : St) (tg : Expr) (R : It → Hp → Prop) (itv : Value) (s2 : Shared) : Prop :=
  ∃ (it : Addr) (fp : List Addr) (tn : Nat → Heap → Prop) (J : It) (H' : Hp), itv = .ref it ∧ Inv X pins σ H' s2 ∧ Turn X.prog X.w X.K tg J fp it tn ∧ tn 0 s2.heap ∧ (∀ b ∈ fp, FpOk X pins H' b) ∧ R J H'
def PI (X : Cx) (tg iter : Expr) (wi : TI) : Prop :=
  ∀ (pins : List (Addr × Obj)) (s : Shared) (σ : St) (H : Hp) (R : It → Hp → Prop), Inv X pins σ H s → wi σ H R →
    wpAny (model X.prog X.w) X.A (eval iter X.env) (fun v s1 => wpAny (model X.prog X.w) X.A (pyIter v) (PIE X pins σ tg R) X.xe s1) X.xe s

/-- the step ahead of the store is nothing for an iterator that keeps no tuple -/
theorem go_of {M : Model} {A : Around} {E : Value → Shared → Prop} {s : Shared} {tg : Expr} {it : Addr} {u : Value} {o : Obj} {n : String} {vs : Array Value} {Q : Unit → Shared → Prop} (ho : s.heap.get? it = some o) (hc : o.cls = .type n) (hd : o.data = .fields vs)
    (hn : ["enumerate", "zip", "dict_itemiterator", "dict_reverseitemiterator", "odict_iterator", "itertools.zip_longest", "itertools.pairwise"].contains n = false) (hQ : Q () s) : wpAny M A (letOwnedTupleGo tg (.ref it) u) Q E s := by
  unfold letOwnedTupleGo
  cases tg <;> first
    | exact wpAny_pure hQ
    | (cases u <;> first
        | exact wpAny_pure hQ
        | (refine wpAny_bind (wpAny_load ho ?_)
           rw [hc, hd]
           show wpAny M A (if (["enumerate", "zip", "dict_itemiterator", "dict_reverseitemiterator", "odict_iterator", "itertools.zip_longest", "itertools.pairwise"].contains n && vs[0]? == some (rawInt _)) = true then _ else _) Q E s
           rw [if_neg (by intro h; rw [hn, Bool.false_and] at h; cases h)]
           exact wpAny_pure hQ))

/-- the list at a, as it stands at each turn (a loop may append to it) -/
def Itl (K : PySem.W.Frag) (a : Addr) : It :=
  ⟨fun i H => ∃ xs x, SqL K H a xs ∧ xs[i]? = some x, fun i H x H' => H' = H ∧ ∀ xs, SqL K H a xs → xs[i]? = some x, fun i H => ∃ xs, SqL K H a xs ∧ xs.length ≤ i⟩
/-- lo, lo + 1, .. (n of them) -/
def Itr (lo : Int) (n : Nat) : It := ⟨fun i _ => i < n, fun i H x H' => H' = H ∧ x = .int (lo + i), fun i _ => n ≤ i⟩
theorem turn_list {P : Program} {w : World} {K : PySem.W.Frag} {tg : Expr} (a it : Addr) : Turn P w K tg (Itl K a) [it] it (fun i h => h.IsListIter it a i) where
  mem := by simp
  obj := fun i h st b hb => by
    have e : b = it := by simpa using hb
    subst e
    obtain ⟨o, e, c, d⟩ := st
    exact ⟨o, e, fun v z => by rw [d] at z; cases z⟩
  keep := fun i h h' st k => st.at fun o e => k it (by simp) o e
  item := by
    intro X hP hw hK hc i pins s σ H E I hf st hg
    subst hP hw hK
    obtain ⟨xs, x, hq, hx⟩ := hg
    obtain ⟨its, rv, p, hz⟩ := I.list hq
    obtain ⟨u, hu, ru⟩ := rv.get hx
    obtain ⟨f0, f1, f2, f3, f4, f5⟩ := hf it (by simp)
    refine wpAny_pyNext_list_item st p.isList (x := u) (by simpa using hu) fun h' st' sb => ?_
    have I1 : Inv X pins σ H { s with heap := h' } := I.turned (t' := s.toks) (fun b o hb e => (sb.2 b hb).trans e) f0 f1 f3 f4 f5
    obtain ⟨o, e, c, d⟩ := id st'
    exact ⟨u, rfl, go_of (s := { s with heap := h' }) e c d (by decide) ⟨x, H, I1, ru, ⟨rfl, fun ys hy => by rw [I.list_inj hy hq]; exact hx⟩, st', fun b hb => (hf b hb).1⟩⟩
  done := by
    intro X hP hw hK hc i pins s σ H E I hf st hg
    subst hP hw hK
    obtain ⟨xs, hq, hx⟩ := hg
    obtain ⟨its, rv, p, hz⟩ := I.list hq
    obtain ⟨f0, f1, f2, f3, f4, f5⟩ := hf it (by simp)
    have hl := rv.length
    exact wpAny_pyNext_list_end (I.ok.hd hc) st p.isList (by simp; omega) fun h' eb => ⟨rfl, I.turned (t' := s.toks) (fun b o hb e => eb b o hb e) f0 f1 f3 f4 f5⟩
  self := fun _ _ _ _ _ st h => wpAny_pyIter_listiter st h
theorem turn_range {P : Program} {w : World} {K : PySem.W.Frag} {tg : Expr} (it : Addr) (lo : Int) (n : Nat) : Turn P w K tg (Itr lo n) [it] it (fun i h => IsRangeIter h it (lo + (i : Nat) * 1) ((n : Int) - (i : Nat)) 1) where
  mem := by simp
  obj := fun i h st b hb => by
    have e : b = it := by simpa using hb
    subst e
    exact ⟨_, st, fun v z => by
      have z' : Data.fields _ = Data.cell v := z
      cases z'⟩
  keep := fun i h h' st k => k it (by simp) _ st
  item := by
    intro X hP hw hK hc i pins s σ H E I hf st hg
    subst hP hw hK
    obtain ⟨f0, f1, f2, f3, f4, f5⟩ := hf it (by simp)
    have W := Walks.range (prog := X.prog) (w := X.w) (I.ok.hd hc) it lo 1 n
    refine W.item i s _ _ hg st fun v h' tk hv st' kk => ?_
    obtain ⟨t, rfl⟩ := hv
    have I1 : Inv X pins σ H { s with heap := h', toks := tk } := I.turned (fun b o hb e => kk b o (by simpa using hb) e) f0 f1 f3 f4 f5
    refine ⟨_, rfl, go_of (s := { s with heap := h', toks := tk }) (n := "range_iterator") st' rfl rfl (by decide) ⟨.int (lo + i), H, I1, ⟨t, ?_⟩, ⟨rfl, rfl⟩, st', fun b hb => (hf b hb).1⟩⟩
    rw [Int.mul_one]
  done := by
    intro X hP hw hK hc i pins s σ H E I hf st hg
    subst hP hw hK
    obtain ⟨f0, f1, f2, f3, f4, f5⟩ := hf it (by simp)
    exact wpAny_pyNext_range_end (I.ok.hd hc) st (by have : n ≤ i := hg; omega) fun h' eb => ⟨rfl, I.turned (t' := s.toks) (fun b o hb e => eb b o hb e) f0 f1 f3 f4 f5⟩
  self := fun _ _ _ _ _ st h => wpAny_pyIter_rangeiter st h
end L2

namespace L2
open PySem PySem.Spec PyProof.Rows
section
variable {X : Cx} {tg : Expr}
def iList (K : PySem.W.Frag) (tl : TE) : TI := fun σ H R => tl σ H fun x H1 => ∃ a, x = .ref a ∧ (∃ xs, SqL K H1 a xs) ∧ R (Itl K a) H1
theorem pi_list {l : Expr} {tl : TE} (hl : PE X l tl) : PI X tg l (iList X.K tl) := by
  intro pins s σ H R I h
  refine thn (hl pins s σ H _ I h) fun v s1 ⟨x, H1, I1, r1, q1⟩ => ?_
  obtain ⟨a, e, ⟨xs, hq⟩, q⟩ := q1
  subst e
  cases r1
  obtain ⟨its, rv, p, hz⟩ := I1.list hq
  refine wpAny_pyIter_list p.isList ?_
  refine ⟨s1.heap.objs.size, [s1.heap.objs.size], _, _, H1, rfl, I1.kept (t' := s1.toks) fun b o e => Heap.get?_push_of_some _ e, turn_list a _, ⟨_, Heap.get?_push_size _ rfl, rfl, rfl⟩, fun b hb => ?_, q⟩
  have e : b = s1.heap.objs.size := by simpa using hb
  subst e
  exact I1.fpOk (Nat.le_refl _) (I1.hok.fresh (Nat.le_refl _))
/-- a range object just made, walked -/
theorem range_it {pins : List (Addr × Obj)} {σ : St} {H : Hp} {s : Shared} {R : It → Hp → Prop} {E : Value → Shared → Prop} {lo hi : Int} {t u v : Tok} {tk : Nat} (I : Inv X pins σ H s) (h1 : -(2 ^ 62) ≤ lo) (h2 : lo < 2 ^ 62) (h3 : -(2 ^ 62) ≤ hi) (h4 : hi < 2 ^ 62)
    (q : R (Itr lo (hi - lo).toNat) H) : wpAny (model X.prog X.w) X.A (pyIter (.ref s.heap.objs.size)) (PIE X pins σ tg R) E { s with heap := s.heap.push { cls := .type "range", data := .fields #[.int lo t, .int hi u, .int 1 v] }, toks := tk } := by
  refine wpAny_pyIter_range (IsRange.new ..) (small_one h1 h2 h3 h4) ?_
  have I1 : Inv X pins σ H { s with heap := s.heap.push { cls := .type "range", data := .fields #[.int lo t, .int hi u, .int 1 v] }, toks := tk } := I.kept fun b o e => Heap.get?_push_of_some _ e
  refine ⟨(s.heap.push { cls := .type "range", data := .fields #[.int lo t, .int hi u, .int 1 v] }).objs.size, [(s.heap.push { cls := .type "range", data := .fields #[.int lo t, .int hi u, .int 1 v] }).objs.size], _, _, H, rfl,
    I1.kept (t' := tk) fun b o e => Heap.get?_push_of_some _ e, turn_range _ lo (hi - lo).toNat, ?_, fun b hb => ?_, q⟩
  · have e1 : lo + ((0 : Nat) : Int) * 1 = lo := by simp
    have e2 : (((hi - lo).toNat : Nat) : Int) - ((0 : Nat) : Int) = Builtin.Range.rangeSize lo hi 1 := by rw [rangeSize_one]; split <;> omega
    show IsRangeIter _ _ (lo + ((0 : Nat) : Int) * 1) ((((hi - lo).toNat : Nat) : Int) - ((0 : Nat) : Int)) 1
    rw [e1, e2]
    exact Heap.get?_push_size _ rfl
  · have e : b = (s.heap.push { cls := .type "range", data := .fields #[.int lo t, .int hi u, .int 1 v] }).objs.size := by simpa using hb
    subst e
    exact I1.fpOk (Nat.le_refl _) (I1.hok.fresh (Nat.le_refl _))
def iRng1 (ta : TA) : TI := fun σ H R => ta σ H fun vs H1 => ∃ j : Int, vs = [.int j] ∧ -(2 ^ 62) ≤ j ∧ j < 2 ^ 62 ∧ R (Itr 0 j.toNat) H1
theorem pi_range1 {a : Expr} {ta : TA} {p pos : Pos} (hg : Gl X "range") (hm : X.mg "range" = none) (ha : PA X [a] ta) (hs : starEach [a] X.env = [(false, eval a X.env)] := by rfl) : PI X tg (.Call (.Name "range" p) [a] [] pos) (iRng1 ta) := by
  intro pins s σ H R I h
  refine Call_ (ld_blt I hg hm boot_range (PyProof.Rows.callWith_type1 (thn (ha pos pins s σ H _ I h) fun us s1 ⟨vs, H1, I1, r1, q1⟩ => ?_) hs rfl))
  obtain ⟨j, e, q1, q2, q⟩ := q1
  subst e
  cases r1 with
  | cons r rr =>
    cases rr
    obtain ⟨t, rfl⟩ := r
    exact call_range_1 (range_it I1 (by omega) (by omega) q1 q2 (by simpa using q))
/-! ### for -/
/-- W: the invariant by the turn and a measure; N: what the body is to reach -/
def tFor (wi : TI) (g : TG) (tb : TS) : TS := fun D σ H => wi σ H fun J H1 => ∃ W : Nat → Nat → St → Hp → Prop, (∃ m, W 0 m σ H1) ∧ ∀ i m σ H, W i m σ H →
  (J.stop i H ∧ D.nx σ H) ∨ (J.go i H ∧ ∃ N : St → Hp → Prop, (∀ σ' H', N σ' H' → ∃ m', m' < m ∧ W (i + 1) m' σ' H') ∧ ∀ x H', J.yld i H x H' → g x σ H' fun σ2 H2 => tb { D with nx := N, ct := N, bk := D.nx } σ2 H2)
/-- the records at fp as they stand -/
def pinsAt (fp : List Addr) (h : Heap) : List (Addr × Obj) := fp.filterMap fun b => (h.get? b).map fun o => (b, o)
theorem mem_pinsAt {fp : List Addr} {h : Heap} {b : Addr} {o : Obj} (hb : b ∈ fp) (e : h.get? b = some o) : (b, o) ∈ pinsAt fp h := List.mem_filterMap.mpr ⟨b, hb, by rw [e]; rfl⟩
theorem of_pinsAt {fp : List Addr} {h : Heap} {p : Addr × Obj} (hp : p ∈ pinsAt fp h) : p.1 ∈ fp ∧ h.get? p.1 = some p.2 := by
  obtain ⟨b, hb, e⟩ := List.mem_filterMap.mp hp
  cases q : h.get? b with
  | none => rw [q] at e; cases e
  | some o =>
    rw [q] at e
    have e' : (b, o) = p := Option.some.inj e
    subst e'
    exact ⟨hb, q⟩
theorem Inv.pinned {pins : List (Addr × Obj)} {σ : St} {H : Hp} {s : Shared} {fp : List Addr} (I : Inv X pins σ H s) (hf : ∀ b ∈ fp, FpOk X pins H b) (ho : ∀ b ∈ fp, ∃ o, s.heap.get? b = some o ∧ ∀ v, o.data ≠ .cell v) : Inv X (pins ++ pinsAt fp s.heap) σ H s :=
  I.pins_of fun p hp => (List.mem_append.mp hp).elim (fun z => I.pin p (List.mem_append_right _ z)) fun z => by
    obtain ⟨hb, e⟩ := of_pinsAt z
    obtain ⟨f0, f1, f2, _⟩ := hf p.1 hb
    obtain ⟨o, e', d⟩ := ho p.1 hb
    rw [e] at e'; cases e'
    exact ⟨e, f0, f1, f2, d⟩
theorem Inv.unpinned {pins pl : List (Addr × Obj)} {σ : St} {H : Hp} {s : Shared} (I : Inv X (pins ++ pl) σ H s) : Inv X pins σ H s := I.pins_of fun p hp => I.pin p (List.mem_append_right _ (List.mem_append_left _ hp))
theorem ps_for {iter : Expr} {body : List Stmt} {wi : TI} {g : TG} {tb : TS} {pos : Pos} (hp : PassesOwn (model X.prog X.w) X.A X.env X.xe) (hc : X.calm = true) (hi : PI X tg iter wi) (hg : PG X tg g) (hb : PSs X body tb)
    (hs : ∀ x, foldedSetIterable iter X.env x = pure x := by intro _; rfl) : PS X (.For tg iter body [] pos) (tFor wi g tb) := by
  intro pins s σ H D I h
  refine wpAny_For (thn (hi pins s σ H _ I h) fun v s1 h1 => thn h1 fun itv s2 h2 => ?_) hs
  obtain ⟨it, fp, tn, J, H2, e, I2, T, st2, f2, W, ⟨m0, w0⟩, turn⟩ := h2
  subst e
  -- what stays true of the iterator's objects through the loop
  have stat : ∀ {H' : Hp}, (∀ b ∈ fp, H' b = none) → ∀ b ∈ fp, FpOk X pins H' b := fun hn b hb => ⟨hn b hb, (f2 b hb).2⟩
  refine codeAny_forLoop_any (fun n s' => ∃ i σ' H', Inv X pins σ' H' s' ∧ tn i s'.heap ∧ (∀ b ∈ fp, H' b = none) ∧ W i n σ' H') ?_ m0 ⟨0, σ, H2, I2, st2, fun b hb => (f2 b hb).1, w0⟩
  rintro n s3 ⟨i, σ3, H3, I3, st3, fr3, w3⟩
  rcases turn i n σ3 H3 w3 with ⟨stop, qn⟩ | ⟨go, N, hN, step⟩
  · refine wpAny_passesOwn hp (thn (T.done X rfl rfl rfl hc i pins s3 σ3 H3 X.xe I3 (stat fr3) st3 stop) fun r s4 ⟨hr, I4⟩ => ?_)
    subst hr
    exact wpAny_execs_nil ⟨σ3, H3, I4, qn⟩
  · refine wpAny_passesOwn hp (thn (T.item X rfl rfl rfl hc i pins s3 σ3 H3 X.xe I3 (stat fr3) st3 go) fun r s4 ⟨u, hr, h4⟩ => ?_)
    subst hr
    refine wpAny_passesOwn hp (thn h4 fun _ s5 ⟨x, H5, I5, r5, y5, st5, fr5⟩ => ?_)
    have I5' := I5.pinned (stat fr5) (T.obj _ _ st5)
    refine wpAny_passesOwn hp (thn (hg _ s5 σ3 H5 x u _ I5' r5 (step x H5 y5)) fun _ s6 ⟨σ6, H6, I6, q6⟩ => ?_)
    refine wpAny_passesOwn hp (thn (hb _ s6 σ6 H6 _ I6 q6) fun f s7 q7 => ?_)
    have again : ∀ {σ7 : St} {H7 : Hp}, Inv X (pins ++ pinsAt fp s5.heap) σ7 H7 s7 → N σ7 H7 → ∃ m, m < n ∧ ∃ i σ' H', Inv X pins σ' H' s7 ∧ tn i s7.heap ∧ (∀ b ∈ fp, H' b = none) ∧ W i m σ' H' := fun {σ7 H7} I7 n7 => by
      obtain ⟨m', hm, w7⟩ := hN σ7 H7 n7
      refine ⟨m', hm, i + 1, σ7, H7, I7.unpinned, T.keep _ _ _ st5 fun b hb o e => (I7.pin (b, o) (List.mem_append_right _ (List.mem_append_right _ (mem_pinsAt hb e)))).1, fun b hb => ?_, w7⟩
      obtain ⟨o, e, d⟩ := T.obj _ _ st5 b hb
      exact (I7.pin (b, o) (List.mem_append_right _ (List.mem_append_right _ (mem_pinsAt hb e)))).2.1
    cases f with
    | next => obtain ⟨σ7, H7, I7, n7⟩ := q7; exact again I7 n7
    | cont => obtain ⟨σ7, H7, I7, n7⟩ := q7; exact again I7 n7
    | brk => obtain ⟨σ7, H7, I7, q7⟩ := q7; exact ⟨σ7, H7, I7.unpinned, q7⟩
    | ret v => obtain ⟨x7, σ7, H7, I7, r7, q7⟩ := q7; exact ⟨x7, σ7, H7, I7.unpinned, r7, q7⟩
end

/-! ### the forms one uses -/
/-- over a list that the body leaves as it is -/
theorem for_list {K : PySem.W.Frag} {a : Addr} {xs : List V} {g : TG} {tb : TS} {D : Ends} {σ : St} {H : Hp} (Pv : Nat → St → Hp → Prop) (h0 : Pv 0 σ H) (hl : ∀ i σ H, i ≤ xs.length → Pv i σ H → SqL K H a xs)
    (hs : ∀ i x σ H, xs[i]? = some x → Pv i σ H → g x σ H fun σ2 H2 => tb { D with nx := Pv (i + 1), ct := Pv (i + 1), bk := D.nx } σ2 H2) (hd : ∀ σ H, Pv xs.length σ H → D.nx σ H) :
    ∃ W : Nat → Nat → St → Hp → Prop, (∃ m, W 0 m σ H) ∧ ∀ i m σ H, W i m σ H →
      ((Itl K a).stop i H ∧ D.nx σ H) ∨ ((Itl K a).go i H ∧ ∃ N : St → Hp → Prop, (∀ σ' H', N σ' H' → ∃ m', m' < m ∧ W (i + 1) m' σ' H') ∧ ∀ x H', (Itl K a).yld i H x H' → g x σ H' fun σ2 H2 => tb { D with nx := N, ct := N, bk := D.nx } σ2 H2) := by
  refine ⟨fun i m σ H => m = xs.length - i ∧ i ≤ xs.length ∧ Pv i σ H, ⟨xs.length, by simp, Nat.zero_le _, h0⟩, ?_⟩
  rintro i m σ H ⟨rfl, hi, p⟩
  have q := hl i σ H hi p
  by_cases hlt : i < xs.length
  · refine .inr ⟨⟨xs, xs[i], q, by simp [hlt]⟩, Pv (i + 1), fun σ' H' p' => ⟨xs.length - (i + 1), by omega, rfl, hlt, p'⟩, fun x H' y => ?_⟩
    obtain ⟨e, y⟩ := y
    subst e
    exact hs i x σ _ (y xs q) p
  · have e : i = xs.length := by omega
    subst e
    exact .inl ⟨⟨xs, q, Nat.le_refl _⟩, hd σ H p⟩
theorem for_range {lo : Int} {n : Nat} {g : TG} {tb : TS} {D : Ends} {σ : St} {H : Hp} (Pv : Nat → St → Hp → Prop) (h0 : Pv 0 σ H)
    (hs : ∀ i σ H, i < n → Pv i σ H → g (.int (lo + i)) σ H fun σ2 H2 => tb { D with nx := Pv (i + 1), ct := Pv (i + 1), bk := D.nx } σ2 H2) (hd : ∀ σ H, Pv n σ H → D.nx σ H) :
    ∃ W : Nat → Nat → St → Hp → Prop, (∃ m, W 0 m σ H) ∧ ∀ i m σ H, W i m σ H →
      ((Itr lo n).stop i H ∧ D.nx σ H) ∨ ((Itr lo n).go i H ∧ ∃ N : St → Hp → Prop, (∀ σ' H', N σ' H' → ∃ m', m' < m ∧ W (i + 1) m' σ' H') ∧ ∀ x H', (Itr lo n).yld i H x H' → g x σ H' fun σ2 H2 => tb { D with nx := N, ct := N, bk := D.nx } σ2 H2) := by
  refine ⟨fun i m σ H => m = n - i ∧ i ≤ n ∧ Pv i σ H, ⟨n, by simp, Nat.zero_le _, h0⟩, ?_⟩
  rintro i m σ H ⟨rfl, hi, p⟩
  by_cases hlt : i < n
  · refine .inr ⟨hlt, Pv (i + 1), fun σ' H' p' => ⟨n - (i + 1), by omega, rfl, hlt, p'⟩, fun x H' y => ?_⟩
    obtain ⟨e, y⟩ := y
    subst e y
    exact hs i σ _ hlt p
  · have e : i = n := by omega
    subst e
    exact .inl ⟨Nat.le_refl _, hd σ H p⟩
end L2

namespace L2
open PySem PySem.Spec PyProof.Rows

abbrev R2 := V → V → Hp → VK → Prop
/-- a two-place operation on values: f is binaryOp op, inplaceOp op or compareOp op -/
def OpR (X : Cx) (f : Value → Value → Sem Value) (r : R2) : Prop :=
  ∀ (pins : List (Addr × Obj)) (s : Shared) (σ : St) (H : Hp) (x y : V) (v u : Value) (Q : VK), Inv X pins σ H s → RelV x v → RelV y u → r x y H Q →
    wpAny (model X.prog X.w) X.A (f v u) (EP X pins σ Q) X.xe s
/-- a one-place operation -/
def UnR (X : Cx) (f : Value → Sem Value) (r : V → Hp → VK → Prop) : Prop :=
  ∀ (pins : List (Addr × Obj)) (s : Shared) (σ : St) (H : Hp) (x : V) (v : Value) (Q : VK), Inv X pins σ H s → RelV x v → r x H Q →
    wpAny (model X.prog X.w) X.A (f v) (EP X pins σ Q) X.xe s
/-- a call of a value that is known (a builtin, a type) with values -/
def CallR (X : Cx) (f : Value) (r : List V → Hp → VK → Prop) : Prop :=
  ∀ (pins : List (Addr × Obj)) (s : Shared) (σ : St) (H : Hp) (xs : List V) (us : List Value) (Q : VK), Inv X pins σ H s → Vals xs us → r xs H Q →
    wpAny (model X.prog X.w) X.A (call f us) (EP X pins σ Q) X.xe s
def tOp (r : R2) (ta tb : TE) : TE := fun σ H Q => ta σ H fun x H1 => tb σ H1 fun y H2 => r x y H2 Q
def tUn (r : V → Hp → VK → Prop) (ta : TE) : TE := fun σ H Q => ta σ H fun x H1 => r x H1 Q
/-- ints in, under C, and a value out -/
def rI (C : Int → Int → Prop) (g : Int → Int → V) : R2 := fun x y H Q => ∃ i j, x = .int i ∧ y = .int j ∧ C i j ∧ Q (g i j) H
def rI0 (g : Int → Int → V) : R2 := fun x y H Q => ∃ i j, x = .int i ∧ y = .int j ∧ Q (g i j) H
def rU (g : Int → V) : V → Hp → VK → Prop := fun x H Q => ∃ i, x = .int i ∧ Q (g i) H

section
variable {X : Cx} {a b c : Expr} {ta tb tc : TE} {pos : Pos}

theorem binT (ha : PE X a ta) (hb : PE X b tb) {pins : List (Addr × Obj)} {s : Shared} {σ : St} {H : Hp} {R : V → V → Hp → Prop} (I : Inv X pins σ H s)
    (h : ta σ H fun x H1 => tb σ H1 fun y H2 => R x y H2) {Q : Value → Shared → Prop} {f : Value → Value → Sem Value}
    (hf : ∀ v u s2 x y H2, Inv X pins σ H2 s2 → RelV x v → RelV y u → R x y H2 → wpAny (model X.prog X.w) X.A (f v u) Q X.xe s2) :
    wpAny (model X.prog X.w) X.A (eval a X.env) (fun v s₁ => wpAny (model X.prog X.w) X.A (eval b X.env) (fun u s₂ => wpAny (model X.prog X.w) X.A (f v u) Q X.xe s₂) X.xe s₁) X.xe s := by
  refine thn (ha pins s σ H _ I h) fun v s1 ⟨x, H1, I1, r1, q1⟩ => ?_
  refine thn (hb pins s1 σ H1 _ I1 q1) fun u s2 ⟨y, H2, I2, r2, q2⟩ => ?_
  exact hf v u s2 x y H2 I2 r1 r2 q2

theorem pe_op {op : Operator} {r : R2} (ho : OpR X (binaryOp op) r) (ha : PE X a ta) (hb : PE X b tb) : PE X (.BinOp a op b pos) (tOp r ta tb) := by
  intro pins s σ H Q I h
  exact wpAny_BinOp (binT ha hb I h fun v u s2 x y H2 I2 rx ry q => ho pins s2 σ H2 x y v u Q I2 rx ry q)
theorem pe_un {op : UnaryOp} {r : V → Hp → VK → Prop} (ho : UnR X (unaryOp op) r) (ha : PE X a ta) : PE X (.UnaryOp op a pos) (tUn r ta) := by
  intro pins s σ H Q I h
  exact UnaryOp_ (thn (ha pins s σ H _ I h) fun v s1 ⟨x, H1, I1, r1, q1⟩ => ho pins s1 σ H1 x v Q I1 r1 q1)
/-! ### ints -/
theorem opI {f : Value → Value → Sem Value} {C : Int → Int → Prop} {g : Int → Int → Int}
    (rule : ∀ (i j : Int) (t u : Tok) (s : Shared) (Q : Value → Shared → Prop) (E : Value → Shared → Prop), C i j → Q (.int (g i j) s.toks) { s with toks := s.toks + 1 } → wpAny (model X.prog X.w) X.A (f (.int i t) (.int j u)) Q E s) :
    OpR X f (rI C fun i j => .int (g i j)) := by
  intro pins s σ H x y v u Q I rx ry h
  obtain ⟨i, j, rfl, rfl, hc, q⟩ := h
  obtain ⟨t, rfl⟩ := rx
  obtain ⟨t', rfl⟩ := ry
  exact rule i j t t' s _ _ hc ⟨.int (g i j), H, I.tok _, ⟨_, rfl⟩, q⟩
theorem opI0 {f : Value → Value → Sem Value} {g : Int → Int → Int}
    (rule : ∀ (i j : Int) (t u : Tok) (s : Shared) (Q : Value → Shared → Prop) (E : Value → Shared → Prop), Q (.int (g i j) s.toks) { s with toks := s.toks + 1 } → wpAny (model X.prog X.w) X.A (f (.int i t) (.int j u)) Q E s) :
    OpR X f (rI0 fun i j => .int (g i j)) := by
  intro pins s σ H x y v u Q I rx ry h
  obtain ⟨i, j, rfl, rfl, q⟩ := h
  obtain ⟨t, rfl⟩ := rx
  obtain ⟨t', rfl⟩ := ry
  exact rule i j t t' s _ _ ⟨.int (g i j), H, I.tok _, ⟨_, rfl⟩, q⟩
theorem opB0 {f : Value → Value → Sem Value} {g : Int → Int → Bool}
    (rule : ∀ (i j : Int) (t u : Tok) (s : Shared) (Q : Value → Shared → Prop) (E : Value → Shared → Prop), Q (.bool (g i j)) s → wpAny (model X.prog X.w) X.A (f (.int i t) (.int j u)) Q E s) :
    OpR X f (rI0 fun i j => .bl (g i j)) := by
  intro pins s σ H x y v u Q I rx ry h
  obtain ⟨i, j, rfl, rfl, q⟩ := h
  obtain ⟨t, rfl⟩ := rx
  obtain ⟨t', rfl⟩ := ry
  exact rule i j t t' s _ _ ⟨.bl (g i j), H, I, rfl, q⟩

theorem op_add : OpR X (binaryOp .Add) (rI0 fun i j => .int (i + j)) := opI0 fun _ _ _ _ _ _ _ q => add_int q
theorem op_sub : OpR X (binaryOp .Sub) (rI0 fun i j => .int (i - j)) := opI0 fun _ _ _ _ _ _ _ q => sub_int q
theorem op_modN : OpR X (binaryOp .Mod) (rI (fun _ j => j ≠ 0) fun i j => .int (i.fmod j)) := opI fun _ _ _ _ _ _ _ hc q => mod_int' hc q
theorem unI {f : Value → Sem Value} {g : Int → Int}
    (rule : ∀ (i : Int) (t : Tok) (s : Shared) (Q : Value → Shared → Prop) (E : Value → Shared → Prop), Q (.int (g i) s.toks) { s with toks := s.toks + 1 } → wpAny (model X.prog X.w) X.A (f (.int i t)) Q E s) :
    UnR X f (rU fun i => .int (g i)) := by
  intro pins s σ H x v Q I rx h
  obtain ⟨i, rfl, q⟩ := h
  obtain ⟨t, rfl⟩ := rx
  exact rule i t s _ _ ⟨.int (g i), H, I.tok _, ⟨_, rfl⟩, q⟩
theorem un_neg : UnR X (unaryOp .USub) (rU fun i => .int (-i)) := unI fun _ _ _ _ _ q => neg_int q
/-! ### bools among ints: n += (a < b) -/
end

/-! ### comparisons -/
/-- the scalars that == tells apart as data does -/
def scal : V → V → Bool
  | .non, .non => true | .non, .int _ => true | .int _, .non => true | .non, .bl _ => true | .bl _, .non => true | .non, .str _ => true | .str _, .non => true
  | .int _, .int _ => true | .bl _, .bl _ => true | .str _, .str _ => true | .byt _, .byt _ => true
  | .int _, .str _ => true | .str _, .int _ => true | .bl _, .str _ => true | .str _, .bl _ => true
  | _, _ => false
def rEq : R2 := fun x y H Q => scal x y = true ∧ Q (.bl (decide (x = y))) H
def rNe : R2 := fun x y H Q => scal x y = true ∧ Q (.bl (!decide (x = y))) H

theorem dec_int {i j : Int} : decide (V.int i = V.int j) = (i == j) := by
  rw [Bool.eq_iff_iff]
  simp
theorem dec_bl {i j : Bool} : decide (V.bl i = V.bl j) = (i == j) := by
  rw [Bool.eq_iff_iff]
  simp
theorem dec_str {i j : Str} : decide (V.str i = V.str j) = (i == j) := by
  rw [Bool.eq_iff_iff]
  simp
theorem dec_byt {i j : Array UInt8} : decide (V.byt i = V.byt j) = (i.toList == j.toList) := by
  rw [Bool.eq_iff_iff]
  cases i
  cases j
  simp

section
variable {X : Cx} {a b c : Expr} {ta tb tc : TE} {pos : Pos}
theorem fin_bl {pins : List (Addr × Obj)} {σ : St} {H : Hp} {s : Shared} {Q : VK} {k k' : Bool} (I : Inv X pins σ H s) (q : Q (.bl k) H) (e : k = k') : EP X pins σ Q (.bool k') s := by
  subst e
  exact ⟨.bl k, H, I, rfl, q⟩
theorem op_eq : OpR X (compareOp .Eq) rEq := by
  intro pins s σ H x y v u Q I rx ry h
  obtain ⟨hs, q⟩ := h
  cases x with
  | non =>
    cases rx
    cases y with
    | non => cases ry; exact PySem.EqNone.eq_none_none (fin_bl I q (by simp))
    | bl j => cases ry; exact PySem.EqNone.eq_none_bool (fin_bl I q (by simp))
    | int j => obtain ⟨t', rfl⟩ := ry; exact PySem.EqNone.eq_none_int (fin_bl I q (by simp))
    | str j => obtain ⟨t', rfl⟩ := ry; exact PySem.EqNone.eq_none_str (fin_bl I q (by simp))
    | _ => exact absurd (show false = true from hs) Bool.false_ne_true
  | bl i =>
    cases rx
    cases y with
    | non => cases ry; exact PySem.EqNone.eq_bool_none (fin_bl I q (by simp))
    | bl j => cases ry; exact eq_bool (fin_bl I q dec_bl)
    | str j => obtain ⟨t', rfl⟩ := ry; exact PySem.EqMixed.eq_bool_str (fin_bl I q (by simp))
    | _ => exact absurd (show false = true from hs) Bool.false_ne_true
  | int i =>
    obtain ⟨t, rfl⟩ := rx
    cases y with
    | non => cases ry; exact PySem.EqNone.eq_int_none (fin_bl I q (by simp))
    | int j => obtain ⟨t', rfl⟩ := ry; exact eq_int (fin_bl I q dec_int)
    | str j => obtain ⟨t', rfl⟩ := ry; exact PySem.EqMixed.eq_int_str (fin_bl I q (by simp))
    | _ => exact absurd (show false = true from hs) Bool.false_ne_true
  | str i =>
    obtain ⟨t, rfl⟩ := rx
    cases y with
    | non => cases ry; exact PySem.EqNone.eq_str_none (fin_bl I q (by simp))
    | bl j => cases ry; exact PySem.EqMixed.eq_str_bool (fin_bl I q (by simp))
    | int j => obtain ⟨t', rfl⟩ := ry; exact PySem.EqMixed.eq_str_int (fin_bl I q (by simp))
    | str j => obtain ⟨t', rfl⟩ := ry; exact eq_str (fin_bl I q dec_str)
    | _ => exact absurd (show false = true from hs) Bool.false_ne_true
  | byt i =>
    obtain ⟨t, rfl⟩ := rx
    cases y with
    | byt j => obtain ⟨t', rfl⟩ := ry; exact PySem.W.eq_bytes (fin_bl I q dec_byt)
    | _ => exact absurd (show false = true from hs) Bool.false_ne_true
  | _ => cases y <;> exact absurd (show false = true from hs) Bool.false_ne_true
theorem op_ne : OpR X (compareOp .NotEq) rNe := by
  intro pins s σ H x y v u Q I rx ry h
  obtain ⟨hs, q⟩ := h
  cases x with
  | non =>
    cases rx
    cases y with
    | non => cases ry; exact PySem.EqNone.ne_none_none (fin_bl I q (by simp))
    | bl j => cases ry; exact PySem.EqNone.ne_none_bool (fin_bl I q (by simp))
    | int j => obtain ⟨t', rfl⟩ := ry; exact PySem.EqNone.ne_none_int (fin_bl I q (by simp))
    | str j => obtain ⟨t', rfl⟩ := ry; exact PySem.EqNone.ne_none_str (fin_bl I q (by simp))
    | _ => exact absurd (show false = true from hs) Bool.false_ne_true
  | bl i =>
    cases rx
    cases y with
    | non => cases ry; exact PySem.EqNone.ne_bool_none (fin_bl I q (by simp))
    | bl j => cases ry; exact ne_bool (fin_bl I q (congrArg not dec_bl))
    | str j => obtain ⟨t', rfl⟩ := ry; exact PySem.EqMixed.ne_bool_str (fin_bl I q (by simp))
    | _ => exact absurd (show false = true from hs) Bool.false_ne_true
  | int i =>
    obtain ⟨t, rfl⟩ := rx
    cases y with
    | non => cases ry; exact PySem.EqNone.ne_int_none (fin_bl I q (by simp))
    | int j => obtain ⟨t', rfl⟩ := ry; exact ne_int (fin_bl I q (congrArg not dec_int))
    | str j => obtain ⟨t', rfl⟩ := ry; exact PySem.EqMixed.ne_int_str (fin_bl I q (by simp))
    | _ => exact absurd (show false = true from hs) Bool.false_ne_true
  | str i =>
    obtain ⟨t, rfl⟩ := rx
    cases y with
    | non => cases ry; exact PySem.EqNone.ne_str_none (fin_bl I q (by simp))
    | bl j => cases ry; exact PySem.EqMixed.ne_str_bool (fin_bl I q (by simp))
    | int j => obtain ⟨t', rfl⟩ := ry; exact PySem.EqMixed.ne_str_int (fin_bl I q (by simp))
    | str j => obtain ⟨t', rfl⟩ := ry; exact ne_str (fin_bl I q (congrArg not dec_str))
    | _ => exact absurd (show false = true from hs) Bool.false_ne_true
  | byt i =>
    obtain ⟨t, rfl⟩ := rx
    cases y with
    | byt j => obtain ⟨t', rfl⟩ := ry; exact PySem.W.ne_bytes (fin_bl I q (congrArg not dec_byt))
    | _ => exact absurd (show false = true from hs) Bool.false_ne_true
  | _ => cases y <;> exact absurd (show false = true from hs) Bool.false_ne_true

theorem op_lt : OpR X (compareOp .Lt) (rI0 fun i j => .bl (decide (i < j))) := opB0 fun _ _ _ _ _ _ _ q => lt_int q
theorem op_le : OpR X (compareOp .LtE) (rI0 fun i j => .bl (decide (i ≤ j))) := opB0 fun _ _ _ _ _ _ _ q => le_int q
theorem op_gt : OpR X (compareOp .Gt) (rI0 fun i j => .bl (decide (j < i))) := opB0 fun _ _ _ _ _ _ _ q => gt_int q
theorem op_ge : OpR X (compareOp .GtE) (rI0 fun i j => .bl (decide (j ≤ i))) := opB0 fun _ _ _ _ _ _ _ q => ge_int q
/-- is None, is not None: the right side a value none -/
theorem op_isN : OpR X (compareOp .Is) (fun x y H Q => y = .non ∧ Q (.bl (decide (x = .non))) H) := by
  intro pins s σ H x y v u Q I rx ry h
  obtain ⟨rfl, q⟩ := h
  cases ry
  refine is_none_gen (fin_bl I q ?_)
  cases x <;> first
    | (cases rx; rfl)
    | (obtain ⟨t, rfl⟩ := rx; rfl)
theorem nomark (b : Expr) {op : CmpOp} (h : op ≠ .In := by decide) (h2 : op ≠ .NotIn := by decide) : behindInMarks op b = false := by
  have e1 : (op == CmpOp.In) = false := by cases op <;> first | rfl | exact absurd rfl h
  have e2 : (op == CmpOp.NotIn) = false := by cases op <;> first | rfl | exact absurd rfl h2
  cases b <;> simp [behindInMarks, e1, e2]
/-- a comparison as a value; hm: nomark b, or (for in, not in) by with_unfolding_all rfl -/
theorem pe_cmpR {op : CmpOp} {r : R2} (ho : OpR X (compareOp op) r) (ha : PE X a ta) (hb : PE X b tb) (hm : behindInMarks op b = false) : PE X (.Compare a [op] [b] pos) (tOp r ta tb) := by
  intro pins s σ H Q I h
  exact wpAny_Compare1 (binT ha hb I h fun v u s2 x y H2 I2 rx ry q => ho pins s2 σ H2 x y v u Q I2 rx ry q) hm
/-- a reading of a value as a test -/
def tTest (t : TE) : TT := fun σ H Q => t σ H fun x H' => ∃ k, x = .bl k ∧ Q k H'
theorem pt_cmpR {op : CmpOp} {r : R2} (ho : OpR X (compareOp op) r) (ha : PE X a ta) (hb : PE X b tb) (hm : behindInMarks op b = false) : PT X (.Compare a [op] [b] pos) (tTest (tOp r ta tb)) := by
  intro pins s σ H Q I h
  refine wpAny_isTrue_Compare1 (thn (ha pins s σ H _ I h) fun v s1 ⟨x, H1, I1, r1, q1⟩ => thn (hb pins s1 σ H1 _ I1 q1) fun u s2 ⟨y, H2, I2, r2, q2⟩ =>
    thn (ho pins s2 σ H2 x y v u _ I2 r1 r2 q2) fun c s3 ⟨z, H3, I3, r3, k, e, q3⟩ => ?_) hm
  subst e
  cases r3
  exact wpAny_truthy_bool ⟨H3, I3, q3⟩
/-- a op1 b op2 c -/
def tChain (r r' : R2) (ta tb tc : TE) : TE := fun σ H Q => ta σ H fun x H1 => tb σ H1 fun y H2 => r x y H2 fun z H3 => ∃ k, z = .bl k ∧
  (if k = true then tc σ H3 fun w' H4 => r' y w' H4 Q else Q (.bl false) H3)
theorem pt_chain {op op' : CmpOp} {r r' : R2} (ho : OpR X (compareOp op) r) (ho' : OpR X (compareOp op') r') (ha : PE X a ta) (hb : PE X b tb) (hc : PE X c tc)
    (hm : lastMarks [op, op'] [b, c] = false := by with_unfolding_all rfl) : PT X (.Compare a [op, op'] [b, c] pos) (tTest (tChain r r' ta tb tc)) := by
  intro pins s σ H Q I h
  refine isTrue_chain (thn (ha pins s σ H _ I h) fun v s1 ⟨x, H1, I1, r1, q1⟩ => test_link (thn (hb pins s1 σ H1 _ I1 q1) fun u s2 ⟨y, H2, I2, r2, q2⟩ =>
    thn (ho pins s2 σ H2 x y v u _ I2 r1 r2 q2) fun d s3 ⟨z, H3, I3, r3, k, e, q3⟩ => ?_)) hm
  subst e
  cases r3
  refine wpAny_truthy_bool ?_
  cases k with
  | false =>
    obtain ⟨k', e', q'⟩ := q3
    cases e'
    exact ite_ff ⟨H3, I3, q'⟩
  | true =>
    refine ite_tt (test_last (thn (hc pins s3 σ H3 _ I3 q3) fun w' s4 ⟨z', H4, I4, r4, q4⟩ => thn (ho' pins s4 σ H4 y z' u w' _ I4 r2 r4 q4) fun d' s5 ⟨z2, H5, I5, r5, k2, e2, q5⟩ => ?_))
    subst e2
    cases r5
    exact wpAny_truthy_bool ⟨H5, I5, q5⟩

/-! ### truth -/
theorem line63 : (sizeLine : Nat) < 2 ^ 63 := by rw [sizeLine_eq]; decide
/-! ### strs and bytes -/
/-! ### scalar builtins, by CallR -/
theorem vals1 {x : V} {us : List Value} (r : Vals [x] us) : ∃ u, us = [u] ∧ RelV x u := by
  cases r with
  | cons r1 r2 => cases r2; exact ⟨_, rfl, r1⟩
theorem vals2 {x y : V} {us : List Value} (r : Vals [x, y] us) : ∃ u w', us = [u, w'] ∧ RelV x u ∧ RelV y w' := by
  cases r with
  | cons r1 r2 =>
    cases r2 with
    | cons r3 r4 => cases r4; exact ⟨_, _, rfl, r1, r3⟩
theorem call_abs : CallR X (.builtin "abs") (fun xs H Q => ∃ i, xs = [.int i] ∧ Q (.int (if i < 0 then -i else i)) H) := by
  intro pins s σ H xs us Q I r h
  obtain ⟨i, rfl, q⟩ := h
  obtain ⟨u, rfl, t, rfl⟩ := vals1 r
  exact call_abs_int fun u tk => ⟨.int (if i < 0 then -i else i), H, I.tok _, ⟨_, rfl⟩, q⟩
end
end L2

namespace L2
open PySem PySem.Spec PyProof.Rows

/-! ### an instance, its attributes a map -/
structure ObjM (h : Heap) (x dx C : Addr) (mA : Str → Option Value) : Prop where
  obj : h.get? x = some (PySem.W.instObj C dx)
  ns : h.Ns1 dx mA
  ne : dx ≠ x

theorem lookIn_ns {h : Heap} {dx : Addr} {mA : Str → Option Value} (n : h.Ns1 dx mA) : ∃ od, h.get? dx = some od ∧ ∀ name, PySem.W.lookIn name od = some (mA name) := by
  obtain ⟨o, es, ep, ho, hd, hk, _, hm⟩ := n
  refine ⟨o, ho, fun name => ?_⟩
  have e := hm name
  unfold nsFind findBy at e
  rw [← Array.find?_toList] at e
  unfold PySem.W.lookIn
  rw [hd]
  dsimp only
  split
  · rename_i y q
    rw [q] at e
    exact congrArg some e
  · rename_i q
    rw [q] at e
    have a : es.toList.any (·.refKey) = false := by
      rw [List.any_eq_false]
      intro y hy
      obtain ⟨z, t, hkey⟩ := hk y (Array.mem_toList_iff.mp hy)
      simp [DictEntry.refKey, hkey]
    have a' : ¬ es.toList.any (·.refKey) = true := by rw [a]; exact Bool.false_ne_true
    rw [if_neg a']
    exact congrArg some e

theorem ObjM.look {h : Heap} {x dx C : Addr} {mA : Str → Option Value} (I : ObjM h x dx C mA) : ∃ od, PySem.W.InstAt h x (PySem.W.instObj C dx) C (some od) ∧ ∀ name, PySem.W.lookIn name od = some (mA name) :=
  let ⟨od, ho, hl⟩ := lookIn_ns I.ns
  ⟨od, ⟨I.obj, rfl, rfl, ho⟩, hl⟩

section
variable {prog : Program} {w : World} {A : Around} {E : Value → Shared → Prop} {s : Shared} {K : PySem.W.Frag} {x dx C f : Addr} {mA : Str → Option Value} {name : Str} {v : Value}

theorem get_map {expr : Bool} {Q : Value → Shared → Prop} (X : K.In s.heap) (I : ObjM s.heap x dx C mA) (hg : PySem.W.plainGet K C name = true) (hh : PySem.W.hasDictIn K C = true)
    (ha : PySem.W.findIn K (.ref C) name = some none) (hv : mA name = some v) (hv' : PySem.W.handedIn v = true) (h : Q v { s with toks := s.toks + 1 }) :
    wpAny (model prog w) A (getAttr (.ref x) name expr) Q E s := by
  obtain ⟨od, J, hl⟩ := I.look
  exact PySem.W.get_value X J (PySem.W.plainGet_of hg).1 (PySem.W.findObj_own hh ha rfl (by rw [hl, hv])) hv' h

theorem set_map {ns : List Str} {Q : Unit → Shared → Prop} (X : K.In s.heap) (I : ObjM s.heap x dx C mA)
    (hs : PySem.W.findIn K (.ref C) "__setattr__" = some (some (.builtin "object.__setattr__"))) (hp : PySem.W.plainOver K C = true) (ht : PySem.W.takerIn K C name = some none) (hh : PySem.W.hasDictIn K C = true)
    (hw : PySem.Within mA ns) (hsz : ns.length ≤ sizeLine)
    (h : ∀ h', ObjM h' x dx C (fun y => if y = name then some v else mA y) → Heap.SameBut dx s.heap h' → Q () { s with heap := h', toks := s.toks + 2 }) :
    wpAny (model prog w) A (setAttr (.ref x) name v) Q E s := by
  obtain ⟨od, J, hl⟩ := I.look
  refine PySem.W.set_plain X J hs (PySem.W.osa_open (s := { s with toks := s.toks + 1 }) (r := none) X J hp ht fun b => ?_)
  obtain ⟨cd, hc, hd'⟩ := PySem.W.any_some hh
  have hx : s.heap.get? x = some ⟨.ref C, some dx, .plain, #[]⟩ := I.obj
  refine wpAny_bind (wpAny_pure (wpAny_bind (wpAny_bind (wpAny_loadPart hx (wpAny_bind (PySem.W.Looks.here (s := { s with toks := s.toks + 1 }) (PySem.W.looks_clsIn X hc) ?_))))))
  rw [hd']
  refine wpAny_pure (a := some dx) (wpAny_bind (wpAny_pure (wpAny_bind ?_)))
  refine wpAny_nsSet1 (s := { s with toks := s.toks + 1 }) I.ns fun h' hn2 hs2 => ?_
  obtain ⟨oD, esD, epD, hoD, hdD, hcD⟩ := hn2.count (PySem.Within.cons name v hw)
  refine wpAny_bind (wpAny_lookBehind hoD (by rw [hdD]; exact pastItsLine_dict (Nat.le_trans hcD (by rw [List.length_cons]; omega))) ?_)
  exact wpAny_pure (h _ ⟨(hs2.2 _ (Ne.symm I.ne)).trans I.obj, hn2, I.ne⟩ hs2)

/-- C(..): the dict at the heap's end, the instance behind it; then its __init__ -/
theorem make_map {R : Result → Shared → Prop} {vs : List Value} {kw : List (Str × Value)} (X : K.In s.heap) (hm : PySem.W.makesIn K C = true)
    (hi : PySem.W.findIn K (.ref C) "__init__" = some (some (.ref f))) (hf : PySem.W.typeIn K (.ref f) = some (.type "function"))
    (h : codeAny (model prog w) (A.under (.builtin "type.__call__" ⟨.ref C :: vs, kw⟩)) (.call (.ref f) ⟨.ref (s.heap.objs.size + 1) :: vs, kw⟩) (PySem.W.InitBack (s.heap.objs.size + 1) R)
      { s with heap := (s.heap.push PySem.W.emptyDict).push (PySem.W.instObj C s.heap.objs.size) }) :
    codeAny (model prog w) A (.call (.ref C) ⟨vs, kw⟩) R s := by
  obtain ⟨hh, g, d, t, os⟩ := s
  exact PySem.W.make_core (PySem.W.makes_of X hm) (PySem.W.looks_findIn X hi) (fun self => PySem.W.bind_fn X self hf) (.inl rfl) h
end

/-! ### the attributes as a list of pairs -/
def putF (f : Str) (v : V) : List (Str × V) → List (Str × V)
  | [] => [(f, v)]
  | (g, x) :: r => if g = f then (g, v) :: r else (g, x) :: putF f v r
theorem lookup_putF (f g : Str) (v : V) : ∀ fs : List (Str × V), (putF f v fs).lookup g = if g = f then some v else fs.lookup g
  | [] => by
    show List.lookup g [(f, v)] = _
    by_cases h : g = f
    · have hb : (g == f) = true := beq_iff_eq.mpr h
      simp only [List.lookup, hb, if_pos h]
    · have hb : (g == f) = false := beq_eq_false_iff_ne.mpr h
      simp only [List.lookup, hb, if_neg h]
  | (k, x) :: r => by
    have ih := lookup_putF f g v r
    rw [show putF f v ((k, x) :: r) = (if k = f then (k, v) :: r else (k, x) :: putF f v r) from rfl]
    by_cases hk : k = f
    · rw [if_pos hk]
      by_cases h : g = k
      · have hb : (g == k) = true := beq_iff_eq.mpr h
        simp only [List.lookup, hb, if_pos (h.trans hk)]
      · have hb : (g == k) = false := beq_eq_false_iff_ne.mpr h
        simp only [List.lookup, hb, if_neg (fun e : g = f => h (e.trans hk.symm))]
    · rw [if_neg hk]
      by_cases h : g = k
      · have hb : (g == k) = true := beq_iff_eq.mpr h
        simp only [List.lookup, hb, if_neg (fun e : g = f => hk (h.symm.trans e))]
      · have hb : (g == k) = false := beq_eq_false_iff_ne.mpr h
        simp only [List.lookup, hb]
        exact ih
theorem keys_putF (f : Str) (v : V) : ∀ fs : List (Str × V), f ∈ (putF f v fs).map (·.1) ∧ ∀ g, g ∈ fs.map (·.1) → g ∈ (putF f v fs).map (·.1)
  | [] => ⟨by simp [putF], fun g h => by simp at h⟩
  | (k, x) :: r => by
    obtain ⟨i1, i2⟩ := keys_putF f v r
    rw [show putF f v ((k, x) :: r) = (if k = f then (k, v) :: r else (k, x) :: putF f v r) from rfl]
    by_cases hk : k = f
    · rw [if_pos hk]
      subst hk
      exact ⟨by simp, fun g h => by simpa using h⟩
    · rw [if_neg hk]
      refine ⟨?_, fun g h => ?_⟩
      · rw [List.map_cons]
        exact List.mem_cons_of_mem _ i1
      · rw [List.map_cons] at h ⊢
        rcases List.mem_cons.mp h with e | e
        · exact List.mem_cons.mpr (.inl e)
        · exact List.mem_cons_of_mem _ (i2 g e)
theorem length_putF (f : Str) (v : V) : ∀ fs : List (Str × V), (putF f v fs).length ≤ fs.length + 1
  | [] => by simp [putF]
  | (k, x) :: r => by
    have ih := length_putF f v r
    rw [show putF f v ((k, x) :: r) = (if k = f then (k, v) :: r else (k, x) :: putF f v r) from rfl]
    by_cases hk : k = f
    · rw [if_pos hk, List.length_cons, List.length_cons]; omega
    · rw [if_neg hk, List.length_cons, List.length_cons]; omega

theorem RelO.some_of {v : V} {o : Option Value} (r : RelO (some v) o) : ∃ u, o = some u ∧ RelV v u := by
  cases o with
  | none => exact (show False from r).elim
  | some u => exact ⟨u, rfl, r⟩
theorem handed_of {v : V} {u : Value} (r : RelV v u) : PySem.W.handedIn u = true := by
  cases v with
  | non => cases (show u = Value.none from r); rfl
  | bl b => cases (show u = Value.bool b from r); rfl
  | int i => obtain ⟨t, e⟩ := (show ∃ t, u = Value.int i t from r); cases e; rfl
  | str x => obtain ⟨t, e⟩ := (show ∃ t, u = Value.str x t from r); cases e; rfl
  | byt b => obtain ⟨t, e⟩ := (show ∃ t, u = Value.bytes b t from r); cases e; rfl
  | flt b => obtain ⟨t, e⟩ := (show ∃ t, u = Value.float b t from r); cases e; rfl
  | ref a => cases (show u = Value.ref a from r); rfl
  | ty n => cases (show u = Value.type n from r); rfl

section
variable {P : Program} {w : World} {H H' : Hp} {h h' : Heap} {a C dx : Addr} {fs fs' : List (Str × V)}
theorem ins_get (hok : HOk P w H h) (e : H a = some (.ins C dx fs)) : ∃ mA, ObjM h a dx C mA ∧ (∀ f, RelO (fs.lookup f) (mA f)) ∧ PySem.Within mA (fs.map (·.1)) ∧ fs.length ≤ 1000 ∧ H dx = some (.own a) := by
  obtain ⟨d, z, ne, ob, mA, n, r, q⟩ := (show ObjOk P w H h a (.ins C dx fs) from hok a _ e)
  exact ⟨mA, ⟨ob, n, ne⟩, r, q, z, d⟩
end

/-! ### what of the text a class must have -/
structure Cls (K : PySem.W.Frag) (C : Addr) : Prop where
  pg : PySem.W.plainGet K C Str.empty = true
  hd : PySem.W.hasDictIn K C = true
  po : PySem.W.plainOver K C = true
  sa : PySem.W.findIn K (.ref C) "__setattr__" = some (some (.builtin "object.__setattr__"))
theorem Cls.get {K : PySem.W.Frag} {C : Addr} (c : Cls K C) (f : Str) : PySem.W.plainGet K C f = true := c.pg
/-- no class of it has the name -/
def NoAttr (K : PySem.W.Frag) (C : Addr) (f : Str) : Prop := PySem.W.findIn K (.ref C) f = some none
theorem NoAttr.taker {K : PySem.W.Frag} {C : Addr} {f : Str} (n : NoAttr K C f) : PySem.W.takerIn K C f = some none := by
  unfold PySem.W.takerIn
  rw [show PySem.W.findIn K (.ref C) f = some none from n]
  rfl
section
variable {X : Cx} {pins : List (Addr × Obj)} {σ : St} {H : Hp} {s : Shared} {a C dx : Addr} {fs : List (Str × V)} {f : Str} {v : V} {A : Around} {E : Value → Shared → Prop}

theorem getattr_ok {b : Bool} {Q : Value → Shared → Prop} (I : Inv X pins σ H s) (e : H a = some (.ins C dx fs)) (c : Cls X.K C) (n : NoAttr X.K C f) (l : fs.lookup f = some v)
    (h : ∀ u s', Inv X pins σ H s' → RelV v u → Q u s') : wpAny (model X.prog X.w) A (getAttr (.ref a) f b) Q E s := by
  obtain ⟨mA, O, r, _, _, _⟩ := ins_get I.hok e
  obtain ⟨u, hu, ru⟩ := RelO.some_of (v := v) (o := mA f) (by rw [← l]; exact r f)
  exact get_map I.kIn O (c.get f) c.hd n hu (handed_of ru) (h u _ (I.tok _) ru)

theorem setattr_ok {y : V} {u : Value} {Q : Unit → Shared → Prop} (I : Inv X pins σ H s) (e : H a = some (.ins C dx fs)) (c : Cls X.K C) (n : NoAttr X.K C f) (hl : fs.length < 1000) (ry : RelV y u)
    (h : ∀ s', Inv X pins σ (upd H a (.ins C dx (putF f y fs))) s' → Q () s') : wpAny (model X.prog X.w) A (setAttr (.ref a) f u) Q E s := by
  obtain ⟨mA, O, r, wi, _, ho⟩ := ins_get I.hok e
  have hz : (fs.map (·.1)).length ≤ sizeLine := by rw [List.length_map, sizeLine_eq]; omega
  refine set_map I.kIn O c.sa c.po n.taker c.hd wi hz fun h' O' sb => h _ ?_
  have hd : ∃ o, h'.get? dx = some o := let ⟨o, _, _, e', _⟩ := O'.ns; ⟨o, e'⟩
  refine I.write (x := a) (e := dx) (by rw [e]; exact True.intro) (.inr ho) (fun b q hb z => (sb.2 b hb).trans z) hd ?_
  refine ⟨by rw [upd_ne O.ne]; exact ho, ?_, O.ne, O'.obj, _, O'.ns, fun g => ?_, fun g hg => ?_⟩
  · have := length_putF f y fs; omega
  · show RelO ((putF f y fs).lookup g) (if g = f then some u else mA g)
    rw [lookup_putF]
    by_cases q : g = f
    · rw [if_pos q, if_pos q]; exact ry
    · rw [if_neg q, if_neg q]; exact r g
  · by_cases q : g = f
    · rw [q]; exact (keys_putF f y fs).1
    · refine (keys_putF f y fs).2 g (wi g fun z => hg ?_)
      show (if g = f then some u else mA g) = none
      rw [if_neg q]; exact z

/-- a new instance, tracked, without attributes -/
theorem Inv.made (I : Inv X pins σ H s) : Inv X pins σ (upd (upd H s.heap.objs.size (.own (s.heap.objs.size + 1))) (s.heap.objs.size + 1) (.ins C s.heap.objs.size []))
    { s with heap := (s.heap.push PySem.W.emptyDict).push (PySem.W.instObj C s.heap.objs.size) } := by
  have e1 : (s.heap.push PySem.W.emptyDict).get? s.heap.objs.size = some PySem.W.emptyDict := Heap.get?_push_size s.heap rfl
  have e2 : ((s.heap.push PySem.W.emptyDict).push (PySem.W.instObj C s.heap.objs.size)).get? (s.heap.objs.size + 1) = some (PySem.W.instObj C s.heap.objs.size) := by
    have := Heap.get?_push_size (s.heap.push PySem.W.emptyDict) (o := PySem.W.instObj C s.heap.objs.size) rfl
    rwa [Heap.size_push] at this
  have e3 : (s.heap.push PySem.W.emptyDict).Ns s.heap.objs.size (fun _ => none) := ⟨PySem.W.emptyDict, #[], _, e1, rfl, (fun e he => absurd he (by simp)), fun _ => rfl⟩
  have I1 := I.laid (a := s.heap.objs.size) (o := .own (s.heap.objs.size + 1)) (h' := s.heap.push PySem.W.emptyDict) (t' := s.toks) (fun b u q => Heap.get?_push_of_some _ q) (Nat.le_refl _) ⟨_, e1⟩
  refine I1.laid (a := s.heap.objs.size + 1) (o := .ins C s.heap.objs.size []) (t' := s.toks) (fun b u q => Heap.get?_push_of_some _ q) (Nat.le_of_eq (Heap.size_push _ _)) ?_
  have ne : s.heap.objs.size ≠ s.heap.objs.size + 1 := Nat.ne_of_lt (Nat.lt_succ_self _)
  refine ⟨by rw [upd_ne ne, upd_same], Nat.zero_le _, ne, e2, fun _ => none, (Heap.Ns1.of_empty e3).at fun o q => Heap.get?_push_of_some _ q, fun _ => True.intro, fun y hy => absurd rfl hy⟩

/-- e.f where nothing but the object is asked: through attributeBase (super) and the last hold -/
theorem attr_of {prog : Program} {w : World} {env : Env} {e : Expr} {f : Str} {pos : Pos} {s : Shared} {Q : Value → Shared → Prop} (hb : attributeBase e f env (eval e env) = eval e env)
    (h : wpAny (model prog w) A (eval e env) (fun o s₁ => wpAny (model prog w) A (getAttr o f true) Q E s₁) E s) : wpAny (model prog w) A (eval (.Attribute e f pos) env) Q E s :=
  Attribute_any_ h (by rw [arm_eval_Attribute, hb])
end

/-! ### readings and rules -/
/-- e.f, an attribute of the instance -/
def tFld (K : PySem.W.Frag) (ta : TE) (f : Str) : TE := fun σ H Q => ta σ H fun x H1 => ∃ a C dx fs v, x = .ref a ∧ H1 a = some (.ins C dx fs) ∧ Cls K C ∧ NoAttr K C f ∧ fs.lookup f = some v ∧ Q v H1
/-- e.f = value -/
def sFld (K : PySem.W.Frag) (ta tv : TE) (f : Str) : TS := fun D σ H => tv σ H fun y H1 => ta σ H1 fun x H2 => ∃ a C dx fs, x = .ref a ∧ H2 a = some (.ins C dx fs) ∧ Cls K C ∧ NoAttr K C f ∧ fs.length < 1000 ∧
  D.nx σ (upd H2 a (.ins C dx (putF f y fs)))
section
variable {X : Cx} {o e value : Expr} {f : Str} {pos pos' tpos : Pos} {ta tv : TE}
theorem pe_fld (he : PE X e ta) (hb : attributeBase e f X.env (eval e X.env) = eval e X.env) : PE X (.Attribute e f pos) (tFld X.K ta f) := by
  intro pins s σ H Q I h
  refine attr_of hb (thn (he pins s σ H _ I h) fun u s1 ⟨x, H1, I1, rx, a, C, dx, fs, v, ex, ea, c, n, l, q⟩ => ?_)
  subst ex
  obtain rfl : u = Value.ref a := rx
  exact getattr_ok I1 ea c n l fun u' s2 I2 ru => ⟨v, H1, I2, ru, q⟩
theorem ps_fld (ha : PE X o ta) (hv : PE X value tv) (hs : swapsWith value (some (.Attribute o f pos')) pos.line X.env = pure false) : PS X (.Assign [.Attribute o f pos'] value pos) (sFld X.K ta tv f) := by
  intro pins s σ H D I h
  refine plainObj_wpAny_Assign_Attribute (thn (hv pins s σ H _ I h) fun u s1 ⟨y, H1, I1, ry, q⟩ => thn (ha pins s1 σ H1 _ I1 q) fun ov s2 ⟨x, H2, I2, rx, a, C, dx, fs, ex, ea, c, n, l, q2⟩ => ?_) hs
  subst ex
  obtain rfl : ov = Value.ref a := rx
  exact setattr_ok I2 ea c n l ry fun s3 I3 => ⟨σ, _, I3, q2⟩
end

/-! ### isinstance -/
section
variable {X : Cx} {pins : List (Addr × Obj)} {σ : St} {H : Hp} {s : Shared} {A : Around} {E : Value → Shared → Prop} {Q : Value → Shared → Prop} {c : Value} {b : Bool}
/-- the type of a value, as the fragment's deciders take it; for an instance its class -/
inductive TyOf (K : PySem.W.Frag) (H : Hp) : V → Value → Prop where
  | non : TyOf K H .non (.type "NoneType")
  | bl (x : Bool) : TyOf K H (.bl x) (.type "bool")
  | int (i : Int) : TyOf K H (.int i) (.type "int")
  | str (x : Str) : TyOf K H (.str x) (.type "str")
  | flt (x : UInt64) : TyOf K H (.flt x) (.type "float")
  | lst {a : Addr} {xs : List V} (e : H a = some (.lst xs)) : TyOf K H (.ref a) (.type "list")
  | frz {a : Addr} {o : Obj} {xs : List V} (e : H a = some (.frz o (.lst xs))) : TyOf K H (.ref a) (.type "list")
  | tup {a : Addr} {xs : List V} (e : H a = some (.tup xs)) : TyOf K H (.ref a) (.type "tuple")
  | dK {a : Addr} {kvs : List (Key × V)} (e : H a = some (.dK kvs)) : TyOf K H (.ref a) (.type "dict")
  | dT {a : Addr} {kvs : List (List Key × V)} (e : H a = some (.dT kvs)) : TyOf K H (.ref a) (.type "dict")
  | ins {a C dx : Addr} {fs : List (Str × V)} (e : H a = some (.ins C dx fs)) (cl : Cls K C) (ha : PySem.W.findIn K (.ref C) "__class__" = some (some (.builtin "object.__class__")))
      (hn : PySem.W.specialIn K (.builtin "object.__class__") "__get__" = some (some (.builtin "getset_descriptor.__get__"))) (htk : PySem.W.takesIn K (.builtin "object.__class__") = some true)
      (hm : PySem.W.mroIn K C (.type "object") = some true) : TyOf K H (.ref a) (.ref C)
/-- isinstance(x, c) for one class c, a built-in or an own one: kitOne's answer -/
theorem isinst_ok {x : V} {u t : Value} (I : Inv X pins σ H s) (rx : RelV x u) (ty : TyOf X.K H x t) (e : PySem.W.kitOne X.K t c = some b) (h : ∀ tk, Q (.bool b) { s with toks := tk }) :
    wpAny (model X.prog X.w) A (call (.builtin "isinstance") [u, c]) Q E s := by
  cases ty with
  | non => cases (show u = Value.none from rx); exact PySem.W.kia_one PySem.W.kitx_none I.kIn True.intro e (fun z => nomatch z) h
  | bl y => cases (show u = Value.bool y from rx); exact PySem.W.kia_one PySem.W.kitx_bool I.kIn True.intro e (fun z => nomatch z) h
  | int i => obtain ⟨t, q⟩ := (show ∃ t, u = Value.int i t from rx); cases q; exact PySem.W.kia_one PySem.W.kitx_int I.kIn True.intro e (fun z => nomatch z) h
  | str y => obtain ⟨t, q⟩ := (show ∃ t, u = Value.str y t from rx); cases q; exact PySem.W.kia_one PySem.W.kitx_str I.kIn True.intro e (fun z => nomatch z) h
  | flt y => obtain ⟨t, q⟩ := (show ∃ t, u = Value.float y t from rx); cases q; exact PySem.W.kia_one PySem.W.kitx_float I.kIn True.intro e (fun z => nomatch z) h
  | @lst a xs ea =>
    cases (show u = Value.ref a from rx)
    obtain ⟨_, _, n, _, h1⟩ := (show ObjOk X.prog X.w H s.heap a (.lst xs) from I.hok a _ ea)
    exact PySem.W.kia_one PySem.W.kitx_list I.kIn ⟨_, h1, rfl⟩ e (fun z => nomatch z) h
  | @frz a ob xs ea =>
    cases (show u = Value.ref a from rx)
    obtain ⟨_, _, _, n, _, h1⟩ := (show ObjOk X.prog X.w H s.heap a (.frz ob (.lst xs)) from I.hok a _ ea)
    exact PySem.W.kia_one PySem.W.kitx_list I.kIn ⟨_, h1, rfl⟩ e (fun z => nomatch z) h
  | @tup a xs ea =>
    cases (show u = Value.ref a from rx)
    obtain ⟨_, _, _, p⟩ := (show ObjOk X.prog X.w H s.heap a (.tup xs) from I.hok a _ ea)
    obtain ⟨o, h1, h2, _⟩ := p
    exact PySem.W.kia_one PySem.W.kitx_tuple I.kIn ⟨o, h1, h2⟩ e (fun z => nomatch z) h
  | @dK a kvs ea =>
    cases (show u = Value.ref a from rx)
    obtain ⟨_, _, vs, _, p⟩ := (show ObjOk X.prog X.w H s.heap a (.dK kvs) from I.hok a _ ea)
    obtain ⟨o, es, ep, h1, h2, _⟩ := p
    exact PySem.W.kia_one PySem.W.kitx_dict I.kIn ⟨o, h1, h2.1⟩ e (fun z => nomatch z) h
  | @dT a kvs ea =>
    cases (show u = Value.ref a from rx)
    obtain ⟨_, _, xs, _, o, es, ep, h1, h2, _⟩ := (show ObjOk X.prog X.w H s.heap a (.dT kvs) from I.hok a _ ea)
    exact PySem.W.kia_one PySem.W.kitx_dict I.kIn ⟨o, h1, h2.1⟩ e (fun z => nomatch z) h
  | @ins a C dx fs ea cl ha hn htk hm =>
    cases (show u = Value.ref a from rx)
    obtain ⟨mA, O, _⟩ := ins_get I.hok ea
    obtain ⟨od, J, _⟩ := O.look
    exact PySem.W.kia_one (PySem.W.kitx_own (cl.get _) cl.hd ha hn htk hm) I.kIn J e (fun z => nomatch z) h
end
end L2

namespace L2
open PySem PySem.Spec PyProof.Rows

/-! ### room -/
structure Room (k : Nat) (A : Around) : Prop where
  hd : A.handled = none
  dp : A.depth + 3 * k + 5 < recursionLimit
  un : A.units + 16 * k + 200 < cLine
theorem Room.mono {j k : Nat} {A : Around} (r : Room k A) (h : j ≤ k) : Room j A := ⟨r.hd, by have := r.dp; omega, by have := r.un; omega⟩
theorem Room.deeper {k : Nat} {A : Around} (r : Room (k + 1) A) (env : Env) : Room k (A.deeper env) :=
  ⟨r.hd, by have := r.dp; show A.depth + 1 + 3 * k + 5 < _; omega, by have := r.un; show A.units + 3 + 16 * k + 200 < _; omega⟩
theorem make_depth {A : Around} {C : Addr} {us : List Value} {kw : List (Str × Value)} : (A.under (.builtin "type.__call__" ⟨.ref C :: us, kw⟩)).depth = A.depth + 1 := by
  first | rfl | simp [Around.under, Code.weight, Code.isCreation, Code.isGuard, Code.isCaller, Code.frames, Code.isFrame, guardIds]
theorem make_units {A : Around} {C : Addr} {us : List Value} {kw : List (Str × Value)} : (A.under (.builtin "type.__call__" ⟨.ref C :: us, kw⟩)).units = A.units + 1 := by
  first | rfl | simp [Around.under, Code.cUnits, Code.frames, Code.isFrame]
theorem Room.make {k : Nat} {A : Around} (r : Room (k + 1) A) (C : Addr) (us : List Value) (kw : List (Str × Value)) : Room k (A.under (.builtin "type.__call__" ⟨.ref C :: us, kw⟩)) :=
  ⟨r.hd, by have := r.dp; rw [make_depth]; omega, by have := r.un; rw [make_units]; omega⟩
theorem Room.depth {k : Nat} {A : Around} (r : Room k A) : A.depth < recursionLimit := by have := r.dp; omega
theorem Room.units {k : Nat} {A : Around} (r : Room k A) : A.units + 64 < cLine := by have := r.un; omega
/-! ### argument lists and displays -/
def tNil : TA := fun _ H Q => Q [] H
def tCons (ta : TE) (tr : TA) : TA := fun σ H Q => ta σ H fun x H1 => tr σ H1 fun xs H2 => Q (x :: xs) H2
section
variable {X : Cx} {e : Expr} {es : List Expr} {te : TE} {t : TA} {pos : Pos}
theorem pa_nil : PA X [] tNil := fun _ _ _ _ H Q I h => Calls.spliced_nil ⟨[], H, I, .nil, h⟩
theorem pa_cons (ha : PE X e te) (hr : PA X es t) (hs : starEach (e :: es) X.env = (false, eval e X.env) :: starEach es X.env := by rfl) : PA X (e :: es) (tCons te t) := by
  intro pos pins s σ H Q I h
  rw [hs]
  show wpAny _ _ (spliced ((false, eval e X.env) :: backTo pos (starEach es X.env))) _ _ s
  refine Calls.spliced_cons (thn (ha pins s σ H _ I h) fun u s1 ⟨x, H1, I1, r1, q1⟩ => ?_)
  exact thn (hr pos pins s1 σ H1 _ I1 q1) fun us s2 ⟨xs, H2, I2, r2, q2⟩ => ⟨x :: xs, H2, I2, .cons r1 r2, q2⟩

/-- a tuple, a list of written items -/
def tTup (t : TA) : TE := fun σ H Q => t σ H fun xs H1 => xs.length ≤ sizeLine ∧ ∀ p, H1 p = none → Q (.ref p) (upd H1 p (.tup xs))
def tLst (t : TA) : TE := fun σ H Q => t σ H fun xs H1 => xs.length ≤ sizeLine ∧ ∀ p, H1 p = none → Q (.ref p) (upd H1 p (.lst xs))
theorem pe_tup {x1} (h : PA X es t) : PE X (.Tuple es x1 pos) (tTup t) := by
  intro pins s σ H Q I hq
  refine wpAny_Tuple_spliced (thn (h pos pins s σ H _ I hq) fun us s1 ⟨xs, H1, I1, r, z, q⟩ => ⟨by rw [← r.length]; exact z, ?_⟩)
  have hf : H1 s1.heap.objs.size = none := I1.hok.fresh (Nat.le_refl _)
  refine ⟨.ref s1.heap.objs.size, upd H1 s1.heap.objs.size (.tup xs), I1.laid (t' := s1.toks) (fun b u e => Heap.get?_push_of_some _ e) (Nat.le_refl _) ?_, rfl, q _ hf⟩
  exact ⟨z, us, r, ⟨_, Heap.get?_push_size _ rfl, rfl, _, rfl⟩⟩
theorem pe_lst (h : PA X es t) : PE X (.List es pos) (tLst t) := by
  intro pins s σ H Q I hq
  refine wpAny_List_spliced (thn (h pos pins s σ H _ I hq) fun us s1 ⟨xs, H1, I1, r, z, q⟩ => ⟨by rw [← r.length]; exact z, ?_⟩)
  have hf : H1 s1.heap.objs.size = none := I1.hok.fresh (Nat.le_refl _)
  refine ⟨.ref s1.heap.objs.size, upd H1 s1.heap.objs.size (.lst xs), I1.laid (t' := s1.toks) (fun b u e => Heap.get?_push_of_some _ e) (Nat.le_refl _) ?_, rfl, q _ hf⟩
  exact ⟨z, us, 0, r, Heap.get?_push_size _ rfl⟩
end

/-! ### what a def promises -/
/-- a def's promise: the bound arguments in the parameters' order, the heap, the wanted end, the wanted exception -/
abbrev Sp := List V → Hp → VK → XK → Prop
/-- how an exception lies behind a call (file 08 gives it): the callers' frames, abstract heap and state ahead of the call, the wish, the exception, the state -/
abbrev CXT := List Env → Hp → Shared → XK → Value → Shared → Prop

/-- the state at a call -/
structure Env0 (P : Program) (w : World) (K : PySem.W.Frag) (mg : Str → Option Value) (base : Heap) (A : Around) (outer : List Env) (s : Shared) (H : Hp) : Prop where
  frames : A.frames = some outer
  mod : Mod K mg base
  bs : ∀ b o, base.get? b = some o → s.heap.get? b = some o ∧ H b = none
  bsz : base.objs.size ≤ s.heap.objs.size
  funs : s.heap.FunFrames base outer
  frf : ∀ b ∈ frs outer, H b = none
  hok : HOk P w H s.heap
  bare : AllBare s.gens
/-- a call's end -/
def CE (outer : List Env) (P : Program) (w : World) (H : Hp) (s : Shared) (Q : VK) (u : Value) (s' : Shared) : Prop :=
  ∃ v H', s'.os = s.os ∧ AllBare s'.gens ∧ Un (frs outer) [] H H' s.heap s'.heap ∧ HOk P w H' s'.heap ∧ RelV v u ∧ Q v H'
def CR (CX : CXT) (outer : List Env) (P : Program) (w : World) (H : Hp) (s : Shared) (Q : VK) (E : XK) (r : Result) (s' : Shared) : Prop :=
  match r with
  | .ok (.ret u) => CE outer P w H s Q u s'
  | .ok _ => False
  | .error e => CX outer H s E e s'
structure FnOk (P : Program) (w : World) (K : PySem.W.Frag) (mg : Str → Option Value) (base : Heap) (CX : CXT) (k : Nat) (f : Addr) (fd : FuncData) (ps : List Str) (sp : Sp) : Prop where
  len : ∀ vs H Q E, sp vs H Q E → vs.length = ps.length
  run : ∀ (A : Around) (outer : List Env) (s : Shared) (H : Hp) (args : Args) (us : List Value) (vs : List V) (Q : VK) (E : XK), Room k A → Env0 P w K mg base A outer s H → BindsTo s fd args (ps.zip us) → Vals vs us → sp vs H Q E →
    codeAny (model P w) A (.call (.ref f) args) (CR CX outer P w H s Q E) s
theorem Env0.make {P : Program} {w : World} {K : PySem.W.Frag} {mg : Str → Option Value} {base : Heap} {A : Around} {outer : List Env} {s : Shared} {H : Hp} (e : Env0 P w K mg base A outer s H) (C : Addr) (us : List Value) (kw : List (Str × Value)) :
    Env0 P w K mg base (A.under (.builtin "type.__call__" ⟨.ref C :: us, kw⟩)) outer s H := ⟨by first | exact e.frames | (simpa [Around.under, Code.envs, Code.isFrame, pushEnvs] using e.frames), e.mod, e.bs, e.bsz, e.funs, e.frf, e.hok, e.bare⟩
section
variable {X : Cx} {pins : List (Addr × Obj)} {σ : St} {H : Hp} {s s' : Shared}
/-- from a body: what a callee wants -/
theorem Inv.env0 (I : Inv X pins σ H s) : Env0 X.prog X.w X.K X.mg X.base X.A X.stack s H :=
  ⟨I.ok.frames, I.ok.mod, I.bs, Nat.le_trans I.ok.bsz I.sz, I.stack, I.stkFree, I.hok, I.bare⟩
/-- behind a call -/
theorem Inv.after {Q : VK} {u : Value} (I : Inv X pins σ H s) (h : CE X.stack X.prog X.w H s Q u s') : EP X pins σ Q u s' := by
  obtain ⟨v, H', os, bare, un, hok, r, q⟩ := h
  obtain ⟨hh, g, d, t, os'⟩ := s'
  obtain rfl : os' = s.os := os
  exact ⟨v, H', I.call (h' := hh) (g' := g) (d' := d) (t' := t) (ch := []) un hok bare (fun b z => absurd z (by simp)), r, q⟩
end

/-! ### calls -/
/-- f(..): the written arguments, then the defaults dvs; E: what is wanted of an exception -/
def tCall (sp : Sp) (dvs : List V) (E : XK) (t : TA) : TE := fun σ H Q => t σ H fun vs H1 => sp (vs ++ dvs) H1 Q E
/-- C(..): a new instance and its dict, then __init__ -/
def tMake (C : Addr) (sp : Sp) (dvs : List V) (E : XK) (t : TA) : TE := fun σ H Q => t σ H fun vs H1 => ∀ x dx, H1 x = none → H1 dx = none → dx ≠ x →
  sp (.ref x :: (vs ++ dvs)) (upd (upd H1 dx (.own x)) x (.ins C dx [])) (fun v H2 => v = .non ∧ Q (.ref x) H2) E

/-- how the parameters are bound: us the positional arguments, kw the keywords' values by name, ds the defaults that fill up -/
def Binds (K : PySem.W.Frag) (fd : FuncData) (ps : List Str) (ds : List Value) : Prop :=
  ∀ (s : Shared) (us : List Value), K.In s.heap → (us ++ ds).length = ps.length → BindsTo s fd ⟨us, []⟩ (ps.zip (us ++ ds))
/-- every parameter is given -/
theorem Binds.all {K : PySem.W.Frag} {fd : FuncData} {ps : List Str} (h : ∀ us : List Value, us.length = ps.length → bindArgs fd ⟨us, []⟩ = pure (ps.zip us)) : Binds K fd ps [] := fun s us _ hl => by
  rw [List.append_nil] at hl ⊢
  exact .of_eq (h us hl)

/-- an exception of a callee reaches what this body wants of exceptions -/
def Passes (CX : CXT) (X : Cx) (E : XK) : Prop := ∀ (pins : List (Addr × Obj)) (σ : St) (H : Hp) (s : Shared) (e : Value) (s' : Shared), Inv X pins σ H s → CX X.stack H s E e s' → X.xe e s'

section
variable {X : Cx} {CX : CXT} {k : Nat} {f C : Addr} {fd : FuncData} {ps : List Str} {sp : Sp} {dvs : List V} {ds : List Value} {E : XK} {x m : Str} {p pos apos : Pos} {e o : Expr} {es : List Expr} {ta : TE} {t : TA}

/-- the callee runs -/
theorem run_fn {pins : List (Addr × Obj)} {σ : St} {H : Hp} {s : Shared} {Q : VK} {us : List Value} {vs : List V} (F : FnOk X.prog X.w X.K X.mg X.base CX k f fd ps sp) (hr : Room k X.A) (hb : Binds X.K fd ps ds) (hd : Vals dvs ds) (hx : Passes CX X E)
    (I : Inv X pins σ H s) (r : Vals vs us) (h : sp (vs ++ dvs) H Q E) : wpAny (model X.prog X.w) X.A (call (.ref f) us) (EP X pins σ Q) X.xe s := by
  have r2 : Vals (vs ++ dvs) (us ++ ds) := r.append hd
  have hl : (us ++ ds).length = ps.length := by rw [← r2.length]; exact F.len _ _ _ _ h
  refine wpAny_call (codeAny_mono (F.run X.A X.stack s H ⟨us, []⟩ (us ++ ds) (vs ++ dvs) Q E hr I.env0 (hb s us I.kIn hl) r2 h) fun r s' hq => ?_)
  cases r with
  | error e => exact hx pins σ H s e s' I hq
  | ok fl =>
    cases fl with
    | ret u => exact I.after hq
    | next => exact False.elim hq
    | brk => exact False.elim hq
    | cont => exact False.elim hq

theorem pe_call (F : FnOk X.prog X.w X.K X.mg X.base CX k f fd ps sp) (hr : Room k X.A) (hg : Gl X x) (hm : X.mg x = some (.ref f)) (hk : PySem.W.keepIn X.K (.ref f) = true) (hb : Binds X.K fd ps ds) (hd : Vals dvs ds) (hx : Passes CX X E)
    (ha : PA X (e :: es) t) (hdb : (x == ("__debug__" : Str)) = false := by decide) (he : starEach (e :: es) X.env = (false, eval e X.env) :: starEach es X.env := by rfl) (hpl : (backTo pos (starEach es X.env)).any (·.1) = false := by rfl) :
    PE X (.Call (.Name x p) (e :: es) [] pos) (tCall sp dvs E t) := by
  intro pins s σ H Q I h
  refine wpAny_Call_Name_kw (ld_glob I hg hm ?_ hdb)
  refine PySem.W.callWith_K (h₀ := X.base) I.ok.mod.kin hk (thn (ha pos pins s σ H _ I h) fun us s1 ⟨vs, H1, I1, r, q⟩ => ⟨I1.kIn, ?_⟩) he hpl
  exact run_fn F hr hb hd hx I1 r q
/-- what a class must have to be made -/
structure Mk (K : PySem.W.Frag) (C f : Addr) : Prop where
  makes : PySem.W.makesIn K C = true
  init : PySem.W.findIn K (.ref C) "__init__" = some (some (.ref f))
  fn : PySem.W.isFn K (.ref f) = true
  kp : PySem.W.keepIn K (.ref C) = true

theorem run_make {pins : List (Addr × Obj)} {σ : St} {H : Hp} {s : Shared} {Q : VK} {us : List Value} {vs : List V} (M : Mk X.K C f) (F : FnOk X.prog X.w X.K X.mg X.base CX k f fd ps sp) (hr : Room (k + 1) X.A) (hb : Binds X.K fd ps ds) (hd : Vals dvs ds)
    (hx : Passes CX X E) (I : Inv X pins σ H s) (r : Vals vs us)
    (h : ∀ x dx, H x = none → H dx = none → dx ≠ x → sp (.ref x :: (vs ++ dvs)) (upd (upd H dx (.own x)) x (.ins C dx [])) (fun v H2 => v = .non ∧ Q (.ref x) H2) E) :
    wpAny (model X.prog X.w) X.A (call (.ref C) us) (EP X pins σ Q) X.xe s := by
  have hq := h (s.heap.objs.size + 1) s.heap.objs.size (I.hok.fresh (Nat.le_succ _)) (I.hok.fresh (Nat.le_refl _)) (Nat.ne_of_lt (Nat.lt_succ_self _))
  have I2 := Inv.made (C := C) I
  have r2 : Vals (V.ref (s.heap.objs.size + 1) :: (vs ++ dvs)) (Value.ref (s.heap.objs.size + 1) :: (us ++ ds)) := .cons rfl (r.append hd)
  have hl : (Value.ref (s.heap.objs.size + 1) :: us ++ ds).length = ps.length := by
    have e := r2.length
    rw [F.len _ _ _ _ hq] at e
    exact e.symm
  refine wpAny_call (make_map (f := f) I.kIn M.makes M.init (beq_iff_eq.mp M.fn) (codeAny_mono (F.run _ X.stack _ _ ⟨Value.ref (s.heap.objs.size + 1) :: us, []⟩ (Value.ref (s.heap.objs.size + 1) :: (us ++ ds)) _ _ E (hr.make C us [])
    (I2.env0.make C us []) (hb _ (Value.ref (s.heap.objs.size + 1) :: us) I2.kIn hl) r2 hq) fun r s' hq' => ?_))
  cases r with
  | error e => exact hx pins σ _ _ e s' I2 hq'
  | ok fl =>
    cases fl with
    | ret u =>
      obtain ⟨v, H', I3, rv, ev, q3⟩ := I2.after hq'
      subst ev
      exact ⟨rv, ⟨V.ref (s.heap.objs.size + 1), H', I3, rfl, q3⟩⟩
    | next => exact False.elim hq'
    | brk => exact False.elim hq'
    | cont => exact False.elim hq'
theorem pe_make (M : Mk X.K C f) (F : FnOk X.prog X.w X.K X.mg X.base CX k f fd ps sp) (hr : Room (k + 1) X.A) (hg : Gl X x) (hm : X.mg x = some (.ref C)) (hb : Binds X.K fd ps ds) (hd : Vals dvs ds) (hx : Passes CX X E)
    (ha : PA X (e :: es) t) (hdb : (x == ("__debug__" : Str)) = false := by decide) (he : starEach (e :: es) X.env = (false, eval e X.env) :: starEach es X.env := by rfl) (hpl : (backTo pos (starEach es X.env)).any (·.1) = false := by rfl) :
    PE X (.Call (.Name x p) (e :: es) [] pos) (tMake C sp dvs E t) := by
  intro pins s σ H Q I h
  refine wpAny_Call_Name_kw (ld_glob I hg hm ?_ hdb)
  refine PySem.W.callWith_K (h₀ := X.base) I.ok.mod.kin M.kp (thn (ha pos pins s σ H _ I h) fun us s1 ⟨vs, H1, I1, r, q⟩ => ⟨I1.kIn, ?_⟩) he hpl
  exact run_make M F hr hb hd hx I1 r q
end

/-! ### keywords -/
section
variable {X : Cx} {CX : CXT} {k : Nat} {f C : Addr} {fd : FuncData} {ps ks : List Str} {sp : Sp} {E : XK} {x m : Str} {p pos apos kpos : Pos} {e o : Expr} {es : List Expr} {kws : List Keyword} {te ta : TE} {t tk : TA} {nm : Option Str}
variable {g : List Value → List Value → List Value} {gV : List V → List V → List V}
end

/-! ### a def's body keeps its promise -/
/-- names: the parameters first -/
structure FnScope (N P : List Str) (sc : Scope) : Prop where
  kind : sc.kind = .function
  co : sc.isCoroutine = false
  gen : sc.isGenerator = false
  nd : N.Nodup
  pre : N.take P.length = P
  par : ∀ x ∈ P, sc.names.lookup x = some .local ∨ sc.names.lookup x = some .cell
  nofree : ∀ y ∈ sc.names, y.2 ≠ .free

theorem bindL_out {kindOf : Str → Option NameKind} {x : Str} : ∀ {binds : List (Str × Value)} {m : Str → Option Value}, (∀ v, (x, v) ∉ binds) → bindL kindOf binds m x = m x
  | [], _, _ => rfl
  | (n, v) :: r, m, h => by
    unfold bindL
    rw [bindL_out fun w hw => h w (List.mem_cons_of_mem _ hw)]
    split
    · have : x ≠ n := by rintro rfl; exact h v List.mem_cons_self
      simp [this]
    · rfl
theorem bindC_out {kindOf : Str → Option NameKind} {x : Str} : ∀ {binds : List (Str × Value)} {m : Str → Option Value}, (∀ v, (x, v) ∉ binds) → bindC kindOf binds m x = m x
  | [], _, _ => rfl
  | (n, v) :: r, m, h => by
    unfold bindC
    rw [bindC_out fun w hw => h w (List.mem_cons_of_mem _ hw)]
    split
    · rfl
    · have : x ≠ n := by rintro rfl; exact h v List.mem_cons_self
      simp [this]
theorem bindL_get {kindOf : Str → Option NameKind} {x : Str} {v : Value} : ∀ {P : List Str} {vs : List Value} {i : Nat} {m : Str → Option Value}, P.Nodup → P[i]? = some x → vs[i]? = some v → kindOf x = some .local →
    bindL kindOf (P.zip vs) m x = some v
  | [], _, _, _, _, h, _, _ => by simp at h
  | _ :: _, [], _, _, _, _, h, _ => by simp at h
  | p :: P, w :: vs, 0, m, nd, h1, h2, hk => by
    simp at h1 h2; subst h1; subst h2
    show bindL kindOf ((p, w) :: P.zip vs) m p = _
    unfold bindL
    rw [bindL_out fun v hv => (List.nodup_cons.mp nd).1 (List.of_mem_zip hv).1, if_pos hk]
    simp
  | p :: P, w :: vs, i + 1, m, nd, h1, h2, hk => by
    show bindL kindOf ((p, w) :: P.zip vs) m x = _
    unfold bindL
    exact bindL_get (i := i) (List.nodup_cons.mp nd).2 (by simpa using h1) (by simpa using h2) hk
theorem bindC_get {kindOf : Str → Option NameKind} {x : Str} {v : Value} : ∀ {P : List Str} {vs : List Value} {i : Nat} {m : Str → Option Value}, P.Nodup → P[i]? = some x → vs[i]? = some v → kindOf x ≠ some .local →
    bindC kindOf (P.zip vs) m x = some v
  | [], _, _, _, _, h, _, _ => by simp at h
  | _ :: _, [], _, _, _, _, h, _ => by simp at h
  | p :: P, w :: vs, 0, m, nd, h1, h2, hk => by
    simp at h1 h2; subst h1; subst h2
    show bindC kindOf ((p, w) :: P.zip vs) m p = _
    unfold bindC
    rw [bindC_out fun v hv => (List.nodup_cons.mp nd).1 (List.of_mem_zip hv).1, if_neg hk]
    simp
  | p :: P, w :: vs, i + 1, m, nd, h1, h2, hk => by
    show bindC kindOf ((p, w) :: P.zip vs) m x = _
    unfold bindC
    exact bindC_get (i := i) (List.nodup_cons.mp nd).2 (by simpa using h1) (by simpa using h2) hk

/-- the names' values at the entry -/
def start (N : List Str) (vs : List V) : St := vs.map some ++ List.replicate (N.length - vs.length) none

/-- the context of a def's body, at its entry; an exception leaves the frame, then lies as CX says -/
def cxOf (CX : CXT) (P : Program) (w : World) (K : PySem.W.Frag) (mg : Str → Option Value) (base : Heap) (N : List Str) (qual : Str) (scope : Scope) (f : Addr) (cd : Value) (A : Around) (outer : List Env) (s : Shared) (H : Hp) (E : XK) : Cx where
  prog := P
  w := w
  K := K
  mg := mg
  base := base
  A := A.deeper (envOfC qual scope s.heap.objs.size f cd)
  N := N
  s₀ := s
  H₀ := H
  env := envOfC qual scope s.heap.objs.size f cd
  outer := outer
  stack := envOfC qual scope s.heap.objs.size f cd :: outer
  ex := []
  calm := true
  fn := fun _ => true
  pn := []
  xe := fun e s' => wpAny (model P w) (A.deeper (envOfC qual scope s.heap.objs.size f cd)) (leaving (envOfC qual scope s.heap.objs.size f cd) e) (fun _ s'' => CX outer H s E e s'') (fun e' s'' => CX outer H s E e' s'') s'

theorem cell_has {sc : Scope} {n : Nat} {x : Str} (h : sc.names.lookup x = some .cell) : ∃ c, (cellsFrom n sc.names []).lookup x = some c := by
  have q := PySem.W.cellsFrom_some sc.names n [] (.inl h)
  exact Option.isSome_iff_exists.mp q

theorem inv_start {CX : CXT} {P : Program} {w : World} {K : PySem.W.Frag} {mg : Str → Option Value} {base : Heap} {N ps : List Str} {qual : Str} {scope : Scope} {f : Addr} {cd : Value} {A : Around} {outer : List Env} {s s1 : Shared} {H : Hp} {E : XK} {us : List Value} {vs : List V}
    (S : FnScope N ps scope) (hd : A.handled = none) (e0 : Env0 P w K mg base A outer s H) (hl : vs.length = ps.length) (r : Vals vs us)
    (x : InCallC s s.heap.objs.size (bindL (envOfC qual scope s.heap.objs.size f cd).kindOf (ps.zip us) fun _ => none) (cellsFrom (s.heap.objs.size + 1) scope.names []) (bindC (envOfC qual scope s.heap.objs.size f cd).kindOf (ps.zip us) fun _ => none) s1) :
    Inv (cxOf CX P w K mg base N qual scope f cd A outer s H E) [] (start N vs) H s1 := by
  have hpl : ps.length ≤ N.length := by have := congrArg List.length S.pre; rw [List.length_take] at this; omega
  obtain ⟨h1, tk, rfl, hk⟩ := x.done
  have noA : ∀ b : Addr, b ∉ (cxOf CX P w K mg base N qual scope f cd A outer s H E).ex := fun b z => absurd (show b ∈ ([] : List Addr) from z) (by simp)
  refine ⟨⟨e0.mod, S.kind, rfl, rfl, Nat.le_refl _, fun y z c h1 h2 => ?_, fun y hy => ?_, fun y c _ h => ?_, fun _ => hd, Around.frames_deeper e0.frames, .inr ⟨rfl, rfl⟩, fun b z => absurd z (noA b), e0.bs, e0.bsz, fun b _ _ => noA b, fun b z => absurd z (noA b), e0.funs, e0.frf⟩,
    rfl, e0.bare, Un.kept hk, ⟨_, x.toInCall.ns, fun i y v h1 h2 h3 => ?_⟩, fun y c h => ⟨_, x.cell y c h⟩, e0.hok.fresh (Nat.le_refl _), fun y c h => ?_, fun p hp => absurd (show p ∈ ([] : List (Addr × Obj)) from hp) (by simp), e0.hok.kept hk, ?_⟩
  · exact name_of_addr x.apart (PySem.mem_of_lookup h1) (PySem.mem_of_lookup h2)
  · have hy : scope.names.lookup y = some .cell ∨ scope.names.lookup y = some .free := hy
    rcases hy with hy | hy
    · exact cell_has hy
    · exact absurd rfl (S.nofree _ (PySem.mem_of_lookup hy))
  · exact Nat.le_of_lt (x.above y c (PySem.mem_of_lookup h))
  · have hi : i < vs.length := by
      unfold start at h2
      by_cases hi : i < vs.length
      · exact hi
      · rw [List.getElem?_append_right (by simpa using hi)] at h2
        rw [List.getElem?_replicate] at h2
        split at h2 <;> cases h2
    have ha : vs[i]? = some v := by
      unfold start at h2
      rw [List.getElem?_append_left (by simpa using hi), List.getElem?_map] at h2
      cases e : vs[i]? with
      | none => rw [e] at h2; cases h2
      | some a => rw [e] at h2; cases h2; rfl
    obtain ⟨u, hu, rv⟩ := r.get ha
    have hp : ps[i]? = some y := by
      rw [← S.pre, List.getElem?_take_of_lt (by omega)]; exact h1
    have ndP : ps.Nodup := by rw [← S.pre]; exact S.nd.sublist (List.take_sublist _ _)
    refine ⟨u, rv, ?_⟩
    rcases S.par y (List.mem_of_getElem? hp) with k | k
    · exact .inl ⟨k, bindL_get ndP hp hu k⟩
    · obtain ⟨c, e⟩ := cell_has (n := s.heap.objs.size + 1) k
      refine .inr ⟨.inl k, c, e, ?_⟩
      have q := x.cell y c e
      rw [bindC_get ndP hp hu (by show scope.names.lookup y ≠ _; rw [k]; decide)] at q
      exact q
  · exact e0.hok.fresh (Nat.le_of_lt (x.above y c (PySem.mem_of_lookup h)))
  · unfold start
    show _ = N.length
    rw [List.length_append, List.length_map, List.length_replicate]
    omega

/-- THE RULE: a def (or a method) of the text, by its body. The body's reading t is chosen for each entry; it is run at the parameters' values -/
theorem fn_of {CX : CXT} {P : Program} {w : World} {K : PySem.W.Frag} {mg : Str → Option Value} {base : Heap} {k : Nat} {f : Addr} {name qual : Str} {params : Arguments} {body : List Stmt} {scope : Scope} {dV kV doc pm cdv ct oc : Value} {an od : Option Addr}
    {osl : Array (Option Value)} {N ps : List Str} {sp : Sp} (lk : K.lookup f = some ⟨oc, od, .func (PySem.W.fnOf name qual params body scope dV kV doc pm an cdv ct), osl⟩) (hcd : PySem.W.codeIn K cdv qual = true) (S : FnScope N ps scope)
    (len : ∀ vs H Q E, sp vs H Q E → vs.length = ps.length)
    (hbody : ∀ (A : Around) (outer : List Env) (s : Shared) (H : Hp) (vs : List V) (Q : VK) (E : XK), Room k (A.deeper (envOfC qual scope s.heap.objs.size f cdv)) → sp vs H Q E →
      ∃ t, PSs (cxOf CX P w K mg base N qual scope f cdv A outer s H E) body t ∧ t { nx := fun _ H' => Q .non H', rt := Q } (start N vs) H) :
    FnOk P w K mg base CX (k + 1) f (PySem.W.fnOf name qual params body scope dV kV doc pm an cdv ct) ps sp := by
  refine ⟨len, fun A outer s H args us vs Q E hr e0 hb r hsp => ?_⟩
  have hl := len _ _ _ _ hsp
  have KX : K.In s.heap := e0.mod.kin.keeps fun b o e => (e0.bs b o e).1
  have lim : s.heap.NoLimit := e0.mod.nolimit.keeps fun b o e => (e0.bs b o e).1
  have hkind : ∀ y ∈ ps.zip us, scope.names.lookup y.1 = some .local ∨ (scope.names.lookup y.1 = some .cell ∧ ((cellsFrom (s.heap.objs.size + 1) scope.names []).lookup y.1).isSome = true) := fun ⟨n, v⟩ hy => by
    rcases S.par n (List.of_mem_zip hy).1 with q | q
    · exact .inl q
    · exact .inr ⟨q, PySem.W.cellsFrom_some _ _ _ (.inl q)⟩
  refine codeAny_call_function hr.depth (KX _ _ lk) rfl S.co S.gen rfl (PySem.W.codeRec_of KX hcd) (hb _ _ _ _ ?_)
  refine wpAny_newFunctionEnv_cells S.kind hkind fun env he s1 x => ?_
  subst he
  refine ⟨lim.keeps x.toInCall.keep, codeAny_func ?_⟩
  obtain ⟨t, ht, hq⟩ := hbody A outer s H vs Q E (hr.deeper _) hsp
  have I : Inv (cxOf CX P w K mg base N qual scope f cdv A outer s H E) [] (start N vs) H s1 := inv_start S hr.hd e0 hl r x
  refine wpAny_mono (ht [] s1 (start N vs) H _ I hq) (fun fl s' hs => ?_) fun e s' hs => hs
  have fin : ∀ {σ' : St} {H' : Hp} {v : V} {u : Value}, Inv (cxOf CX P w K mg base N qual scope f cdv A outer s H E) [] σ' H' s' → RelV v u → Q v H' → CE outer P w H s Q u s' :=
    fun {σ' H' v u} J rv q => ⟨v, H', J.os, J.bare, J.base, J.hok, rv, q⟩
  cases fl with
  | ret u =>
    obtain ⟨v, σ', H', J, rv, q⟩ := hs
    exact fin J rv q
  | next =>
    obtain ⟨σ', H', J, q⟩ := hs
    exact fin (v := V.non) (u := Value.none) J rfl q
  | brk =>
    obtain ⟨_, _, _, q⟩ := hs
    exact False.elim q
  | cont =>
    obtain ⟨_, _, _, q⟩ := hs
    exact False.elim q
end L2

namespace L2
open PySem PySem.Spec PyProof.Rows
section
variable {X : Cx} {x : Str} {p pos : Pos} {e : Expr} {es : List Expr} {t : TA} {id T : String} {r : List V → Hp → VK → Prop}

def tCB (r : List V → Hp → VK → Prop) (t : TA) : TE := fun σ H Q => t σ H fun vs H1 => r vs H1 Q
/-- f(e, ..), f a built-in function -/
theorem pe_callB (hc : CallR X (.builtin id) r) (hg : Gl X x) (hm : X.mg x = none) (hv : bootBuiltins x = some (.builtin id)) (ha : PA X (e :: es) t) (hn : x ≠ "__name__" := by decide) (hdb : (x == ("__debug__" : Str)) = false := by decide)
    (he : starEach (e :: es) X.env = (false, eval e X.env) :: starEach es X.env := by rfl) (hpl : (backTo pos (starEach es X.env)).any (·.1) = false := by rfl) : PE X (.Call (.Name x p) (e :: es) [] pos) (tCB r t) := by
  intro pins s σ H Q I h
  refine wpAny_Call_Name_kw (ld_blt I hg hm hv ?_ hn hdb)
  exact PyProof.Rows.callWith_builtin1 (thn (ha pos pins s σ H _ I h) fun us s1 ⟨vs, H1, I1, r1, q1⟩ => hc pins s1 σ H1 vs us Q I1 r1 q1) he hpl
/-- T(e, ..), T a built-in type -/
theorem pe_callTy (hc : CallR X (.type T) r) (hg : Gl X x) (hm : X.mg x = none) (hv : bootBuiltins x = some (.type T)) (ha : PA X (e :: es) t) (hn : x ≠ "__name__" := by decide) (hdb : (x == ("__debug__" : Str)) = false := by decide)
    (he : starEach (e :: es) X.env = (false, eval e X.env) :: starEach es X.env := by rfl) (hpl : (backTo pos (starEach es X.env)).any (·.1) = false := by rfl) : PE X (.Call (.Name x p) (e :: es) [] pos) (tCB r t) := by
  intro pins s σ H Q I h
  refine wpAny_Call_Name_kw (ld_blt I hg hm hv ?_ hn hdb)
  exact PyProof.Rows.callWith_type1 (thn (ha pos pins s σ H _ I h) fun us s1 ⟨vs, H1, I1, r1, q1⟩ => hc pins s1 σ H1 vs us Q I1 r1 q1) he hpl
end
end L2

namespace HT
open PySem PyProof.Rows

section
open PySem.SeqAt
open PySem.AutoSeq1 (wpAny_loadPart')
open PySem.MeetsSeq PySem.MeetsSeq2 PySem.MeetsSeq3

end

section
variable {prog : Program} {w : World} {A : Around} {E : Value → Shared → Prop} {s : Shared}

/-! ### t[a:b], not the whole -/
/-- a slice's bound as a place among n (d where it is left out) -/
def sIx (n d : Nat) : Option Int → Nat
  | none => d
  | some v => if v < 0 then (v + (n : Int)).toNat else min v.toNat n
end
end HT

namespace L2
open PySem PySem.Spec PyProof.Rows

/-! ### the parts of a slice -/
abbrev TO := St → Hp → (Option Int → Hp → Prop) → Prop
/-- a slice's part (left out, or an int) -/
def PO (X : Cx) (e : Option Expr) (t : TO) : Prop :=
  ∀ (pins : List (Addr × Obj)) (s : Shared) (σ : St) (H : Hp) (Q : Option Int → Hp → Prop), Inv X pins σ H s → t σ H Q →
    wpAny (model X.prog X.w) X.A (evalPart e X.env) (fun u s' => ∃ o H', Inv X pins σ H' s' ∧ IsPart u o ∧ Q o H') X.xe s
def tNoPart : TO := fun _ H Q => Q none H
def tPart (t : TE) : TO := fun σ H Q => t σ H fun x H1 => ∃ i, x = .int i ∧ Q (some i) H1

section
variable {X : Cx} {e : Expr} {te : TE} {lo hi : Option Expr} {tl th : TO} {pos p2 : Pos}

theorem po_none : PO X none tNoPart := by
  intro pins s σ H Q I h
  rw [evalPart_none]
  exact wpAny_pure ⟨none, H, I, .none, h⟩
theorem po_some (h : PE X e te) : PO X (some e) (tPart te) := by
  intro pins s σ H Q I hw
  rw [evalPart_some]
  refine thn (h pins s σ H _ I hw) fun u s1 ⟨x, H1, I1, r1, q1⟩ => ?_
  obtain ⟨i, rfl, q⟩ := q1
  obtain ⟨t, rfl⟩ := r1
  exact ⟨some i, H1, I1, .int i t, q⟩

/-- what a slice of a value is, by values: the slice object stands at sl -/
def SlR (X : Cx) (r : V → Option Int → Option Int → Hp → VK → Prop) : Prop :=
  ∀ (pins : List (Addr × Obj)) (s : Shared) (σ : St) (H : Hp) (x : V) (v vl vu : Value) (lo hi : Option Int) (sl : Addr) (Q : VK), Inv X pins σ H s → RelV x v → s.heap.IsSliceOf sl vl vu .none → IsPart vl lo → IsPart vu hi → r x lo hi H Q →
    ∃ T id, typeLookup (.type T) "__getitem__" = pure (some (.builtin id)) ∧ s.TypeIs v T ∧ wpAny (model X.prog X.w) X.A (getItem v (.ref sl)) (EP X pins σ Q) X.xe s
def tSl (r : V → Option Int → Option Int → Hp → VK → Prop) (te : TE) (tl th : TO) : TE := fun σ H Q => te σ H fun x H1 => tl σ H1 fun l H2 => th σ H2 fun u H3 => r x l u H3 Q
/-- a[lo:hi], any a -/
theorem pe_slice {r : V → Option Int → Option Int → Hp → VK → Prop} (hr : SlR X r) (he : PE X e te) (hl : PO X lo tl) (hu : PO X hi th) : PE X (.Subscript e (.Slice lo hi none p2) pos) (tSl r te tl th) := by
  intro pins s σ H Q I h
  refine Subscript_ (thn (he pins s σ H _ I h) fun v s1 ⟨x, H1, I1, r1, q1⟩ => ?_)
  refine wpAny_Slice (thn (hl pins s1 σ H1 _ I1 q1) fun vl s2 ⟨l, H2, I2, pl, q2⟩ => thn (hu pins s2 σ H2 _ I2 q2) fun vu s3 ⟨u, H3, I3, pu, q3⟩ => ?_)
  rw [evalPart_none]
  refine wpAny_pure ?_
  have I4 : Inv X pins σ H3 { s3 with heap := s3.heap.push { cls := .type "slice", data := .fields #[vl, vu, .none] } } := I3.kept (t' := s3.toks) fun b ob q => Heap.get?_push_of_some _ q
  obtain ⟨T, id, hT, ht, hg⟩ := hr pins { s3 with heap := s3.heap.push { cls := .type "slice", data := .fields #[vl, vu, .none] } } σ H3 x v vl vu l u s3.heap.objs.size Q I4 r1 (Heap.IsSliceOf.new ..) pl pu q3
  show wpAny (model X.prog X.w) X.A (subscriptTail e (.Slice lo hi none p2) v (.ref s3.heap.objs.size)) (EP X pins σ Q) X.xe { s3 with heap := s3.heap.push { cls := .type "slice", data := .fields #[vl, vu, .none] } }
  exact tail_any (ops := [.ref s3.heap.objs.size, v]) ht hT hg (by with_unfolding_all rfl)

/-- the items of xs[lo:hi] -/
def cutV (xs : List V) (lo hi : Option Int) : List V := (xs.drop (HT.sIx xs.length 0 lo)).take (HT.sIx xs.length xs.length hi - HT.sIx xs.length 0 lo)
theorem cutV_length (xs : List V) (lo hi : Option Int) : (cutV xs lo hi).length ≤ xs.length := by
  unfold cutV
  rw [List.length_take, List.length_drop]
  omega
/-! ### t < u, t + u -/
end
end L2

namespace L2
open PySem PySem.Spec PyProof.Rows

/-! ### places -/
/-- the place that an index of any sign means -/
def ixN (n : Nat) (i : Int) : Option Nat := if 0 ≤ i then (if i < n then some i.toNat else none) else if -(n : Int) ≤ i then some (i + n).toNat else none
def atI {α : Type} (xs : List α) (i : Int) : Option α := (ixN xs.length i).bind fun j => xs[j]?
theorem ixN_seq {n : Nat} {i : Int} {j : Nat} (h : ixN n i = some j) : seqIndex? i n = some j ∧ j < n ∧ -(n : Int) ≤ i ∧ i < n := by
  unfold ixN at h
  by_cases h0 : 0 ≤ i
  · rw [if_pos h0] at h
    by_cases h1 : i < n
    · rw [if_pos h1] at h
      have e : i.toNat = j := Option.some.inj h
      exact ⟨by rw [seqIndex_of h0 h1, e], by omega, by omega, h1⟩
    · rw [if_neg h1] at h; cases h
  · rw [if_neg h0] at h
    by_cases h1 : -(n : Int) ≤ i
    · rw [if_pos h1] at h
      have e : (i + n).toNat = j := Option.some.inj h
      exact ⟨by rw [seqIndex_neg (by omega) h1, e], by omega, h1, by omega⟩
    · rw [if_neg h1] at h; cases h
theorem atI_get {α : Type} {xs : List α} {i : Int} {v : α} (h : atI xs i = some v) : ∃ j, seqIndex? i xs.length = some j ∧ xs[j]? = some v ∧ j < xs.length ∧ -(xs.length : Int) ≤ i ∧ i < xs.length := by
  unfold atI at h
  cases e : ixN xs.length i with
  | none => rw [e] at h; cases h
  | some j =>
    rw [e] at h
    obtain ⟨h1, h2, h3, h4⟩ := ixN_seq e
    exact ⟨j, h1, h, h2, h3, h4⟩
theorem atI_nat {α : Type} {xs : List α} {j : Nat} {v : α} (h : xs[j]? = some v) : atI xs (j : Int) = some v := by
  have hj : j < xs.length := (List.getElem?_eq_some_iff.mp h).1
  have e : ixN xs.length (j : Int) = some j := by
    unfold ixN
    rw [if_pos (by omega), if_pos (by omega)]; simp
  unfold atI; rw [e]; exact h
/-! ### what may be subscripted -/
/-- what stands as an index of a plain subscript -/
def PlainIx (b : Expr) : Prop := ∀ o i, subscripted b false o i = operate [o, i] (getItem o i)
/-- a subscript by values -/
def IxR (X : Cx) (r : R2) : Prop :=
  ∀ (value slice : Expr) (pins : List (Addr × Obj)) (s : Shared) (σ : St) (H : Hp) (x y : V) (v u : Value) (Q : VK), Inv X pins σ H s → RelV x v → RelV y u → r x y H Q →
    subscripted slice false v u = operate [v, u] (getItem v u) → wpAny (model X.prog X.w) X.A (subscriptTail value slice v u) (EP X pins σ Q) X.xe s
/-- a call of a builtin's method by values: the receiver, the arguments -/
def MtR (X : Cx) (id : String) (r : V → List V → Hp → VK → Prop) : Prop :=
  ∀ (pins : List (Addr × Obj)) (s : Shared) (σ : St) (H : Hp) (x : V) (xs : List V) (v : Value) (us : List Value) (Q : VK), Inv X pins σ H s → RelV x v → Vals xs us → r x xs H Q →
    wpAny (model X.prog X.w) X.A (call (.builtin id) (v :: us)) (EP X pins σ Q) X.xe s
section
variable {X : Cx} {a b : Expr} {ta tb : TE} {pos : Pos}
/-- a[b] -/
theorem pe_ix {r : R2} (hr : IxR X r) (ha : PE X a ta) (hb : PE X b tb) (hs : PlainIx b) : PE X (.Subscript a b pos) (tOp r ta tb) := by
  intro pins s σ H Q I h
  exact Subscript_ (binT ha hb I h fun v u s2 x y H2 I2 rx ry q => hr a b pins s2 σ H2 x y v u Q I2 rx ry q (hs _ _))

def rIxL (K : PySem.W.Frag) : R2 := fun x y H Q => ∃ p xs i v, x = .ref p ∧ y = .int i ∧ SqL K H p xs ∧ atI xs i = some v ∧ Q v H
def rIxT (K : PySem.W.Frag) : R2 := fun x y H Q => ∃ p xs i v, x = .ref p ∧ y = .int i ∧ SqT K H p xs ∧ atI xs i = some v ∧ Q v H
theorem ix_list : IxR X (rIxL X.K) := by
  intro value slice pins s σ H x y v u Q I rx ry h hs
  obtain ⟨p, xs, i, z, rfl, rfl, hq, he, q⟩ := h
  cases rx
  obtain ⟨t, rfl⟩ := ry
  obtain ⟨its, r, pl, hz⟩ := I.list hq
  obtain ⟨j, h1, h2, h3, h4, h5⟩ := atI_get he
  obtain ⟨w, ew, rw'⟩ := r.get h2
  have hl := r.length
  have hn := line63
  have fin : EP X pins σ Q w s := ⟨z, H, I, rw', q⟩
  by_cases h0 : 0 ≤ i
  · have hj : i.toNat = j := by
      rw [seqIndex_of h0 h5] at h1
      exact Option.some.inj h1
    exact item_listR pl.isList h0 (by omega) (by rw [hj]; simpa using ew) fin hs
  · have hj : (i + (its.toArray.size : Int)).toNat = j := by
      rw [seqIndex_neg (by omega) h4] at h1
      rw [List.size_toArray, ← hl]
      exact Option.some.inj h1
    exact subscriptTail_builtinR (x := w) pl.isList.typeIs slot_list_getitem.lookup
      (wpAny_getItem_list_neg (Q := fun r s' => r = w ∧ EP X pins σ Q r s') pl.isList (by omega) (by rw [List.size_toArray] <;> omega) (by omega) (by rw [hj]; simpa using ew) ⟨rfl, fin⟩) hs
theorem ix_tup : IxR X (rIxT X.K) := by
  intro value slice pins s σ H x y v u Q I rx ry h hs
  obtain ⟨p, xs, i, z, rfl, rfl, hq, he, q⟩ := h
  cases rx
  obtain ⟨t, rfl⟩ := ry
  obtain ⟨its, r, pl, hz⟩ := I.tuple hq
  obtain ⟨j, h1, h2, h3, h4, h5⟩ := atI_get he
  obtain ⟨w, ew, rw'⟩ := r.get h2
  have hl := r.length
  have hn := line63
  have fin : EP X pins σ Q w s := ⟨z, H, I, rw', q⟩
  exact subscriptTail_builtinR (x := w) pl.typeIs slot_tuple_getitem.lookup
    (getItem_tuple (j := j) (Q := fun r s' => r = w ∧ EP X pins σ Q r s') pl (by omega) (by omega) (by rw [List.size_toArray, ← hl]; exact h1) (by simpa using ew) ⟨rfl, fin⟩) hs
/-! ### xs[i] = v, any sign -/
/-! ### slices -/
theorem slice_bounds (lo hi : Option Int) (n : Nat) : (sliceBounds lo hi none n).1 = ((HT.sIx n 0 lo : Nat) : Int) ∧ (sliceBounds lo hi none n).2.1 = ((HT.sIx n n hi : Nat) : Int) ∧ (sliceBounds lo hi none n).2.2 = 1 := by
  refine ⟨?_, ?_, rfl⟩
  · cases lo with
    | none => simp [sliceBounds, HT.sIx]
    | some i =>
      simp only [sliceBounds, HT.sIx, Option.getD_none, show (1 : Int) > 0 by decide, if_true]
      by_cases h : i < 0
      · simp only [h, if_true] <;> omega
      · simp only [h, if_false] <;> omega
  · cases hi with
    | none => simp [sliceBounds, HT.sIx]
    | some i =>
      simp only [sliceBounds, HT.sIx, Option.getD_none, show (1 : Int) > 0 by decide, if_true]
      by_cases h : i < 0
      · simp only [h, if_true] <;> omega
      · simp only [h, if_false] <;> omega
theorem slicePick_cut (its : List Value) (lo hi : Option Int) : slicePick its.toArray lo hi none = ((its.drop (HT.sIx its.length 0 lo)).take (HT.sIx its.length its.length hi - HT.sIx its.length 0 lo)).toArray := by
  obtain ⟨h1, h2, h3⟩ := slice_bounds lo hi its.toArray.size
  unfold slicePick
  rw [h1, h2, h3]
  simp only [sliceRange_one, pick_run, List.size_toArray] <;> rfl
/-- xs[lo:hi] of a list: a new list -/
def rSlL (K : PySem.W.Frag) : V → Option Int → Option Int → Hp → VK → Prop := fun x lo hi H Q => ∃ a xs, x = .ref a ∧ SqL K H a xs ∧ ∀ p, H p = none → Q (.ref p) (upd H p (.lst (cutV xs lo hi)))
theorem sl_list : SlR X (rSlL X.K) := by
  intro pins s σ H x v vl vu lo hi sl Q I rx hs pl pu h
  obtain ⟨a, xs, rfl, hx, q⟩ := h
  cases rx
  obtain ⟨its, r, ht, hz⟩ := I.list hx
  have hlen := r.length
  refine ⟨"list", _, slot_list_getitem.lookup, ht.isList.typeIs, ?_⟩
  refine wpAny_getItem_list_slice ht.isList hs pl pu .none (by simp) ?_ (by rw [List.size_toArray] <;> omega)
  rw [slicePick_cut, ← hlen]
  refine ⟨.ref s.heap.objs.size, _, I.laid (t' := s.toks) (o := .lst (cutV xs lo hi)) (fun b ob q => Heap.get?_push_of_some _ q) (Nat.le_refl _) ?_, rfl, q _ (I.hok.fresh (Nat.le_refl _))⟩
  exact ⟨Nat.le_trans (cutV_length xs lo hi) hz, _, 0, (r.drop (HT.sIx xs.length 0 lo)).take (HT.sIx xs.length xs.length hi - HT.sIx xs.length 0 lo), Heap.get?_push_size _ rfl⟩

/-! ### in, not in: flat items -/
theorem op_notIn_str : OpR X (compareOp .NotIn) (fun x y H Q => ∃ i j, x = .str i ∧ y = .str j ∧ Q (.bl (!(!(Builtin.Str.occurrences j i 0 j.length 1).isEmpty))) H) := by
  intro pins s σ H x y v u Q I rx ry h
  obtain ⟨i, j, rfl, rfl, q⟩ := h
  obtain ⟨t, rfl⟩ := rx
  obtain ⟨t', rfl⟩ := ry
  exact notIn_str ⟨.bl _, H, I, rfl, q⟩

/-! ### len, list(x), tuple(x) of any list or tuple that is read -/
theorem call_len_seq : CallR X (.builtin "len") (fun xs H Q => ∃ p ys, xs = [.ref p] ∧ (SqL X.K H p ys ∨ SqT X.K H p ys) ∧ Q (.int ys.length) H) := by
  intro pins s σ H xs us Q I r h
  obtain ⟨p, ys, rfl, hq, q⟩ := h
  obtain ⟨u, rfl, rx⟩ := vals1 r
  cases rx
  have hn := line63
  rcases hq with hq | hq
  · obtain ⟨its, r', pl, hz⟩ := I.list hq
    have hlen := r'.length
    exact Calls.call_len_list pl.isList (by simp only [List.size_toArray] <;> omega) ⟨.int ys.length, H, I.tok _, ⟨s.toks + 1, by rw [List.size_toArray, hlen]⟩, q⟩
  · obtain ⟨its, r', pl, hz⟩ := I.tuple hq
    have hlen := r'.length
    exact len_tuple pl (by simp only [List.size_toArray] <;> omega) ⟨.int ys.length, H, I.tok _, ⟨s.toks + 1, by rw [List.size_toArray, hlen]⟩, q⟩
theorem call_list_of : CallR X (.type "list") (fun xs H Q => ∃ p ys, xs = [.ref p] ∧ (SqL X.K H p ys ∨ SqT X.K H p ys) ∧ ∀ l, H l = none → Q (.ref l) (upd H l (.lst ys))) := by
  intro pins s σ H xs us Q I r h
  obtain ⟨p, ys, rfl, hq, q⟩ := h
  obtain ⟨u, rfl, rx⟩ := vals1 r
  cases rx
  have fin : ∀ (its : List Value), Vals ys its → ys.length ≤ sizeLine → ∀ (h' : Heap) (c' : Nat), (∀ b o', s.heap.get? b = some o' → h'.get? b = some o') →
      h'.get? s.heap.objs.size = some { cls := .type "list", dict := none, data := .seq its.toArray c', slots := #[] } → EP X pins σ Q (.ref s.heap.objs.size) { s with heap := h' } := fun its r' hz h' c' kp e =>
    ⟨.ref s.heap.objs.size, _, I.laid (t' := s.toks) kp (Nat.le_refl _) (show ObjOk X.prog X.w _ h' _ (.lst ys) from ⟨hz, its, c', r', e⟩), rfl, q _ (I.hok.fresh (Nat.le_refl _))⟩
  rcases hq with hq | hq
  · obtain ⟨its, r', pl, hz⟩ := I.list hq
    have hlen := r'.length
    obtain ⟨o, ho, hc, n, hd⟩ := pl.isList
    exact call_list_seq p (.inl rfl) ho hc hd (fun h' c' kp e => fin its r' hz h' c' kp e) (by simp only [List.size_toArray] <;> omega)
  · obtain ⟨its, r', pl, hz⟩ := I.tuple hq
    have hlen := r'.length
    obtain ⟨o, ho, hc, n, hd⟩ := pl
    exact call_list_seq p (.inr rfl) ho hc hd (fun h' c' kp e => fin its r' hz h' c' kp e) (by simp only [List.size_toArray] <;> omega)
/-! ### the call of a builtin's method: o.m(..) -/
/-- the value is of that builtin type -/
def tyV (K : PySem.W.Frag) (T : String) (x : V) (H : Hp) : Prop := match x with
  | .str _ => T = "str"
  | .int _ => T = "int"
  | .ref p => (T = "list" ∧ ∃ xs, SqL K H p xs) ∨ (T = "tuple" ∧ ∃ o, K.lookup p = some o ∧ o.cls = .type "tuple" ∧ o.dict = none) ∨
      (T = "dict" ∧ ((∃ kvs, H p = some (.dK kvs)) ∨ ∃ kvs, H p = some (.dT kvs))) ∨ (T = "set" ∧ ∃ S n, H p = some (.set S n))
  | _ => False
theorem tyV_is {pins : List (Addr × Obj)} {σ : St} {H : Hp} {s : Shared} {T : String} {x : V} {v : Value} (I : Inv X pins σ H s) (r : RelV x v) (ty : tyV X.K T x H) :
    s.TypeIs v T ∧ ∀ a, v = .ref a → ∃ ob, s.heap.get? a = some ob ∧ ob.dict = none := by
  cases x with
  | str z =>
    obtain ⟨t, rfl⟩ := r
    cases (show T = "str" from ty)
    exact ⟨typeIs_str s z t, fun _ e => nomatch e⟩
  | int i =>
    obtain ⟨t, rfl⟩ := r
    cases (show T = "int" from ty)
    exact ⟨typeIs_int s i t, fun _ e => nomatch e⟩
  | ref p =>
    cases r
    rcases ty with ⟨rfl, xs, hq⟩ | ⟨rfl, o, hk, hc, hd⟩ | ⟨rfl, hk⟩ | ⟨rfl, S, n, hk⟩
    · obtain ⟨its, _, pl, _⟩ := I.list hq
      refine ⟨pl.isList.typeIs, fun a e => ?_⟩
      cases e
      obtain ⟨o, n, e, c, hd, _⟩ := pl
      exact ⟨o, e, hd⟩
    · refine ⟨⟨o, I.kIn p o hk, hc⟩, fun a e => ?_⟩
      cases e
      exact ⟨o, I.kIn _ o hk, hd⟩
    · have z : ∃ o, s.heap.get? p = some o ∧ o.ExactDict := by
        rcases hk with ⟨kvs, hk⟩ | ⟨kvs, hk⟩
        · obtain ⟨_, _, _, _, o, _, _, e, ex, _⟩ := I.hok p _ hk
          exact ⟨o, e, ex⟩
        · obtain ⟨_, _, _, _, o, _, _, e, ex, _⟩ := I.hok p _ hk
          exact ⟨o, e, ex⟩
      obtain ⟨o, e, ex⟩ := z
      refine ⟨⟨o, e, ex.1⟩, fun a e2 => ?_⟩
      cases e2
      exact ⟨o, e, ex.2.1⟩
    · obtain ⟨o, _, _, _, e, ex, _⟩ := I.hok p _ hk
      refine ⟨⟨o, e, ex.1⟩, fun a e2 => ?_⟩
      cases e2
      exact ⟨o, e, ex.2.1⟩
  | _ => exact False.elim ty
def tBM0 (K : PySem.W.Frag) (T : String) (r : V → List V → Hp → VK → Prop) (to : TE) : TE := fun σ H Q => to σ H fun x H1 => tyV K T x H1 ∧ r x [] H1 Q
def tBM (K : PySem.W.Frag) (T : String) (r : V → List V → Hp → VK → Prop) (to : TE) (t : TA) : TE := fun σ H Q => to σ H fun x H1 => tyV K T x H1 ∧ t σ H1 fun xs H2 => r x xs H2 Q
variable {o e : Expr} {es : List Expr} {to : TE} {t : TA} {name : Str} {apos cpos : Pos} {T id : String} {r : V → List V → Hp → VK → Prop}
theorem pe_bm0 (pa : PlainAttrs T) (slot : Slot T name id) (hty : typeOf (.builtin id) = pure (.type "method_descriptor")) (hm : MtR X id r) (ho : PE X o to)
    (hbase : attributeBase o name X.env (eval o X.env) = eval o X.env := by rfl) (hline : (apos.endLine == cpos.line) = true := by rfl) : PE X (.Call (.Attribute o name apos) [] [] cpos) (tBM0 X.K T r to) := by
  intro pins s σ H Q I h
  refine wpAny_Call_method0_late hbase hline (thn (ho pins s σ H _ I h) fun v s1 ⟨x, H1, I1, r1, ty, q1⟩ => ?_)
  obtain ⟨h1, h2⟩ := tyV_is I1 r1 ty
  exact ⟨T, id, pa, slot, hty, h1, h2, Calls.callWith_builtin rfl (PySem.evalArgs_none (hm pins s1 σ H1 x [] v [] Q I1 r1 .nil q1))⟩
theorem pe_bm (pa : PlainAttrs T) (slot : Slot T name id) (hty : typeOf (.builtin id) = pure (.type "method_descriptor")) (hm : MtR X id r) (ho : PE X o to) (ha : PA X (e :: es) t)
    (hbase : attributeBase o name X.env (eval o X.env) = eval o X.env := by rfl)
    (hfew : ((backTo cpos (starEach (e :: es) X.env)).all (fun x => !x.1) && (backToKw cpos (keywordEach [] X.env)).all (fun x => x.1.isSome)
      && decide ((e :: es).length + ([] : List Keyword).length + (if ([] : List Keyword).isEmpty then 0 else 1) < 30)) = true := by rfl)
    (hline : (apos.endLine == cpos.line) = true := by rfl) (hs : starEach (e :: es) X.env = (false, eval e X.env) :: starEach es X.env := by rfl) (hplain : (backTo cpos (starEach es X.env)).any (·.1) = false := by rfl) :
    PE X (.Call (.Attribute o name apos) (e :: es) [] cpos) (tBM X.K T r to t) := by
  intro pins s σ H Q I h
  refine wpAny_Call_method_late hbase hfew hline rfl (thn (ho pins s σ H _ I h) fun v s1 ⟨x, H1, I1, r1, ty, q1⟩ => ?_)
  obtain ⟨h1, h2⟩ := tyV_is I1 r1 ty
  refine ⟨T, id, pa, slot, hty, h1, h2, ?_⟩
  have hA := ha cpos pins s1 σ H1 _ I1 q1
  rw [hs] at hA ⊢
  refine Calls.callWith_builtin (by show (false || (backTo cpos (starEach es X.env)).any (·.1)) = false; rw [hplain] <;> rfl) (Calls.evalArgs_plain ?_)
  exact thn hA fun us s2 ⟨vs, H2, I2, r2, q2⟩ => hm pins s2 σ H2 x vs v us Q I2 r1 r2 q2
/- xs.append(e), list.index on a module's tuple .. are MtR facts of 06m -/
end
end L2

namespace L2
open PySem PySem.Spec PyProof.Rows

def MtM (X : Cx) (id : String) (r : V → List V → Hp → VK → Prop) : Prop :=
  ∀ (pins : List (Addr × Obj)) (s : Shared) (σ : St) (H : Hp) (x : V) (xs : List V) (v : Value) (us : List Value) (Q : VK), Inv X pins σ H s → RelV x v → Vals xs us → r x xs H Q →
    wpAny (model X.prog X.w) X.A (call (.builtin id) (v :: us)) (EP X pins σ Q) X.xe s

/-! ### lists of values -/
theorem Vals.one : ∀ {x : V} {us : List Value}, Vals [x] us → ∃ u, us = [u] ∧ RelV x u
  | _, _, .cons r .nil => ⟨_, rfl, r⟩
theorem Vals.zero : ∀ {us : List Value}, Vals [] us → us = []
  | _, .nil => rfl
section
variable {X : Cx} {pins : List (Addr × Obj)} {σ : St} {H : Hp} {s : Shared} {l b : Addr} {xs ys zs : List V}

/-! ### the two steps: a tracked list is rewritten, a new list is laid -/
theorem Inv.lset {its its' : List Value} {n : Nat} {f : Array Value → Array Value} {t' : Nat} (I : Inv X pins σ H s) (hH : H l = some (.lst xs))
    (e : s.heap.get? l = some { cls := .type "list", data := .seq its.toArray n }) (hf : f its.toArray = its'.toArray) (hv : Vals ys its') (hz : ys.length ≤ sizeLine) :
    Inv X pins σ (upd H l (.lst ys)) { s with heap := s.heap.update l (Obj.mapSeq f), toks := t' } := by
  have q := PySem.IsL.update e f
  rw [hf] at q
  refine I.write (x := l) (e := l) (by rw [hH]; exact trivial) (.inl rfl) (fun b' u hb hu => (Heap.get?_update_other s.heap (Obj.mapSeq f) (Ne.symm hb)).trans hu) ⟨_, q⟩ ?_
  exact ⟨hz, its', _, hv, q⟩
theorem Inv.lnew {its : List Value} {t' : Nat} (I : Inv X pins σ H s) (hv : Vals ys its) (hz : ys.length ≤ sizeLine) :
    Inv X pins σ (upd H s.heap.objs.size (.lst ys)) { s with heap := s.heap.push { cls := .type "list", data := .seq its.toArray }, toks := t' } :=
  I.laid (fun _ _ q => Heap.get?_push_of_some _ q) (Nat.le_refl _) ⟨hz, its, 0, hv, Heap.get?_push_size _ rfl⟩
theorem Inv.fresh (I : Inv X pins σ H s) : H s.heap.objs.size = none := I.hok.fresh (Nat.le_refl _)
theorem Inv.lstM (I : Inv X pins σ H s) (hH : H l = some (.lst xs)) : xs.length ≤ sizeLine ∧ ∃ (its : List Value) (n : Nat), Vals xs its ∧ xs.length = its.length ∧ s.heap.get? l = some { cls := .type "list", data := .seq its.toArray n } := by
  obtain ⟨z, its, n, r, e⟩ := I.hok l _ hH
  exact ⟨z, its, n, r, r.length, e⟩

end

section
variable {X : Cx}

/-! ### methods -/
def rAppend : V → List V → Hp → VK → Prop := fun x vs H Q => ∃ l xs y, x = .ref l ∧ vs = [y] ∧ H l = some (.lst xs) ∧ xs.length < sizeLine ∧ Q .non (upd H l (.lst (xs ++ [y])))
theorem mt_append : MtM X "list.append" rAppend := by
  intro pins s σ H x vs v us Q I rx rv h
  obtain ⟨l, xs, y, rfl, rfl, hH, hz, q⟩ := h
  cases rx
  obtain ⟨u, rfl, ru⟩ := rv.one
  obtain ⟨z, its, n, r, hl, e⟩ := I.lstM hH
  refine call_meets F.slot_list_append ⟨_, e, rfl⟩ F.entry_list_append (F.args_list_append_2 _ _) (PySem.list_append l its.toArray n u (by rw [List.size_toArray]; omega)) ⟨e, ?_⟩
  refine ⟨.non, _, I.lset (its' := its ++ [u]) hH e (by simp) (r.append (.cons ru .nil)) ?_, rfl, q⟩
  rw [List.length_append, List.length_singleton]
  omega

/-! ### list + list, list += list, list * int -/
def rCat : R2 := fun x y H Q => ∃ l b xs zs, x = .ref l ∧ y = .ref b ∧ H l = some (.lst xs) ∧ H b = some (.lst zs) ∧ xs.length + zs.length ≤ sizeLine ∧ ∀ p, H p = none → Q (.ref p) (upd H p (.lst (xs ++ zs)))
theorem op_cat : OpR X (binaryOp .Add) rCat := by
  intro pins s σ H x y v u Q I rx ry h
  obtain ⟨l, b, xs, zs, rfl, rfl, hH, hB, hz, q⟩ := h
  cases rx
  cases ry
  obtain ⟨z, its, n, r, hl, e⟩ := I.lstM hH
  obtain ⟨z2, its2, n2, r2, hl2, e2⟩ := I.lstM hB
  refine PySem.P.add_list e e2 ?_ (by rw [List.size_toArray, List.size_toArray]; omega)
  have ea : its.toArray ++ its2.toArray = (its ++ its2).toArray := by simp
  rw [ea]
  exact ⟨.ref _, _, I.lnew (t' := s.toks) (r.append r2) (by rw [List.length_append]; omega), rfl, q _ I.fresh⟩
/-! ### del xs[i] -/
end

/-! ### xs[a:b] = ys -/
section
variable {prog : Program} {w : World} {A : Around} {E : Value → Shared → Prop} {s : Shared}
end

section
variable {X : Cx}
end
end L2

namespace L2
open PySem PySem.Spec PyProof.Rows

/-! ### lists of pairs as tables -/
section
variable {κ : Type} [DecidableEq κ]
theorem KV.length {kvs : List (κ × V)} {vs : List (κ × Value)} (r : KV kvs vs) : kvs.length = vs.length := Paired.length r
end


/-! ### a tracked dict, its keys ints and texts or tuples of these -/
theorem kV_is {P : Program} {w : World} {k : Key} {u : Value} (r : RelV (kV k) u) : (mixKind P w).is k u = true := by
  cases k with
  | inl i => obtain ⟨t, e⟩ := (show ∃ t, u = Value.int i t from r); subst e; exact mixKind_int P w i t
  | inr x => obtain ⟨t, e⟩ := (show ∃ t, u = Value.str x t from r); subst e; exact mixKind_str P w x t
section
variable {P : Program} {w : World} {H : Hp} {h : Heap} {a : Addr}
theorem rd_of {u : HO} (ok : HOk P w H h) (e : Rd H a u) : ObjOk P w H h a u := e.ok ok
theorem dk_rd {kvs : List (Key × V)} (ok : HOk P w H h) (e : Rd H a (.dK kvs)) : kvs.length ≤ sizeLine ∧ (a == sysModules) = false ∧ ∃ vs, KV kvs vs ∧ h.DictOf (mixKind P w) a vs :=
  show ObjOk P w H h a (.dK kvs) from rd_of ok e
theorem dk_of {kvs : List (Key × V)} (ok : HOk P w H h) (e : H a = some (.dK kvs)) : kvs.length ≤ sizeLine ∧ (a == sysModules) = false ∧ ∃ vs, KV kvs vs ∧ h.DictOf (mixKind P w) a vs := dk_rd ok (.inl e)
end

section
variable {X : Cx} {pins : List (Addr × Obj)} {σ : St} {H : Hp} {s : Shared} {a : Addr} {y v : V} {u r : Value} {o : Option V} {A : Around} {E : Value → Shared → Prop}

theorem Inv.big (I : Inv X pins σ H s) : sysModules < s.heap.objs.size := by
  have h : mainGlobals < s.heap.objs.size := (I.mod.glob.keeps I.bk).lt
  exact Nat.lt_trans (by decide) h

end

section
variable {X : Cx} {pins : List (Addr × Obj)} {σ : St} {H : Hp} {s : Shared} {a : Addr} {kvs : List (Key × V)} {k : Key} {u : Value} {A : Around} {E : Value → Shared → Prop}
/-- len(d) -/
theorem d_len {Q : Value → Shared → Prop} (I : Inv X pins σ H s) (e : Rd H a (.dK kvs)) (h : ∀ t s', Inv X pins σ H s' → Q (.int kvs.length t) s') : wpAny (model X.prog X.w) A (call (.builtin "len") [.ref a]) Q E s := by
  obtain ⟨z, hd, vs, rel, dd⟩ := dk_rd I.hok e
  refine call_len_dict hd dd (by rw [← rel.length]; rw [sizeLine_eq] at z; omega) ?_
  rw [← rel.length]
  exact h _ _ (I.tok _)
end


/-! ### readings and rules -/
section
variable {X : Cx} {o i e value : Expr} {pos pos' tpos : Pos} {td ty tv : TE}
end


/-! ### displays -/
theorem dk_empty {P : Program} {w : World} {H : Hp} (h : Heap) (hb : sysModules < h.objs.size) : ObjOk P w H (h.push { cls := .type "dict", data := .dict #[] }) h.objs.size (.dK []) :=
  ⟨Nat.zero_le _, beq_eq_false_iff_ne.mpr (Ne.symm (Nat.ne_of_lt hb)), [], .nil, Heap.DictOf.new h⟩
/-- {}, to be a dict of the kind that is wanted -/
def tDNewK : TE := fun _ H Q => ∀ p, H p = none → Q (.ref p) (upd H p (.dK []))
section
variable {X : Cx} {pos : Pos}
theorem pe_dnewK : PE X (.Dict [] [] pos) tDNewK := fun pins s σ H Q I h =>
  wpAny_Dict_empty ⟨.ref s.heap.objs.size, _, I.laid (a := s.heap.objs.size) (o := .dK []) (t' := s.toks) (fun _ _ q => Heap.get?_push_of_some _ q) (Nat.le_refl _) (dk_empty s.heap I.big), rfl, h _ (I.hok.fresh (Nat.le_refl _))⟩
end

/-! ### methods -/
section
variable {X : Cx} {pins : List (Addr × Obj)} {σ : St} {H : Hp} {s : Shared} {a : Addr} {y d : V} {u r : Value} {o : Option V} {A : Around} {E : Value → Shared → Prop}
end

section
variable {X : Cx} {o e f : Expr} {apos cpos : Pos} {td ty tx : TE}
end

/-! ### dict(d): a copy -/
section
variable {X : Cx} {pins : List (Addr × Obj)} {σ : St} {H : Hp} {s : Shared} {a : Addr} {kvs : List (Key × V)} {A : Around} {E : Value → Shared → Prop}
end


section
variable {X : Cx} {pins : List (Addr × Obj)} {σ : St} {H : Hp} {s : Shared} {a : Addr} {y : V} {u : Value} {A : Around} {E : Value → Shared → Prop}
end
end L2

namespace Att
open PySem PySem.W PySem.Calls PyProof.Rows

/-! ### the script -/
theorem ints_of_wellAll {P : Params} {h : Heap} : ∀ (ns : List Int) (vs : List Value), WellAll P h vs (ns.map WData.int) → IntsAre vs ns := by
  intro ns
  induction ns with
  | nil =>
    intro vs w
    rw [List.map_nil] at w
    cases w
    exact .nil
  | cons n ns ih =>
    intro vs w
    rw [List.map_cons] at w
    cases w with
    | cons a b =>
      cases a
      exact .cons _ _ (ih _ b)

theorem script_of {l : OpenLaw} {n : Nat} (hn : l.most = some n) {P : Params} {h : Heap} {args : List WData} {vals : List Value}
    (hpre : l.row.toRowW.claim.pre args = true) (hwl : WellAll P h vals args) :
    ∃ a vs ns, vals = [Value.ref a] ∧ args = [WData.list (ns.map WData.int)] ∧ h.get? a = some { cls := .type "list", data := .seq vs.toArray } ∧ IntsAre vs ns ∧ ns.length ≤ n := by
  have hsh : WShape.hasAll [] args [.list .int] = true := (pre_splitW hpre).1
  have hc : l.pre.holds [] { args := args } = true := (pre_splitW hpre).2
  obtain ⟨d, r, rfl, h1, h2⟩ := hasAllW_cons hsh
  obtain rfl := hasAllW_nil h2
  obtain ⟨xs, rfl, h3⟩ := hasW_list h1
  obtain ⟨ns, rfl⟩ := items_int h3
  have hlen : ns.length ≤ n := by
    unfold OpenLaw.pre at hc
    have h4 : (WTm.not (.lt (.lit (.int (n : Int))) (.len (.arg 0)))).holds [] { args := [.list (ns.map .int)] } = true := by
      have h4 := (holds_andW hc).1
      rw [hn] at h4
      exact h4
    have h5 := condW_of h4 (w_not (w_lt w_lit (w_len_list (w_arg rfl))))
    rw [List.length_map] at h5
    refine Nat.le_of_not_lt fun q => ?_
    have q' : (n : Int) < ((ns.length : Nat) : Int) := by omega
    first
      | (rw [decide_eq_true q'] at h5; exact absurd h5 (by decide))
      | (simp at h5; omega)
  cases hwl with
  | cons w1 w2 =>
    cases w2
    cases w1 with
    | list ho hall => exact ⟨_, _, ns, rfl, rfl, ho, ints_of_wellAll ns _ hall, hlen⟩

theorem post_true (l : OpenLaw) (args : List WData) : l.row.toRowW.claim.post args (.bool true) args = true :=
  postW_of (r := l.row.toRowW) (X := (true == true))
    (show WShape.has [] (.bool true) .bool = true by first | rfl | decide | simp [WShape.has, WShape.arms, WShape.armsAll])
    (show (WTm.eq .res (.lit (.bool true))).value [] { args := args, res := some (.bool true), after := args } = some (.bool (true == true)) from w_eq_bool (w_res rfl) w_lit) rfl

/-! ### the attachment: holds_open's last premise (the goal 'hc' behind k_head) from a wpAny of the law's body -/
/-- the same from a codeAny of the CALL (for a layer whose function contracts speak of calls) -/
theorem attach_call {l : OpenLaw} {n : Nat} {q : Program} {loose : List Str} {XP : (Str → Option Value) → Heap → Prop} {YP : World → Heap → Prop} {d : DefRec}
    (hn : l.most = some n) (hdf : d.params.defaults = [])
    (call : ∀ (w : World) (s₀ s₁ : Shared) (mg mb : Str → Option Value) (fa : Addr) (o : Obj) (pm cd doc : Value) (a : Addr) (vs : List Value) (ns : List Int),
      Ground q loose [] XP w s₀ mg mb s₁.heap → YP w s₁.heap →
      s₁.heap.get? fa = some o → o.data = .func (docDef d.name d.params d.body d.scope pm cd doc) → s₁.heap.CodeRec cd d.name → mg d.name = some (.ref fa) →
      s₁.heap.get? a = some { cls := .type "list", data := .seq vs.toArray } → IntsAre vs ns → ns.length ≤ n → s₁.gens = #[] →
      codeAny (model l.prog w) callerA (.call (.ref fa) ⟨[.ref a], []⟩) (fun r s' => r = .ok (.ret (.bool true)) ∧ OldK s₁.heap s'.heap ∧ s'.os = s₁.os ∧ AllBare s'.gens) s₁) :
    WalkO q loose XP YP l.row.toRowW d [] (fun f vs => PySem.call f vs) := by
  intro w s₀ s₁ mg mb G Y fa o pm cd doc dV kV ho hd hcd hD hmg hg args vals as hpre hlay hrd hwl hlo
  obtain rfl : dV = .none := Dflts.none hD hdf
  obtain rfl : kV = .none := Dflts.noKw hD
  obtain ⟨a, vs, ns, rfl, rfl, hobj, hints, hlen⟩ := script_of hn hpre hwl
  refine enter_call (codeAny_mono (call w s₀ s₁ mg mb fa o pm cd doc a vs ns G Y ho (fd_plain hd) hcd hmg hobj hints hlen hg) fun r s' hq => ?_)
  obtain ⟨rfl, h2, h3, h4⟩ := hq
  exact ⟨.inl ⟨.bool true, .bool true, [], rfl, fun _ => rfl, .bool true, post_true l _, fun _ => ⟨List.Pairwise.nil, fun _ hm => (nomatch hm)⟩⟩, h2, h3, h4⟩

/-! ### rules over ANY heap (no ledger) from facts about the written part K: the library's own take a ledger (News) for what they write -/
section
variable {prog : Program} {w : World} {A : Around} {E : Value → Shared → Prop} {s : Shared} {K : Frag}

/-! the whole heap as the ledger: makes every rule that writes through a ledger a rule over any heap -/
end
end Att

namespace L2
open PySem PySem.Spec PyProof.Rows

theorem vals_ints : ∀ {vs : List Value} {ns : List Int}, IntsAre vs ns → Vals (ns.map V.int) vs
  | _, _, .nil => .nil
  | _, _, .cons n t h => .cons ⟨t, rfl⟩ (vals_ints h)

/-- nothing is tracked but the script, known to the object (or it is an object of the module) -/
def Only (H : Hp) : Prop := ∀ b, H b = none ∨ ∃ o xs, H b = some (.frz o (.lst xs))

/-- THE HEAD: the law's promise, at the heap behind the top. F, the promise of the law's def, may use that base is part of the heap (so K.In base, base.Ns mainGlobals mg stand in Mod) -/
theorem law_call {P : Program} {w : World} {K : PySem.W.Frag} {mg mb : Str → Option Value} {CX : CXT} {k : Nat} {fa a : Addr} {fd : FuncData} {x : Str} {sp : Sp} {s₁ : Shared} {vs : List Value} {ns : List Int}
    (KX : K.In s₁.heap) (hns : s₁.heap.Ns mainGlobals mg) (hb : s₁.heap.Ns builtinsNs mb) (hbb : ∀ x : Str, x ≠ "__name__" → mb x = bootBuiltins x) (hlim : s₁.heap.NoLimit) (hg : s₁.gens = #[])
    (ha : s₁.heap.get? a = some { cls := .type "list", data := .seq vs.toArray }) (hi : IntsAre vs ns) (hl : ns.length ≤ sizeLine) (hr : Room k callerA)
    (F : ∀ base : Heap, K.In base → base.Ns mainGlobals mg → FnOk P w K mg base CX k fa fd [x] sp) (hbind : ∀ (s : Shared) (u : Value), BindsTo s fd ⟨[u], []⟩ [(x, u)])
    (hsp : ∀ H : Hp, Only H → SqL K H a (ns.map V.int) → sp [.ref a] H (fun v _ => v = .bl true) fun _ _ _ => False)
    (hCX : ∀ H e s', CX [] H s₁ (fun _ _ _ => False) e s' → False) :
    codeAny (model P w) callerA (.call (.ref fa) ⟨[.ref a], []⟩) (fun r s' => r = .ok (.ret (.bool true)) ∧ OldK s₁.heap s'.heap ∧ s'.os = s₁.os ∧ AllBare s'.gens) s₁ := by
  have rv := vals_ints hi
  have lenV := hi.length
  -- from an abstract heap in which nothing but the script may be tracked
  have core : ∀ H : Hp, Only H → SqL K H a (ns.map V.int) → HOk P w H s₁.heap → (∀ b, H b ≠ none → b = a) → (H a ≠ none → K.lookup a = none) →
      codeAny (model P w) callerA (.call (.ref fa) ⟨[.ref a], []⟩) (fun r s' => r = .ok (.ret (.bool true)) ∧ OldK s₁.heap s'.heap ∧ s'.os = s₁.os ∧ AllBare s'.gens) s₁ := by
    intro H hO hS hok hA hK
    have base_of : ∀ {b : Addr} {o : Obj}, s₁.heap.get? b = some o → H b = none → (hidT s₁.heap H).get? b = some o := fun e n => hidT_get e n
    have noA : ∀ {b : Addr} {o : Obj} {es : Array DictEntry} {ep : Nat}, s₁.heap.get? b = some o → o.data = .dict es ep → H b = none := fun {b o es ep} e d => by
      cases q : H b with
      | none => rfl
      | some u =>
        have e' : b = a := hA b (by rw [q]; simp)
        subst e'
        rw [ha] at e; cases e
        have d' : Data.seq vs.toArray _ = Data.dict es ep := d
        cases d'
    have nsK : ∀ {b : Addr} {m : Str → Option Value}, s₁.heap.Ns b m → (hidT s₁.heap H).Ns b m := fun {b m} ⟨o, es, ep, e, d, r⟩ => ⟨o, es, ep, base_of e (noA e d), d, r⟩
    have hKb : K.In (hidT s₁.heap H) := fun b o e => base_of (KX b o e) (by
      cases q : H b with
      | none => rfl
      | some u =>
        have e' : b = a := hA b (by rw [q]; simp)
        subst e'
        rw [hK (by rw [q]; simp)] at e; cases e)
    have hM : Mod K mg (hidT s₁.heap H) := ⟨hKb, nsK hns, ⟨mb, nsK hb, hbb⟩, let ⟨mc, h1, h2⟩ := hlim; ⟨mc, nsK h1, h2⟩⟩
    have e0 : Env0 P w K mg (hidT s₁.heap H) callerA [] s₁ H := ⟨rfl, hM, fun b o e => of_hidT e, Nat.le_of_eq (hidT_size _ _), trivial, fun b hb => absurd (show b ∈ ([] : List Addr) from hb) (by simp), hok, .of_eq hg⟩
    refine codeAny_mono ((F _ hKb (nsK hns)).run callerA [] s₁ H ⟨[.ref a], []⟩ [.ref a] [.ref a] _ _ hr e0 (hbind s₁ (.ref a)) (.cons rfl .nil) (hsp H hO hS)) fun r s' h => ?_
    cases r with
    | error e => exact (hCX H e s' h).elim
    | ok fl =>
      cases fl with
      | next => exact False.elim h
      | brk => exact False.elim h
      | cont => exact False.elim h
      | ret u =>
        obtain ⟨v, H', os, bare, un, hok', r', q⟩ := h
        have q' : v = .bl true := q
        subst q'
        obtain rfl : u = Value.bool true := r'
        refine ⟨rfl, OldK.of_keep fun b o e => ?_, os, bare⟩
        cases q : H b with
        | none => exact un.keep b o e q (by intro z; exact absurd (show b ∈ ([] : List Addr) from z) (by simp)) (by simp)
        | some u =>
          rcases hO b with z | ⟨ob, xs, z⟩
          · rw [q] at z; cases z
          · have z2 := un.frzs b ob _ z
            obtain ⟨e1, _⟩ := hok b _ z
            obtain ⟨e2, _⟩ := hok' b _ z2
            rw [e] at e1; cases e1
            exact e2
  cases hk : K.lookup a with
  | some o =>
    -- the script is one of the module's own objects
    have e := KX a o hk
    rw [ha] at e
    cases e
    refine core (fun _ => none) (fun _ => .inl rfl) (.inr ⟨_, vs.toArray, _, hk, rfl, rfl, rfl, by rw [List.size_toArray, lenV]; exact hl, by simpa using rv⟩) (fun b u z => by have z' : (none : Option HO) = some u := z; cases z') (fun b z => absurd rfl z) fun z => absurd rfl z
  | none =>
    refine core (fun b => if b = a then some (.frz { cls := .type "list", data := .seq vs.toArray } (.lst (ns.map V.int))) else none) (fun b => ?_) (.inl (.inr ⟨{ cls := .type "list", data := .seq vs.toArray }, if_pos rfl⟩)) (fun b u z => ?_) (fun b z => ?_) fun _ => hk
    · by_cases hb : b = a
      · exact .inr ⟨_, _, if_pos hb⟩
      · exact .inl (if_neg hb)
    · by_cases hb : b = a
      · have z' := (if_pos hb).symm.trans z
        cases z'
        subst hb
        exact ⟨ha, by rw [List.length_map]; exact hl, vs, _, rv, ha⟩
      · have z' := (if_neg hb).symm.trans z
        cases z'
    · by_cases hb : b = a
      · exact hb
      · exact absurd (if_neg hb) z
end L2

namespace L2
open PySem PySem.Spec PyProof.Rows

/-- the goal that k_head leaves (case hc), from the law's promise. F gives the function object fd (K's own) once, then the promise over every base -/
theorem walk_of {l : PySem.W.OpenLaw} {n k : Nat} {q : Program} {loose : List Str} {XP : (Str → Option Value) → Heap → Prop} {YP : World → Heap → Prop} {d : DefRec} {K : Params → PySem.W.Frag} {CX : World → CXT} {sp : World → Sp} {x : Str}
    (hn : l.most = some n) (hn2 : n ≤ sizeLine) (hdf : d.params.defaults = []) (hr : Room k callerA)
    (hY : ∀ (w : World) (h : Heap), YP w h → (K w.params).In h)
    (F : ∀ (w : World) (mg : Str → Option Value) (fa : Addr) (h : Heap), (K w.params).In h → h.Ns mainGlobals mg → mg d.name = some (.ref fa) →
      ∃ fd : FuncData, (∀ (s : Shared) (u : Value), BindsTo s fd ⟨[u], []⟩ [(x, u)]) ∧
        ∀ base : Heap, (K w.params).In base → base.Ns mainGlobals mg → FnOk l.prog w (K w.params) mg base (CX w) k fa fd [x] (sp w))
    (hsp : ∀ (w : World) (H : Hp) (a : Addr) (ns : List Int), ns.length ≤ n → Only H → SqL (K w.params) H a (ns.map V.int) → sp w [.ref a] H (fun v _ => v = .bl true) fun _ _ _ => False)
    (hCX : ∀ (w : World) (H : Hp) (s : Shared) (e : Value) (s' : Shared), CX w [] H s (fun _ _ _ => False) e s' → False) :
    PySem.W.WalkO q loose XP YP l.row.toRowW d [] (fun f vs => PySem.call f vs) := by
  refine Att.attach_call hn hdf fun w s₀ s₁ mg mb fa o pm cd doc a vs ns G Y ho hd hcd hmg hobj hints hlen hg => ?_
  have KX := hY w _ Y
  obtain ⟨fd, hb, hF⟩ := F w mg fa _ KX G.T.g hmg
  exact law_call KX G.T.g G.T.b G.T.builtins G.T.nolimit hg hobj hints (Nat.le_trans hlen hn2) hr hF hb (fun H hO hS => hsp w H a ns hlen hO hS) fun H e s' => hCX w H s₁ e s'
end L2

/- THE LAST THEOREM (shape; LID, My.* are yours):
   My.Adr: a structure of the addresses that your layer names (classes, functions); My.Txt K t: a structure (Prop) of the equations over K;
   My.txt_mk : {K} {implicit addresses ..} (e1 : nsIn K mainGlobals "law" = some (some (.ref f))) (e2 : K.lookup f = some ⟨oc, od, .func (fnOf "law" "law" params body scope dV kV doc pm an cdv ct), sl⟩) (e3 : codeIn K cdv "law" = true) .. : ∃ t, My.Txt K t

set_option maxRecDepth 100000 in
set_option maxHeartbeats 0 in
theorem PySem.Challenge.cw_LID_holds : PySem.Challenge.rw_LID.Holds := by
  w_on; o_law; k_head; (case hw => w_witness2)
  k_fill
  refine L2.walk_of (l := PySem.Challenge.rw_LID) (n := 63) (k := 40) (x := "script") (CX := fun w => ..) (sp := fun _ => My.sp_law) rfl (by decide) rfl ⟨rfl, by decide, by decide⟩ (fun w h Y => PySem.W.kIn_of Y) ?F ?S ?C
  case F =>
    intro w mg fa h KX G hmg
    have T : ∃ t, My.Txt (L2.KOf KX) t := by
      dsimp only [L2.KOf]                          -- K must stand as «<heap const> w.params» for k_is
      refine' My.txt_mk ?e1 ?e2 ?e3 ..
      (case e1 => PySem.W.k_is)                    -- in the order: a name -> its address -> its object -> its parts
      (case e2 => PySem.W.k_is)
      ..
    obtain ⟨t, T⟩ := T
    have e0 := hmg.symm.trans (PySem.W.mg_of KX G T.law)
    cases e0                                       -- fa is the law's own address
    exact ⟨_, fun s u => .of_eq rfl, fun base kb nb => My.law_fn T kb nb⟩     -- if «.of_eq rfl» comes too early: refine' ⟨_, ?b, fun base kb nb => My.law_fn T kb nb⟩; exact fun s u => .of_eq rfl
  case S => exact fun w H a ns hl hO hS => ..
  case C => exact ..
(the tactic k_is has no namespace: write k_is) -/

/-! SHORT WORDS over the layer: a def of the text, its body, what a loop and a test want. -/
namespace L2
open PySem PySem.Spec PyProof.Rows

/-! ### the text by places -/
def defArgs (s : Stmt) : Arguments := match s with
  | .FunctionDef _ a _ _ _ _ _ _ _ _ => a
  | _ => { posonlyargs := [], args := [], vararg := none, kwonlyargs := [], kw_defaults := [], kwarg := none, defaults := [] }
def defBody (s : Stmt) : List Stmt := match s with
  | .FunctionDef _ _ b _ _ _ _ _ _ _ => b
  | _ => []
def defScope (s : Stmt) : Scope := match s with
  | .FunctionDef _ _ _ _ _ _ sc _ _ _ => sc
  | _ => { kind := .function, names := [], isGenerator := false, isCoroutine := false }

/-! ### no exception leaves a def -/
abbrev CX0 : CXT := fun _ _ _ _ _ _ => False
abbrev E0 : XK := fun _ _ _ => False
theorem pass0 {X : Cx} : Passes CX0 X E0 := fun _ _ _ _ _ _ _ h => h.elim

/-! ### a def (or method) of the text as it stands behind the top -/
section
variable {P : Program} {w : World} {K : PySem.W.Frag} {mg : Str → Option Value} {base : Heap}
end
/-! ### expressions in short: the name that stands in the i-th slot -/
section
variable {X : Cx}
theorem pv (i : Nat) {x : Str} {pos : Pos} (hN : X.N[i]? = some x := by rfl) (hv : Vis X.env.scope x := by first | exact Or.inl rfl | exact Or.inr (Or.inl rfl) | exact Or.inr (Or.inr rfl)) (hd : (x == ("__debug__" : Str)) = false := by decide)
    (hcd : (x == ("__classdict__" : Str)) = false := by decide) : PE X (.Name x pos) (tVar i) := pe_var hN hv hd hcd
end

/-! ### tests -/
theorem iteF {A B : Prop} (h : B) : if false = true then A else B := by
  rw [if_neg Bool.false_ne_true]
  exact h
theorem iteT {A B : Prop} (h : A) : if true = true then A else B := by
  rw [if_pos rfl]
  exact h
/-! ### heaps -/
/-- all that was tracked is as it was -/
def Same (H H' : Hp) : Prop := ∀ b o, H b = some o → H' b = some o
theorem Same.refl (H : Hp) : Same H H := fun _ _ h => h
theorem Same.trans {H H1 H2 : Hp} (a : Same H H1) (b : Same H1 H2) : Same H H2 := fun c o h => b c o (a c o h)
theorem Same.free {H H' : Hp} (e : Same H H') {l : Addr} (h : H' l = Option.none) : H l = Option.none := by
  cases q : H l with
  | none => rfl
  | some o =>
    rw [e l o q] at h
    cases h
theorem Same.seq {K : PySem.W.Frag} {H H' : Hp} {a : Addr} {xs : List V} (e : Same H H') (h : SqL K H a xs) : SqL K H' a xs := by
  rcases h with (h | ⟨o, h⟩) | h
  · exact .inl (.inl (e _ _ h))
  · exact .inl (.inr ⟨o, e _ _ h⟩)
  · exact .inr h

end L2
set_option Elab.async false
set_option linter.all false
set_option maxRecDepth 100000
namespace L2
open PySem PySem.Spec PyProof.Rows
section
variable {X : Cx} {pins : List (Addr × Obj)} {σ : St} {H : Hp} {s : Shared} {h' : Heap}
/-- records of ours have turned, and a new thing was laid -/
theorem Inv.turnedNew {ch : List Addr} {T : Addr} {o : HO} {t' : Nat} (I : Inv X pins σ H s) (hf : ∀ b ∈ ch, FpOk X pins H b) (k : ∀ b u, b ∉ ch → s.heap.get? b = some u → h'.get? b = some u) (hp : s.heap.objs.size ≤ T) (new : ObjOk X.prog X.w (upd H T o) h' T o) :
    Inv X pins σ (upd H T o) { s with heap := h', toks := t' } := by
  have nT : H T = none := I.hok.fresh hp
  have ne : ∀ b u, H b = some u → b ≠ T := fun b u e z => by rw [z, nT] at e; cases e
  have nch : ∀ b u, H b = some u → b ∉ ch := fun b u e z => by rw [(hf b z).1] at e; cases e
  have up : ∀ b u, H b = some u → upd H T o b = some u := fun b u e => by rw [upd_ne (ne b u e)]; exact e
  refine I.step (g' := s.gens) (d' := s.drawn) (ch := ch) (fun b hb => ?_) (fun b u _ _ hc e _ => k b u hc e) (fun b u _ _ hc e _ => ⟨u.slots, k b u hc e⟩) (fun b u _ e n => ?_)
    (fun b u hc e => ⟨u, k b u hc e⟩) (fun b xs e => up b _ e) (fun b u v e => up b _ e) (fun b ps e => ⟨#[], by rw [up b _ e]; simp⟩) (fun m hm => ?_) (fun b u e => ?_) I.bare
  · obtain ⟨f0, f1, f2, f3, f4, f5⟩ := hf b hb
    exact ⟨f3, f1, f4, f5⟩
  · have : b ≠ T := Nat.ne_of_lt (Nat.lt_of_lt_of_le (Heap.lt_size e) hp)
    rw [upd_ne this]
    exact n
  · obtain ⟨u, es, ep, ho, r⟩ := hm
    exact ⟨u, es, ep, k _ u (fun z => (hf _ z).2.1 rfl) ho, r⟩
  · by_cases c : b = T
    · subst c
      rw [upd_same] at e
      cases e
      exact new
    · rw [upd_ne c] at e
      refine (I.hok b u e).stay (fun c' v hc q => k c' v ?_ q) (fun _ q => up _ _ q) fun _ _ q => up _ _ q
      rcases hc with z | z
      · rw [z]; exact nch b u e
      · exact nch c' _ z
theorem Inv.turnedAll {ch : List Addr} {t' : Nat} (I : Inv X pins σ H s) (hf : ∀ b ∈ ch, FpOk X pins H b) (k : ∀ b u, b ∉ ch → s.heap.get? b = some u → h'.get? b = some u) : Inv X pins σ H { s with heap := h', toks := t' } := by
  have nch : ∀ b u, H b = some u → b ∉ ch := fun b u e z => by rw [(hf b z).1] at e; cases e
  refine I.step (g' := s.gens) (d' := s.drawn) (ch := ch) (fun b hb => ?_) (fun b u _ _ hc e _ => k b u hc e) (fun b u _ _ hc e _ => ⟨u.slots, k b u hc e⟩) (fun b u _ e n => n)
    (fun b u hc e => ⟨u, k b u hc e⟩) (fun b xs e => e) (fun b u v e => e) (fun b ps e => ⟨#[], by rw [e]; simp⟩) (fun m hm => ?_) (fun b u e => ?_) I.bare
  · obtain ⟨f0, f1, f2, f3, f4, f5⟩ := hf b hb
    exact ⟨f3, f1, f4, f5⟩
  · obtain ⟨u, es, ep, ho, r⟩ := hm
    exact ⟨u, es, ep, k _ u (fun z => (hf _ z).2.1 rfl) ho, r⟩
  · refine (I.hok b u e).stay (fun c' v hc q => k c' v ?_ q) (fun _ q => q) fun _ _ q => q
    rcases hc with z | z
    · rw [z]; exact nch b u e
    · exact nch c' _ z
end
end L2
set_option Elab.async false
set_option linter.all false
set_option maxRecDepth 100000
namespace L2
open PySem PySem.Spec PyProof.Rows
/-- two lists walked side by side -/
def Itz (K : PySem.W.Frag) (l1 l2 : Addr) : It :=
  ⟨fun i H => ∃ xs ys x y, SqL K H l1 xs ∧ SqL K H l2 ys ∧ xs[i]? = some x ∧ ys[i]? = some y,
   fun i H v H' => ∃ (T : Addr) (x y : V), v = .ref T ∧ H T = none ∧ (∀ xs, SqL K H l1 xs → xs[i]? = some x) ∧ (∀ ys, SqL K H l2 ys → ys[i]? = some y) ∧ H' = upd H T (.tup [x, y]),
   fun i H => ∃ xs ys, SqL K H l1 xs ∧ SqL K H l2 ys ∧ (xs.length ≤ i ∨ ys.length ≤ i)⟩
structure ZipSt (h : Heap) (z TI TO i1 i2 l1 l2 : Addr) (i : Nat) : Prop where
  zip : IsZip h z TI TO .none
  ti : IsPair h TI (.ref i1) (.ref i2)
  to : ∃ a b, IsPair h TO a b
  it1 : h.IsListIter i1 l1 i
  it2 : h.IsListIter i2 l2 i
theorem list_ne {h : Heap} {l b : Addr} {its : Array Value} {o : Obj} {n : String} (hl : h.IsList l its) (e : h.get? b = some o) (c : o.cls = .type n) (ne : n ≠ "list") : l ≠ b := fun z => by
  obtain ⟨o', e', c', _⟩ := hl
  rw [z, e] at e'
  cases e'
  rw [c] at c'
  injection c' with c'
  exact ne c'
theorem ZipSt.apart {h : Heap} {z TI TO i1 i2 l1 l2 : Addr} {i : Nat} {xs ys : Array Value} (st : ZipSt h z TI TO i1 i2 l1 l2 i) (d : [z, TI, TO, i1, i2].Nodup) (h1 : h.IsList l1 xs) (h2 : h.IsList l2 ys) : ZipApart z TI TO i1 i2 l1 l2 := by
  obtain ⟨a, b, eto⟩ := st.to
  obtain ⟨o1, e1, c1, _⟩ := st.it1
  obtain ⟨o2, e2, c2, _⟩ := st.it2
  simp only [List.nodup_cons, List.mem_cons, List.not_mem_nil, or_false, not_or, List.nodup_nil, and_true] at d
  obtain ⟨⟨d1, d2, d3, d4⟩, ⟨d5, d6, d7⟩, ⟨d8, d9⟩, d10, _⟩ := d
  have lz : ∀ {l : Addr} {its : Array Value}, h.IsList l its → l ≠ z ∧ l ≠ TI ∧ l ≠ TO ∧ l ≠ i1 ∧ l ≠ i2 := fun hl => ⟨list_ne hl st.zip rfl (by decide), list_ne hl st.ti rfl (by decide), list_ne hl eto rfl (by decide), list_ne hl e1 c1 (by decide), list_ne hl e2 c2 (by decide)⟩
  obtain ⟨p1, p2, p3, p4, p5⟩ := lz h1
  obtain ⟨q1, q2, q3, q4, q5⟩ := lz h2
  constructor <;> first | assumption | exact Ne.symm (by assumption)
theorem turn_zip {P : Program} {w : World} {K : PySem.W.Frag} {elts : List Expr} {k : Nat} {pos : Pos} (l1 l2 z TI TO i1 i2 : Addr) (d : [z, TI, TO, i1, i2].Nodup) : Turn P w K (.Tuple elts k pos) (Itz K l1 l2) [z, TI, TO, i1, i2] z (fun i h => ZipSt h z TI TO i1 i2 l1 l2 i) where
  mem := by simp
  obj := fun i h st b hb => by
    obtain ⟨a, b', eto⟩ := st.to
    obtain ⟨o1, e1, c1, d1⟩ := st.it1
    obtain ⟨o2, e2, c2, d2⟩ := st.it2
    simp only [List.mem_cons, List.not_mem_nil, or_false] at hb
    rcases hb with q | q | q | q | q <;> subst q
    · exact ⟨_, st.zip, fun v z => by cases z⟩
    · exact ⟨_, st.ti, fun v z => by cases z⟩
    · exact ⟨_, eto, fun v z => by cases z⟩
    · exact ⟨o1, e1, fun v z => by rw [d1] at z; cases z⟩
    · exact ⟨o2, e2, fun v z => by rw [d2] at z; cases z⟩
  keep := fun i h h' st k => ⟨k _ (by simp) _ st.zip, k _ (by simp) _ st.ti, let ⟨a, b, e⟩ := st.to; ⟨a, b, k _ (by simp) _ e⟩, st.it1.at fun o q => k _ (by simp) o q, st.it2.at fun o q => k _ (by simp) o q⟩
  item := by
    intro X hP hw hK hc i pins s σ H E I hf st hg
    subst hP hw hK
    obtain ⟨xs, ys, x, y, hq1, hq2, hx, hy⟩ := hg
    obtain ⟨is1, rv1, p1, hz1⟩ := I.list hq1
    obtain ⟨is2, rv2, p2, hz2⟩ := I.list hq2
    obtain ⟨u, hu, ru⟩ := rv1.get hx
    obtain ⟨v, hv, rv⟩ := rv2.get hy
    have ap := st.apart d p1.isList p2.isList
    obtain ⟨a, b, eto⟩ := st.to
    refine wpAny_pyNext_zip_item ap st.zip st.ti eto st.it1 st.it2 p1.isList p2.isList (x := u) (y := v) (by simpa using hu) (by simpa using hv) fun h1 ho hto hi1 hi2 hT hsz hk => ?_
    refine ⟨_, rfl, wpAny_letOwnedTupleGo_zip (s := { s with heap := h1 }) ho fun h2 hz2' hs2 => ?_⟩
    have nT : H s.heap.objs.size = none := I.hok.fresh (Nat.le_refl _)
    have lt : ∀ b ∈ [z, TI, TO, i1, i2], b < s.heap.objs.size := fun b hb => by
      obtain ⟨o1, e1, _⟩ := st.it1
      obtain ⟨o2, e2, _⟩ := st.it2
      simp only [List.mem_cons, List.not_mem_nil, or_false] at hb
      rcases hb with q | q | q | q | q <;> subst q
      · exact Heap.lt_size st.zip
      · exact Heap.lt_size st.ti
      · exact Heap.lt_size eto
      · exact Heap.lt_size e1
      · exact Heap.lt_size e2
    have zl := lt z (by simp)
    have hT2 : IsPair h2 s.heap.objs.size u v := (hs2.2 _ (Nat.ne_of_gt zl)).trans hT
    have kp : ∀ b o, b ∉ [z, TI, TO, i1, i2] → s.heap.get? b = some o → h2.get? b = some o := fun b o hb q => by
      simp only [List.mem_cons, List.not_mem_nil, or_false, not_or] at hb
      exact (hs2.2 b hb.1).trans (hk b o hb.1 hb.2.2.1 hb.2.2.2.1 hb.2.2.2.2 q)
    have eti : h1.get? TI = some { cls := .type "tuple", data := .seq #[.ref i1, .ref i2] } := hk TI _ ap.TIz ap.TITO ap.TIi1 ap.TIi2 st.ti
    refine ⟨.ref s.heap.objs.size, upd H s.heap.objs.size (.tup [x, y]), I.turnedNew (t' := s.toks) (ch := [z, TI, TO, i1, i2]) hf kp (Nat.le_refl _) ⟨by show 2 ≤ sizeLine; decide, [u, v], .cons ru (.cons rv .nil), ⟨_, hT2, rfl, 0, rfl⟩⟩, rfl,
      ⟨_, x, y, rfl, nT, fun ys hy' => by rw [I.list_inj hy' hq1]; exact hx, fun ys hy' => by rw [I.list_inj hy' hq2]; exact hy, rfl⟩, ⟨hz2', (hs2.2 _ ap.TIz).trans eti, ⟨u, v, (hs2.2 _ ap.TOz).trans hto⟩, hi1.at fun o q => (hs2.2 _ ap.i1z).trans q, hi2.at fun o q => (hs2.2 _ ap.i2z).trans q⟩, fun b hb => ?_⟩
    rw [upd_ne (Nat.ne_of_lt (lt b hb))]
    exact (hf b hb).1
  done := by
    intro X hP hw hK hc i pins s σ H E I hf st hg
    subst hP hw hK
    obtain ⟨xs, ys, hq1, hq2, hx⟩ := hg
    obtain ⟨is1, rv1, p1, hz1⟩ := I.list hq1
    obtain ⟨is2, rv2, p2, hz2⟩ := I.list hq2
    have ap := st.apart d p1.isList p2.isList
    obtain ⟨a, b, eto⟩ := st.to
    have e1 := rv1.length
    have e2 := rv2.length
    refine wpAny_pyNext_zip_end (I.ok.hd hc) ap st.zip st.ti eto st.it1 st.it2 p1.isList p2.isList (by rcases hx with q | q; exact .inl (by simp; omega); exact .inr (by simp; omega)) fun h' hk => ⟨rfl, I.turnedAll (t' := s.toks) (ch := [z, TI, TO, i1, i2]) hf fun b o hb q => ?_⟩
    simp only [List.mem_cons, List.not_mem_nil, or_false, not_or] at hb
    exact hk b o hb.1 hb.2.2.1 hb.2.2.2.1 hb.2.2.2.2 q
  self := fun _ _ _ _ _ st h => wpAny_pyIter_zip st.zip h
theorem nodup5 (n : Nat) : [n + 4, n + 2, n + 3, n, n + 1].Nodup := by
  simp
def iZip (K : PySem.W.Frag) (ta : TA) : TI := fun σ H R => ta σ H fun vs H1 => ∃ l1 l2 : Addr, vs = [.ref l1, .ref l2] ∧ (∃ xs, SqL K H1 l1 xs) ∧ (∃ ys, SqL K H1 l2 ys) ∧ R (Itz K l1 l2) H1
theorem boot_zip : bootBuiltins "zip" = some (.type "zip") := by kernel_rfl
theorem pi_zip {X : Cx} {a b : Expr} {ta : TA} {elts : List Expr} {k : Nat} {tp p pos : Pos} (hg : Gl X "zip") (hm : X.mg "zip" = none) (ha : PA X [a, b] ta) (hs : starEach [a, b] X.env = [(false, eval a X.env), (false, eval b X.env)] := by rfl) (hs2 : starEach [b] X.env = [(false, eval b X.env)] := by rfl) :
    PI X (.Tuple elts k tp) (.Call (.Name "zip" p) [a, b] [] pos) (iZip X.K ta) := by
  intro pins s σ H R I h
  refine Call_ (ld_blt I hg hm boot_zip (PyProof.Rows.callWith_type1 (thn (ha pos pins s σ H _ I h) fun us s1 ⟨vs, H1, I1, r1, q1⟩ => ?_) (by rw [hs, hs2]) (by rw [hs2]; rfl)))
  obtain ⟨l1, l2, e, ⟨xs, hq1⟩, ⟨ys, hq2⟩, q⟩ := q1
  subst e
  cases r1 with
  | cons r rr =>
    cases rr with
    | cons r' rr =>
      cases rr
      cases r
      cases r'
      obtain ⟨is1, rv1, p1, hz1⟩ := I1.list hq1
      obtain ⟨is2, rv2, p2, hz2⟩ := I1.list hq2
      refine call_zip_2 p1.isList p2.isList fun h' hz hti hto hi1 hi2 hsz hk => ?_
      refine wpAny_pyIter_zip (s := { s1 with heap := h' }) hz ?_
      have I2 : Inv X pins σ H1 { s1 with heap := h' } := I1.kept (t' := s1.toks) hk
      refine ⟨s1.heap.objs.size + 4, [s1.heap.objs.size + 4, s1.heap.objs.size + 2, s1.heap.objs.size + 3, s1.heap.objs.size, s1.heap.objs.size + 1], _, _, H1, rfl, I2, turn_zip l1 l2 _ _ _ _ _ (nodup5 _), ⟨hz, hti, ⟨_, _, hto⟩, hi1, hi2⟩, fun b hb => ?_, q⟩
      have bl : s1.heap.objs.size ≤ b := by
        simp only [List.mem_cons, List.not_mem_nil, or_false] at hb
        rcases hb with q | q | q | q | q <;> rw [q] <;> first | exact Nat.le_refl _ | exact Nat.le_add_right _ _
      exact I1.fpOk bl (I1.hok.fresh bl)
/-- over two lists side by side; the body leaves them as they are -/
theorem for_zip {K : PySem.W.Frag} {l1 l2 : Addr} {xs ys : List V} {g : TG} {tb : TS} {D : Ends} {σ : St} {H : Hp} (Pv : Nat → St → Hp → Prop) (h0 : Pv 0 σ H) (hl : ∀ i σ H, i ≤ min xs.length ys.length → Pv i σ H → SqL K H l1 xs ∧ SqL K H l2 ys)
    (hs : ∀ i x y σ H (T : Addr), xs[i]? = some x → ys[i]? = some y → Pv i σ H → H T = none → g (.ref T) σ (upd H T (.tup [x, y])) fun σ2 H2 => tb { D with nx := Pv (i + 1), ct := Pv (i + 1), bk := D.nx } σ2 H2) (hd : ∀ σ H, Pv (min xs.length ys.length) σ H → D.nx σ H) :
    ∃ W : Nat → Nat → St → Hp → Prop, (∃ m, W 0 m σ H) ∧ ∀ i m σ H, W i m σ H →
      ((Itz K l1 l2).stop i H ∧ D.nx σ H) ∨ ((Itz K l1 l2).go i H ∧ ∃ N : St → Hp → Prop, (∀ σ' H', N σ' H' → ∃ m', m' < m ∧ W (i + 1) m' σ' H') ∧ ∀ x H', (Itz K l1 l2).yld i H x H' → g x σ H' fun σ2 H2 => tb { D with nx := N, ct := N, bk := D.nx } σ2 H2) := by
  refine ⟨fun i m σ H => m = min xs.length ys.length - i ∧ i ≤ min xs.length ys.length ∧ Pv i σ H, ⟨min xs.length ys.length, by simp, Nat.zero_le _, h0⟩, ?_⟩
  rintro i m σ H ⟨rfl, hi, p⟩
  obtain ⟨q1, q2⟩ := hl i σ H hi p
  by_cases hlt : i < min xs.length ys.length
  · refine .inr ⟨⟨xs, ys, xs[i]'(by omega), ys[i]'(by omega), q1, q2, List.getElem?_eq_getElem _, List.getElem?_eq_getElem _⟩, Pv (i + 1), fun σ' H' p' => ⟨min xs.length ys.length - (i + 1), by omega, rfl, by omega, p'⟩, fun x H' y => ?_⟩
    obtain ⟨T, a, b, rfl, nT, ha, hb, rfl⟩ := y
    exact hs i a b σ H T (ha xs q1) (hb ys q2) p nT
  · have e : i = min xs.length ys.length := by omega
    subst e
    exact .inl ⟨⟨xs, ys, q1, q2, by omega⟩, hd σ H p⟩
end L2
set_option Elab.async false
set_option linter.all false
set_option maxRecDepth 100000
namespace L2
open PySem PySem.Spec PyProof.Rows
section
variable {X : Cx}
theorem op_mulB : OpR X (binaryOp .Mult) (rI (fun i j => IntMulOk i j) fun i j => .int (i * j)) := opI fun _ _ _ _ _ _ _ hc q => mul_int q hc
theorem op_fdivB : OpR X (binaryOp .FloorDiv) (rI (fun i j => j ≠ 0 ∧ Builtin.divisionGoesByPylong i j = false) fun i j => .int (i.fdiv j)) := opI fun _ _ _ _ _ _ _ hc q => floordiv_int hc.1 q (.inl hc.2)
theorem op_powB : OpR X (binaryOp .Pow) (rI (fun i j => 0 ≤ j ∧ (Builtin.Int.intBits i : Int) * j ≤ 2 ^ 27) fun i j => .int (i ^ j.toNat)) := opI fun _ _ _ _ _ _ _ hc q => pow_int hc.1 hc.2 q
theorem isi_int_int : CallR X (.builtin "isinstance") (fun xs H Q => ∃ i, xs = [.int i, .ty "int"] ∧ Q (.bl true) H) := by
  intro pins s σ H xs us Q I r h
  obtain ⟨i, rfl, q⟩ := h
  obtain ⟨u, w', rfl, ⟨t, rfl⟩, e2⟩ := vals2 r
  cases e2
  exact PySem.call_isinstance (PySem.isinstance_true (Tx := "int") PySem.F.isi_meta_int PySem.F.isi_self_int) ⟨rfl, ⟨.bl true, H, I, rfl, q⟩⟩
theorem isi_int_bool : CallR X (.builtin "isinstance") (fun xs H Q => ∃ i, xs = [.int i, .ty "bool"] ∧ Q (.bl false) H) := by
  intro pins s σ H xs us Q I r h
  obtain ⟨i, rfl, q⟩ := h
  obtain ⟨u, w', rfl, ⟨t, rfl⟩, e2⟩ := vals2 r
  cases e2
  exact PySem.call_isinstance (PySem.isinstance_false_int (T := "bool") (by decide) PySem.F.isi_meta_bool PySem.F.sub_int_bool) ⟨.bl false, H, I.tok _, rfl, q⟩
theorem isi_bl_bool : CallR X (.builtin "isinstance") (fun xs H Q => ∃ i, xs = [.bl i, .ty "bool"] ∧ Q (.bl true) H) := by
  intro pins s σ H xs us Q I r h
  obtain ⟨i, rfl, q⟩ := h
  obtain ⟨u, w', rfl, e1, e2⟩ := vals2 r
  cases e1
  cases e2
  exact PySem.call_isinstance (PySem.isinstance_true (Tx := "bool") PySem.F.isi_meta_bool PySem.F.isi_self_bool) ⟨rfl, ⟨.bl true, H, I, rfl, q⟩⟩
theorem isi_tup_tup : CallR X (.builtin "isinstance") (fun xs H Q => ∃ a ys, xs = [.ref a, .ty "tuple"] ∧ SqT X.K H a ys ∧ Q (.bl true) H) := by
  intro pins s σ H xs us Q I r h
  obtain ⟨a, ys, rfl, hs, q⟩ := h
  obtain ⟨u, w', rfl, e1, e2⟩ := vals2 r
  cases e1
  cases e2
  obtain ⟨its, _, p1, _⟩ := I.tuple hs
  exact PySem.call_isinstance (PySem.isinstance_true (Tx := "tuple") PySem.F.isi_meta_tuple PySem.F.isi_self_tuple) ⟨p1.typeIs, ⟨.bl true, H, I, rfl, q⟩⟩
end
end L2
set_option Elab.async false
set_option linter.all false
set_option maxRecDepth 100000
namespace Sw
open PySem
/-! ### sizes -/
/-! ### divisors -/
/-! ### fractions -/
end Sw
set_option Elab.async false
set_option linter.all false
set_option maxRecDepth 100000
namespace L2
open PySem
inductive Isi (K : PySem.W.Frag) (H : Hp) : V → String → Bool → Prop where
  | ii (i : Int) : Isi K H (.int i) "int" true
  | ib (i : Int) : Isi K H (.int i) "bool" false
  | bb (b : Bool) : Isi K H (.bl b) "bool" true
  | tt (a : Addr) (ys : List V) (h : SqT K H a ys) : Isi K H (.ref a) "tuple" true
theorem call_isi {X : Cx} : CallR X (.builtin "isinstance") (fun xs H Q => ∃ x T b, xs = [x, .ty T] ∧ Isi X.K H x T b ∧ Q (.bl b) H) := by
  intro pins s σ H xs us Q I r h
  obtain ⟨x, T, b, rfl, i, q⟩ := h
  cases i with
  | ii i => exact isi_int_int pins s σ H _ us Q I r ⟨i, rfl, q⟩
  | ib i => exact isi_int_bool pins s σ H _ us Q I r ⟨i, rfl, q⟩
  | bb i => exact isi_bl_bool pins s σ H _ us Q I r ⟨i, rfl, q⟩
  | tt a ys h => exact isi_tup_tup pins s σ H _ us Q I r ⟨a, ys, rfl, h, q⟩
end L2
namespace Sw
open PySem L2
theorem dT {p A B : Prop} [Decidable p] (h : p) (a : A) : if decide p = true then A else B := by rw [if_pos (decide_eq_true h)]; exact a
theorem dF {p A B : Prop} [Decidable p] (h : ¬ p) (b : B) : if decide p = true then A else B := by rw [if_neg (by simp [h])]; exact b
theorem d2 {p A B : Prop} [Decidable p] (h1 : p → A) (h2 : ¬ p → B) : if decide p = true then A else B := by
  by_cases h : p
  · exact dT h (h1 h)
  · exact dF h (h2 h)
theorem nF {p A B : Prop} [Decidable p] (h : p) (b : B) : if (!decide p) = true then A else B := by rw [if_neg (by simp [h])]; exact b
theorem vi {a b : Int} (h : a = b) : V.int a = V.int b := by rw [h]
theorem nFI {a b : Int} {A B : Prop} (h : a = b) (x : B) : if (!decide (V.int a = V.int b)) = true then A else B := nF (vi h) x
section
variable {X : Cx} {k j : Nat} {x : Str} {ps : List Str} {sp : Sp} {p pos : Pos} {e : Expr} {es : List Expr} {t : TA}
end
/-! ### promises -/
def spCell (K : PySem.W.Frag) : Sp := fun vs H Q _ => ∃ (a : Addr) (ns : List Int) (k : Int), vs = [.ref a, .int k] ∧ SqL K H a (ns.map V.int) ∧ 0 ≤ k ∧ ∀ v : Int, Q (.int v) H
def spWhole : Sp := fun vs H Q _ => ∃ v : Int, vs = [.int v] ∧ Q (.bl true) H
def spLaw (K : PySem.W.Frag) : Sp := fun vs H Q _ => ∃ (a : Addr) (ns : List Int), vs = [.ref a] ∧ SqL K H a (ns.map V.int) ∧ ns.length ≤ 63 ∧ ∀ H', Q (.bl true) H'
theorem cell_ok {ns : List Int} {k : Int} (h0 : 0 ≤ k) (h : k < (((ns.map V.int).length : Nat) : Int)) : ∃ v : Int, atI (ns.map V.int) k = some (.int v) := by
  rw [List.length_map] at h
  have hk : k.toNat < ns.length := by omega
  have ek : k = ((k.toNat : Nat) : Int) := by omega
  have q : atI (ns.map V.int) ((k.toNat : Nat) : Int) = some (.int ns[k.toNat]) := atI_nat (by rw [List.getElem?_map, List.getElem?_eq_getElem hk] <;> rfl)
  rw [← ek] at q
  exact ⟨_, q⟩
end Sw
set_option Elab.async false
set_option linter.all false
set_option maxRecDepth 100000
namespace Sw
open PySem L2
theorem cut {t u : TS} {D : Ends} {σ : L2.St} {H : Hp} (I : L2.St → Hp → Prop) (h1 : ∀ N : L2.St → Hp → Prop, (∀ σ H, I σ H → N σ H) → t { D with nx := N } σ H) (h2 : ∀ σ H, I σ H → u D σ H) : tSeq t u D σ H := h1 _ h2
theorem same_new {H : Hp} {p : Addr} (h : H p = none) (o : HO) : Same H (upd H p o) := fun b u q => by rw [upd_ne (ne_of_none q h)]; exact q
end Sw
set_option Elab.async false
set_option linter.all false
set_option maxRecDepth 100000
namespace Sw
open PySem L2
structure FunD (K : PySem.W.Frag) (x qual : Str) (st : Stmt) (dV : Value) (f : Addr) (fd : FuncData) : Prop where
  ex : ∃ (oc : Value) (od : Option Addr) (kV doc pm : Value) (an : Option Addr) (cdv ct : Value) (osl : Array (Option Value)),
    fd = PySem.W.fnOf x qual (defArgs st) (defBody st) (defScope st) dV kV doc pm an cdv ct ∧ K.lookup f = some ⟨oc, od, .func fd, osl⟩ ∧ PySem.W.codeIn K cdv qual = true
  kp : PySem.W.keepIn K (.ref f) = true
section
variable {P : Program} {w : World} {K : PySem.W.Frag} {mg : Str → Option Value} {base : Heap}
theorem FunD.ok {x qual : Str} {st : Stmt} {dV : Value} {f : Addr} {fd : FuncData} {N ps : List Str} {k : Nat} {sp : Sp} (F : FunD K x qual st dV f fd) (S : FnScope N ps (defScope st)) (len : ∀ vs H Q E, sp vs H Q E → vs.length = ps.length)
    (hbody : ∀ (cdv : Value) (A : Around) (outer : List Env) (s : Shared) (H : Hp) (vs : List V) (Q : VK) (E : XK), Room k (A.deeper (PyProof.Rows.envOfC qual (defScope st) s.heap.objs.size f cdv)) → sp vs H Q E →
      ∃ t, PSs (cxOf CX0 P w K mg base N qual (defScope st) f cdv A outer s H E).nox (defBody st) t ∧ t { nx := fun _ H' => Q .non H', rt := Q } (start N vs) H) : FnOk P w K mg base CX0 (k + 1) f fd ps sp := by
  obtain ⟨oc, od, kV, doc, pm, an, cdv, ct, osl, rfl, lk, hcd⟩ := F.ex
  refine fn_of lk hcd S len fun A outer s H vs Q E hr hsp => ?_
  obtain ⟨t, h, q⟩ := hbody cdv A outer s H vs Q E hr hsp
  exact ⟨t, h.nox, q⟩
theorem FunD.binds {x qual : Str} {st : Stmt} {T : Addr} {f : Addr} {fd : FuncData} {ps : List Str} {o : Obj} {items : Array Value} {n : Nat} {ds : List Value} (F : FunD K x qual st (.ref T) f fd) (ho : K.lookup T = some o) (hs : o.data = .seq items n)
    (h : ∀ (kV doc pm : Value) (an : Option Addr) (cdv ct : Value) (us : List Value), (us ++ ds).length = ps.length → ∃ k : Option (Array Value) → Sem (List (Str × Value)), bindArgs (PySem.W.fnOf x qual (defArgs st) (defBody st) (defScope st) (.ref T) kV doc pm an cdv ct) ⟨us, []⟩ = seqItems? (.ref T) >>= k ∧ k (some items) = pure (ps.zip (us ++ ds))) : Binds K fd ps ds := by
  obtain ⟨oc, od, kV, doc, pm, an, cdv, ct, osl, rfl, lk, hcd⟩ := F.ex
  intro s us KX hl
  obtain ⟨k, h1, h2⟩ := h kV doc pm an cdv ct us hl
  exact PySem.W.binds_K KX rfl ho hs h1 h2
theorem FunD.binds0 {x qual : Str} {st : Stmt} {dV : Value} {f : Addr} {fd : FuncData} {ps : List Str} (F : FunD K x qual st dV f fd)
    (h : ∀ (kV doc pm : Value) (an : Option Addr) (cdv ct : Value) (us : List Value), us.length = ps.length → bindArgs (PySem.W.fnOf x qual (defArgs st) (defBody st) (defScope st) dV kV doc pm an cdv ct) ⟨us, []⟩ = pure (ps.zip us)) : Binds K fd ps [] := by
  obtain ⟨oc, od, kV, doc, pm, an, cdv, ct, osl, rfl, lk, hcd⟩ := F.ex
  exact .all (h kV doc pm an cdv ct)
theorem funD_mk {x qual : Str} {st : Stmt} {f : Addr} {oc dV : Value} {od an : Option Addr} {osl : Array (Option Value)} {kV doc pm cdv ct : Value} (l : K.lookup f = some ⟨oc, od, .func (PySem.W.fnOf x qual (defArgs st) (defBody st) (defScope st) dV kV doc pm an cdv ct), osl⟩)
    (c : PySem.W.codeIn K cdv qual = true) (k : PySem.W.keepIn K (.ref f) = true) : FunD K x qual st dV f (PySem.W.fnOf x qual (defArgs st) (defBody st) (defScope st) dV kV doc pm an cdv ct) := ⟨⟨oc, od, kV, doc, pm, an, cdv, ct, osl, rfl, l, c⟩, k⟩
end
section
variable {X : Cx} {k j : Nat} {x : Str} {ps : List Str} {sp : Sp} {p pos : Pos} {e : Expr} {es : List Expr} {t : TA} {dvs : List V}
end
/-! ### the mathematics of sums -/
end Sw
set_option Elab.async false
set_option linter.all false
set_option maxRecDepth 100000
namespace XH
open PySem
/-! ### what a frame's note and the flight of an exception change -/
structure Mv (fs ch : List Addr) (h h' : Heap) : Prop where
  keep : ∀ b o, b ∉ fs → b ∉ ch → h.get? b = some o → h'.get? b = some o
  slot : ∀ b o, b ∈ fs → b ∉ ch → h.get? b = some o → ∃ sl, h'.get? b = some { o with slots := sl }
  there : ∀ b o, h.get? b = some o → ∃ o', h'.get? b = some o'
theorem Mv.refl (fs ch : List Addr) (h : Heap) : Mv fs ch h h := ⟨fun _ _ _ _ q => q, fun _ o _ _ q => ⟨o.slots, q⟩, fun _ o q => ⟨o, q⟩⟩
theorem Mv.trans {fs c1 c2 ch : List Addr} {h h1 h2 : Heap} (x : Mv fs c1 h h1) (y : Mv fs c2 h1 h2) (k1 : ∀ b, b ∈ c1 → b ∈ ch) (k2 : ∀ b, b ∈ c2 → b ∈ ch) : Mv fs ch h h2 where
  keep := fun b o hf hc q => y.keep b o hf (fun z => hc (k2 b z)) (x.keep b o hf (fun z => hc (k1 b z)) q)
  slot := fun b o hf hc q => by
    obtain ⟨sl, q1⟩ := x.slot b o hf (fun z => hc (k1 b z)) q
    obtain ⟨sl2, q2⟩ := y.slot b _ hf (fun z => hc (k2 b z)) q1
    exact ⟨sl2, q2⟩
  there := fun b o q => by
    obtain ⟨o1, q1⟩ := x.there b o q
    exact y.there b o1 q1
/-- the note in an exception's traceback: none yet, or an entry in such a flight -/
inductive XSt where
  | new
  | fl (v : Value)
def XSt.Is (F : Addr → Prop) (h : Heap) (e : Addr) (vs : Array Value) : XSt → Prop
  | .new => vs[1]? = some .none
  | .fl v => ∃ T oT ts, vs[1]? = some (.ref T) ∧ F T ∧ T ≠ e ∧ h.get? T = some oT ∧ oT.data = .fields ts ∧ ts[3]? = some v
/-- room for its entries, and it came with no other one handled -/
def Fz (vs : Array Value) : Prop := 1 < vs.size ∧ vs[2]? = some .none
theorem Fz.set {vs : Array Value} (h : Fz vs) (v : Value) : Fz (vs.setIfInBounds 1 v) := ⟨by simpa using h.1, by rw [Array.getElem?_setIfInBounds]; simp [h.2]⟩
structure XO (F : Addr → Prop) (h : Heap) (e : Addr) (cls : Value) (dx : Option Addr) (st : XSt) : Prop where
  ex : ∃ oe vs, h.get? e = some oe ∧ oe.cls = cls ∧ oe.dict = dx ∧ oe.data = .fields vs ∧ Fz vs ∧ st.Is F h e vs
  fr : F e
theorem XO.mono {F G : Addr → Prop} {h : Heap} {e : Addr} {cls : Value} {dx : Option Addr} {st : XSt} (x : XO F h e cls dx st) (k : ∀ b, F b → G b) : XO G h e cls dx st := by
  obtain ⟨⟨oe, vs, a, b, c, d, f, g⟩, fr⟩ := x
  refine ⟨⟨oe, vs, a, b, c, d, f, ?_⟩, k _ fr⟩
  cases st with
  | new => exact g
  | fl v =>
    obtain ⟨T, oT, ts, g1, g2, g3⟩ := g
    exact ⟨T, oT, ts, g1, k _ g2, g3⟩
theorem mapf_dict (o : Obj) (f : Array Value → Array Value) : (o.mapFields f).dict = o.dict := by
  obtain ⟨c, d, dt, sl⟩ := o
  cases dt <;> rfl
section
variable {M : Model} {A : Around} {E : Value → Shared → Prop} {s : Shared}
theorem entry_ok {base : Heap} {env : Env} {outer : List Env} {L e : Addr} {oe : Obj} {vs : Array Value} {head : Value} {had : Bool} {Q : Unit → Shared → Prop}
    (hfr : A.frames = some (env :: outer)) (hl : s.heap.FunFrames base (env :: outer)) (hf : env.frame = some L) (he : s.heap.get? e = some oe) (hd : oe.data = .fields vs) (hsz : 1 < vs.size)
    (h : ∀ h' T, Mv ((env :: outer).filterMap (·.frame)) [e] s.heap h' → s.heap.get? T = none → T ≠ e → h'.get? e = some (oe.mapFields (·.setIfInBounds 1 (.ref T))) →
      (∃ oT ts, h'.get? T = some oT ∧ oT.data = .fields ts ∧ ts[3]? = some (rawInt L)) → Q () { s with heap := h' }) :
    wpAny M A (do let a ← frameOf env; let pl ← entryPlaceOf L had; let b ← EntryCells.newEntry head a .none (rawInt L) .none pl; setField (.ref e) 1 b) Q E s := by
  have hne : e ∉ (env :: outer).filterMap (·.frame) := by
    intro hm
    obtain ⟨_, o, ho, hnf⟩ := hl.mem hm
    rw [he] at ho
    cases ho
    exact hnf vs hd
  apply wpAny_bind
  apply wpAny_frameOf_fun hfr hl hf
  intro h1 hs
  apply wpAny_bind
  apply wpAny_entryPlaceOf
  intro pl hpl
  unfold EntryCells.newEntry newFields
  apply wpAny_bind
  refine wpAny_newObj_type ?_ (hpl.sizeOk5 ..)
  have e1 : h1.get? e = some oe := (hs.2.1 e hne).trans he
  generalize hob : ({ cls := .type "traceback", dict := none, data := .fields ([head, .ref L, .none, rawInt L, .none] ++ (if pl.isEmpty then List.replicate 6 Value.none else pl)).toArray } : Obj) = ob
  have e2 := Heap.get?_push_of_some (h := h1) ob e1
  refine wpAny_setField e2 hd hsz ?_
  have hTe : h1.objs.size ≠ e := Nat.ne_of_gt (Heap.lt_size e1)
  have d3 := Obj.data_mapFields hd (·.setIfInBounds 1 (Value.ref h1.objs.size))
  have e3 := Heap.get?_update_self (Obj.mapFields (·.setIfInBounds 1 (Value.ref h1.objs.size))) e2 (Obj.isFreed_of_fields d3)
  have kp : ∀ b o, b ≠ e → h1.get? b = some o → ((h1.push ob).update e (Obj.mapFields (·.setIfInBounds 1 (Value.ref h1.objs.size)))).get? b = some o := by
    intro b o hb q
    rw [Heap.get?_update_other _ _ (Ne.symm hb)]
    exact Heap.get?_push_of_some _ q
  have t3 : ((h1.push ob).update e (Obj.mapFields (·.setIfInBounds 1 (Value.ref h1.objs.size)))).get? h1.objs.size = some ob := by
    rw [Heap.get?_update_other _ _ (Ne.symm hTe)]
    exact Heap.get?_push_size h1 (by rw [← hob]; rfl)
  refine h _ h1.objs.size ⟨?_, ?_, ?_⟩ ?_ hTe e3 ?_
  · intro b o hb hc q
    exact kp b o (fun z => hc (by rw [z]; exact List.mem_singleton.mpr rfl)) ((hs.2.1 b hb).trans q)
  · intro b o hb hc q
    obtain ⟨sl, q1⟩ := hs.2.2 b o q
    exact ⟨sl, kp b _ (fun z => hc (by rw [z]; exact List.mem_singleton.mpr rfl)) q1⟩
  · intro b o q
    by_cases hb : b = e
    · subst hb
      exact ⟨_, e3⟩
    · obtain ⟨sl, q1⟩ := hs.2.2 b o q
      exact ⟨_, kp b _ hb q1⟩
  · exact Heap.get?_none_of_le (by rw [hs.1]; exact Nat.le_refl _)
  · subst hob
    refine ⟨_, _, t3, rfl, ?_⟩
    rcases hpl with rfl | ⟨_, _, _, _, _, _, _, rfl⟩ <;> simp
theorem flight_ok {F : Addr → Prop} {e : Addr} {cls v : Value} {dx fl : Option Addr} {Q : Unit → Shared → Prop} (x : XO F s.heap e cls dx (.fl v))
    (h : ∀ h' T, F T → Mv [] [T] s.heap h' → XO F h' e cls dx (.fl (fl.elim .none fun f => rawInt f)) → Q () { s with heap := h' }) : wpAny M A (setFlight (.ref e) fl) Q E s := by
  obtain ⟨⟨oe, vs, he, hc, hdx, hd, hsz, T, oT, ts, h1, hF, hTe, hT, hdT, h3⟩, fr⟩ := x
  have z3 : 3 < ts.size := (Array.getElem?_eq_some_iff.mp h3).1
  have oth : ∀ b, b ≠ T → (s.heap.update T (Obj.mapFields (·.setIfInBounds 3 (fl.elim Value.none fun f => rawInt f)))).get? b = s.heap.get? b := fun b hb => Heap.get?_update_other _ _ (Ne.symm hb)
  have t4 := Heap.get?_update_self (Obj.mapFields (·.setIfInBounds 3 (fl.elim Value.none fun f => rawInt f))) hT (Obj.isFreed_of_fields (Obj.data_mapFields hdT _))
  unfold setFlight
  apply wpAny_bind
  apply wpAny_field he hd h1
  rw [if_pos (by simp)]
  apply wpAny_setField hT hdT z3
  refine h _ T hF ⟨?_, fun b o hb => absurd hb (by simp), ?_⟩ ⟨⟨oe, vs, (oth e (Ne.symm hTe)).trans he, hc, hdx, hd, hsz, T, _, _, h1, hF, hTe, t4, Obj.data_mapFields hdT _, by simp [z3]⟩, fr⟩
  · intro b o _ hb q
    exact (oth b (fun z => hb (by rw [z]; exact List.mem_singleton.mpr rfl))).trans q
  · intro b o q
    by_cases hb : b = T
    · subst hb
      exact ⟨_, t4⟩
    · exact ⟨o, (oth b hb).trans q⟩
theorem note_ok {F : Addr → Prop} {base : Heap} {env : Env} {outer : List Env} {L e : Addr} {cls : Value} {dx : Option Addr} {st : XSt} {Q : Unit → Shared → Prop}
    (hfr : A.frames = some (env :: outer)) (hl : s.heap.FunFrames base (env :: outer)) (hf : env.frame = some L) (x : XO F s.heap e cls dx st)
    (h : ∀ h' ch, (∀ b ∈ ch, F b) → Mv ((env :: outer).filterMap (·.frame)) ch s.heap h' → XO (fun b => F b ∨ s.heap.get? b = none) h' e cls dx (.fl (rawInt L)) → Q () { s with heap := h' }) : wpAny M A (noteFrame (.ref e) env) Q E s := by
  obtain ⟨⟨oe, vs, he, hc, hdx, hd, hsz, hst⟩, fr⟩ := x
  unfold noteFrame
  simp only [hf]
  cases st with
  | new =>
    apply wpAny_bind
    apply wpAny_field he hd hst
    rw [if_neg (by decide)]
    refine entry_ok hfr hl hf he hd hsz.1 fun h' T mv tn tne he' ⟨oT, ts, hT, hdT, h3⟩ => ?_
    refine h h' [e] (fun b hb => by rw [List.mem_singleton.mp hb]; exact fr) mv ⟨⟨_, _, he', ?_, ?_, Obj.data_mapFields hd _, hsz.set _, T, oT, ts, by simp [hsz.1], .inr tn, tne, hT, hdT, h3⟩, .inl fr⟩
    · rw [Obj.cls_mapFields]; exact hc
    · rw [mapf_dict]; exact hdx
  | fl v =>
    obtain ⟨T, oT, ts, h1, hF, hTe, hT, hdT, h3⟩ := hst
    have z3 : 3 < ts.size := (Array.getElem?_eq_some_iff.mp h3).1
    apply wpAny_bind
    apply wpAny_field he hd h1
    rw [if_pos (by simp)]
    apply wpAny_bind
    apply wpAny_field hT hdT h3
    by_cases hv : (v == rawInt L) = true
    · rw [if_pos hv]
      have ev : v = rawInt L := beq_iff_eq.mp hv
      subst ev
      refine wpAny_pure (h s.heap [] (fun b hb => absurd hb (by simp)) (.refl ..) ⟨⟨oe, vs, he, hc, hdx, hd, hsz, T, oT, ts, h1, .inl hF, hTe, hT, hdT, h3⟩, .inl fr⟩)
    · rw [if_neg hv]
      apply wpAny_bind
      apply wpAny_setField hT hdT z3
      have oth : ∀ b, b ≠ T → (s.heap.update T (Obj.mapFields (·.setIfInBounds 3 Value.none))).get? b = s.heap.get? b := fun b hb => Heap.get?_update_other _ _ (Ne.symm hb)
      have t4 := Heap.get?_update_self (Obj.mapFields (·.setIfInBounds 3 Value.none)) hT (Obj.isFreed_of_fields (Obj.data_mapFields hdT _))
      have nrec : ∀ b o, s.heap.get? b = some o → (∀ vs, o.data ≠ .fields vs) → b ≠ T := by
        intro b o hb hn z
        rw [z, hT] at hb
        cases hb
        exact hn ts hdT
      have mv1 : Mv ((env :: outer).filterMap (·.frame)) [T] s.heap (s.heap.update T (Obj.mapFields (·.setIfInBounds 3 Value.none))) := by
        refine ⟨fun b o _ hb q => (oth b (fun z => hb (by rw [z]; exact List.mem_singleton.mpr rfl))).trans q, fun b o _ hb q => ⟨o.slots, (oth b (fun z => hb (by rw [z]; exact List.mem_singleton.mpr rfl))).trans q⟩, fun b o q => ?_⟩
        by_cases hb : b = T
        · subst hb
          exact ⟨_, t4⟩
        · exact ⟨o, (oth b hb).trans q⟩
      refine entry_ok (s := { s with heap := s.heap.update T (Obj.mapFields (·.setIfInBounds 3 Value.none)) }) hfr (hl.of_keeps fun b o hb hn => ⟨o, (oth b (nrec b o hb hn)).trans hb, rfl⟩) hf ((oth e (Ne.symm hTe)).trans he) hd hsz.1 fun h' T2 mv tn tne he' ⟨oT2, ts2, hT2, hdT2, h32⟩ => ?_
      refine h h' [T, e] ?_ (mv1.trans mv (fun b hb => by simp at hb; simp [hb]) (fun b hb => by simp at hb; simp [hb])) ⟨⟨_, _, he', ?_, ?_, Obj.data_mapFields hd _, hsz.set _, T2, oT2, ts2, by simp [hsz.1], .inr ?_, tne, hT2, hdT2, h32⟩, .inl fr⟩
      · intro b hb
        simp at hb
        rcases hb with rfl | rfl
        · exact hF
        · exact fr
      · rw [Obj.cls_mapFields]; exact hc
      · rw [mapf_dict]; exact hdx
      · cases q : s.heap.get? T2 with
        | none => rfl
        | some o =>
          obtain ⟨o', q'⟩ := mv1.there T2 o q
          rw [q'] at tn
          cases tn
end
end XH
set_option Elab.async false
set_option linter.all false
set_option maxRecDepth 100000
namespace L2
open PySem PySem.Spec PyProof.Rows XH
/-! ### an exception behind a call, in flight: it and its notes are untracked, and were not there ahead of the call -/
structure CXat (P : Program) (w : World) (outer : List Env) (H : Hp) (s : Shared) (a : Addr) (H' : Hp) (cls : Value) (dx : Option Addr) (st : XSt) (s' : Shared) : Prop where
  os : s'.os = s.os
  bare : AllBare s'.gens
  un : Un (frs outer) [] H H' s.heap s'.heap
  hok : HOk P w H' s'.heap
  xo : XO (fun b => s.heap.get? b = none ∧ H' b = none) s'.heap a cls dx st
def CX1 (P : Program) (w : World) : CXT := fun outer H s E e s' => ∃ a H' cls dx st, e = .ref a ∧ CXat P w outer H s a H' cls dx st s' ∧ E cls dx H'
section
variable {P : Program} {w : World} {H H' : Hp} {h h' h0 : Heap} {fs ch : List Addr} {a : Addr} {o : HO}
theorem ObjOk.there (x : ObjOk P w H h a o) : ∃ u, h.get? a = some u := by
  cases o with
  | lst xs => obtain ⟨_, _, _, _, e⟩ := x; exact ⟨_, e⟩
  | tup xs => obtain ⟨_, _, _, _, e, _⟩ := x; exact ⟨_, e⟩
  | dK kvs => obtain ⟨_, _, _, _, _, _, _, e, _⟩ := x; exact ⟨_, e⟩
  | dT kvs => obtain ⟨_, _, _, _, _, _, _, e, _⟩ := x; exact ⟨_, e⟩
  | set S n => obtain ⟨_, _, _, _, e, _⟩ := x; exact ⟨_, e⟩
  | ins C dx fs => obtain ⟨_, _, _, e, _⟩ := x; exact ⟨_, e⟩
  | own y => exact x
  | xd fs => obtain ⟨_, ⟨_, _, _, e, _⟩, _⟩ := x; exact ⟨_, e⟩
  | rng lo hi => obtain ⟨_, _, _, e⟩ := x; exact ⟨_, e⟩
  | frz ob u => obtain ⟨e, _⟩ := x; exact ⟨_, e⟩
  | tbl ps => exact ⟨_, show h.get? a = some _ from x⟩
  | met f y => exact ⟨_, show h.get? a = some _ from x⟩
  | ext φ => obtain ⟨_, ⟨_, e⟩, _⟩ := x; exact ⟨_, e⟩
theorem HOk.none_of (k : HOk P w H h) (q : h.get? a = none) : H a = none := by
  cases r : H a with
  | none => rfl
  | some o =>
    obtain ⟨u, e⟩ := (k a o r).there
    rw [q] at e
    cases e
theorem un_mv (u : Un fs [] H H' h0 h) (m : Mv fs ch h h') (hc : ∀ b ∈ ch, h0.get? b = none) : Un fs [] H H' h0 h' where
  keep := fun b o q n hb hx => m.keep b o hb (fun z => by rw [hc b z] at q; cases q) (u.keep b o q n hb hx)
  slot := fun b o q n hb hx => by
    obtain ⟨sl, q1⟩ := u.slot b o q n hb hx
    obtain ⟨sl2, q2⟩ := m.slot b _ hb (fun z => by rw [hc b z] at q; cases q) q1
    exact ⟨sl2, q2⟩
  free := u.free
  there := fun b o q hx => by
    obtain ⟨o1, q1⟩ := u.there b o q hx
    exact m.there b o1 q1
  tups := u.tups
  frzs := u.frzs
  tbls := u.tbls
theorem hok_mv (k : HOk P w H h) (m : Mv fs ch h h') (hc : ∀ b ∈ ch, H b = none) (hf : ∀ b ∈ fs, H b = none) : HOk P w H h' := fun a o e =>
  (k a o e).stay (fun b u hb q => by
    have t : H b ≠ none := by
      rcases hb with z | z
      · rw [z, e]; exact fun y => nomatch y
      · rw [z]; exact fun y => nomatch y
    exact m.keep b u (fun z => t (hf b z)) (fun z => t (hc b z)) q) (fun _ q => q) fun _ _ q => q
theorem _root_.XH.Mv.wider (m : Mv [] ch h h') : Mv fs ch h h' := ⟨fun b o _ hc q => m.keep b o (by simp) hc q, fun b o _ hc q => ⟨o.slots, m.keep b o (by simp) hc q⟩, m.there⟩
theorem funs_un {base : Heap} (u : Un fs [] H H' h h') : ∀ {l : List Env}, h.FunFrames base l → (∀ b ∈ frs l, b ∈ fs ∧ H b = none) → h'.FunFrames base l
  | [], _, _ => trivial
  | env :: r, ⟨hk, ⟨L, o, hf, hn, ho, hd⟩, hr⟩, hs => by
    have hL : L ∈ frs (env :: r) := by unfold frs; rw [List.filterMap_cons, hf]; exact List.mem_cons_self
    obtain ⟨sl, e⟩ := u.slot L o ho (hs L hL).2 (hs L hL).1 (by simp)
    exact ⟨hk, ⟨L, _, hf, hn, e, hd⟩, funs_un u hr fun b hb => hs b (by unfold frs; rw [List.filterMap_cons, hf]; exact List.mem_cons_of_mem _ hb)⟩
end
section
variable {P : Program} {w : World} {H H' : Hp} {s s' : Shared} {a L : Addr} {cls v : Value} {dx : Option Addr} {st : XSt} {env : Env} {outer : List Env} {base : Heap} {M : Model} {A : Around} {Z : Value → Shared → Prop} {Q : Unit → Shared → Prop}
theorem CXat.frees (c : CXat P w outer H s a H' cls dx st s') (hl : s.heap.FunFrames base outer) (hH : ∀ b ∈ frs outer, H b = none) : ∀ b ∈ frs outer, H' b = none := fun b hb => by
  obtain ⟨_, o, ho, _⟩ := hl.mem hb
  exact c.un.free b o ho (hH b hb) (by simp)
theorem CXat.note (c : CXat P w (env :: outer) H s a H' cls dx st s') (hfr : A.frames = some (env :: outer)) (hf : env.frame = some L) (hl : s.heap.FunFrames base (env :: outer)) (hH : ∀ b ∈ frs (env :: outer), H b = none)
    (h : ∀ s'', CXat P w (env :: outer) H s a H' cls dx (.fl (rawInt L)) s'' → Q () s'') : wpAny M A (noteFrame (.ref a) env) Q Z s' := by
  refine note_ok hfr (funs_un c.un hl fun b hb => ⟨hb, hH b hb⟩) hf c.xo fun h' ch hch mv x => h _ ?_
  refine ⟨c.os, c.bare, un_mv c.un mv fun b hb => (hch b hb).1, hok_mv c.hok mv (fun b hb => (hch b hb).2) (c.frees hl hH), x.mono ?_⟩
  rintro b (q | q)
  · exact q
  · refine ⟨?_, c.hok.none_of q⟩
    cases r : s.heap.get? b with
    | none => rfl
    | some o =>
      obtain ⟨o', r'⟩ := c.un.there b o r (by simp)
      rw [r'] at q
      cases q
theorem CXat.flight {fl : Option Addr} (c : CXat P w outer H s a H' cls dx (.fl v) s') (hl : s.heap.FunFrames base outer) (hH : ∀ b ∈ frs outer, H b = none)
    (h : ∀ s'', CXat P w outer H s a H' cls dx (.fl (fl.elim .none fun f => rawInt f)) s'' → Q () s'') : wpAny M A (setFlight (.ref a) fl) Q Z s' := by
  refine flight_ok c.xo fun h' T hT mv x => h _ ⟨c.os, c.bare, un_mv c.un mv.wider fun b hb => ?_, hok_mv c.hok (mv.wider (fs := frs outer)) (fun b hb => ?_) (c.frees hl hH), x⟩
  · rw [List.mem_singleton.mp hb]; exact hT.1
  · rw [List.mem_singleton.mp hb]; exact hT.2
end
/-- what is wanted of an exception in a body: E speaks of the names, its class, its dict, the heap -/
def XS (X : Cx) (E : St → XK) : Value → Shared → Prop := fun e s' => ∃ σ H0 s0, Inv X [] σ H0 s0 ∧ CX1 X.prog X.w X.stack H0 s0 (E σ) e s'
def PassX (X : Cx) (E : St → XK) : Prop := ∀ (pins : List (Addr × Obj)) (σ : St) (H : Hp) (s : Shared) (e : Value) (s' : Shared), Inv X pins σ H s → CX1 X.prog X.w X.stack H s (E σ) e s' → X.xe e s'
theorem passX {X : Cx} {E : St → XK} : PassX (X.wish (XS X E)) E := fun pins σ H s e s' I c => ⟨σ, H, s, I.unwish.pins_of (fun p hp => absurd hp (by simp)), c⟩
def tCallX (sp : Sp) (dvs : List V) (E : St → XK) (t : TA) : TE := fun σ H Q => t σ H fun vs H1 => sp (vs ++ dvs) H1 Q (E σ)
section
variable {X : Cx} {k : Nat} {f C : Addr} {fd : FuncData} {ps : List Str} {sp : Sp} {dvs : List V} {ds : List Value} {E : St → XK} {x m : Str} {p pos apos : Pos} {e o : Expr} {es : List Expr} {ta : TE} {t : TA}
theorem run_fnX {pins : List (Addr × Obj)} {σ : St} {H : Hp} {s : Shared} {Q : VK} {us : List Value} {vs : List V} (F : FnOk X.prog X.w X.K X.mg X.base (CX1 X.prog X.w) k f fd ps sp) (hr : Room k X.A) (hb : Binds X.K fd ps ds) (hd : Vals dvs ds) (hx : PassX X E)
    (I : Inv X pins σ H s) (r : Vals vs us) (h : sp (vs ++ dvs) H Q (E σ)) : wpAny (model X.prog X.w) X.A (call (.ref f) us) (EP X pins σ Q) X.xe s := by
  have r2 : Vals (vs ++ dvs) (us ++ ds) := r.append hd
  have hl : (us ++ ds).length = ps.length := by rw [← r2.length]; exact F.len _ _ _ _ h
  refine wpAny_call (codeAny_mono (F.run X.A X.stack s H ⟨us, []⟩ (us ++ ds) (vs ++ dvs) Q (E σ) hr I.env0 (hb s us I.kIn hl) r2 h) fun r s' hq => ?_)
  cases r with
  | error e => exact hx pins σ H s e s' I hq
  | ok fl =>
    cases fl with
    | ret u => exact I.after hq
    | next => exact False.elim hq
    | brk => exact False.elim hq
    | cont => exact False.elim hq
theorem pe_callX (F : FnOk X.prog X.w X.K X.mg X.base (CX1 X.prog X.w) k f fd ps sp) (hr : Room k X.A) (hg : Gl X x) (hm : X.mg x = some (.ref f)) (hk : PySem.W.keepIn X.K (.ref f) = true) (hb : Binds X.K fd ps ds) (hd : Vals dvs ds) (hx : PassX X E)
    (ha : PA X (e :: es) t) (hdb : (x == ("__debug__" : Str)) = false := by decide) (he : starEach (e :: es) X.env = (false, eval e X.env) :: starEach es X.env := by rfl) (hpl : (backTo pos (starEach es X.env)).any (·.1) = false := by rfl) :
    PE X (.Call (.Name x p) (e :: es) [] pos) (tCallX sp dvs E t) := by
  intro pins s σ H Q I h
  refine wpAny_Call_Name_kw (ld_glob I hg hm ?_ hdb)
  refine PySem.W.callWith_K (h₀ := X.base) I.ok.mod.kin hk (thn (ha pos pins s σ H _ I h) fun us s1 ⟨vs, H1, I1, r, q⟩ => ⟨I1.kIn, ?_⟩) he hpl
  exact run_fnX F hr hb hd hx I1 r q
end
theorem PSs.toX {X : Cx} {E' : Value → Shared → Prop} {st : List Stmt} {t : TS} (h : PSs (X.wish E') st t) (k : ∀ e s, E' e s → X.xe e s) : PSs X st t := fun pins s σ H D I hw =>
  wpAny_mono (h pins s σ H D (I.wish _) hw) (fun _ _ q => q.unwish) fun e s z => k e s z
section
variable {P : Program} {w : World} {K : PySem.W.Frag} {mg : Str → Option Value} {base : Heap}
theorem leave_ok {N : List Str} {qual : Str} {scope : Scope} {f : Addr} {cd : Value} {A : Around} {outer : List Env} {s : Shared} {H : Hp} {E : XK} {e : Value} {s' : Shared}
    (h : XS (cxOf (CX1 P w) P w K mg base N qual scope f cd A outer s H E) (fun _ => E) e s') : (cxOf (CX1 P w) P w K mg base N qual scope f cd A outer s H E).xe e s' := by
  obtain ⟨σ, H0, s0, I, a, H', cls, dx, st, rfl, c, hE⟩ := h
  show wpAny (model P w) (A.deeper (envOfC qual scope s.heap.objs.size f cd)) (leaving (envOfC qual scope s.heap.objs.size f cd) (.ref a)) (fun _ s'' => CX1 P w outer H s E (.ref a) s'') (fun e' s'' => CX1 P w outer H s E e' s'') s'
  unfold leaving
  apply wpAny_bind
  refine c.note (L := s.heap.objs.size) I.ok.frames rfl I.stack I.stkFree fun s1 c1 => ?_
  refine c1.flight I.stack I.stkFree fun s2 c2 => ?_
  have J := I.call' c2.os c2.un c2.hok c2.bare (fun b z => absurd z (by simp))
  refine ⟨a, H', cls, dx, _, rfl, ⟨J.os, c2.bare, J.base, c2.hok, c2.xo.mono fun b q => ⟨?_, q.2⟩⟩, hE⟩
  cases r : s.heap.get? b with
  | none => rfl
  | some o =>
    obtain ⟨o', r'⟩ := I.base.there b o r (fun z => absurd (show b ∈ ([] : List Addr) from z) (by simp))
    rw [q.1] at r'
    cases r'
/-- THE RULE for a def that may refuse -/
theorem fn_ofX {k : Nat} {f : Addr} {name qual : Str} {params : Arguments} {body : List Stmt} {scope : Scope} {dV kV doc pm cdv ct oc : Value} {an od : Option Addr}
    {osl : Array (Option Value)} {N ps : List Str} {sp : Sp} (lk : K.lookup f = some ⟨oc, od, .func (PySem.W.fnOf name qual params body scope dV kV doc pm an cdv ct), osl⟩) (hcd : PySem.W.codeIn K cdv qual = true) (S : FnScope N ps scope)
    (len : ∀ vs H Q E, sp vs H Q E → vs.length = ps.length)
    (hbody : ∀ (A : Around) (outer : List Env) (s : Shared) (H : Hp) (vs : List V) (Q : VK) (E : XK), Room k (A.deeper (envOfC qual scope s.heap.objs.size f cdv)) → sp vs H Q E →
      ∃ t, PSs ((cxOf (CX1 P w) P w K mg base N qual scope f cdv A outer s H E).wish (XS (cxOf (CX1 P w) P w K mg base N qual scope f cdv A outer s H E) fun _ => E)) body t ∧ t { nx := fun _ H' => Q .non H', rt := Q } (start N vs) H) :
    FnOk P w K mg base (CX1 P w) (k + 1) f (PySem.W.fnOf name qual params body scope dV kV doc pm an cdv ct) ps sp := by
  refine fn_of lk hcd S len fun A outer s H vs Q E hr hsp => ?_
  obtain ⟨t, h, q⟩ := hbody A outer s H vs Q E hr hsp
  exact ⟨t, h.toX fun e s' z => leave_ok z, q⟩
/-- a promise under which it refuses nothing -/
theorem FnOk.noraise {k : Nat} {f : Addr} {fd : FuncData} {ps : List Str} {sp sp0 : Sp} (F : FnOk P w K mg base (CX1 P w) k f fd ps sp) (h : ∀ vs H Q E, sp0 vs H Q E → sp vs H Q E0) : FnOk P w K mg base CX0 k f fd ps sp0 :=
  ⟨fun vs H Q E q => F.len vs H Q E0 (h _ _ _ _ q), fun A outer s H args us vs Q E hr he hb hv hs => codeAny_mono (F.run A outer s H args us vs Q E0 hr he hb hv (h _ _ _ _ hs)) fun r s' hq => by
    cases r with
    | error e => obtain ⟨_, _, _, _, _, _, _, z⟩ := hq; exact z.elim
    | ok fl => cases fl <;> exact hq⟩
end
/-! ### try -/
abbrev Cx.tried (X : Cx) (pins : List (Addr × Obj)) : Cx := { X with pn := X.pn ++ pins }
abbrev Cx.suite (X : Cx) (pins : List (Addr × Obj)) (a : Addr) : Cx := { X with A := X.A.mark (some (.ref a)), calm := false, pn := X.pn ++ pins, xe := fun _ _ => False }
/-- an exception that was caught or made, tracked -/
def excB (n : Bool) (a : Addr) (cls : Value) (dx : Option Addr) : HO := .ext fun h => ∃ ox vs, h.get? a = some ox ∧ ox.cls = cls ∧ ox.dict = dx ∧ ox.data = .fields vs ∧ vs[2]? = some .none ∧ (n = true → 1 < vs.size ∧ vs[1]? = some .none)
abbrev excO := excB false
theorem excB_ok {P : Program} {w : World} {H : Hp} {h : Heap} {n : Bool} {a : Addr} {cls : Value} {dx : Option Addr} {ox : Obj} {vs : Array Value} (h1 : h.get? a = some ox) (h2 : ox.cls = cls) (h3 : ox.dict = dx) (h4 : ox.data = .fields vs) (h6 : vs[2]? = some .none) (h5 : n = true → 1 < vs.size ∧ vs[1]? = some .none) : ObjOk P w H h a (excB n a cls dx) :=
  ⟨⟨ox, vs, h1, h2, h3, h4, h6, h5⟩, ⟨ox, h1⟩, fun _ _ ⟨oy, ws, q, r⟩ kp => ⟨oy, ws, kp _ q, r⟩⟩
abbrev TH := Ends → St → Value → Option Addr → Hp → Addr → Prop
def PH (X : Cx) (hs : List ExceptHandler) (th : TH) : Prop :=
  ∀ (pins : List (Addr × Obj)) (σ : St) (H0 : Hp) (s0 : Shared) (D : Ends) (a : Addr) (H' : Hp) (cls v : Value) (dx : Option Addr) (s' : Shared), Inv X pins σ H0 s0 → CXat X.prog X.w X.stack H0 s0 a H' cls dx (.fl v) s' → th D σ cls dx H' a →
    wpAny (model X.prog X.w) X.A (handleBy (.ref a) X.env hs) (SP X pins D) X.xe s'
section
variable {X : Cx} {pins : List (Addr × Obj)} {σ : St} {H H' : Hp} {s s' : Shared}
theorem Inv.tried (I : Inv X pins σ H s) : Inv (X.tried pins) [] σ H s :=
  ⟨⟨I.ok.mod, I.ok.kind, I.ok.glob, I.ok.blt, I.ok.above, I.ok.inj, I.ok.has, I.ok.cab, I.ok.hd, I.ok.frames, I.ok.stk, I.ok.exf, I.ok.bs, I.ok.bsz, I.ok.noex, I.ok.exfs, I.ok.funs, I.ok.frf⟩,
    I.os, I.bare, I.base, I.loc, I.cell, I.free, I.freeC, fun p hp => I.pin p (by simpa using hp), I.hok, I.len⟩
theorem Inv.untried (I : Inv (X.tried pins) [] σ H s) : Inv X pins σ H s :=
  ⟨⟨I.ok.mod, I.ok.kind, I.ok.glob, I.ok.blt, I.ok.above, I.ok.inj, I.ok.has, I.ok.cab, I.ok.hd, I.ok.frames, I.ok.stk, I.ok.exf, I.ok.bs, I.ok.bsz, I.ok.noex, I.ok.exfs, I.ok.funs, I.ok.frf⟩,
    I.os, I.bare, I.base, I.loc, I.cell, I.free, I.freeC, fun p hp => I.pin p (by simpa using hp), I.hok, I.len⟩
theorem Inv.insuite (I : Inv X pins σ H s) (a : Addr) : Inv (X.suite pins a) [] σ H s :=
  ⟨⟨I.ok.mod, I.ok.kind, I.ok.glob, I.ok.blt, I.ok.above, I.ok.inj, I.ok.has, I.ok.cab, fun z => (Bool.noConfusion z), I.ok.frames, I.ok.stk, I.ok.exf, I.ok.bs, I.ok.bsz, I.ok.noex, I.ok.exfs, I.ok.funs, I.ok.frf⟩,
    I.os, I.bare, I.base, I.loc, I.cell, I.free, I.freeC, fun p hp => I.pin p (by simpa using hp), I.hok, I.len⟩
theorem Inv.outsuite {a : Addr} (ok : X.Ok) (I : Inv (X.suite pins a) [] σ H s) : Inv X pins σ H s :=
  ⟨ok, I.os, I.bare, I.base, I.loc, I.cell, I.free, I.freeC, fun p hp => I.pin p (by simpa using hp), I.hok, I.len⟩
/-- a name that goes -/
theorem Inv.unbound {n : Str} {i : Nat} {h' : Heap} {m : Str → Option Value} {v : Option Value} {t' : Nat} (I : Inv X pins σ H s) (hi : X.N[i]? = some n) (hN : X.N.Nodup)
    (hm : ∀ (j : Nat) (x : Str) (v : V), X.N[j]? = some x → σ[j]? = some (some v) → Vis X.env.scope x → ∃ u, RelV v u ∧ Look X.env s.heap m x u)
    (hn : h'.Ns X.env.locals (fun x => if x = n then v else m x)) (hs : Heap.SameBut X.env.locals s.heap h') : Inv X pins (σ.set i none) H { s with heap := h', toks := t' } := by
  obtain ⟨m0, hn0, _⟩ := id I.loc
  obtain ⟨oL, _, _, hoL, _⟩ := id hn0
  have cne := I.cne
  have low : ∀ b o, X.s₀.heap.get? b = some o → b ≠ X.env.locals := fun b o e => Nat.ne_of_lt (Nat.lt_of_lt_of_le (Heap.lt_size e) I.ok.above)
  refine ⟨I.ok, I.os, I.bare, ⟨fun b o e n hb hx => ?_, fun b o e n hb hx => ?_, I.base.free, fun b o e hx => ?_, I.base.tups, I.base.frzs, I.base.tbls⟩, ⟨_, hn, fun j y v' e1 e2 e3 => ?_⟩, fun y c e => ?_, I.free, I.freeC, fun p hp => ?_, fun b ob e => ?_, by simpa using I.len⟩
  · exact (hs.2 b (low b o e)).trans (I.base.keep b o e n hb hx)
  · obtain ⟨sl, e1⟩ := I.base.slot b o e n hb hx
    exact ⟨sl, (hs.2 b (low b o e)).trans e1⟩
  · obtain ⟨o', e1⟩ := I.base.there b o e hx
    exact ⟨o', (hs.2 b (low b o e)).trans e1⟩
  · by_cases hj : j = i
    · subst hj
      rw [List.getElem?_set] at e2
      simp at e2
    · rw [List.getElem?_set_ne (Ne.symm hj)] at e2
      obtain ⟨u', r', q⟩ := hm j y v' e1 e2 e3
      refine ⟨u', r', ?_⟩
      rcases q with ⟨k, e⟩ | ⟨k, c, e, z⟩
      · refine .inl ⟨k, ?_⟩
        have : y ≠ n := fun e => hj (nodup_ix hN e1 (e ▸ hi))
        simp [this, e]
      · exact .inr ⟨k, c, e, z.sameBut hs (cne y c e)⟩
  · obtain ⟨w', z⟩ := I.cell y c e
    exact ⟨w', z.sameBut hs (cne y c e)⟩
  · obtain ⟨e, n, ne, nf, d⟩ := I.pin p hp
    exact ⟨(hs.2 p.1 ne).trans e, n, ne, nf, d⟩
  · refine (I.hok b ob e).stay (fun c w' hc q => (hs.2 c ?_).trans q) (fun _ q => q) fun _ _ q => q
    rintro rfl
    rcases hc with rfl | hc
    · rw [I.free] at e; cases e
    · rw [I.free] at hc; cases hc
/-- the exception is tracked from here on -/
theorem un_track {fs : List Addr} {h0 h : Heap} {a : Addr} {o : HO} (u : Un fs [] H H' h0 h) (n0 : h0.get? a = none) (na : H' a = none) : Un fs [] H (upd H' a o) h0 h where
  keep := u.keep
  slot := u.slot
  free := fun b ob q n hx => by
    have : b ≠ a := fun z => by rw [z, n0] at q; cases q
    rw [upd_ne this]
    exact u.free b ob q n hx
  there := u.there
  tups := fun b xs e => by
    have q := u.tups b xs e
    rw [upd_ne (ne_of_none q na)]
    exact q
  frzs := fun b o' w' e => by
    have q := u.frzs b o' w' e
    rw [upd_ne (ne_of_none q na)]
    exact q
  tbls := fun b ps e => by
    obtain ⟨mo, q⟩ := u.tbls b ps e
    exact ⟨mo, by rw [upd_ne (ne_of_none q na)]; exact q⟩
theorem hok_track {P : Program} {w : World} {h : Heap} {a : Addr} {o : HO} (k : HOk P w H h) (na : H a = none) (new : ObjOk P w (upd H a o) h a o) : HOk P w (upd H a o) h := fun b u e => by
  by_cases hb : b = a
  · subst hb; rw [upd_same] at e; cases e; exact new
  · rw [upd_ne hb] at e
    exact (k b u e).stay (fun c v _ q => q) (fun c q => by rw [upd_ne (ne_of_none q na)]; exact q) fun c xs q => by rw [upd_ne (ne_of_none q na)]; exact q
theorem CXat.caught {a : Addr} {cls : Value} {dx : Option Addr} {st : XSt} (I : Inv X pins σ H s) (c : CXat X.prog X.w X.stack H s a H' cls dx st s') : Inv X pins σ (upd H' a (excO a cls dx)) s' := by
  obtain ⟨⟨oe, vs, he, hc, hd, hda, hz, _⟩, n0, na⟩ := c.xo
  refine I.call' c.os (un_track c.un n0 na) (hok_track c.hok na (excB_ok he hc hd hda hz.2 fun z => nomatch z)) c.bare fun b z => absurd z (by simp)
end
section
variable {X : Cx} {body : List Stmt} {h₀ : ExceptHandler} {hs : List ExceptHandler} {pos : Pos} {th : TH}
def tTry (tb : (St → XK) → TS) (th : TH) : TS := fun D σ H => tb (fun σ' cls dx H' => ∀ a, H' a = none → th D σ' cls dx H' a) D σ H
theorem SP.untried {pins : List (Addr × Obj)} {E : Value → Shared → Prop} {D : Ends} {f : Flow} {s' : Shared} (h : SP ((X.tried pins).wish E) [] D f s') : SP X pins D f s' := by
  cases f with
  | next => obtain ⟨σ', H', I, q⟩ := h; exact ⟨σ', H', I.unwish.untried, q⟩
  | brk => obtain ⟨σ', H', I, q⟩ := h; exact ⟨σ', H', I.unwish.untried, q⟩
  | cont => obtain ⟨σ', H', I, q⟩ := h; exact ⟨σ', H', I.unwish.untried, q⟩
  | ret u => obtain ⟨v, σ', H', I, r, q⟩ := h; exact ⟨v, σ', H', I.unwish.untried, r, q⟩
theorem ps_try {tb : (St → XK) → TS} (hstk : X.stack = X.env :: X.outer) (hfm : X.env.frame = some X.env.locals)
    (hb : ∀ (pins : List (Addr × Obj)) (E : St → XK), PSs ((X.tried pins).wish (XS (X.tried pins) E)) body (tb E)) (hh : PH X (h₀ :: hs) th) : PS X (.Try body (h₀ :: hs) [] [] pos) (tTry tb th) := by
  intro pins s σ H D I h
  refine wpAny_Try_except ?_
  refine wpAny_mono (hb pins _ [] s σ H D (I.tried.wish _) h) (fun f s1 q => ?_) fun e s1 hx => ?_
  · have q := q.untried
    cases f with
    | next => exact wpAny_execs_nil q
    | brk => exact q
    | cont => exact q
    | ret u => exact q
  · obtain ⟨σ', H0, s0, I0, a, H', cls, dx, st, rfl, c, hE⟩ := hx
    have c' : CXat X.prog X.w (X.env :: X.outer) H0 s0 a H' cls dx st s1 := hstk ▸ c
    have J := I0.untried
    have fr : X.A.frames = some (X.env :: X.outer) := by rw [← hstk]; exact J.ok.frames
    have st1 : s0.heap.FunFrames X.base (X.env :: X.outer) := by rw [← hstk]; exact J.stack
    have sf : ∀ b ∈ frs (X.env :: X.outer), H0 b = none := by rw [← hstk]; exact J.stkFree
    refine c'.note fr hfm st1 sf fun s2 c2 => ?_
    refine c2.flight st1 sf fun s3 c3 => ?_
    exact hh pins σ' H0 s0 D a H' cls _ dx s3 J (hstk ▸ c3) (hE a c3.xo.fr.2)
theorem ph_nil : PH X [] (fun _ _ _ _ _ _ => False) := fun _ _ _ _ _ _ _ _ _ _ _ _ _ h => h.elim
end
/-- what an except clause asks of its class -/
structure XT (K : PySem.W.Frag) (C : Addr) : Prop where
  ty : PySem.W.typeIn K (.ref C) = some (.type "type")
  cl : (PySem.W.clsIn K C).isSome = true
  ex : PySem.W.subIn K (.ref C) (.type "BaseException") = some true
theorem looks_isType {K : PySem.W.Frag} {M : Model} {h : Heap} {C : Addr} (X : K.In h) (e : (PySem.W.clsIn K C).isSome = true) : PySem.W.Looks M h (isType (.ref C)) true := by
  unfold PySem.W.clsIn at e
  split at e
  · rename_i ho
    intro A' Q' E' s' k q
    unfold isType loadHead
    exact wpAny_bind (wpAny_loadPart (k _ _ (X _ _ ho)) (wpAny_pure q))
  · cases e
end L2
set_option Elab.async false
set_option linter.all false
set_option maxRecDepth 100000
namespace L2
open PySem PySem.Spec PyProof.Rows XH
structure XG (K : PySem.W.Frag) (C : Addr) : Prop where
  ga : PySem.W.findIn K (.ref C) "__getattribute__" = some (some (.builtin "BaseException.__getattribute__"))
  gt : PySem.W.findIn K (.ref C) "__getattr__" = some none
  be : PySem.W.mroIn K C (.type "BaseException") = some true
section
variable {prog : Program} {w : World} {A : Around} {E : Value → Shared → Prop} {K : PySem.W.Frag} {h : Heap} {g : Array GenState} {d : Drawn} {t : Nat} {os : OsState} {x C : Addr} {ox : Obj} {od : Option Obj} {name : Str}
open PySem.W in
theorem exc_check {nameV : Value} {Q : Unit → Shared → Prop} (X : K.In h) (I : InstAt h x ox C od) (G : XG K C) (hq : Q () ⟨h, g, d, t, os⟩) :
    wpAny (model prog w) A (checkBuiltinCall "BaseException.__getattribute__" ⟨[.ref x, nameV], []⟩) Q E ⟨h, g, d, t, os⟩ := by
  have hk : builtinKind "BaseException.__getattribute__" = some .slot := by decide +kernel
  have hs : splitId "BaseException.__getattribute__" = some ("BaseException", "__getattribute__") := by decide +kernel
  have l0 := I.type (M := model prog w)
  have l1 := looks_mroIn (M := model prog w) X G.be
  have ha := F.args_bexc_ga (.ref x) nameV
  have l2 : Looks (model prog w) h (isInstance (.ref x) (.type "BaseException")) true := l0.andThen l1
  simp only [checkBuiltinCall, hk, hs]
  refine wpAny_bind ?_
  unfold isInstance
  have hx := I.at_
  have hc := I.cls
  repeat (first | (with_reducible refine wpAny_loadPart_at hx ?_; rw [hc]) | with_reducible refine l1.at ?_ | wp_step)
  exact hq
open PySem.W in
theorem exc_entry_bind {tk : Tok} {gv a : Value} {Q : Fin → Shared → Prop} (X : K.In h) (I : InstAt h x ox C od) (hf : findObj K C od name = some (.bind gv a))
    (hq : wpAny (model prog w) A (call gv [a, .ref x, .ref C]) (fun v s' => Q (.done (.ret v)) s') E ⟨h, g, d, t, os⟩) :
    wpAny (model prog w) A (Builtin.«object.__getattribute__» ⟨[.ref x, .str name tk], []⟩) Q E ⟨h, g, d, t, os⟩ := by
  have l0 := I.type (M := model prog w)
  have l1 := looks_find (M := model prog w) X I hf
  unfold Builtin.«object.__getattribute__»
  refine wpAny_bind (wpAny_pure (wpAny_bind (wpAny_pure (wpAny_bind (l0.at (wpAny_bind (l1.at ?_)))))))
  show wpAny _ _ (holding [a] (call gv [a, .ref x, .ref C]) >>= ret) _ _ _
  exact wpAny_bind (wpAny_holding (wpAny_mono hq (fun v s' z => wpAny_pure z) fun _ _ z => z))
open PySem.W in
theorem exc_by {tk : Tok} {fill expr : Bool} {Q : Value → Shared → Prop} (X : K.In h) (I : InstAt h x ox C od) (G : XG K C)
    (hq : ∀ A' : Around, wpAny (model prog w) A' (Builtin.«object.__getattribute__» ⟨[.ref x, .str name tk], []⟩) (fun fin s' => match fin with | .done (.ret v) => wpAny (model prog w) A (handedOut v) Q E s' | _ => False) (fun _ _ => False) ⟨h, g, d, t, os⟩) :
    wpAny (model prog w) A (getAttrBy (.ref x) (.str name tk) fill expr) Q E ⟨h, g, d, t, os⟩ := by
  have l0 := I.type (M := model prog w)
  have l1 := looks_findIn (M := model prog w) X G.ga
  have l2 := looks_findIn (M := model prog w) X G.gt
  have fb := F.attrBase_ValueError
  have f3 := fb.ga.bind (.ref x)
  unfold getAttrBy
  refine wpAny_holding (wpAny_bind (l0.at (wpAny_bind (l1.at ?_))))
  have hx2 : (Value.builtin "BaseException.__getattribute__" == Value.builtin "object.__getattribute__") = false := by decide +kernel
  simp only [hx2, Bool.and_false, Bool.false_eq_true, if_false]
  unfold getAttrByItsOwn hookBefore
  refine wpAny_bind ?_
  rw [if_pos (show onTheHeap (.ref C) = true from rfl)]
  refine l2.at ?_
  refine wpAny_bind (wpAny_attempt (wpAny_holding ?_))
  unfold callGetattribute
  rw [if_neg (by cases expr <;> exact Bool.false_ne_true)]
  unfold boundAndCalled
  refine wpAny_bind (wpAny_of_eq f3 ?_)
  refine wpAny_call (codeAny_call_builtin fb.ga.plain F.entry_bexc_ga (exc_check X I G (wpAny_mono (hq _) (fun fin s' z => ?_) fun _ _ z => z.elim)))
  rcases fin with (_ | _ | _ | _) | _ <;> first | exact z.elim | exact z
end
end L2
set_option Elab.async false
set_option linter.all false
set_option maxRecDepth 100000
namespace L2
open PySem PySem.Spec PyProof.Rows XH
section
variable {prog : Program} {w : World} {A : Around} {E : Value → Shared → Prop} {K : PySem.W.Frag}
theorem matches_ok {h : Heap} {g : Array GenState} {d : Drawn} {t : Nat} {os : OsState} {e C C' : Addr} {oe : Obj} {b : Bool} {Q : Bool → Shared → Prop} (KX : K.In h) (he : h.get? e = some oe) (hc : oe.cls = .ref C) (T : XT K C')
    (hsub : PySem.W.subIn K (.ref C) (.ref C') = some b) (hq : Q b ⟨h, g, d, t, os⟩) : wpAny (model prog w) A (excMatches (.ref e) (.ref C')) Q E ⟨h, g, d, t, os⟩ := by
  have l1 := PySem.W.looks_typeIn (M := model prog w) KX T.ty
  have l2 := PySem.W.looks_subIn (M := model prog w) KX T.ex
  have l3 := PySem.W.looks_subIn (M := model prog w) KX hsub
  have l4 := looks_isType (M := model prog w) KX T.cl
  have l5 : PySem.W.Looks (model prog w) h (isInstance (.ref C') (.type "tuple")) false := l1.andThen (PySem.W.Looks.of_pure tc_notTuple)
  have l6 : PySem.W.Looks (model prog w) h (isExcClass (.ref C')) true := by
    unfold isExcClass
    refine l4.andThen ?_
    exact l2
  unfold excMatches
  repeat (first | with_reducible refine wpAny_bind (l5.at ?_) | with_reducible refine wpAny_bind (l6.at ?_) | with_reducible refine wpAny_bind (l3.at ?_) | (with_reducible refine wpAny_loadPart_at he ?_; rw [hc]) | wp_step)
  cases b <;> (wp_walk; exact hq)
end
/-- a name that goes behind its suite -/
def offE (i : Nat) (D : Ends) : Ends := { nx := fun σ H => D.nx (σ.set i none) H, rt := D.rt, bk := fun σ H => D.bk (σ.set i none) H, ct := fun σ H => D.ct (σ.set i none) H }
section
variable {X : Cx} {x n : Str} {np pos : Pos} {b0 : Stmt} {suite : List Stmt} {rest : List ExceptHandler} {i : Nat} {C' : Addr} {t : TS} {th : TH}
theorem gone_ok {pins : List (Addr × Obj)} {a : Addr} {D : Ends} {f : Flow} {s : Shared} {M : Model} {A : Around} {E : Value → Shared → Prop} (ok : X.Ok) (hN : X.N.Nodup) (hi : X.N[i]? = some n) (hloc : X.env.scope.names.lookup n = some .local)
    (q : SP (X.suite pins a) [] (offE i D) f s) : wpAny M A (do bindName X.env n .none; unbindBehindTheSuite X.env n pos) (fun _ s' => SP X pins D f s') E s := by
  have hcls : (X.env.scope.kind == .class || (X.env.scope.kind == .module && X.env.locals != X.env.globals)) = false := by rw [ok.kind]; rfl
  cases f with
  | next =>
    obtain ⟨σ, H, I, q⟩ := q
    have J := I.outsuite ok
    obtain ⟨m, hn, hl⟩ := id J.loc
    exact wpAny_nameGoes_keeps hloc hn hcls fun h' v hn' hs => ⟨_, H, J.unbound hi hN hl hn' hs, q⟩
  | brk =>
    obtain ⟨σ, H, I, q⟩ := q
    have J := I.outsuite ok
    obtain ⟨m, hn, hl⟩ := id J.loc
    exact wpAny_nameGoes_keeps hloc hn hcls fun h' v hn' hs => ⟨_, H, J.unbound hi hN hl hn' hs, q⟩
  | cont =>
    obtain ⟨σ, H, I, q⟩ := q
    have J := I.outsuite ok
    obtain ⟨m, hn, hl⟩ := id J.loc
    exact wpAny_nameGoes_keeps hloc hn hcls fun h' v hn' hs => ⟨_, H, J.unbound hi hN hl hn' hs, q⟩
  | ret u =>
    obtain ⟨v, σ, H, I, r, q⟩ := q
    have J := I.outsuite ok
    obtain ⟨m, hn, hl⟩ := id J.loc
    exact wpAny_nameGoes_keeps hloc hn hcls fun h' v' hn' hs => ⟨v, _, H, J.unbound hi hN hl hn' hs, r, q⟩
end
/-! ### raise -/
def bmV : List Value := [.type "ValueError", .type "Exception", .type "BaseException", .type "object"]
theorem exc_of {K : PySem.W.Frag} {h : Heap} {C : Addr} {bmB : List Value} {nw : String} (X : K.In h) (q : PySem.W.excIn K C bmB nw = true) :
    ∃ bm N nm qn bs hdct sn sub ab col dd k0 k1 k2 k3 k5 mN, h.get? C = some (excClassObj nm qn C N bs bm hdct sn sub ab col dd k0 k1 k2 k3 k5 nw) ∧ h.Ns N mN ∧ mN "__init__" = none ∧ OwnTail h bmB bm := by
  unfold PySem.W.excIn at q
  split at q
  · rename_i dd cd sl ho
    split at q
    · rename_i C' bm k0 k1 k2 k3 n k5 hm hs
      simp only [Bool.and_eq_true, beq_iff_eq, Bool.not_eq_true'] at q
      obtain ⟨⟨⟨⟨⟨e1, e2⟩, hdel⟩, ht⟩, hok⟩, hni⟩ := q
      subst e1 e2
      obtain ⟨nm, bs, mro, ns, qn, hd, sn, sub, ab, col, del⟩ := cd
      dsimp only at hm hdel hok hni
      subst hm hdel
      obtain ⟨l⟩ := sl
      have hl : l = [k0, k1, k2, k3, some (.builtin n), k5] := hs
      subst hl
      exact ⟨bm, ns, nm, qn, bs, hd, sn, sub, ab, col, dd, k0, k1, k2, k3, k5, _, X _ _ ho, .of_isNs (PySem.W.isNs_of_in X hok), PySem.W.nsMap_none_of_in X hok hni, PySem.W.tail_of_in X ht⟩
    · cases q
  · cases q
def tRaise (C : Addr) (E : St → XK) (t : TA) : TS := fun _ σ H => t σ H fun vs H1 => vs.length ≤ sizeLine ∧ E σ (.ref C) none H1
section
variable {X : Cx} {x : Str} {np cpos pos : Pos} {e₀ : Expr} {rest : List Expr} {C : Addr} {t : TA} {E : St → XK}
theorem made_cx {pins : List (Addr × Obj)} {σ : St} {H : Hp} {s : Shared} {h' : Heap} {e : Addr} {us : List Value} (I : Inv X pins σ H s) (mk : Heap.MadeExcOf s.heap h' e (.ref C) us) : CXat X.prog X.w X.stack H s e H (.ref C) none .new { s with heap := h' } := by
  obtain ⟨t, ht, _, _⟩ := mk.there
  exact ⟨rfl, I.bare, Un.kept mk.keeps, I.hok.kept mk.keeps, ⟨⟨_, _, ht, rfl, rfl, rfl, ⟨by show 1 < 6; decide, rfl⟩, rfl⟩, mk.new, I.hok.none_of mk.new⟩⟩
theorem ps_raise (q : PySem.W.excIn X.K C bmV "ValueError.__new__" = true) (hg : Gl X x) (hm : X.mg x = some (.ref C)) (hc : X.calm = true) (hp : PassX X E) (ha : PA X (e₀ :: rest) t) (hd : (x == ("__debug__" : Str)) = false := by decide)
    (he : starEach (e₀ :: rest) X.env = (false, eval e₀ X.env) :: starEach rest X.env := by rfl) (hpl : (backTo cpos (starEach rest X.env)).any (·.1) = false := by rfl) :
    PS X (.Raise (some (.Call (.Name x np) (e₀ :: rest) [] cpos)) none pos) (tRaise C E t) := by
  intro pins s σ H D I h
  obtain ⟨bm, N, nm, qn, bs, hdct, sn, sub, ab, col, dd, k0, k1, k2, k3, k5, mN, hC, hN, hni, TL⟩ := exc_of I.ok.mod.kin q
  have F := PySem.F.excBase_ValueError
  have W := ha cpos pins s σ H _ I h
  refine wpAny_Raise_call_subT (C := C) (nm := nm) (q := qn) (N := N) (bs := bs) (bm := bm) (hdct := hdct) (sn := sn) (sub := sub) (ab := ab) (col := col) (dd := dd) (k0 := k0) (k1 := k1) (k2 := k2) (k3 := k3) (k5 := k5) (mN := mN)
    F (TL.hasType F.hasBase) (I.ok.hd hc) (by rw [he]; exact hpl) hni (ld_glob I hg hm ⟨rfl, ?_⟩ hd)
  rw [he] at W ⊢
  refine Calls.evalArgs_plain (thn W fun us s2 ⟨vs, H1, I1, r, hl, z⟩ => ⟨rfl, by rw [← r.length]; exact hl, I1.bk _ _ hC, hN.keeps I1.bk, TL.keeps I1.bk, fun h' e mk => ?_⟩)
  exact hp pins σ H1 s2 _ _ I1 ⟨e, H1, .ref C, none, .new, rfl, made_cx I1 mk, z⟩
end
/-! ### isinstance of an exception -/
structure XI (K : PySem.W.Frag) (C : Addr) : Prop where
  gg : XG K C
  cl : (PySem.W.clsIn K C).isSome = true
  at_ : PySem.W.findIn K (.ref C) "__class__" = some (some (.builtin "object.__class__"))
  gt : PySem.W.specialIn K (.builtin "object.__class__") "__get__" = some (some (.builtin "getset_descriptor.__get__"))
  tk : PySem.W.takesIn K (.builtin "object.__class__") = some true
  ob : PySem.W.mroIn K C (.type "object") = some true
theorem findObj_cls {K : PySem.W.Frag} {C : Addr} {od : Option Obj} (x : XI K C) : PySem.W.findObj K C od "__class__" = some (.bind (.builtin "getset_descriptor.__get__") (.builtin "object.__class__")) := by
  obtain ⟨cd, hc⟩ := Option.isSome_iff_exists.mp x.cl
  unfold PySem.W.findObj
  rw [hc, Option.bind_some, x.at_, Option.bind_some]
  simp [x.gt, x.tk]
theorem kitx_exc {K : PySem.W.Frag} {a C : Addr} (x : XI K C) : PySem.W.KitX K (.ref a) (.ref C) (fun h => ∃ ox od, PySem.W.InstAt h a ox C od) where
  ty := fun _ _ _ ⟨_, _, I⟩ => I.type
  it := fun _ _ X _ => looks_isType X x.cl
  ne := fun h tp dd its n sl X htp => by
    refine Bool.eq_false_iff.mpr fun q => ?_
    have e : C = tp := Value.ref.inj (beq_iff_eq.mp q)
    subst e
    have c := x.cl
    unfold PySem.W.clsIn at c
    split at c
    · rename_i ho
      have z := (X _ _ ho).symm.trans htp
      cases z
    · cases c
  ca := fun {_ _ _ _ _ s} X I k => by
    obtain ⟨ox, od, I⟩ := I
    obtain ⟨hh, g, d, t, os⟩ := s
    unfold getAttr? getAttrBy?
    refine wpAny_bind (wpAny_mkText (wpAny_bind (wpAny_attempt (exc_by (h := hh) X I x.gg fun A' => exc_entry_bind X I (findObj_cls x) ?_))))
    exact wpAny_call (PySem.W.class_get (s := ⟨hh, g, d, t + 1, os⟩) (ox := ox) (od := od) X I x.ob (PySem.W.handed_on rfl (wpAny_pure k)))
def XDict (H : Hp) (dx : Option Addr) : Prop := match dx with
  | none => True
  | some d => ∃ fs, H d = some (.xd fs)
theorem inst_of {X : Cx} {pins : List (Addr × Obj)} {σ : St} {H : Hp} {s : Shared} {a C : Addr} {n : Bool} {dx : Option Addr} (I : Inv X pins σ H s) (e : H a = some (excB n a (.ref C) dx)) (d : XDict H dx) : ∃ ox od, PySem.W.InstAt s.heap a ox C od := by
  obtain ⟨⟨ox, vs, h1, h2, h3, h4, _⟩, _⟩ := (show ObjOk X.prog X.w H s.heap a (excB n a (.ref C) dx) from I.hok a _ e)
  have nc : PySem.W.notCls ox = true := by unfold PySem.W.notCls; rw [h4]
  cases dx with
  | none => exact ⟨ox, none, h1, h2, nc, by rw [h3]; trivial⟩
  | some d' =>
    obtain ⟨fs, hd⟩ := d
    obtain ⟨mA, ⟨o, es, ep, e', _⟩, _⟩ := (show ObjOk X.prog X.w H s.heap d' (.xd fs) from I.hok d' _ hd)
    exact ⟨ox, some o, h1, h2, nc, by rw [h3]; exact e'⟩
/-- the answer for a class of the text, for one of Python's own -/
inductive XIs (K : PySem.W.Frag) (C : Addr) : V → Bool → Prop where
  | own {D : Addr} {b : Bool} (h : PySem.W.kitOne K (.ref C) (.ref D) = some b) : XIs K C (.ref D) b
  | ty {T : String} {b : Bool} (h : PySem.W.kitOne K (.ref C) (.type T) = some b) : XIs K C (.ty T) b
theorem call_isiX {X : Cx} {K : PySem.W.Frag} (hK : X.K = K) : CallR X (.builtin "isinstance") (fun xs H Q => ∃ a C dx c b, xs = [.ref a, c] ∧ (∃ n, H a = some (excB n a (.ref C) dx)) ∧ XDict H dx ∧ XI K C ∧ XIs K C c b ∧ Q (.bl b) H) := by
  subst hK
  intro pins s σ H xs us Q I r h
  obtain ⟨a, C, dx, c, b, rfl, ⟨n, e⟩, d, xi, xs, q⟩ := h
  obtain ⟨u, w', rfl, e1, e2⟩ := vals2 r
  cases e1
  cases xs with
  | own h =>
    cases e2
    exact PySem.W.kia_one (kitx_exc xi) I.kIn (inst_of I e d) h (fun z => nomatch z) fun tk => ⟨.bl b, H, I.tok tk, rfl, q⟩
  | ty h =>
    cases e2
    exact PySem.W.kia_one (kitx_exc xi) I.kIn (inst_of I e d) h (fun z => nomatch z) fun tk => ⟨.bl b, H, I.tok tk, rfl, q⟩
end L2
set_option Elab.async false
set_option linter.all false
set_option maxRecDepth 100000
namespace L2
open PySem PySem.Spec PyProof.Rows XH
/-! ### list comprehensions -/
abbrev Cx.block (X : Cx) (scope : Scope) (cl : List (Str × Addr)) (C : Addr) (N : List Str) (own : Str) (fp : List Addr) (s : Shared) (H : Hp) : Cx :=
  { X with env := compEnvC scope cl C X.env, N := N, s₀ := s, H₀ := H, outer := X.stack, stack := X.stack, ex := fp, fn := fun y => y == own, pn := [], xe := fun _ _ => False }
/-- what a comprehension's scope must have; ys: the names it takes from around, at the slots js there -/
structure CompOk (X : Cx) (scope : Scope) (cl : List (Str × Addr)) (own : Str) (ys : List Str) (js : List Nat) : Prop where
  clos : closureFor scope X.env = pure cl
  nocell : (scope.names.all fun p => !(p.2 == .cell)) = true
  kind : scope.kind = .function
  loc : (scope.names.all fun p => !(p.2 == .local) || scope.names.lookup p.1 == some .local) = true
  ownL : scope.names.lookup own = some .local
  sub : ∀ p ∈ cl, X.env.cells.lookup p.1 = some p.2
  has : ((relabel scope X.env).names.all fun p => !(p.2 == .cell || p.2 == .free) || (cl.lookup p.1).isSome) = true
  noown : cl.lookup own = none
  nd : (own :: ys).Nodup
  at_ : ∀ (i : Nat) (y : Str), ys[i]? = some y → ∃ j : Nat, js[i]? = some j ∧ X.N[j]? = some y ∧ (X.env.scope.names.lookup y = some .cell ∨ X.env.scope.names.lookup y = some .free) ∧ ((relabel scope X.env).names.lookup y = some .cell ∨ (relabel scope X.env).names.lookup y = some .free)
  len : js.length = ys.length
def freesOf (js : List Nat) (σ : St) : St := js.map fun j => (σ[j]?).getD none
def compR (js : List Nat) (te : TE) (σ : St) (Q : VK) : It → Hp → Prop := fun J H1 => ∀ p, H1 p = none → ∃ W : Nat → Nat → List V → Hp → Prop, (∃ m, W 0 m [] (upd H1 p (.lst []))) ∧
  ∀ i m ys H2, W i m ys H2 → H2 p = some (.lst ys) ∧ ((J.stop i H2 ∧ Q (.ref p) H2) ∨ (J.go i H2 ∧ ys.length < sizeLine ∧ ∀ x H3, J.yld i H2 x H3 → te (some x :: freesOf js σ) H3 fun y H4 => H4 p = some (.lst ys) ∧ ∃ m', m' < m ∧ W (i + 1) m' (ys ++ [y]) (upd H4 p (.lst (ys ++ [y])))))
def tComp (wi : TI) (js : List Nat) (te : TE) : TE := fun σ H Q => wi σ H (compR js te σ Q)
theorem lookup_all {α : Type} {f : Str × α → Bool} {x : Str} {a : α} : ∀ {l : List (Str × α)}, l.all f = true → l.lookup x = some a → f (x, a) = true := by
  intro l h e
  exact List.all_eq_true.mp h _ (PySem.mem_of_lookup e)
section
variable {prog : Program} {w : World} {A : Around} {R : Result → Shared → Prop} {s : Shared}
theorem compLoop_own {elt target iter : Expr} {scope : Scope} {pos : Pos} {it acc : Value} {env : Env} (I : Nat → Shared → Prop)
    (turn : ∀ n s, I n s → wpAny (model prog w) A (pyNext it) (fun r s1 => match r with
      | none => R (.ok .next) s1
      | some v => wpAny (model prog w) A (letOwnedTupleGo target it v) (fun _ s2 => wpAny (model prog w) A (assign target env v) (fun _ s3 => wpAny (model prog w) A (eval elt env) (fun x s4 =>
          wpAny (model prog w) A (call (.builtin "list.append") [acc, x]) (fun _ s5 => ∃ m, m < n ∧ I m s5) (fun _ _ => False) s4) (fun _ _ => False) s3) (fun _ _ => False) s2) (fun _ _ => False) s1) (fun _ _ => False) s)
    (n : Nat) (h : I n s) : codeAny (model prog w) A (.compLoop (.ListComp elt [⟨target, iter, [], 0⟩] scope pos) 0 it acc env) R s := by
  apply codeAny_loop rfl I ?_ n h
  intro n s hI
  show wpAny _ _ ((compTurn (.ListComp elt [⟨target, iter, [], 0⟩] scope pos) 0 it acc env).onRaise _) _ _ s
  apply wpAny_noted
  rw [compTurn_list1]
  apply wpAny_bind
  apply wpAny_standAt
  apply wpAny_bind
  refine wpAny_mono (turn n s hI) (fun r s1 h1 => ?_) fun _ _ z => z.elim
  cases r with
  | none => exact wpAny_pure h1
  | some v =>
    apply wpAny_bind
    refine wpAny_mono h1 (fun _ s2 h2 => ?_) fun _ _ z => z.elim
    apply wpAny_bind
    refine wpAny_mono h2 (fun _ s3 h3 => ?_) fun _ _ z => z.elim
    apply wpAny_bind
    apply wpAny_bind
    refine wpAny_mono h3 (fun x s4 h4 => ?_) fun _ _ z => z.elim
    apply wpAny_bind
    refine wpAny_mono h4 (fun _ s5 h5 => ?_) fun _ _ z => z.elim
    exact wpAny_pure (wpAny_pure ⟨rfl, h5⟩)
end
section
variable {X : Cx} {scope : Scope} {cl : List (Str × Addr)} {own : Str} {ys : List Str} {js : List Nat} {fp : List Addr} {pins : List (Addr × Obj)} {σ : St} {H : Hp} {s s4 : Shared}
theorem block_start {h1 : Heap} (ok : CompOk X scope cl own ys js) (I : Inv X pins σ H s) (hf : ∀ b ∈ fp, FpOk X pins H b) (hlt : ∀ b ∈ fp, b < s.heap.objs.size) (hns : h1.Ns s.heap.objs.size (fun _ => none))
    (hk : ∀ b o, s.heap.get? b = some o → h1.get? b = some o) (tk : Nat) :
    Inv (X.block scope cl s.heap.objs.size (own :: ys) own fp s H) [] (none :: freesOf js σ) H { s with heap := h1, toks := tk } := by
  have sub : ∀ y c, cl.lookup y = some c → X.env.cells.lookup y = some c := fun y c e => ok.sub (y, c) (PySem.mem_of_lookup e)
  refine ⟨⟨I.ok.mod, ok.kind, I.ok.glob, I.ok.blt, Nat.le_refl _, fun x y c e1 e2 => I.ok.inj x y c (sub x c e1) (sub y c e2), fun x hx => ?_, fun x c e1 e2 => ?_, I.ok.hd, I.ok.frames, .inl rfl, fun b hb => ⟨Nat.ne_of_lt (hlt b hb), fun x c e => (hf b hb).2.2.2.2.1 x c (sub x c e)⟩,
    I.bs, Nat.le_trans I.ok.bsz I.sz, fun b o e hb => ?_, fun b hb z => ?_, I.stack, I.stkFree⟩, rfl, I.bare, Un.kept hk, ⟨_, hns, fun i y v e1 e2 e3 => ?_⟩, fun y c e => ?_, I.hok.fresh (Nat.le_refl _), fun y c e => I.freeC y c (sub y c e), fun p hp => absurd (show p ∈ ([] : List (Addr × Obj)) from hp) (by simp), I.hok.kept hk, ?_⟩
  · have hx' : (relabel scope X.env).names.lookup x = some .cell ∨ (relabel scope X.env).names.lookup x = some .free := hx
    rcases hx' with z | z
    · have q := lookup_all ok.has z
      simp only [beq_self_eq_true, Bool.true_or, Bool.not_true, Bool.false_or] at q
      exact Option.isSome_iff_exists.mp q
    · have q := lookup_all ok.has z
      simp only [beq_self_eq_true, Bool.or_true, Bool.not_true, Bool.false_or] at q
      exact Option.isSome_iff_exists.mp q
  · have e1' : (x == own) = true := e1
    have e : x = own := beq_iff_eq.mp e1'
    have e2' : cl.lookup x = some c := e2
    rw [e, ok.noown] at e2'
    cases e2'
  · rcases (hf b hb).2.2.2.1 with z | z
    · exact I.ok.noex b o e z
    · exact absurd (Nat.lt_of_lt_of_le (Heap.lt_size (I.ok.bs b o e).1) z) (Nat.lt_irrefl _)
  · rcases List.mem_cons.mp (I.stkSub b z) with q | q
    · exact (hf b hb).2.1 q
    · exact (hf b hb).2.2.1 q
  · cases i with
    | zero => cases e2
    | succ i =>
      have e1' : ys[i]? = some y := e1
      obtain ⟨j, hj, hN, hX, hc⟩ := ok.at_ i y e1'
      have e2' : (freesOf js σ)[i]? = some (some v) := e2
      unfold freesOf at e2'
      rw [List.getElem?_map, hj] at e2'
      have hs : σ[j]? = some (some v) := by
        cases q : σ[j]? with
        | none => rw [Option.map_some, q] at e2'; cases e2'
        | some o => rw [Option.map_some, q] at e2'; exact e2'
      obtain ⟨m, hn, hl⟩ := I.loc
      obtain ⟨u, r, l⟩ := hl j y v hN hs (hX.elim (fun z => .inr (.inl z)) fun z => .inr (.inr z))
      refine ⟨u, r, .inr ⟨hc, ?_⟩⟩
      rcases l with ⟨k, _⟩ | ⟨k, c, hcl, hcell⟩
      · have k' : X.env.scope.names.lookup y = some .local := k
        rcases hX with z | z <;> (rw [z] at k'; cases k')
      · have ex : ∃ c', cl.lookup y = some c' := by
          rcases hc with z | z
          · have q := lookup_all ok.has z
            simp only [beq_self_eq_true, Bool.true_or, Bool.not_true, Bool.false_or] at q
            exact Option.isSome_iff_exists.mp q
          · have q := lookup_all ok.has z
            simp only [beq_self_eq_true, Bool.or_true, Bool.not_true, Bool.false_or] at q
            exact Option.isSome_iff_exists.mp q
        obtain ⟨c', hc'⟩ := ex
        have e := sub y c' hc'
        rw [hcl] at e
        cases e
        obtain ⟨oc, hoc, hd⟩ := hcell
        exact ⟨c, hc', oc, hk _ _ hoc, hd⟩
  · obtain ⟨v, oc, hoc, hd⟩ := I.cell y c (sub y c e)
    exact ⟨v, oc, hk _ _ hoc, hd⟩
  · show (none :: freesOf js σ).length = (own :: ys).length
    simp [freesOf, ok.len]
theorem block_end {H' : Hp} {h' : Heap} {σ' : St} (I : Inv X pins σ H s) (hf : ∀ b ∈ fp, FpOk X pins H b) (J : Inv (X.block scope cl s.heap.objs.size (own :: ys) own fp s H) [] σ' H' s4) (hs : Heap.SameBut s.heap.objs.size s4.heap h') :
    Inv X pins σ H' { s4 with heap := h' } := by
  have low : ∀ b o, s.heap.get? b = some o → b ≠ s.heap.objs.size := fun b o e => Nat.ne_of_lt (Heap.lt_size e)
  have B := J.base
  have u : Un (frs X.stack) fp H H' s.heap h' := {
    keep := fun b o q n hb hx => (hs.2 b (low b o q)).trans (B.keep b o q n hb hx)
    slot := fun b o q n hb hx => by
      obtain ⟨sl, e⟩ := B.slot b o q n hb hx
      exact ⟨sl, (hs.2 b (low b o q)).trans e⟩
    free := B.free
    there := fun b o q hx => by
      obtain ⟨o', e⟩ := B.there b o q hx
      exact ⟨o', (hs.2 b (low b o q)).trans e⟩
    tups := B.tups
    frzs := B.frzs
    tbls := B.tbls }
  have hn : H' s.heap.objs.size = none := J.free
  have hk : HOk X.prog X.w H' h' := fun a o e => (J.hok a o e).stay (fun b v hb q => (hs.2 b (by
    intro z
    rcases hb with z' | z'
    · rw [← z', z, hn] at e; cases e
    · rw [z, hn] at z'; cases z')).trans q) (fun _ q => q) fun _ _ q => q
  exact I.call' (s' := { s4 with heap := h' }) (ch := fp) J.os u hk J.bare fun b hb => ⟨(hf b hb).2.2.2.1, (hf b hb).2.1, (hf b hb).2.2.2.2.1, (hf b hb).2.2.2.2.2⟩
end
section
variable {X : Cx} {scope : Scope} {cl : List (Str × Addr)} {own : Str} {ys : List Str} {js : List Nat} {elt iter : Expr} {px pos : Pos} {wi : TI} {te : TE}
theorem pe_comp (hc : X.calm = true) (ok : CompOk X scope cl own ys js) (hi : PI X (.Name own px) iter wi)
    (he : ∀ (C : Addr) (fp : List Addr) (s : Shared) (H : Hp), PE (X.block scope cl C (own :: ys) own fp s H) elt te)
    (hs : ∀ x, foldedSetIterable iter X.env x = pure x := by intro _; rfl) : PE X (.ListComp elt [⟨.Name own px, iter, [], 0⟩] scope pos) (tComp wi js te) := by
  intro pins s σ H Q I h
  rw [eval_ListComp]
  have ncell : ∀ y ∈ scope.names, y.2 ≠ .cell := fun y hy z => by
    have q := List.all_eq_true.mp ok.nocell y hy
    rw [z] at q
    simp at q
  have nloc : ∀ y ∈ scope.names, y.2 = .local → scope.names.lookup y.1 = some .local := fun y hy z => by
    have q := List.all_eq_true.mp ok.loc y hy
    rw [z] at q
    simpa using q
  refine wpAny_comprehension_free (use := none) rfl hs ok.clos ok.kind nloc (thn (hi pins s σ H _ I h) fun v s1 h1 => thn h1 fun itv s2 h2 => ?_)
  obtain ⟨it, fp, tn, J, H2, rfl, I2, T, st2, f2, q2⟩ := h2
  obtain ⟨W, ⟨m0, w0⟩, turn⟩ := q2 s2.heap.objs.size (I2.hok.fresh (Nat.le_refl _))
  refine wpAny_newObj_type (wpAny_newFunctionEnv ncell (by intro y hy; simp at hy) (fun h1 hns hsb => ?_) ok.kind)
  have I3 := I2.laid (a := s2.heap.objs.size) (o := .lst []) (h' := s2.heap.push { cls := .type "list", dict := none, data := .seq ([] : List Value).toArray }) (t' := s2.toks) (fun b u q => Heap.get?_push_of_some _ q) (Nat.le_refl _)
    ⟨Nat.zero_le _, [], 0, .nil, Heap.get?_push_size _ rfl⟩
  have fpo : ∀ b ∈ fp, b < s2.heap.objs.size := fun b hb => by
    obtain ⟨o, e, _⟩ := T.obj 0 _ st2 b hb
    exact Heap.lt_size e
  have f3 : ∀ b ∈ fp, FpOk X pins (upd H2 s2.heap.objs.size (.lst [])) b := fun b hb => ⟨by rw [upd_ne (Nat.ne_of_lt (fpo b hb))]; exact (f2 b hb).1, (f2 b hb).2⟩
  generalize hs3 : ({ s2 with heap := s2.heap.push { cls := .type "list", dict := none, data := .seq ([] : List Value).toArray }, toks := s2.toks } : Shared) = s3 at I3
  have e3 : s3.heap = s2.heap.push { cls := .type "list", dict := none, data := .seq ([] : List Value).toArray } := by rw [← hs3]
  have lt3 : ∀ b ∈ fp, b < s3.heap.objs.size := fun b hb => by rw [e3, Heap.size_push]; exact Nat.lt_succ_of_lt (fpo b hb)
  dsimp only at hns hsb ⊢
  rw [← e3] at hns hsb
  have hk : ∀ b o, s3.heap.get? b = some o → h1.get? b = some o := fun b o e => hsb.extBut b o (Nat.ne_of_lt (Heap.lt_size e)) (Heap.get?_push_of_some _ e)
  have J0 := block_start (h1 := h1) ok I3 f3 lt3 hns hk (s2.toks + 0)
  have t0 : tn 0 h1 := T.keep 0 _ _ st2 fun b hb o e => hk b o (by rw [e3]; exact Heap.get?_push_of_some _ e)
  have fpB : ∀ {H' : Hp}, (∀ b ∈ fp, H' b = none) → ∀ b ∈ fp, FpOk (X.block scope cl s3.heap.objs.size (own :: ys) own fp s3 (upd H2 s2.heap.objs.size (.lst []))) [] H' b := fun {H'} hn b hb =>
    ⟨hn b hb, Nat.ne_of_lt (lt3 b hb), fun z => (List.mem_cons.mp (I3.stkSub b z)).elim (f3 b hb).2.1 (f3 b hb).2.2.1, .inl hb, fun x c e => (f3 b hb).2.2.2.2.1 x c (ok.sub (x, c) (PySem.mem_of_lookup e)), fun p hp => absurd (show p ∈ ([] : List (Addr × Obj)) from hp) (by simp)⟩
  have loop : codeAny (model X.prog X.w) X.A (.compLoop (.ListComp elt [⟨.Name own px, iter, [], 0⟩] scope pos) 0 (.ref it) (.ref s2.heap.objs.size) (compEnvC scope cl s3.heap.objs.size X.env))
      (compPost (model X.prog X.w) X.A X.xe none (EP X pins σ Q) (.ref s2.heap.objs.size) s3.heap.objs.size) { s3 with heap := h1, toks := s2.toks + 0 } := by
    refine compLoop_own (fun n s' => ∃ i zs o0 H', Inv (X.block scope cl s3.heap.objs.size (own :: ys) own fp s3 (upd H2 s2.heap.objs.size (.lst []))) [] (o0 :: freesOf js σ) H' s' ∧ tn i s'.heap ∧ (∀ b ∈ fp, H' b = none) ∧ W i n zs H') ?_ m0
      ⟨0, [], none, _, J0, t0, fun b hb => (f3 b hb).1, w0⟩
    rintro n s5 ⟨i, zs, o0, H5, I5, t5, n5, w5⟩
    obtain ⟨hD, hw⟩ := turn i n zs H5 w5
    rcases hw with ⟨stop, qn⟩ | ⟨go, hz, step⟩
    · refine thn (T.done (X.block scope cl s3.heap.objs.size (own :: ys) own fp s3 (upd H2 s2.heap.objs.size (.lst []))) rfl rfl rfl hc i [] s5 _ H5 (fun _ _ => False) I5 (fpB n5) t5 stop) fun r s6 ⟨hr, I6⟩ => ?_
      subst hr
      obtain ⟨m, hn, _⟩ := id I6.loc
      exact ⟨m, hn, fun h' hs' => ⟨V.ref s2.heap.objs.size, H5, block_end I3 f3 I6 hs', rfl, qn⟩⟩
    · refine thn (T.item (X.block scope cl s3.heap.objs.size (own :: ys) own fp s3 (upd H2 s2.heap.objs.size (.lst []))) rfl rfl rfl hc i [] s5 _ H5 (fun _ _ => False) I5 (fpB n5) t5 go) fun r s6 ⟨u, hr, h6⟩ => ?_
      subst hr
      refine thn h6 fun _ s7 ⟨x, H7, I7, r7, y7, t7, n7⟩ => ?_
      have I7' := I7.pinned (fpB n7) (T.obj _ _ t7)
      have hst := step x H7 y7
      have own' : (relabel scope X.env).names.lookup own = some .local := lookup_relabel_local ok.ownL
      refine thn (pg_name (X := X.block scope cl s3.heap.objs.size (own :: ys) own fp s3 (upd H2 s2.heap.objs.size (.lst []))) (i := 0) (x := own) (pos := px) ok.nd rfl (.inl own') (.inr own') _ s7 _ H7 x u (fun σ' H' => σ' = some x :: freesOf js σ ∧ H' = H7) I7' r7 ⟨rfl, rfl⟩) fun _ s8 ⟨σ8, H8, I8, e8, eH8⟩ => ?_
      subst e8 eH8
      refine thn (he _ _ _ _ _ s8 _ H8 _ I8 hst) fun yv s9 ⟨y, H9, I9, r9, hD9, m', hm, w9⟩ => ?_
      refine thn (mt_append _ s9 _ H9 (.ref s2.heap.objs.size) [y] (.ref s2.heap.objs.size) [yv] (fun _ H' => H' = upd H9 s2.heap.objs.size (.lst (zs ++ [y]))) I9 rfl (.cons r9 .nil) ⟨_, zs, y, rfl, rfl, hD9, hz, rfl⟩) fun _ s10 ⟨_, H10, I10, _, e10⟩ => ?_
      subst e10
      refine ⟨m', hm, i + 1, zs ++ [y], some x, _, I10.unpinned, T.keep _ _ _ t7 fun b hb o e => (I10.pin (b, o) (List.mem_append_right _ (List.mem_append_right _ (mem_pinsAt hb e)))).1, fun b hb => ?_, w9⟩
      obtain ⟨o, e, d⟩ := T.obj _ _ t7 b hb
      exact (I10.pin (b, o) (List.mem_append_right _ (List.mem_append_right _ (mem_pinsAt hb e)))).2.1
  subst hs3
  exact codeAny_compStart_list loop (T.self _ 0 _ _ _ t0 loop)
end
end L2
set_option Elab.async false
set_option linter.all false
set_option maxRecDepth 100000
namespace L2
open PySem PySem.Spec PyProof.Rows XH PySem.Builtin PySem.Builtin.ObjectAttr
/-! ### an own refusal's __init__: its field -/
section
variable {prog : Program} {w : World} {A : Around} {E : Value → Shared → Prop} {s : Shared} {K : PySem.W.Frag} {x C S : Addr} {ox : Obj} {od : Option Obj} {name : Str} {v : Value}
end
section
variable {X : Cx} {o value : Expr} {f : Str} {pos pos' : Pos} {ta tv : TE}
end
end L2
set_option Elab.async false
set_option linter.all false
set_option maxRecDepth 100000
namespace L2
open PySem PySem.Spec PyProof.Rows XH
section
variable {X : Cx} {o e value : Expr} {f : Str} {pos pos' : Pos} {ta tv : TE}
end
/-! ### a refusal with an __init__ is made -/
section
variable {prog : Program} {w : World} {A : Around} {E : Value → Shared → Prop} {h : Heap} {g : Array GenState} {d : Drawn} {t : Nat} {os : OsState}
variable {nm q : Str} {C N : Addr} {bs bm : List Value} {hdct : Bool} {sn : List Str} {sub : List Value} {ab : Bool} {col : Option Bool} {dd : Option Addr} {k0 k1 k2 k3 k5 : Option Value}
end
section
variable {X : Cx} {x : Str} {p pos : Pos} {e : Expr} {es : List Expr} {C fI : Addr} {t : TA} {k : Nat} {fd : FuncData} {ps : List Str} {sp : Sp}
end
end L2
set_option Elab.async false
set_option linter.all false
set_option maxRecDepth 100000
namespace L2
open PySem PySem.Spec PyProof.Rows XH
section
variable {M : Model} {A : Around} {E : Value → Shared → Prop} {env : Env}
variable {nm q : Str} {C N : Addr} {bs bm : List Value} {hdct : Bool} {sn : List Str} {sub : List Value} {ab : Bool} {col : Option Bool} {dd : Option Addr} {k0 k1 k2 k3 k5 : Option Value} {nw : String}
end
section
variable {X : Cx} {x : Str} {np cpos pos : Pos} {e₀ : Expr} {rest : List Expr} {C fI : Addr} {t : TA} {k : Nat} {fd : FuncData} {ps : List Str} {sp : Sp} {E : St → XK}
end
end L2
set_option Elab.async false
set_option linter.all false
set_option maxRecDepth 100000
namespace L2
open PySem PySem.Spec PyProof.Rows XH
/-! ### within an except suite, and in what is called there -/
theorem entry_unchain : entryFor table "proto.unchain" = some Builtin.«proto.unchain» := entryFor_of_fast (by kernel_rfl)
/-- what is known of the handled exception, if there is one -/
def HdOk (hd : Option Value) (H : Hp) : Prop := ∀ v, hd = some v → ∃ a n cls dx, v = .ref a ∧ H a = some (excB n a cls dx)
theorem HdOk.no {H : Hp} : HdOk none H := fun _ z => nomatch z
section
variable {prog : Program} {w : World} {A : Around} {E : Value → Shared → Prop} {s : Shared}
theorem range_endH {it hx : Addr} {ox : Obj} {vs : Array Value} {x left step : Int} {Q : Option Value → Shared → Prop} (hh : A.handled = some (.ref hx)) (ho : s.heap.get? hx = some ox) (hd : ox.data = .fields vs) (h2 : vs[2]? = some .none)
    (hit : IsRangeIter s.heap it x left step) (hleft : left ≤ 0) (hQ : ∀ h', Heap.ExtBut it s.heap h' → Q none { s with heap := h' }) : wpAny (model prog w) A (pyNext (.ref it)) Q E s := by
  have hT : s.TypeIs (.ref it) "range_iterator" := ⟨_, hit, rfl⟩
  unfold pyNext
  refine wpAny_bind (wpAny_attempt (wpAny_callSpecial?_slot (name := Str.ofString "__next__") hT F.slot_range_iterator_next
    (wpAny_call_entry F.slot_range_iterator_next hT F.entry_range_iterator_next ?_ (F.args_range_iterator_next_1 _))))
  show wpAny _ _ (field (.ref it) 0 >>= _) _ _ s
  refine wpAny_bind (wpAny_field hit rfl (x := rawInt x) rfl ?_)
  show wpAny _ _ (field (.ref it) 1 >>= _) _ _ s
  refine wpAny_bind (wpAny_field hit rfl (x := rawInt left) rfl ?_)
  show wpAny _ _ (field (.ref it) 2 >>= _) _ _ s
  refine wpAny_bind (wpAny_field hit rfl (x := rawInt step) rfl ?_)
  show wpAny _ _ (if left ≤ 0 then _ else _) _ _ s
  rw [if_pos hleft]
  refine wpAny_bind (wpAny_rule ?_)
  refine wpAny_bind ?_
  show wpAny _ _ (newExc (.type "StopIteration") [] >>= _) _ _ _
  refine wpAny_bind ?_
  simp only [newExc, newTuple]
  refine wpAny_bind (wpAny_newObj_type ?_ (by size_fits))
  refine wpAny_bind (m := firstArgMember _ _) (wpAny_of_eq (a := Value.none) (by first | rfl | (simp only [firstArgMember]; rfl)) ?_)
  refine wpAny_newObj_type ?_ (by size_fits)
  simp only [raiseNew]
  refine wpAny_bind (wpAny_handled ?_)
  rw [show A.in1.handled = some (.ref hx) from hh]
  have g0 : s.heap.get? (s.heap.push { cls := .type "tuple", dict := none, data := .seq ([] : List Value).toArray }).objs.size = none := Heap.get?_none_of_le (by rw [Heap.size_push]; omega)
  have ne : hx ≠ (s.heap.push { cls := .type "tuple", dict := none, data := .seq ([] : List Value).toArray }).objs.size := fun z => by
    rw [z, g0] at ho
    cases ho
  dsimp only
  rw [if_pos (bne_iff_ne.mpr fun z => ne (Value.ref.inj z))]
  refine wpAny_bind (wpAny_holding (wpAny_runValue (codeAny_builtin entry_unchain ?_)))
  show wpAny _ _ (field (.ref hx) 2 >>= _) _ _ _
  refine wpAny_bind (wpAny_field (Heap.get?_push_of_some _ (Heap.get?_push_of_some _ ho)) hd h2 ?_)
  rw [if_pos (by rfl)]
  refine wpAny_bind (wpAny_pure (wpAny_pure ?_))
  refine wpAny_bind (m := updateField _ 2 _) (wpAny_setField (Heap.get?_push_size _ rfl) rfl (by show 2 < 6; decide) ?_)
  refine wpAny_throw ?_
  refine wpAny_bind (wpAny_isInstance (T := "StopIteration") (b := true) ⟨_, Heap.get?_update_self _ (Heap.get?_push_size _ rfl) rfl, rfl⟩ isSubtype_stop ?_)
  refine wpAny_pure (hQ _ fun b o hb e => ?_)
  rw [Heap.get?_update_other _ _ (by
    intro z
    rw [z] at g0
    rw [g0] at e
    cases e)]
  exact Heap.get?_push_of_some _ (Heap.get?_push_of_some _ e)
end
/-! ### iterators under a handled exception -/
structure TurnH (hd : Option Value) (P : Program) (w : World) (K : PySem.W.Frag) (tg : Expr) (J : It) (fp : List Addr) (it : Addr) (tn : Nat → Heap → Prop) : Prop where
  mem : it ∈ fp
  obj : ∀ i h, tn i h → ∀ b ∈ fp, ∃ o, h.get? b = some o ∧ ∀ v, o.data ≠ .cell v
  keep : ∀ i h h', tn i h → (∀ b ∈ fp, ∀ o, h.get? b = some o → h'.get? b = some o) → tn i h'
  item : ∀ (X : Cx), X.prog = P → X.w = w → X.K = K → X.A.handled = hd → ∀ (i : Nat) (pins : List (Addr × Obj)) (s : Shared) (σ : St) (H : Hp) (E : Value → Shared → Prop), Inv X pins σ H s → (∀ b ∈ fp, FpOk X pins H b) → tn i s.heap → J.go i H →
    wpAny (model P w) X.A (pyNext (.ref it)) (fun r s1 => ∃ u, r = some u ∧
      wpAny (model P w) X.A (letOwnedTupleGo tg (.ref it) u) (fun _ s2 => ∃ x H', Inv X pins σ H' s2 ∧ RelV x u ∧ J.yld i H x H' ∧ tn (i + 1) s2.heap ∧ ∀ b ∈ fp, H' b = none) E s1) E s
  done : ∀ (X : Cx), X.prog = P → X.w = w → X.K = K → X.A.handled = hd → ∀ (i : Nat) (pins : List (Addr × Obj)) (s : Shared) (σ : St) (H : Hp) (E : Value → Shared → Prop), Inv X pins σ H s → (∀ b ∈ fp, FpOk X pins H b) → tn i s.heap → J.stop i H →
    wpAny (model P w) X.A (pyNext (.ref it)) (fun r s1 => r = none ∧ Inv X pins σ H s1) E s
  self : ∀ (A : Around) (i : Nat) (s : Shared) (Q : Value → Shared → Prop) (E : Value → Shared → Prop), tn i s.heap → Q (.ref it) s → wpAny (model P w) A (pyIter (.ref it)) Q E s
def PIEH (hd : Option Value) (X : Cx) (pins : List (Addr × Obj)) (σ : St) (tg : Expr) (R : It → Hp → Prop) (itv : Value) (s2 : Shared) : Prop :=
  ∃ (it : Addr) (fp : List Addr) (tn : Nat → Heap → Prop) (J : It) (H' : Hp), itv = .ref it ∧ Inv X pins σ H' s2 ∧ TurnH hd X.prog X.w X.K tg J fp it tn ∧ tn 0 s2.heap ∧ (∀ b ∈ fp, FpOk X pins H' b) ∧ R J H'
def PIH (hd : Option Value) (X : Cx) (tg iter : Expr) (wi : TI) : Prop :=
  ∀ (pins : List (Addr × Obj)) (s : Shared) (σ : St) (H : Hp) (R : It → Hp → Prop), Inv X pins σ H s → wi σ H R →
    wpAny (model X.prog X.w) X.A (eval iter X.env) (fun v s1 => wpAny (model X.prog X.w) X.A (pyIter v) (PIEH hd X pins σ tg R) X.xe s1) X.xe s
def ItrH (hd : Option Value) (lo : Int) (n : Nat) : It := ⟨fun i _ => i < n, fun i H x H' => H' = H ∧ x = .int (lo + i), fun i H => n ≤ i ∧ HdOk hd H⟩
theorem turn_rangeH {hd : Option Value} {P : Program} {w : World} {K : PySem.W.Frag} {tg : Expr} (it : Addr) (lo : Int) (n : Nat) : TurnH hd P w K tg (ItrH hd lo n) [it] it (fun i h => IsRangeIter h it (lo + (i : Nat) * 1) ((n : Int) - (i : Nat)) 1) where
  mem := by simp
  obj := fun i h st b hb => by
    have e : b = it := by simpa using hb
    subst e
    exact ⟨_, st, fun v z => by
      have z' : Data.fields _ = Data.cell v := z
      cases z'⟩
  keep := fun i h h' st k => k it (by simp) _ st
  item := by
    intro X hP hw hK hA i pins s σ H E I hf st hg
    subst hP hw hK
    obtain ⟨f0, f1, f2, f3, f4, f5⟩ := hf it (by simp)
    have hg' : i < n := hg
    refine wpAny_pyNext_range_item st (by omega) fun h' st' sb => ?_
    have I1 : Inv X pins σ H { s with heap := h', toks := s.toks + 1 } := I.turned (fun b o hb e => (sb.2 b hb).trans e) f0 f1 f3 f4 f5
    have st2 : IsRangeIter h' it (lo + ((i + 1 : Nat) : Int) * 1) ((n : Int) - ((i + 1 : Nat) : Int)) 1 := by
      have e1 : lo + ((i + 1 : Nat) : Int) * 1 = lo + (i : Int) * 1 + 1 := by push_cast; omega
      have e2 : (n : Int) - ((i + 1 : Nat) : Int) = (n : Int) - (i : Int) - 1 := by push_cast; omega
      rw [e1, e2]
      exact st'
    refine ⟨_, rfl, go_of (s := { s with heap := h', toks := s.toks + 1 }) (n := "range_iterator") st2 rfl rfl (by decide) ⟨.int (lo + i), H, I1, ⟨s.toks, ?_⟩, ⟨rfl, rfl⟩, st2, fun b hb => (hf b hb).1⟩⟩
    rw [Int.mul_one]
  done := by
    intro X hP hw hK hA i pins s σ H E I hf st hg
    subst hP hw hK
    obtain ⟨f0, f1, f2, f3, f4, f5⟩ := hf it (by simp)
    obtain ⟨hl, hk⟩ := hg
    cases hd with
    | none => exact wpAny_pyNext_range_end hA st (by omega) fun h' eb => ⟨rfl, I.turned (t' := s.toks) (fun b o hb e => eb b o hb e) f0 f1 f3 f4 f5⟩
    | some v =>
      obtain ⟨a, m, cls, dx, rfl, e⟩ := hk v rfl
      obtain ⟨⟨ox, vs, h1, h2, h3, h4, h6, h5⟩, _⟩ := (show ObjOk X.prog X.w H s.heap a (excB m a cls dx) from I.hok a _ e)
      exact range_endH hA h1 h4 h6 st (by omega) fun h' eb => ⟨rfl, I.turned (t' := s.toks) (fun b o hb e => eb b o hb e) f0 f1 f3 f4 f5⟩
  self := fun _ _ _ _ _ st h => wpAny_pyIter_rangeiter st h
def iRngH (hd : Option Value) (ta : TA) : TI := fun σ H R => ta σ H fun vs H1 => ∃ j : Int, vs = [.int j] ∧ -(2 ^ 62) ≤ j ∧ j < 2 ^ 62 ∧ R (ItrH hd 0 j.toNat) H1
section
variable {X : Cx} {tg : Expr} {hd : Option Value}
theorem range_itH {pins : List (Addr × Obj)} {σ : St} {H : Hp} {s : Shared} {R : It → Hp → Prop} {E : Value → Shared → Prop} {lo hi : Int} {t u v : Tok} {tk : Nat} (I : Inv X pins σ H s) (h1 : -(2 ^ 62) ≤ lo) (h2 : lo < 2 ^ 62) (h3 : -(2 ^ 62) ≤ hi) (h4 : hi < 2 ^ 62)
    (q : R (ItrH hd lo (hi - lo).toNat) H) : wpAny (model X.prog X.w) X.A (pyIter (.ref s.heap.objs.size)) (PIEH hd X pins σ tg R) E { s with heap := s.heap.push { cls := .type "range", data := .fields #[.int lo t, .int hi u, .int 1 v] }, toks := tk } := by
  refine wpAny_pyIter_range (IsRange.new ..) (small_one h1 h2 h3 h4) ?_
  have I1 : Inv X pins σ H { s with heap := s.heap.push { cls := .type "range", data := .fields #[.int lo t, .int hi u, .int 1 v] }, toks := tk } := I.kept fun b o e => Heap.get?_push_of_some _ e
  refine ⟨(s.heap.push { cls := .type "range", data := .fields #[.int lo t, .int hi u, .int 1 v] }).objs.size, [(s.heap.push { cls := .type "range", data := .fields #[.int lo t, .int hi u, .int 1 v] }).objs.size], _, _, H, rfl,
    I1.kept (t' := tk) fun b o e => Heap.get?_push_of_some _ e, turn_rangeH _ lo (hi - lo).toNat, ?_, fun b hb => ?_, q⟩
  · have e1 : lo + ((0 : Nat) : Int) * 1 = lo := by simp
    have e2 : (((hi - lo).toNat : Nat) : Int) - ((0 : Nat) : Int) = Builtin.Range.rangeSize lo hi 1 := by rw [rangeSize_one]; split <;> omega
    show IsRangeIter _ _ (lo + ((0 : Nat) : Int) * 1) ((((hi - lo).toNat : Nat) : Int) - ((0 : Nat) : Int)) 1
    rw [e1, e2]
    exact Heap.get?_push_size _ rfl
  · have e : b = (s.heap.push { cls := .type "range", data := .fields #[.int lo t, .int hi u, .int 1 v] }).objs.size := by simpa using hb
    subst e
    exact I1.fpOk (Nat.le_refl _) (I1.hok.fresh (Nat.le_refl _))
theorem pi_rangeH {a : Expr} {ta : TA} {p pos : Pos} (hg : Gl X "range") (hm : X.mg "range" = none) (ha : PA X [a] ta) (hs : starEach [a] X.env = [(false, eval a X.env)] := by rfl) : PIH hd X tg (.Call (.Name "range" p) [a] [] pos) (iRngH hd ta) := by
  intro pins s σ H R I h
  refine Call_ (ld_blt I hg hm boot_range (PyProof.Rows.callWith_type1 (thn (ha pos pins s σ H _ I h) fun us s1 ⟨vs, H1, I1, r1, q1⟩ => ?_) hs rfl))
  obtain ⟨j, e, q1, q2, q⟩ := q1
  subst e
  cases r1 with
  | cons r rr =>
    cases rr
    obtain ⟨t, rfl⟩ := r
    exact call_range_1 (range_itH I1 (by omega) (by omega) q1 q2 (by simpa using q))
end
section
variable {X : Cx} {scope : Scope} {cl : List (Str × Addr)} {own : Str} {ys : List Str} {js : List Nat} {elt iter : Expr} {px pos : Pos} {wi : TI} {te : TE} {hd : Option Value}
theorem pe_compH (hA : X.A.handled = hd) (ok : CompOk X scope cl own ys js) (hi : PIH hd X (.Name own px) iter wi)
    (he : ∀ (C : Addr) (fp : List Addr) (s : Shared) (H : Hp), PE (X.block scope cl C (own :: ys) own fp s H) elt te)
    (hs : ∀ x, foldedSetIterable iter X.env x = pure x := by intro _; rfl) : PE X (.ListComp elt [⟨.Name own px, iter, [], 0⟩] scope pos) (tComp wi js te) := by
  intro pins s σ H Q I h
  rw [eval_ListComp]
  have ncell : ∀ y ∈ scope.names, y.2 ≠ .cell := fun y hy z => by
    have q := List.all_eq_true.mp ok.nocell y hy
    rw [z] at q
    simp at q
  have nloc : ∀ y ∈ scope.names, y.2 = .local → scope.names.lookup y.1 = some .local := fun y hy z => by
    have q := List.all_eq_true.mp ok.loc y hy
    rw [z] at q
    simpa using q
  refine wpAny_comprehension_free (use := none) rfl hs ok.clos ok.kind nloc (thn (hi pins s σ H _ I h) fun v s1 h1 => thn h1 fun itv s2 h2 => ?_)
  obtain ⟨it, fp, tn, J, H2, rfl, I2, T, st2, f2, q2⟩ := h2
  obtain ⟨W, ⟨m0, w0⟩, turn⟩ := q2 s2.heap.objs.size (I2.hok.fresh (Nat.le_refl _))
  refine wpAny_newObj_type (wpAny_newFunctionEnv ncell (by intro y hy; simp at hy) (fun h1 hns hsb => ?_) ok.kind)
  have I3 := I2.laid (a := s2.heap.objs.size) (o := .lst []) (h' := s2.heap.push { cls := .type "list", dict := none, data := .seq ([] : List Value).toArray }) (t' := s2.toks) (fun b u q => Heap.get?_push_of_some _ q) (Nat.le_refl _)
    ⟨Nat.zero_le _, [], 0, .nil, Heap.get?_push_size _ rfl⟩
  have fpo : ∀ b ∈ fp, b < s2.heap.objs.size := fun b hb => by
    obtain ⟨o, e, _⟩ := T.obj 0 _ st2 b hb
    exact Heap.lt_size e
  have f3 : ∀ b ∈ fp, FpOk X pins (upd H2 s2.heap.objs.size (.lst [])) b := fun b hb => ⟨by rw [upd_ne (Nat.ne_of_lt (fpo b hb))]; exact (f2 b hb).1, (f2 b hb).2⟩
  generalize hs3 : ({ s2 with heap := s2.heap.push { cls := .type "list", dict := none, data := .seq ([] : List Value).toArray }, toks := s2.toks } : Shared) = s3 at I3
  have e3 : s3.heap = s2.heap.push { cls := .type "list", dict := none, data := .seq ([] : List Value).toArray } := by rw [← hs3]
  have lt3 : ∀ b ∈ fp, b < s3.heap.objs.size := fun b hb => by rw [e3, Heap.size_push]; exact Nat.lt_succ_of_lt (fpo b hb)
  dsimp only at hns hsb ⊢
  rw [← e3] at hns hsb
  have hk : ∀ b o, s3.heap.get? b = some o → h1.get? b = some o := fun b o e => hsb.extBut b o (Nat.ne_of_lt (Heap.lt_size e)) (Heap.get?_push_of_some _ e)
  have J0 := block_start (h1 := h1) ok I3 f3 lt3 hns hk (s2.toks + 0)
  have t0 : tn 0 h1 := T.keep 0 _ _ st2 fun b hb o e => hk b o (by rw [e3]; exact Heap.get?_push_of_some _ e)
  have fpB : ∀ {H' : Hp}, (∀ b ∈ fp, H' b = none) → ∀ b ∈ fp, FpOk (X.block scope cl s3.heap.objs.size (own :: ys) own fp s3 (upd H2 s2.heap.objs.size (.lst []))) [] H' b := fun {H'} hn b hb =>
    ⟨hn b hb, Nat.ne_of_lt (lt3 b hb), fun z => (List.mem_cons.mp (I3.stkSub b z)).elim (f3 b hb).2.1 (f3 b hb).2.2.1, .inl hb, fun x c e => (f3 b hb).2.2.2.2.1 x c (ok.sub (x, c) (PySem.mem_of_lookup e)), fun p hp => absurd (show p ∈ ([] : List (Addr × Obj)) from hp) (by simp)⟩
  have loop : codeAny (model X.prog X.w) X.A (.compLoop (.ListComp elt [⟨.Name own px, iter, [], 0⟩] scope pos) 0 (.ref it) (.ref s2.heap.objs.size) (compEnvC scope cl s3.heap.objs.size X.env))
      (compPost (model X.prog X.w) X.A X.xe none (EP X pins σ Q) (.ref s2.heap.objs.size) s3.heap.objs.size) { s3 with heap := h1, toks := s2.toks + 0 } := by
    refine compLoop_own (fun n s' => ∃ i zs o0 H', Inv (X.block scope cl s3.heap.objs.size (own :: ys) own fp s3 (upd H2 s2.heap.objs.size (.lst []))) [] (o0 :: freesOf js σ) H' s' ∧ tn i s'.heap ∧ (∀ b ∈ fp, H' b = none) ∧ W i n zs H') ?_ m0
      ⟨0, [], none, _, J0, t0, fun b hb => (f3 b hb).1, w0⟩
    rintro n s5 ⟨i, zs, o0, H5, I5, t5, n5, w5⟩
    obtain ⟨hD, hw⟩ := turn i n zs H5 w5
    rcases hw with ⟨stop, qn⟩ | ⟨go, hz, step⟩
    · refine thn (T.done (X.block scope cl s3.heap.objs.size (own :: ys) own fp s3 (upd H2 s2.heap.objs.size (.lst []))) rfl rfl rfl hA i [] s5 _ H5 (fun _ _ => False) I5 (fpB n5) t5 stop) fun r s6 ⟨hr, I6⟩ => ?_
      subst hr
      obtain ⟨m, hn, _⟩ := id I6.loc
      exact ⟨m, hn, fun h' hs' => ⟨V.ref s2.heap.objs.size, H5, block_end I3 f3 I6 hs', rfl, qn⟩⟩
    · refine thn (T.item (X.block scope cl s3.heap.objs.size (own :: ys) own fp s3 (upd H2 s2.heap.objs.size (.lst []))) rfl rfl rfl hA i [] s5 _ H5 (fun _ _ => False) I5 (fpB n5) t5 go) fun r s6 ⟨u, hr, h6⟩ => ?_
      subst hr
      refine thn h6 fun _ s7 ⟨x, H7, I7, r7, y7, t7, n7⟩ => ?_
      have I7' := I7.pinned (fpB n7) (T.obj _ _ t7)
      have hst := step x H7 y7
      have own' : (relabel scope X.env).names.lookup own = some .local := lookup_relabel_local ok.ownL
      refine thn (pg_name (X := X.block scope cl s3.heap.objs.size (own :: ys) own fp s3 (upd H2 s2.heap.objs.size (.lst []))) (i := 0) (x := own) (pos := px) ok.nd rfl (.inl own') (.inr own') _ s7 _ H7 x u (fun σ' H' => σ' = some x :: freesOf js σ ∧ H' = H7) I7' r7 ⟨rfl, rfl⟩) fun _ s8 ⟨σ8, H8, I8, e8, eH8⟩ => ?_
      subst e8 eH8
      refine thn (he _ _ _ _ _ s8 _ H8 _ I8 hst) fun yv s9 ⟨y, H9, I9, r9, hD9, m', hm, w9⟩ => ?_
      refine thn (mt_append _ s9 _ H9 (.ref s2.heap.objs.size) [y] (.ref s2.heap.objs.size) [yv] (fun _ H' => H' = upd H9 s2.heap.objs.size (.lst (zs ++ [y]))) I9 rfl (.cons r9 .nil) ⟨_, zs, y, rfl, rfl, hD9, hz, rfl⟩) fun _ s10 ⟨_, H10, I10, _, e10⟩ => ?_
      subst e10
      refine ⟨m', hm, i + 1, zs ++ [y], some x, _, I10.unpinned, T.keep _ _ _ t7 fun b hb o e => (I10.pin (b, o) (List.mem_append_right _ (List.mem_append_right _ (mem_pinsAt hb e)))).1, fun b hb => ?_, w9⟩
      obtain ⟨o, e, d⟩ := T.obj _ _ t7 b hb
      exact (I10.pin (b, o) (List.mem_append_right _ (List.mem_append_right _ (mem_pinsAt hb e)))).2.1
  subst hs3
  exact codeAny_compStart_list loop (T.self _ 0 _ _ _ t0 loop)
end
/-! ### an except suite whose reading knows the exception -/
def tHasA (K : PySem.W.Frag) (C' : Addr) (i : Nat) (t : Addr → TS) (r : TH) : TH := fun D σ cls dx H a => ∃ C b, cls = .ref C ∧ PySem.W.subIn K (.ref C) (.ref C') = some b ∧
  if b = true then t a (offE i D) (σ.set i (some (.ref a))) (upd H a (excO a cls dx)) else r D σ cls dx H a
section
variable {X : Cx} {x n : Str} {np pos : Pos} {b0 : Stmt} {suite : List Stmt} {rest : List ExceptHandler} {i : Nat} {C' : Addr} {tA : Addr → TS} {th : TH}
theorem ph_asA (T : XT X.K C') (hg : Gl X x) (hm : X.mg x = some (.ref C')) (hN : X.N.Nodup) (hi : X.N[i]? = some n) (hloc : X.env.scope.names.lookup n = some .local)
    (hs : ∀ (pins : List (Addr × Obj)) (a : Addr), PSs (X.suite pins a) (b0 :: suite) (tA a)) (hrest : PH X rest th) (hd : (x == ("__debug__" : Str)) = false := by decide) :
    PH X (.ExceptHandler (some (.Name x np)) (some n) (b0 :: suite) pos :: rest) (tHasA X.K C' i tA th) := by
  intro pins σ H0 s0 D a H' cls v dx s' I c h
  obtain ⟨C, b, rfl, hsub, h⟩ := h
  have J : Inv X pins σ H' s' := I.call' c.os c.un c.hok c.bare (fun b z => absurd z (by simp))
  obtain ⟨oe, vs, he, hc, _, _, _⟩ := c.xo.ex
  refine wpAny_handleBy_cons (codeAny_handlers_test (ld_glob (X := X.suite pins a) (J.insuite a) hg hm ?_ hd)) (by intro q; cases q)
  have KX := J.kIn
  obtain ⟨hh, g, d, tk, os⟩ := s'
  refine matches_ok KX he hc T hsub ?_
  cases b with
  | false => exact hrest pins σ H0 s0 D a H' _ v dx _ I c h
  | true =>
    refine codeAny_handlers_suite_as ?_
    refine c.flight I.stack I.stkFree fun s2 c2 => ?_
    have J2 := (c2.caught I).insuite a
    refine store_ok (X := X.suite pins a) (v := V.ref a) J2 hN hi (.inl hloc) (show RelV (V.ref a) (Value.ref a) from rfl) (fun s3 I3 => ?_) (.inr hloc)
    refine wpAny_mono (hs pins a [] s3 _ _ _ I3 h) (fun f s4 q => ?_) fun _ _ z => z.elim
    exact gone_ok I.ok hN hi hloc q
end
/-! ### calls, whatever is handled -/
section
variable {P : Program} {w : World} {K : PySem.W.Frag} {mg : Str → Option Value} {base : Heap} {hd : Option Value}
end
section
variable {X : Cx} {k : Nat} {f : Addr} {fd : FuncData} {ps : List Str} {sp : Sp} {dvs : List V} {ds : List Value} {x : Str} {p pos : Pos} {e : Expr} {es : List Expr} {t : TA} {hd : Option Value}
end
end L2
set_option Elab.async false
set_option linter.all false
set_option maxRecDepth 100000
namespace Sw
open PySem L2 XH
/-- a def as its callers see it -/
structure Dx (P : Program) (w : World) (K : PySem.W.Frag) (mg : Str → Option Value) (base : Heap) (CX : CXT) (k : Nat) (x : Str) (ps : List Str) (dvs : List V) (sp : Sp) where
  f : Addr
  fd : FuncData
  ok : FnOk P w K mg base CX k f fd ps sp
  m : mg x = some (.ref f)
  q : PySem.W.keepIn K (.ref f) = true
  b : Binds K fd ps []
  bd : ∃ ds, Binds K fd ps ds ∧ Vals dvs ds
def Dx.calm {P : Program} {w : World} {K : PySem.W.Frag} {mg : Str → Option Value} {base : Heap} {k : Nat} {x : Str} {ps : List Str} {dvs : List V} {sp sp0 : Sp} (D : Dx P w K mg base (CX1 P w) k x ps dvs sp) (h : ∀ vs H Q E, sp0 vs H Q E → sp vs H Q E0) : Dx P w K mg base CX0 k x ps dvs sp0 :=
  ⟨D.f, D.fd, D.ok.noraise h, D.m, D.q, D.b, D.bd⟩
section
variable {X : Cx} {k j : Nat} {x : Str} {ps : List Str} {sp : Sp} {p pos : Pos} {e : Expr} {es : List Expr} {t : TA} {dvs : List V} {E : St → XK}
theorem pcall0 (D : Dx X.prog X.w X.K X.mg X.base CX0 k x ps dvs sp) (hr : Room j X.A) (hk : k ≤ j) (hg : Gl X x) (ha : PA X (e :: es) t) (hdb : (x == ("__debug__" : Str)) = false := by decide)
    (he : starEach (e :: es) X.env = (false, eval e X.env) :: starEach es X.env := by rfl) (hpl : (backTo pos (starEach es X.env)).any (·.1) = false := by rfl) :
    PE X (.Call (.Name x p) (e :: es) [] pos) (tCall sp [] E0 t) :=
  pe_call D.ok (hr.mono hk) hg D.m D.q D.b .nil pass0 ha hdb he hpl
theorem pcall1 (D : Dx X.prog X.w X.K X.mg X.base (CX1 X.prog X.w) k x ps dvs sp) (hr : Room j X.A) (hk : k ≤ j) (hg : Gl X x) (hx : PassX X E) (ha : PA X (e :: es) t) (hdb : (x == ("__debug__" : Str)) = false := by decide)
    (he : starEach (e :: es) X.env = (false, eval e X.env) :: starEach es X.env := by rfl) (hpl : (backTo pos (starEach es X.env)).any (·.1) = false := by rfl) :
    PE X (.Call (.Name x p) (e :: es) [] pos) (tCallX sp [] E t) :=
  pe_callX D.ok (hr.mono hk) hg D.m D.q D.b .nil hx ha hdb he hpl
end
theorem FunD.okX {P : Program} {w : World} {K : PySem.W.Frag} {mg : Str → Option Value} {base : Heap} {x qual : Str} {st : Stmt} {dV : Value} {f : Addr} {fd : FuncData} {N ps : List Str} {k : Nat} {sp : Sp} (F : FunD K x qual st dV f fd) (S : FnScope N ps (defScope st)) (len : ∀ vs H Q E, sp vs H Q E → vs.length = ps.length)
    (hbody : ∀ (cdv : Value) (A : Around) (outer : List Env) (s : Shared) (H : Hp) (vs : List V) (Q : VK) (E : XK), Room k (A.deeper (PyProof.Rows.envOfC qual (defScope st) s.heap.objs.size f cdv)) → sp vs H Q E →
      ∃ t, PSs ((cxOf (CX1 P w) P w K mg base N qual (defScope st) f cdv A outer s H E).wish (XS (cxOf (CX1 P w) P w K mg base N qual (defScope st) f cdv A outer s H E) fun _ => E)) (defBody st) t ∧ t { nx := fun _ H' => Q .non H', rt := Q } (start N vs) H) : FnOk P w K mg base (CX1 P w) (k + 1) f fd ps sp := by
  obtain ⟨oc, od, kV, doc, pm, an, cdv, ct, osl, rfl, lk, hcd⟩ := F.ex
  exact fn_ofX lk hcd S len fun A outer s H vs Q E hr hsp => hbody cdv A outer s H vs Q E hr hsp
end Sw
set_option Elab.async false
set_option linter.all false
set_option maxRecDepth 100000
namespace Sw
open PySem L2 XH
end Sw
set_option Elab.async false
set_option linter.all false
set_option maxRecDepth 100000
namespace L2
open PySem PySem.Spec PyProof.Rows XH
theorem call_isiT {X : Cx} {K : PySem.W.Frag} (hK : X.K = K) : CallR X (.builtin "isinstance") (fun xs H Q => ∃ x t T b, xs = [x, .ty T] ∧ TyOf K H x t ∧ PySem.W.kitOne K t (.type T) = some b ∧ Q (.bl b) H) := by
  subst hK
  intro pins s σ H xs us Q I r h
  obtain ⟨x, t, T, b, rfl, ty, e, q⟩ := h
  obtain ⟨u, w', rfl, e1, e2⟩ := vals2 r
  cases e2
  exact isinst_ok I e1 ty e fun tk => ⟨.bl b, H, I.tok tk, rfl, q⟩
end L2
namespace Sw
open PySem L2 XH
/-! ### whatever is handed in: is it a whole number, is it a fraction -/
section
variable {K : PySem.W.Frag} {H : Hp}
end
end Sw
set_option Elab.async false
set_option linter.all false
set_option maxRecDepth 100000
namespace L2
open PySem PySem.Spec PyProof.Rows XH
/-- a truth, a number, a text -/
def Smp : V → Prop
  | .bl _ => True
  | .int _ => True
  | .str _ => True
  | _ => False
theorem eqat_smp {A : Around} {s : Shared} {v : V} {u w : Value} (h : Smp v) (r1 : RelV v u) (r2 : RelV v w) : SeqAt.EqAt A s u w true := by
  cases v with
  | bl b =>
    cases r1
    cases r2
    have z := SeqAt.EqAt.bool_bool (A := A) (s := s) b b
    rw [beq_self_eq_true] at z
    exact z
  | int i =>
    obtain ⟨t, rfl⟩ := r1
    obtain ⟨t', rfl⟩ := r2
    have z := SeqAt.EqAt.int_int (A := A) (s := s) i t i t'
    rw [beq_self_eq_true] at z
    exact z
  | str i =>
    obtain ⟨t, rfl⟩ := r1
    obtain ⟨t', rfl⟩ := r2
    have z := SeqAt.EqAt.str_str (A := A) (s := s) i t i t'
    rw [beq_self_eq_true] at z
    exact z
  | _ => exact absurd h (fun z => z)
end L2
set_option Elab.async false
set_option linter.all false
set_option maxRecDepth 100000
namespace L2
open PySem PySem.Spec PyProof.Rows XH
/-! ### a text, walked sign by sign -/
section
variable {X : Cx} {tg : Expr}
end
/-! ### x[lo:hi] of a text -/
/-! ### methods of texts -/
end L2
set_option Elab.async false
set_option linter.all false
set_option maxRecDepth 100000
namespace Sw
open PySem L2 XH PyProof.Rows
/-! ### defs that are called from a handler too, and refusals' __init__ -/
section
variable {X : Cx} {k j : Nat} {x : Str} {ps : List Str} {sp : Sp} {p np pos cpos : Pos} {e : Expr} {es : List Expr} {t : TA} {hd : Option Value} {C : Addr} {E : L2.St → XK}
end
theorem hdSame {hd : Option Value} {H H' : Hp} (h : HdOk hd H) (g : Same H H') : HdOk hd H' := fun v e => by
  obtain ⟨a, n, cls, dx, e1, e2⟩ := h v e
  exact ⟨a, n, cls, dx, e1, g _ _ e2⟩
theorem sUpd {H H' : Hp} {p : Addr} (g : Same H H') (h : H p = none) (o : HO) : Same H (upd H' p o) := fun b u q => by
  rw [upd_ne (ne_of_none q h)]
  exact g b u q
theorem comp_by {hd : Option Value} {n : Nat} {js : List Nat} {te : TE} {σ : L2.St} {H1 : Hp} {Q : VK} (P : Nat → V → Prop) (hok : HdOk hd H1) (hn : n ≤ sizeLine)
    (step : ∀ i, i < n → ∀ H3, Same H1 H3 → ∀ Q' : VK, (∀ y H4, P i y → Same H3 H4 → Q' y H4) → te (some (.int (0 + (i : Int))) :: freesOf js σ) H3 Q')
    (fin : ∀ p ys H', H1 p = none → ys.length = n → (∀ i y, ys[i]? = some y → P i y) → Same H1 H' → H' p = some (.lst ys) → Q (.ref p) H') :
    compR js te σ Q (ItrH hd 0 n) H1 := by
  intro p hp
  refine ⟨fun i m ys H2 => i ≤ n ∧ m = n - i ∧ ys.length = i ∧ (∀ j y, ys[j]? = some y → P j y) ∧ Same H1 H2 ∧ H2 p = some (.lst ys), ⟨n, Nat.zero_le _, rfl, rfl, fun j y e => by simp at e, same_new hp _, upd_same⟩, ?_⟩
  rintro i m ys H2 ⟨hi, rfl, hl, hP, g, e⟩
  refine ⟨e, ?_⟩
  by_cases hin : i < n
  · refine .inr ⟨hin, by omega, fun x H3 hy => ?_⟩
    obtain ⟨rfl, rfl⟩ := hy
    refine step i hin H3 g _ fun y H4 py g4 => ⟨g4 _ _ e, n - (i + 1), by omega, hin, rfl, by simp [hl], fun j z ez => ?_, sUpd (g.trans g4) hp _, upd_same⟩
    by_cases hj : j < ys.length
    · rw [List.getElem?_append_left hj] at ez
      exact hP j z ez
    · rw [List.getElem?_append_right (by omega)] at ez
      have h0 : j - ys.length = 0 := by
        rcases Nat.eq_zero_or_pos (j - ys.length) with q | q
        · exact q
        · rw [List.getElem?_eq_none (by simp; omega)] at ez; cases ez
      rw [h0] at ez
      have hji : j = i := by omega
      subst hji
      cases ez
      exact py
  · have e2 : i = n := by omega
    subst e2
    exact .inl ⟨⟨Nat.le_refl _, hdSame hok g⟩, fin p ys H2 hp hl hP g e⟩
def CompAt (X : Cx) (scope : Scope) (ys : List Str) (js : List Nat) : Prop := ∀ (i : Nat) (y : Str), ys[i]? = some y → ∃ j : Nat, js[i]? = some j ∧ X.N[j]? = some y ∧ (X.env.scope.names.lookup y = some .cell ∨ X.env.scope.names.lookup y = some .free) ∧ ((relabel scope X.env).names.lookup y = some .cell ∨ (relabel scope X.env).names.lookup y = some .free)
theorem atn {X : Cx} {scope : Scope} : CompAt X scope [] [] := fun i y h => by simp at h
theorem atc {X : Cx} {scope : Scope} {ys : List Str} {js : List Nat} {y : Str} {j : Nat} (t : CompAt X scope ys js) (h1 : X.N[j]? = some y := by rfl) (h2 : X.env.scope.names.lookup y = some .cell ∨ X.env.scope.names.lookup y = some .free := by first | exact Or.inl rfl | exact Or.inr rfl)
    (h3 : (relabel scope X.env).names.lookup y = some .cell ∨ (relabel scope X.env).names.lookup y = some .free := by first | exact Or.inl rfl | exact Or.inr rfl) : CompAt X scope (y :: ys) (j :: js) := fun i z h => by
  cases i with
  | zero =>
    cases h
    exact ⟨j, rfl, h1, h2, h3⟩
  | succ i => exact t i z h
/-- the names that a comprehension takes from around -/
inductive Subs (X : Cx) : List (Str × Addr) → Prop where
  | nil : Subs X []
  | cons {y : Str} {c : Addr} {cl : List (Str × Addr)} (h : X.env.cells.lookup y = some c) (t : Subs X cl) : Subs X ((y, c) :: cl)
theorem Subs.all {X : Cx} {cl : List (Str × Addr)} (h : Subs X cl) : ∀ p ∈ cl, X.env.cells.lookup p.1 = some p.2 := by
  induction h with
  | nil => intro p hp; simp at hp
  | cons h _ ih =>
    intro p hp
    rcases List.mem_cons.mp hp with e | e
    · rw [e]; exact h
    · exact ih p e
theorem cok {X : Cx} {scope : Scope} {cl : List (Str × Addr)} {own : Str} {ys : List Str} {js : List Nat} (a : CompAt X scope ys js) (s : Subs X cl) (nd : (own :: ys).Nodup) (len : js.length = ys.length) (clos : closureFor scope X.env = pure cl) (nocell : (scope.names.all fun p => !(p.2 == .cell)) = true) (kind : scope.kind = .function)
    (loc : (scope.names.all fun p => !(p.2 == .local) || scope.names.lookup p.1 == some .local) = true) (ownL : scope.names.lookup own = some .local) (has : ((relabel scope X.env).names.all fun p => !(p.2 == .cell || p.2 == .free) || (cl.lookup p.1).isSome) = true) (noown : cl.lookup own = none) : CompOk X scope cl own ys js :=
  ⟨clos, nocell, kind, loc, ownL, s.all, has, noown, nd, a, len⟩
/-! ### the sixteen refusals -/
section
variable {K : PySem.W.Frag} {cs : List Addr} {S C D : Addr} {i j : Nat}
end
end Sw
set_option Elab.async false
set_option linter.all false
set_option maxRecDepth 100000
namespace Sw
open PySem PySem.NumText
/-! ### the figures of a number -/
/-! ### a number of a text -/
/-! ### a text cut at a sign -/
/-! ### what is read -/
end Sw
set_option Elab.async false
set_option linter.all false
set_option maxRecDepth 100000
namespace L2
open PySem PySem.Spec PyProof.Rows XH
section
variable {X : Cx} {a b e o : Expr} {es : List Expr} {t te to : TE} {ta : TA} {pos apos cpos : Pos} {x y : Str}
/-! ### a text with numbers and texts put in -/
/-! ### int(text), max(list), values of the file's top -/
theorem ints_of : ∀ {ns : List Int} {us : List Value}, Vals (ns.map V.int) us → IntsAre us ns
  | [], _, h => by cases h; exact .nil
  | n :: ns, _, h => by
    cases h with
    | cons r rr =>
      obtain ⟨t, rfl⟩ := r
      exact .cons _ _ (ints_of rr)
theorem call_maxL (hc : X.calm = true) : CallR X (.builtin "max") (fun xs H Q => ∃ a ns, xs = [.ref a] ∧ SqL X.K H a (ns.map V.int) ∧ ns ≠ [] ∧ ∀ M : Int, M ∈ ns → (∀ z ∈ ns, z ≤ M) → Q (.int M) H) := by
  intro pins s σ H xs us Q I r h
  obtain ⟨a, ns, rfl, h1, hne, q⟩ := h
  obtain ⟨u, rfl, r1⟩ := vals1 r
  cases r1
  obtain ⟨its, rv, p, hz⟩ := I.list h1
  have hi := ints_of rv
  obtain ⟨xs, e⟩ := hi.allInts.items
  have lst : xs.toList.map (·.1) = ns := by
    rw [← hi.numsOf, ← nums_intItems xs, ← e]
  have len : ns.length = xs.size := by rw [← lst, List.length_map, Array.length_toList]
  have pos : 0 < xs.size := len ▸ List.length_pos_iff.mpr hne
  refine max_intList (I.ok.hd hc) (xs := xs) (by have z := p.isList; rw [e] at z; exact z) pos fun v h' tk hv hk => ?_
  obtain ⟨t, rfl⟩ := intItems_at hv
  have best := argBest_gt (numAt xs) (xs.size - 1)
  refine ⟨.int _, H, I.kept (h' := h') (t' := tk) hk, ⟨_, rfl⟩, q _ ?_ fun z hz => ?_⟩
  · have m := best.1
    rw [← lst, numAt_eq]
    refine getD_mem ?_
    rw [lst, len]
    omega
  · rw [← lst] at hz
    obtain ⟨j, hj, rfl⟩ := mem_getD hz
    rw [lst, len] at hj
    have m := best.2 j (by omega)
    rw [numAt_eq] at m
    exact m
theorem pe_globI {i : Int} {p : Pos} (hg : Gl X x) (h : ∃ t, X.mg x = some (.int i t)) (hd : (x == ("__debug__" : Str)) = false := by decide) : PE X (.Name x p) (tC (.int i)) := by
  obtain ⟨t, h⟩ := h
  exact pe_glob hg h ⟨t, rfl⟩ hd
/-! ### tuples of numbers that are alike -/
/-! ### a list walked in a comprehension -/
/-! ### split -/
/-! ### replace: the two texts must be made behind something else -/
end
end L2
set_option Elab.async false
set_option linter.all false
set_option maxRecDepth 100000
namespace L2
open PySem PySem.Spec PyProof.Rows XH
/-! ### a dict, walked key by key; while it is walked it is known to the object -/
theorem is_kV {P : Program} {w : World} {k : Key} {u : Value} (h : (mixKind P w).is k u = true) : RelV (kV k) u := by
  rcases keyIs_shape h with ⟨i, t, rfl, rfl⟩ | ⟨x, t, rfl, rfl⟩
  · exact ⟨t, rfl⟩
  · exact ⟨t, rfl⟩
theorem kv_at {κ : Type} : ∀ {kvs : List (κ × V)} {vs : List (κ × Value)} (r : KV kvs vs) (i : Nat) {k : κ} {x : V}, kvs[i]? = some (k, x) → ∃ u, vs[i]? = some (k, u) ∧ RelV x u
  | _, _, .nil, i, k, x, h => by simp at h
  | _, _, .cons (b := q) r t, 0, k, x, h => by
    simp at h
    subst h
    obtain ⟨q1, q2⟩ := q
    have e : k = q1 := r.1
    subst e
    exact ⟨q2, by simp, r.2⟩
  | _, _, .cons r t, i + 1, k, x, h => by
    obtain ⟨u, e, rx⟩ := kv_at t i (by simpa using h)
    exact ⟨u, by simpa using e, rx⟩
theorem frz_dict {X : Cx} {pins : List (Addr × Obj)} {σ : St} {H : Hp} {s : Shared} {a : Addr} {o : Obj} {kvs : List (Key × V)} {es0 : Array DictEntry} {ep : Nat} (I : Inv X pins σ H s) (h : H a = some (.frz o (.dK kvs))) (hd : o.data = .dict es0 ep) :
    ∃ vs, KV kvs vs ∧ s.heap.DictAt (mixKind X.prog X.w) a vs ep := by
  obtain ⟨ho, z, y, vs, rel, ob, es, ep', e, c, d, rest⟩ := (show ObjOk X.prog X.w H s.heap a (.frz o (.dK kvs)) from I.hok a _ h)
  rw [ho] at e
  cases e
  have e2 : ep' = ep := by rw [hd] at d; cases d; rfl
  subst e2
  exact ⟨vs, rel, o, es, ho, c, d, rest⟩
/-- nothing of the kind was known there at the entry -/
def NF (X : Cx) (a : Addr) : Prop := ∀ o u, X.H₀ a ≠ some (.frz o u)
theorem Inv.nf {X : Cx} {pins : List (Addr × Obj)} {σ : St} {H : Hp} {s : Shared} {a : Addr} {kvs : List (Key × V)} (I : Inv X pins σ H s) (h : H a = some (.dK kvs)) : NF X a := fun o u e => by
  have := I.base.frzs a o u e
  rw [h] at this
  cases this
theorem Inv.freeze {X : Cx} {pins : List (Addr × Obj)} {σ : St} {H : Hp} {s : Shared} {a : Addr} {kvs : List (Key × V)} {o : Obj} (I : Inv X pins σ H s) (h : H a = some (.dK kvs)) (ho : s.heap.get? a = some o) : Inv X pins σ (upd H a (.frz o (.dK kvs))) s := by
  refine I.un (H' := upd H a (.frz o (.dK kvs))) (h' := s.heap) (t' := s.toks) ⟨fun b ob q n _ _ => q, fun b ob q n _ _ => ⟨ob.slots, q⟩, fun b ob q n _ => ?_, fun b ob q _ => ⟨ob, q⟩, fun b xs q => ?_, fun b ob u q => ?_, fun b ps q => ⟨#[], ?_⟩⟩ ?_
  · rw [upd_ne (fun z => by subst z; rw [h] at n; cases n)]; exact n
  · rw [upd_ne (fun z => by subst z; rw [h] at q; cases q)]; exact q
  · rw [upd_ne (fun z => by subst z; rw [h] at q; cases q)]; exact q
  · rw [upd_ne (fun z => by subst z; rw [h] at q; cases q), q]; simp
  · intro b u q
    by_cases hb : b = a
    · subst hb
      rw [upd_same] at q
      cases q
      exact ⟨ho, (I.hok b _ h).stay (fun _ _ _ q => q) (fun c q => by rw [upd_ne (fun z => by subst z; rw [h] at q; cases q)]; exact q) fun c xs q => by rw [upd_ne (fun z => by subst z; rw [h] at q; cases q)]; exact q⟩
    · rw [upd_ne hb] at q
      exact (I.hok b _ q).stay (fun _ _ _ q => q) (fun c q => by rw [upd_ne (fun z => by subst z; rw [h] at q; cases q)]; exact q) fun c xs q => by rw [upd_ne (fun z => by subst z; rw [h] at q; cases q)]; exact q
theorem Inv.thaw {X : Cx} {pins : List (Addr × Obj)} {σ : St} {H : Hp} {s : Shared} {a : Addr} {kvs : List (Key × V)} {o : Obj} (I : Inv X pins σ H s) (h : H a = some (.frz o (.dK kvs))) (nf : NF X a) : Inv X pins σ (upd H a (.dK kvs)) s := by
  have hn : ∀ {b : Addr} {u : HO}, H b = some u → (∀ o' v, u ≠ .frz o' v) → upd H a (.dK kvs) b = some u := fun {b u} q n => by
    rw [upd_ne (fun z => by subst z; rw [h] at q; cases q; exact n _ _ rfl)]; exact q
  have hf : ∀ {b : Addr}, H b = none → upd H a (.dK kvs) b = none := fun {b} n => by
    rw [upd_ne (fun z => by subst z; rw [h] at n; cases n)]; exact n
  refine ⟨I.ok, I.os, I.bare, ⟨I.base.keep, I.base.slot, fun b ob q n hx => hf (I.base.free b ob q n hx), I.base.there, fun b xs q => hn (I.base.tups b xs q) (fun _ _ z => nomatch z), fun b ob u q => ?_, fun b ps q => ?_⟩, I.loc, I.cell, hf I.free, fun y c e => hf (I.freeC y c e), fun p hp => ?_, ?_, I.len⟩
  · have q' := I.base.frzs b ob u q
    rw [upd_ne (fun z => by subst z; exact nf _ _ q)]
    exact q'
  · obtain ⟨more, q'⟩ := I.base.tbls b ps q
    exact ⟨more, hn q' (fun _ _ z => nomatch z)⟩
  · obtain ⟨p1, p2, p3⟩ := I.pin p hp
    exact ⟨p1, hf p2, p3⟩
  · intro b u q
    by_cases hb : b = a
    · subst hb
      rw [upd_same] at q
      cases q
      obtain ⟨_, q2⟩ := (show ObjOk X.prog X.w H s.heap b (.frz o (.dK kvs)) from I.hok b _ h)
      exact ObjOk.stay (o := .dK kvs) q2 (fun _ _ _ q => q) (fun c q => hn q (fun _ _ z => nomatch z)) fun c xs q => hn q (fun _ _ z => nomatch z)
    · rw [upd_ne hb] at q
      exact (I.hok b _ q).stay (fun _ _ _ q => q) (fun c q => hn q (fun _ _ z => nomatch z)) fun c xs q => hn q (fun _ _ z => nomatch z)
section
variable {X : Cx} {tg : Expr}
end
def unf (X : Cx) (P : Hp → Prop) (H : Hp) : Prop := ∃ a o kvs, H a = some (.frz o (.dK kvs)) ∧ NF X a ∧ P (upd H a (.dK kvs))
def unfD (X : Cx) (D : Ends) : Ends := { nx := fun σ => unf X (D.nx σ), bk := fun σ => unf X (D.bk σ), ct := fun σ => unf X (D.ct σ), rt := fun v => unf X (D.rt v) }
/-- a loop over a dict -/
theorem ps_unf {X : Cx} {st : Stmt} {t : TS} (h : PS X st t) : PS X st (fun D σ H => t (unfD X D) σ H) := by
  intro pins s σ H D I q
  refine thn (h pins s σ H _ I q) fun f s1 q1 => ?_
  cases f with
  | next =>
    obtain ⟨σ', H', I', a, o, kvs, e, nf, p⟩ := q1
    exact ⟨σ', _, I'.thaw e nf, p⟩
  | brk =>
    obtain ⟨σ', H', I', a, o, kvs, e, nf, p⟩ := q1
    exact ⟨σ', _, I'.thaw e nf, p⟩
  | cont =>
    obtain ⟨σ', H', I', a, o, kvs, e, nf, p⟩ := q1
    exact ⟨σ', _, I'.thaw e nf, p⟩
  | ret u =>
    obtain ⟨v, σ', H', I', r, a, o, kvs, e, nf, p⟩ := q1
    exact ⟨v, σ', _, I'.thaw e nf, r, p⟩
end L2
set_option Elab.async false
set_option linter.all false
set_option maxRecDepth 100000
namespace L2
open PySem PySem.Spec PyProof.Rows XH
section
variable {X : Cx} {a b c d : Expr} {ta tb tc td : TE} {pos : Pos}
/-- a op1 b op2 c op3 d -/
def tChain3 (r r' r'' : R2) (ta tb tc td : TE) : TE := fun σ H Q => ta σ H fun x H1 => tb σ H1 fun y H2 => r x y H2 fun z H3 => ∃ k, z = .bl k ∧
  (if k = true then tc σ H3 fun w H4 => r' y w H4 fun z' H5 => ∃ k', z' = .bl k' ∧ (if k' = true then td σ H5 fun v H6 => r'' w v H6 Q else Q (.bl false) H5) else Q (.bl false) H3)
theorem pt_chain3 {o1 o2 o3 : CmpOp} {r r' r'' : R2} (h1 : OpR X (compareOp o1) r) (h2 : OpR X (compareOp o2) r') (h3 : OpR X (compareOp o3) r'') (ha : PE X a ta) (hb : PE X b tb) (hc : PE X c tc) (hd : PE X d td)
    (hm : lastMarks [o1, o2, o3] [b, c, d] = false := by with_unfolding_all rfl) : PT X (.Compare a [o1, o2, o3] [b, c, d] pos) (tTest (tChain3 r r' r'' ta tb tc td)) := by
  intro pins s σ H Q I h
  refine isTrue_chain (thn (ha pins s σ H _ I h) fun v s1 ⟨x, H1, I1, r1, q1⟩ => test_link (thn (hb pins s1 σ H1 _ I1 q1) fun u s2 ⟨y, H2, I2, r2, q2⟩ =>
    thn (h1 pins s2 σ H2 x y v u _ I2 r1 r2 q2) fun e1 s3 ⟨z, H3, I3, r3, k, e, q3⟩ => ?_)) hm
  subst e
  cases r3
  refine wpAny_truthy_bool ?_
  cases k with
  | false =>
    obtain ⟨k', e', q'⟩ := q3
    cases e'
    exact ite_ff ⟨H3, I3, q'⟩
  | true =>
    refine ite_tt (test_link (thn (hc pins s3 σ H3 _ I3 q3) fun w' s4 ⟨z', H4, I4, r4, q4⟩ => thn (h2 pins s4 σ H4 y z' u w' _ I4 r2 r4 q4) fun d' s5 ⟨z2, H5, I5, r5, k2, e2, q5⟩ => ?_))
    subst e2
    cases r5
    refine wpAny_truthy_bool ?_
    cases k2 with
    | false =>
      obtain ⟨k', e', q'⟩ := q5
      cases e'
      exact ite_ff ⟨H5, I5, q'⟩
    | true =>
      refine ite_tt (test_last (thn (hd pins s5 σ H5 _ I5 q5) fun w2 s6 ⟨z3, H6, I6, r6, q6⟩ => thn (h3 pins s6 σ H6 z' z3 w' w2 _ I6 r4 r6 q6) fun d2 s7 ⟨z4, H7, I7, r7, k3, e3, q7⟩ => ?_))
      subst e3
      cases r7
      exact wpAny_truthy_bool ⟨H7, I7, q7⟩
end
/-- dict(d) -/
theorem call_dictD {X : Cx} : CallR X (.type "dict") (fun xs H Q => ∃ (d : Addr) (kvs : List (Key × V)), xs = [.ref d] ∧ H d = some (.dK kvs) ∧ ∀ p, H p = none → Q (.ref p) (upd H p (.dK kvs))) := by
  intro pins s σ H xs us Q I r h
  obtain ⟨d, kvs, rfl, hd, q⟩ := h
  cases r with
  | cons r rr =>
    cases rr
    cases r
    obtain ⟨z, y, vs, rel, D⟩ := dk_of I.hok hd
    refine kt_call_dict y D (by rw [← rel.length]; exact z) fun h' hm hs => ?_
    have kp : ∀ b o, s.heap.get? b = some o → h'.get? b = some o := fun b o e => (hs.2 b (Nat.ne_of_lt (Heap.lt_size e))).trans (Heap.get?_push_of_some _ e)
    have big : (s.heap.objs.size == sysModules) = false := by
      have := I.big
      exact beq_eq_false_iff_ne.mpr (Nat.ne_of_gt this)
    exact ⟨.ref s.heap.objs.size, _, I.laid (o := .dK kvs) (t' := s.toks) kp (Nat.le_refl _) ⟨z, big, vs, rel, hm⟩, rfl, q _ I.fresh⟩
/-- d.items() -/
def rItems : V → List V → Hp → VK → Prop := fun x vs H Q => ∃ (d : Addr) (kvs : List (Key × V)), x = .ref d ∧ vs = [] ∧ H d = some (.dK kvs) ∧ ∀ v, H v = none → Q (.ref v) (upd H v (.ext fun h => h.IsItemsView v d))
theorem mt_items {X : Cx} : MtM X "dict.items" rItems := by
  intro pins s σ H x vs v us Q I rx rv h
  obtain ⟨d, kvs, rfl, rfl, hd, q⟩ := h
  cases rx
  have hus := rv.zero
  subst hus
  obtain ⟨z, y, ws, rel, D⟩ := dk_of I.hok hd
  refine call_meetsIn PySem.F.slot_dict_items D.typeIs PySem.F.entry_dict_items (PySem.F.args_dict_items_1 _) (meets_dict_items (mixKind X.prog X.w) d y) ⟨⟨ws, D⟩, ?_⟩
  refine ⟨.ref s.heap.objs.size, _, I.laid (o := .ext fun h => h.IsItemsView s.heap.objs.size d) (t' := s.toks) (fun b o e => Heap.get?_push_of_some _ e) (Nat.le_refl _) ⟨⟨_, Heap.get?_push_size _ rfl, rfl, rfl⟩, ⟨_, Heap.get?_push_size _ rfl⟩, fun h1 h2 ⟨o, e, c, f⟩ k => ⟨o, k o e, c, f⟩⟩, rfl, q _ I.fresh⟩
/-- the pairs of a dict, walked; while it is walked the dict is known to the object -/
def Itm (a : Addr) (o : Obj) (kvs : List (Key × V)) : It :=
  ⟨fun i H => H a = some (.frz o (.dK kvs)) ∧ i < kvs.length, fun i H v H' => ∃ (T : Addr) (k : Key) (x : V), v = .ref T ∧ H T = none ∧ kvs[i]? = some (k, x) ∧ H' = upd H T (.tup [kV k, x]), fun i H => H a = some (.frz o (.dK kvs)) ∧ i = kvs.length⟩
theorem entry_itemiter : entryFor table "dict_itemiterator.__iter__" = some Builtin.«dict_keyiterator.__iter__» :=
  entryFor_alias (id' := "dict_keyiterator.__iter__") (by kernel_rfl) rfl (by decide +kernel) (by kernel_rfl)
theorem iter_itemiter {prog : Program} {w : World} {A : Around} {E : Value → Shared → Prop} {s : Shared} {it d : Addr} {i n ep : Nat} {ok ov : Value} {Q : Value → Shared → Prop} (e : IsItemIter s.heap it d i n ep ok ov) (h : Q (.ref it) s) : wpAny (model prog w) A (pyIter (.ref it)) Q E s := by
  have T : s.TypeIs (.ref it) "dict_itemiterator" := ⟨_, e, rfl⟩
  refine wpAny_pyIter_slot T PySem.F.slot_dict_itemiterator_iter (wpAny_call_entry PySem.F.slot_dict_itemiterator_iter T entry_itemiter ?_ (PySem.F.args_dict_itemiterator_iter_1 _))
  exact (show wpAny _ _ (ret (.ref it)) _ _ s from wpAny_pure ⟨_, rfl, "dict_itemiterator", _, T, PySem.F.slot_dict_itemiterator_next.lookup, h⟩)
theorem turn_items {P : Program} {w : World} {K : PySem.W.Frag} {elts : List Expr} {kk : Nat} {pos : Pos} (it a : Addr) (o : Obj) (kvs : List (Key × V)) {es0 : Array DictEntry} {ep : Nat} (hd : o.data = .dict es0 ep) : Turn P w K (.Tuple elts kk pos) (Itm a o kvs) [it] it (fun i h => ∃ ok ov, IsItemIter h it a i kvs.length ep ok ov) where
  mem := by simp
  obj := fun i h st b hb => by
    have e : b = it := by simpa using hb
    subst e
    obtain ⟨ok, ov, e⟩ := st
    exact ⟨_, e, fun v z => by cases z⟩
  keep := fun i h h' st k => by
    obtain ⟨ok, ov, e⟩ := st
    exact ⟨ok, ov, k it (by simp) _ e⟩
  item := by
    intro X hP hw hK hc i pins s σ H E I hf st hg
    subst hP hw hK
    obtain ⟨hz, hlt⟩ := hg
    obtain ⟨vs, rel, D⟩ := frz_dict I hz hd
    obtain ⟨⟨k, x⟩, hx⟩ : ∃ p, kvs[i]? = some p := ⟨kvs[i], List.getElem?_eq_getElem hlt⟩
    obtain ⟨u, hu, ru⟩ := kv_at rel i hx
    obtain ⟨ok, ov, st'⟩ := st
    rw [rel.length] at st'
    refine wpAny_pyNext_items_item st' D hu fun key h1 hkey ho hT hsz hk => ?_
    refine ⟨_, rfl, wpAny_letOwnedTupleGo_items (s := { s with heap := h1 }) ho fun h2 he2 hs2 => ?_⟩
    have nT : H s.heap.objs.size = none := I.hok.fresh (Nat.le_refl _)
    have il : it < s.heap.objs.size := Heap.lt_size st'
    have hT2 : h2.get? s.heap.objs.size = some { cls := .type "tuple", data := .seq #[key, u] } := (hs2.2 _ (Nat.ne_of_gt il)).trans hT
    have kp : ∀ b o, b ∉ [it] → s.heap.get? b = some o → h2.get? b = some o := fun b o hb q => by
      simp at hb
      exact (hs2.2 b hb).trans (hk b o hb q)
    rw [← rel.length] at he2
    refine ⟨.ref s.heap.objs.size, upd H s.heap.objs.size (.tup [kV k, x]), I.turnedNew (t' := s.toks) (ch := [it]) hf kp (Nat.le_refl _) ⟨by show 2 ≤ sizeLine; decide, [key, u], .cons (is_kV hkey) (.cons ru .nil), ⟨_, hT2, rfl, 0, rfl⟩⟩, rfl,
      ⟨_, k, x, rfl, nT, hx, rfl⟩, ⟨_, _, he2⟩, fun b hb => ?_⟩
    have bl : b ≠ s.heap.objs.size := by
      rw [List.mem_singleton.mp hb]; exact Nat.ne_of_lt il
    rw [upd_ne bl]
    exact (hf b hb).1
  done := by
    intro X hP hw hK hc i pins s σ H E I hf st hg
    subst hP hw hK
    obtain ⟨hz, rfl⟩ := hg
    obtain ⟨vs, rel, D⟩ := frz_dict I hz hd
    obtain ⟨ok, ov, st'⟩ := st
    rw [rel.length] at st'
    refine wpAny_pyNext_items_end (I.ok.hd hc) st' D (by simp) fun h' he' => ⟨rfl, I.turnedAll (t' := s.toks) (ch := [it]) hf fun b o hb q => he' b o (fun z => hb (by simp [z])) q⟩
  self := fun A i s Q E st h => by
    obtain ⟨ok, ov, e⟩ := st
    exact iter_itemiter e h
def iItems (X : Cx) (tl : TE) : TI := fun σ H R => tl σ H fun x H1 => ∃ (v d : Addr) (kvs : List (Key × V)), x = .ref v ∧ H1 v = some (.ext fun h => h.IsItemsView v d) ∧ H1 d = some (.dK kvs) ∧ ∀ o, NF X d → R (Itm d o kvs) (upd H1 d (.frz o (.dK kvs)))
theorem pi_items {X : Cx} {l : Expr} {tl : TE} {elts : List Expr} {kk : Nat} {tp : Pos} (hl : PE X l tl) : PI X (.Tuple elts kk tp) l (iItems X tl) := by
  intro pins s σ H R I h
  refine thn (hl pins s σ H _ I h) fun u s1 ⟨x, H1, I1, r1, q1⟩ => ?_
  obtain ⟨v, a, kvs, rfl, hv, hk, q⟩ := q1
  cases r1
  obtain ⟨z, y, vs, rel, ob, es, ep, e, c, d, rest⟩ := (show ObjOk X.prog X.w H1 s1.heap a (.dK kvs) from I1.hok a _ hk)
  have D : s1.heap.DictAt (mixKind X.prog X.w) a vs ep := ⟨ob, es, e, c, d, rest⟩
  have I2 := I1.freeze hk e
  obtain ⟨view, _⟩ := (show ObjOk X.prog X.w H1 s1.heap v (.ext fun h => h.IsItemsView v a) from I1.hok v _ hv)
  refine wpAny_pyIter_items view D ?_
  refine ⟨s1.heap.objs.size, [s1.heap.objs.size], _, _, _, rfl, I2.kept (t' := s1.toks) fun b o e => Heap.get?_push_of_some _ e, turn_items _ a ob kvs d, ⟨_, _, by rw [rel.length]; exact Heap.get?_push_size _ rfl⟩, fun b hb => ?_, q ob (I1.nf hk)⟩
  have e : b = s1.heap.objs.size := by simpa using hb
  subst e
  exact I2.fpOk (Nat.le_refl _) (I2.hok.fresh (Nat.le_refl _))
end L2
set_option Elab.async false
set_option linter.all false
set_option maxRecDepth 100000
namespace So
open PySem PyProof.Rows
section
variable {prog : Program} {w : World} {A : Around} {E : Value → Shared → Prop} {s : Shared} {κ : KeyKind} {kd : SortKind}
end
end So
set_option Elab.async false
set_option linter.all false
set_option maxRecDepth 100000
namespace So
open PySem PyProof.Rows
section
variable {κ : KeyKind} {kd : SortKind} {a b out : Array Keyed} {ia ib : Nat}
end
end So
set_option Elab.async false
set_option linter.all false
set_option maxRecDepth 100000
namespace So
open PySem PyProof.Rows
section
variable {prog : Program} {w : World} {A : Around} {E : Value → Shared → Prop} {s : Shared} {κ : KeyKind} {kd : SortKind}
end
end So
set_option Elab.async false
set_option linter.all false
set_option maxRecDepth 100000
namespace So
open PySem PyProof.Rows
section
variable {κ : KeyKind} {kd : SortKind} {a b out : Array Keyed} {na nb : Nat}
end
section
variable {prog : Program} {w : World} {A : Around} {E : Value → Shared → Prop} {s : Shared} {κ : KeyKind} {kd : SortKind}
end
end So
set_option Elab.async false
set_option linter.all false
set_option maxRecDepth 100000
namespace So
open PySem PyProof.Rows
section
variable {prog : Program} {w : World} {A : Around} {E : Value → Shared → Prop} {s : Shared} {κ : KeyKind} {kd : SortKind}
end
section
variable {prog : Program} {w : World} {A : Around} {E : Value → Shared → Prop} {s : Shared} {κ : KeyKind} {kd : SortKind}
end
end So
set_option Elab.async false
set_option linter.all false
set_option maxRecDepth 100000
namespace So
open PySem PyProof.Rows
section
variable {prog : Program} {w : World} {A : Around} {E : Value → Shared → Prop} {s : Shared} {κ : KeyKind} {kd : SortKind}
end
end So
set_option Elab.async false
set_option linter.all false
set_option maxRecDepth 100000
namespace So
open PySem PyProof.Rows
section
variable {prog : Program} {w : World} {A : Around} {E : Value → Shared → Prop} {s : Shared} {κ : KeyKind} {kd : SortKind}
end
end So
set_option Elab.async false
set_option linter.all false
set_option maxRecDepth 100000
namespace So
open PySem PyProof.Rows
/-! ### the runs that wait -/
section
variable {κ : KeyKind} {kd : SortKind}
end
section
variable {prog : Program} {w : World} {A : Around} {E : Value → Shared → Prop} {s : Shared} {κ : KeyKind} {kd : SortKind}
end
end So
set_option Elab.async false
set_option linter.all false
set_option maxRecDepth 100000
namespace So
open PySem PyProof.Rows
section
variable {prog : Program} {w : World} {A : Around} {E : Value → Shared → Prop} {s : Shared} {κ : KeyKind} {kd : SortKind}
end
end So
set_option Elab.async false
set_option linter.all false
set_option maxRecDepth 100000
namespace So
open PySem PyProof.Rows
section
variable {prog : Program} {w : World} {A : Around} {E : Value → Shared → Prop} {s : Shared} {κ : KeyKind}
end
end So
set_option Elab.async false
set_option linter.all false
set_option maxRecDepth 100000
namespace Sw
open PySem L2 XH PySem.NumText
/-! ### texts and their signs -/
/-! ### a text split at a sign -/
/-! ### promises -/
end Sw
namespace Sw
open PySem L2 XH PySem.NumText
end Sw
namespace Sw
open PySem L2 XH PySem.NumText
end Sw
namespace Sw
open PySem L2 XH PySem.NumText
end Sw
namespace Sw
open PySem L2 XH PySem.NumText
end Sw
namespace Sw
open PySem L2 XH PySem.NumText
end Sw
set_option Elab.async false
set_option linter.all false
set_option maxRecDepth 100000
namespace L2
open PySem PySem.Spec PyProof.Rows XH
/-! ### list comprehensions with one test -/
section
variable {prog : Program} {w : World} {A : Around} {R : Result → Shared → Prop} {s : Shared}
end
section
variable {X : Cx} {scope : Scope} {cl : List (Str × Addr)} {own : Str} {ys : List Str} {js : List Nat} {elt iter cond : Expr} {px pos : Pos} {wi : TI} {te : TE} {tc : TT}
end
end L2
set_option Elab.async false
set_option linter.all false
set_option maxRecDepth 100000
namespace L2
open PySem PySem.Spec PyProof.Rows XH
/-! ### setdefault -/
section
variable {X : Cx}
end
/-! ### dicts that are alike -/
section
variable {prog : Program} {w : World} {κ : Type} [DecidableEq κ] {knd : KeyKind prog w κ} {A : Around} {E : Value → Shared → Prop} {s : Shared}
end
end L2
set_option Elab.async false
set_option linter.all false
set_option maxRecDepth 100000
namespace L2
open PySem PySem.Spec PyProof.Rows XH
/-! ### list(reversed(xs)) -/
section
variable {prog : Program} {w : World} {A : Around} {R : Result → Shared → Prop} {s : Shared} {I l S : Addr} {items : Array Value}
end
section
variable {X : Cx} {e : Expr} {te : TE} {p1 p2 pos pos2 : Pos}
end
end L2
set_option Elab.async false
set_option linter.all false
set_option maxRecDepth 100000
namespace L2
open PySem PySem.Spec PyProof.Rows XH
/-! ### set(xs) of texts and numbers that are all unlike -/
def upTo (ks : Nat → Key) (i : Nat) : Key → Bool := fun k => (List.range i).any fun j => decide (ks j = k)
theorem upTo_succ (ks : Nat → Key) (i : Nat) : (fun k => upTo ks i k || decide (k = ks i)) = upTo ks (i + 1) := by
  funext k
  unfold upTo
  rw [List.range_succ, List.any_append]
  simp [eq_comm]
section
variable {prog : Program} {w : World} {A : Around} {R : Result → Shared → Prop} {I : Addr} {fp wr : List Addr} {G : Array GenState → Array GenState → Prop} {n : Nat} {P : Nat → Value → Prop} {St : Nat → Shared → Prop}
theorem set_loop (W : WalksS prog w A.in1 I fp wr G n P St) (S : Addr) (out : S ∉ fp) (ks : Nat → Key) (hv : ∀ i v, P i v → (mixKind prog w).is (ks i) v = true ∧ v.scannable = true)
    (inj : ∀ i, i < n → upTo ks i (ks i) = false) (hb : n + 1 < scanBound) : ∀ (m i : Nat) (s : Shared), n - i = m → i ≤ n → St i s → s.heap.SetOf (mixKind prog w) S (upTo ks i) i →
      (∀ s', Moved (S :: wr) G s s' → s'.heap.SetOf (mixKind prog w) S (upTo ks n) n → R (.ok (.ret .none)) s') → codeAny (model prog w) A (.builtin "set.update.loop" ⟨[.ref S, .ref I], []⟩) R s := by
  have nw : S ∉ wr := fun h => out (W.sub _ h)
  have up : ∀ b ∈ wr, b ∈ S :: wr := fun b hb => .tail _ hb
  have stay : ∀ {s1 s2 : Shared} {f : Key → Bool} {c : Nat}, s1.heap.SetOf (mixKind prog w) S f c → Moved wr G s1 s2 → s2.heap.SetOf (mixKind prog w) S f c := by
    rintro s1 s2 f c ⟨o, es, ep, t, ho, z⟩ mv
    exact ⟨o, es, ep, t, mv.heap S _ nw ho, z⟩
  intro m
  induction m with
  | zero =>
    intro i s hm hi st hS fin
    have e : i = n := by omega
    subst e
    apply codeAny_builtin F.entry_set_update_loop
    rw [Around.under_plainId F.plain_set_update_loop _]
    show wpAny _ _ (pyNext (.ref I) >>= _) _ _ s
    apply wpAny_bind
    refine W.done s _ _ st fun s' mv => ?_
    exact wpAny_pure (fin s' (mv.mono up) (stay hS mv))
  | succ m ih =>
    intro i s hm hi st hS fin
    have lt : i < n := by omega
    apply codeAny_builtin F.entry_set_update_loop
    rw [Around.under_plainId F.plain_set_update_loop _]
    show wpAny _ _ (pyNext (.ref I) >>= _) _ _ s
    apply wpAny_bind
    refine W.item i s _ _ lt st fun v s' pv st' mv => ?_
    obtain ⟨kv, sc⟩ := hv i v pv
    show wpAny _ _ (holding [v] (setAdd S v) >>= _) _ _ s'
    apply wpAny_bind
    apply wpAny_holding
    unfold setAdd
    apply wpAny_holding
    apply wpAny_bind
    refine (mixKind prog w).pyHash (k := ks i) kv ?_
    refine wpAny_setAddHashed_of (knd := mixKind prog w) (s := { s' with toks := s'.toks + 1 }) kv sc (show Heap.SetOf (mixKind prog w) s'.heap S (upTo ks i) i from stay hS mv) (by omega) fun h' same S2 => ?_
    have S3 : h'.SetOf (mixKind prog w) S (upTo ks (i + 1)) (i + 1) := by
      rw [upTo_succ, inj i lt] at S2
      exact S2
    apply wpAny_pure
    refine ⟨plainId_quiet F.plain_set_update_loop _, ih (i + 1) _ (by omega) lt (W.frame _ s' _ _ st' (Nat.le_succ _) fun b hb o e => ?_) S3 fun s'' mv2 S4 => ?_⟩
    · exact (same.2 b fun z => out (z ▸ hb)).trans e
    · exact fin s'' (Moved.trans W.gtrans ((mv.mono up).then_heap (Nat.le_succ _) fun b o hb e => (same.2 b fun z => hb (z ▸ List.mem_cons_self)).trans e) mv2) S4
end
section
variable {prog : Program} {w : World} {A : Around} {E : Value → Shared → Prop} {s : Shared}
set_option maxHeartbeats 3200000 in
theorem set_list_ {l : Addr} {items : Array Value} {ks : Nat → Key} {Q : Value → Shared → Prop} (hh : A.handled = none) (hl : s.heap.IsList l items) (hv : ∀ i v, items[i]? = some v → (mixKind prog w).is (ks i) v = true ∧ v.scannable = true)
    (inj : ∀ i, i < items.size → upTo ks i (ks i) = false) (hb : items.size + 1 < scanBound)
    (fin : ∀ (h' : Heap) (tk : Nat), h'.SetOf (mixKind prog w) s.heap.objs.size (upTo ks items.size) items.size → (∀ b o, b < s.heap.objs.size → s.heap.get? b = some o → h'.get? b = some o) → Q (.ref s.heap.objs.size) { s with heap := h', toks := tk }) :
    wpAny (model prog w) A (call (.type "set") [.ref l]) Q E s := by
  obtain ⟨c0, tl0, mro⟩ := F.called_set.mro
  have made := F.called_set.made
  have subt := F.called_set.sub
  apply wpAny_call
  apply codeAny_of_tree
  show wpAny _ _ (callAny (.type "set") _) _ _ _
  apply wpAny_pure
  refine ⟨Code.quiet_builtin _ (by decide +kernel), codeAny_builtin F.entry_type_call ?_⟩
  rw [Around.under_plain (weight_type_call_type "set" [.ref l] []) rfl]
  have nt := F.called_set.notType
  have cc := F.called_set.canCreate
  have tc := F.typeCall_set_1 (.ref l)
  repeat any_goals first | assumption | wp_step
  refine codeAny_mono (code_set_new_1 (.ref l) (E := E) (Q₁ := fun v s1 => ∃ led : Bool, v = .ref s.heap.objs.size ∧ s1 = { s with heap := s.heap.push { cls := .type "set", dict := none, data := .set #[] 0 (.fresh 0 0 led) } }) fun led => ⟨led, rfl, rfl⟩) fun r s1 hr => ?_
  cases r with
  | error e => exact hr
  | ok fl =>
    cases fl with
    | ret v =>
      obtain ⟨led, rfl, rfl⟩ := hr
      have e0 : (s.heap.push { cls := .type "set", dict := none, data := .set #[] 0 (.fresh 0 0 led) }).get? s.heap.objs.size = some { cls := .type "set", dict := none, data := .set #[] 0 (.fresh 0 0 led) } := Heap.get?_push_size _ rfl
      have tS : Shared.TypeIs { s with heap := s.heap.push { cls := .type "set", dict := none, data := .set #[] 0 (.fresh 0 0 led) } } (.ref s.heap.objs.size) "set" := ⟨_, e0, rfl⟩
      have lk := F.called_set.init.lookup
      have bd := F.called_set.init.bind (.ref s.heap.objs.size)
      repeat any_goals first | assumption | wp_step
      refine codeAny_mono (codeAny_call_builtin (R := wants (fun r s2 => r = .none ∧ ∃ h' tk, s2 = { s with heap := h', toks := tk } ∧ h'.SetOf (mixKind prog w) s.heap.objs.size (upTo ks items.size) items.size ∧ ∀ b o, b < s.heap.objs.size → s.heap.get? b = some o → h'.get? b = some o) E) F.called_set.init.plain F.entry_set_init (check_set_init_1 tS ?_)) fun r2 s2 hr2 => ?_
      · obtain ⟨⟨lc, ld, lx, ls⟩, hol, hcl, nl, hdl⟩ := hl
        simp only at hcl hdl
        subst hcl hdl
        have el : (s.heap.push { cls := .type "set", dict := none, data := .set #[] 0 (.fresh 0 0 led) }).get? l = some { cls := .type "list", dict := ld, data := .seq items nl, slots := ls } := Heap.get?_push_of_some _ hol
        have n1 := F.sub_list_set
        have n2 := F.sub_list_frozenset
        have n3 : (Value.type "list" == Value.type "dict") = false := by decide
        have il : (s.heap.push { cls := .type "set", dict := none, data := .set #[] 0 (.fresh 0 0 led) }).IsList l items := ⟨_, el, rfl, nl, rfl⟩
        unfold Builtin.«set.__init__» noKeywords Builtin.Frozenset.updateFrom
        generalize hit : pyIter = PI
        wp_walk
        subst hit
        apply wpAny_pyIter_list il
        apply wpAny_bind
        apply wpAny_runValue
        have ll : l < s.heap.objs.size := Heap.lt_size hol
        have h3 : A.in1.in1.in1.handled = none := by simpa using hh
        have nI : l ≠ (s.heap.push { cls := .type "set", dict := none, data := .set #[] 0 (.fresh 0 0 led) }).objs.size := by
          rw [Heap.size_push]
          exact Nat.ne_of_lt (Nat.lt_succ_of_lt ll)
        have out : s.heap.objs.size ∉ [(s.heap.push { cls := .type "set", dict := none, data := .set #[] 0 (.fresh 0 0 led) }).objs.size, l] := by
          rw [Heap.size_push]
          simp only [List.mem_cons, not_or]
          exact ⟨Nat.ne_of_lt (Nat.lt_succ_self _), Nat.ne_of_gt ll, List.not_mem_nil⟩
        refine set_loop ((Walks.list h3 _ l nI items).toS) s.heap.objs.size out ks hv inj hb items.size 0 _ rfl (Nat.zero_le _) ⟨⟨_, Heap.get?_push_size _ rfl, rfl, rfl⟩, il.push _⟩ ?_ ?_
        · have e1 : ((s.heap.push { cls := .type "set", dict := none, data := .set #[] 0 (.fresh 0 0 led) }).push { cls := .type "list_iterator", data := .fields #[.ref l, .int 0 0] }).get? s.heap.objs.size = some { cls := .type "set", dict := none, data := .set #[] 0 (.fresh 0 0 led) } :=
            Heap.get?_push_of_some _ e0
          refine ⟨_, #[], 0, _, e1, ⟨rfl, rfl, rfl⟩, rfl, (fun e he => by simp at he), (fun k => by simp [upTo]), by decide, rfl, rfl⟩
        · intro s' mv S2
          obtain ⟨h', g', d', tk', os'⟩ := s'
          have eg : g' = s.gens := mv.gens
          have ed : d' = s.drawn := mv.drawn
          have eo : os' = s.os := mv.os
          subst eg ed eo
          show wpAny _ _ _ _ _ _
          apply wpAny_pure
          show wpAny _ _ (ret Value.none) _ _ _
          apply wpAny_pure
          refine ⟨rfl, h', tk', rfl, S2, fun b o hb' e => ?_⟩
          refine mv.heap b o ?_ (Heap.get?_push_of_some _ (Heap.get?_push_of_some _ e))
          rw [Heap.size_push]
          simp only [List.mem_cons, not_or]
          exact ⟨Nat.ne_of_lt hb', Nat.ne_of_lt (Nat.lt_succ_of_lt hb'), List.not_mem_nil⟩
      · cases r2 with
        | error e => exact hr2
        | ok fl2 =>
          cases fl2 with
          | ret r =>
            obtain ⟨rfl, h', tk, rfl, S2, kp⟩ := hr2
            repeat any_goals first | assumption | wp_step
            exact fin _ _ S2 kp
          | _ => exact hr2.elim
    | _ => exact hr.elim
end
end L2
namespace L2
open PySem PySem.Spec PyProof.Rows XH
/-! ### len(set(xs)) -/
def tLenSet (K : PySem.W.Frag) (te : TE) : TE := fun σ H Q => te σ H fun x H1 => ∃ (a : Addr) (ks : List Key), x = .ref a ∧ SqL K H1 a (ks.map kV) ∧ ks.Nodup ∧ ks.length < 4000 ∧ Q (.int ks.length) H1
theorem upTo_nodup {ks : List Key} (nd : ks.Nodup) (i : Nat) (hi : i < ks.length) : upTo (fun j => ks.getD j (.inl 0)) i (ks.getD i (.inl 0)) = false := by
  unfold upTo
  rw [List.any_eq_false]
  intro j hj
  have lj : j < i := List.mem_range.mp hj
  simp only [List.getD_eq_getElem?_getD, List.getElem?_eq_getElem hi, List.getElem?_eq_getElem (Nat.lt_trans lj hi), Option.getD_some, decide_eq_true_eq]
  intro e
  have := (List.getElem_inj nd).mp e
  omega
theorem vals_key : ∀ {ks : List Key} {us : List Value}, Vals (ks.map kV) us → ∀ (P : Program) (w : World) (i : Nat) (v : Value), us[i]? = some v → (mixKind P w).is (ks.getD i (.inl 0)) v = true ∧ v.scannable = true
  | [], _, .nil, P, w, i, v, h => by simp at h
  | k :: ks, _, .cons r t, P, w, 0, v, h => by
    simp at h
    subst h
    refine ⟨kV_is r, ?_⟩
    cases k with
    | inl z => obtain ⟨_, rfl⟩ := r; rfl
    | inr z => obtain ⟨_, rfl⟩ := r; rfl
  | k :: ks, _, .cons r t, P, w, i + 1, v, h => vals_key t P w i v (by simpa using h)
section
variable {X : Cx} {e : Expr} {te : TE} {p1 p2 pos pos2 : Pos}
theorem pe_lenSet (hc : X.calm = true) (g1 : Gl X "len") (m1 : X.mg "len" = none) (g2 : Gl X "set") (m2 : X.mg "set" = none) (b1 : bootBuiltins "len" = some (.builtin "len")) (b2 : bootBuiltins "set" = some (.type "set")) (he : PE X e te)
    (hs : starEach [e] X.env = [(false, eval e X.env)] := by rfl) :
    PE X (.Call (.Name "len" p1) [.Call (.Name "set" p2) [e] [] pos2] [] pos) (tLenSet X.K te) := by
  intro pins s σ H Q I h
  apply wpAny_Call_Name_kw
  refine ld_blt I g1 m1 b1 ?_ (by decide) (by decide)
  refine Calls.callWith_builtin rfl (Calls.evalArgs_plain ?_)
  refine Calls.spliced_cons (x := eval (.Call (.Name "set" p2) [e] [] pos2) X.env) (rest := []) ?_
  apply wpAny_Call_Name_kw
  refine ld_blt I g2 m2 b2 ?_ (by decide) (by decide)
  refine PyProof.Rows.callWith_type1 ?_ hs rfl
  rw [hs]
  refine Calls.spliced_cons (x := eval e X.env) (rest := []) (thn (he pins s σ H _ I h) fun v s1 ⟨x, H1, I1, r1, a, ks, ex, hq, nd, few, q⟩ => ?_)
  subst ex
  cases r1
  apply Calls.spliced_nil
  obtain ⟨its, rv, pl, hz⟩ := I1.list hq
  have sz : its.toArray.size = ks.length := by rw [List.size_toArray, ← rv.length, List.length_map]
  have hli : s1.heap.IsList a its.toArray := pl.isList
  refine set_list_ (ks := fun j => ks.getD j (.inl 0)) (I.ok.hd hc) hli (fun i v hv => vals_key rv X.prog X.w i v (by simpa using hv)) (fun i hi => upTo_nodup nd i (by rw [← sz]; exact hi)) (by rw [sz]; show ks.length + 1 < 4096; omega) fun h' tk S2 kp => ?_
  apply Calls.spliced_nil
  obtain ⟨o, es, ep, t, ho, hx, hd, _, _, hb, hf, hn⟩ := S2
  refine call_len_set ho hx hd hf (by rw [hn, sz]; have : ks.length < 4000 := few; omega) ?_
  refine ⟨.int ks.length, H1, I1.kept (fun b o e => kp b o (Heap.lt_size e) e), ⟨_, by rw [hn, sz]⟩, q⟩
end
end L2
set_option Elab.async false
set_option linter.all false
set_option maxRecDepth 100000
namespace L2
open PySem PySem.Spec PyProof.Rows XH
end L2
namespace Sw
open PySem L2
/-! ### what parts lead to -/
/-! ### dicts with one value for all keys -/
/-! ### how many of a list are not yet there -/
/-! ### a list of pairs -/
end Sw
namespace Sw
open PySem L2
end Sw
set_option Elab.async false
set_option linter.all false
set_option maxRecDepth 100000
namespace Sw
open PySem L2
/-! ### parts as a dict of dicts -/
/-! ### as it lies in the heap -/
end Sw
set_option Elab.async false
set_option linter.all false
set_option maxRecDepth 100000
namespace Sw
open PySem L2
/-! ### all that is in a good, each with the one ahead of it -/
end Sw
set_option Elab.async false
set_option linter.all false
set_option maxRecDepth 100000
namespace Sw
open PySem L2
/-! ### a way down, kept from its end -/
end Sw
set_option Elab.async false
set_option linter.all false
set_option maxRecDepth 100000
namespace L2
open PySem PySem.Spec PyProof.Rows XH
section
variable {X : Cx} {scope : Scope} {cl : List (Str × Addr)} {own : Str} {ys : List Str} {js : List Nat} {elt iter cond : Expr} {px pos : Pos} {wi : TI} {te : TE} {tc : TT}
end
end L2
set_option Elab.async false
set_option linter.all false
set_option maxRecDepth 100000
namespace L2
open PySem PySem.Spec PyProof.Rows XH
/-! ### x == [] -/
/-! ### comprehensions with a test that changes nothing -/
end L2
namespace Sw
open PySem L2 PyProof.Rows
/-! ### dicts of dicts that are alike -/
/-! ### a way down to one of the goals -/
end Sw
set_option Elab.async false
set_option linter.all false
set_option maxRecDepth 100000
namespace Sw
open PySem L2 PyProof.Rows
end Sw
set_option Elab.async false
set_option linter.all false
set_option maxRecDepth 100000
namespace L2
open PySem PySem.Spec PyProof.Rows XH Sw So
end L2
set_option Elab.async false
set_option linter.all false
set_option maxRecDepth 100000
namespace So
open PySem PySem.Spec PyProof.Rows
end So
set_option Elab.async false
set_option linter.all false
set_option maxRecDepth 100000
namespace So
open PySem PyProof.Rows
section
variable {prog : Program} {w : World} {A : Around} {E : Value → Shared → Prop} {s : Shared} {κ : KeyKind} {kd : SortKind}
end
end So
set_option Elab.async false
set_option linter.all false
set_option maxRecDepth 100000
namespace L2
open PySem PySem.Spec PyProof.Rows XH Sw So
section
variable {prog : Program} {w : World} {A : Around} {E : Value → Shared → Prop} {s : Shared}
end
end L2
set_option Elab.async false
set_option linter.all false
set_option maxRecDepth 100000
namespace L2
open PySem PySem.Spec PyProof.Rows XH Sw So
end L2
set_option Elab.async false
set_option linter.all false
namespace Hm
/-! ### things of a heap, by their numbers; the order of them -/
abbrev Ky := List Int
/-! ### the heap -/
end Hm
set_option Elab.async false
set_option linter.all false
set_option maxRecDepth 100000
namespace Hm
open PySem PySem.SeqAt PySem.MeetsSeq
/-! ### less than, of tuples of whole numbers -/
section
variable {prog : Program} {w : World} {A : Around} {E : Value → Shared → Prop} {s : Shared}
end
end Hm
set_option Elab.async false
set_option linter.all false
set_option maxRecDepth 100000
namespace L2
open PySem PySem.Spec PyProof.Rows XH Sw So Hm
/-! ### things: whole numbers, or tuples of such -/
section
variable {prog : Program} {w : World} {A : Around} {E : Value → Shared → Prop} {s : Shared}
end
end L2
set_option Elab.async false
set_option linter.all false
set_option maxRecDepth 100000
namespace Sw
open PySem L2 XH
/-! ### own classes: their defs as callers see them -/
structure DxM (P : Program) (w : World) (K : PySem.W.Frag) (mg : Str → Option Value) (base : Heap) (CX : CXT) (k : Nat) (f : Addr) (ps : List Str) (dvs : List V) (sp : Sp) where
  fd : FuncData
  ok : FnOk P w K mg base CX k f fd ps sp
  b : Binds K fd ps []
  bd : ∃ ds, Binds K fd ps ds ∧ Vals dvs ds
section
variable {X : Cx} {k j : Nat} {f C : Addr} {ps : List Str} {sp : Sp} {dvs : List V} {x m : Str} {p pos apos : Pos} {e o : Expr} {es : List Expr} {ta tb : TE} {t : TA}
theorem pmake0 (M : Mk X.K C f) (D : DxM X.prog X.w X.K X.mg X.base CX0 k f ps dvs sp) (hr : Room j X.A) (hk : k + 1 ≤ j) (hg : Gl X x) (hm : X.mg x = some (.ref C)) (ha : PA X (e :: es) t) (hdb : (x == ("__debug__" : Str)) = false := by decide)
    (he : starEach (e :: es) X.env = (false, eval e X.env) :: starEach es X.env := by rfl) (hpl : (backTo pos (starEach es X.env)).any (·.1) = false := by rfl) : PE X (.Call (.Name x p) (e :: es) [] pos) (tMake C sp [] E0 t) :=
  pe_make M D.ok (hr.mono hk) hg hm D.b .nil pass0 ha hdb he hpl
end
end Sw
set_option Elab.async false
set_option linter.all false
set_option maxRecDepth 100000
namespace Sw
open PySem L2 XH
/-! ### defs of own classes that may refuse -/
section
variable {X : Cx} {k j : Nat} {f C : Addr} {ps : List Str} {sp : Sp} {dvs : List V} {x m : Str} {p pos apos : Pos} {e o : Expr} {es : List Expr} {ta tb : TE} {t : TA} {E : L2.St → XK}
end
end Sw
set_option Elab.async false
set_option linter.all false
set_option maxRecDepth 100000
namespace L2
open PySem PySem.Spec PyProof.Rows XH
section
variable {X : Cx} {scope : Scope} {cl : List (Str × Addr)} {own : Str} {ys : List Str} {js : List Nat} {elt iter : Expr} {px pos : Pos} {wi : TI} {te : TE}
end
end L2
set_option Elab.async false
set_option linter.all false
set_option maxRecDepth 100000
namespace L2
open PySem PySem.Spec PyProof.Rows XH
section
variable {X : Cx}
end
/-- a list walked in a comprehension whose element may lay new things -/
theorem comp_byL {K : PySem.W.Frag} {a : Addr} {xs : List V} {js : List Nat} {te : TE} {σ : L2.St} {H1 : Hp} {Q : VK} (P : V → V → Prop) (hS : SqL K H1 a xs) (hz : xs.length ≤ sizeLine)
    (step : ∀ x ∈ xs, ∀ H3, Same H1 H3 → ∀ Q' : VK, (∀ y H4, P x y → Same H3 H4 → Q' y H4) → te (some x :: freesOf js σ) H3 Q')
    (fin : ∀ (p : Addr) (ys : List V) (H' : Hp), H1 p = none → ys.length = xs.length → (∀ (i : Nat) (x y : V), xs[i]? = some x → ys[i]? = some y → P x y) → Same H1 H' → H' p = some (.lst ys) → Q (.ref p) H') : compR js te σ Q (Itl K a) H1 := by
  intro p hp
  refine ⟨fun i m ys H2 => i ≤ xs.length ∧ m = xs.length - i ∧ ys.length = i ∧ (∀ (i : Nat) (x y : V), xs[i]? = some x → ys[i]? = some y → P x y) ∧ Same H1 H2 ∧ H2 p = some (.lst ys), ⟨xs.length, Nat.zero_le _, rfl, rfl, fun j x y _ e => by simp at e, Sw.same_new hp _, upd_same⟩, ?_⟩
  rintro i m ys H2 ⟨hi, rfl, hl, hP, g, e⟩
  refine ⟨e, ?_⟩
  have S2 := g.seq hS
  by_cases hin : i < xs.length
  · refine .inr ⟨⟨xs, xs[i], S2, List.getElem?_eq_getElem hin⟩, by omega, fun x H3 hy => ?_⟩
    obtain ⟨rfl, hx⟩ := hy
    have ex := hx xs S2
    refine step x (List.mem_of_getElem? ex) H3 g _ fun y H4 py g4 => ⟨g4 _ _ e, xs.length - (i + 1), by omega, hin, rfl, by simp [hl], fun j x' y' e1 e2 => ?_, Sw.sUpd (g.trans g4) hp _, upd_same⟩
    by_cases hj : j < ys.length
    · rw [List.getElem?_append_left hj] at e2
      exact hP j x' y' e1 e2
    · have ej : j = i := by
        have := (List.getElem?_eq_some_iff.mp e2).1
        simp at this
        omega
      subst ej
      rw [List.getElem?_append_right (by omega), hl] at e2
      simp at e2
      subst e2
      rw [ex] at e1
      cases e1
      exact py
  · have e2 : i = xs.length := by omega
    subst e2
    exact .inl ⟨⟨xs, S2, Nat.le_refl _⟩, fin p ys H2 hp hl hP g e⟩
end L2
namespace Sw
open PySem L2 XH PySem.NumText
/-! ### a row's words, sign by sign -/
end Sw
set_option Elab.async false
set_option linter.all false
set_option maxRecDepth 100000
namespace L2
open PySem PySem.Spec PyProof.Rows XH Sw So Hm
theorem cut_take {xs : List V} {c : Nat} (h : c ≤ xs.length) : cutV xs none (some (c : Int)) = xs.take c := by
  have e1 : HT.sIx xs.length 0 none = 0 := rfl
  have e2 : HT.sIx xs.length xs.length (some (c : Int)) = c := by
    show (if (c : Int) < 0 then ((c : Int) + (xs.length : Int)).toNat else min (c : Int).toNat xs.length) = c
    rw [if_neg (by omega)]
    omega
  unfold cutV
  rw [e1, e2, List.drop_zero, Nat.sub_zero]
theorem cut_drop {xs : List V} {c : Nat} (h : c ≤ xs.length) : cutV xs (some (c : Int)) none = xs.drop c := by
  have e1 : HT.sIx xs.length 0 (some (c : Int)) = c := by
    show (if (c : Int) < 0 then ((c : Int) + (xs.length : Int)).toNat else min (c : Int).toNat xs.length) = c
    rw [if_neg (by omega)]
    omega
  have e2 : HT.sIx xs.length xs.length none = xs.length := rfl
  unfold cutV
  rw [e1, e2, List.take_of_length_le (by rw [List.length_drop]; omega)]
end L2
namespace Sw
open PySem L2 XH Hm
section
variable {X : Cx} {k j : Nat} {f C : Addr} {ps : List Str} {sp : Sp} {dvs : List V} {x m : Str} {p pos apos : Pos} {e o : Expr} {es : List Expr} {ta tb : TE} {t : TA} {E : L2.St → XK}
end
/-! ### a heap that is kept in a list -/
theorem upd_self {H : Hp} {l : Addr} {o : HO} (h : H l = some o) : upd H l o = H := by
  funext b
  by_cases c : b = l
  · subst c
    rw [upd_same, h]
  · rw [upd_ne c]
end Sw
set_option Elab.async false
set_option linter.all false
set_option maxRecDepth 100000
namespace L2
open PySem PySem.Spec PyProof.Rows XH Sw Hm
/-- a list walked in a comprehension, each element told by the heaps ahead of it and behind it -/
theorem comp_byH {K : PySem.W.Frag} {a : Addr} {xs : List V} {js : List Nat} {te : TE} {σ : L2.St} {H1 : Hp} {Q : VK} (P : Hp → V → V → Hp → Prop) (hS : SqL K H1 a xs) (hz : xs.length ≤ sizeLine)
    (step : ∀ x ∈ xs, ∀ H3, Same H1 H3 → ∀ Q' : VK, (∀ y H4, P H3 x y H4 → Same H3 H4 → Q' y H4) → te (some x :: freesOf js σ) H3 Q')
    (fin : ∀ (p : Addr) (ys : List V) (H' : Hp), H1 p = none → ys.length = xs.length → (∀ (i : Nat) (x y : V), xs[i]? = some x → ys[i]? = some y → ∃ H3 H4, Same H1 H3 ∧ H3 p ≠ none ∧ P H3 x y H4 ∧ ∀ b o, b ≠ p → H4 b = some o → H' b = some o) → Same H1 H' → H' p = some (.lst ys) → Q (.ref p) H') : compR js te σ Q (Itl K a) H1 := by
  intro p hp
  refine ⟨fun i m ys H2 => i ≤ xs.length ∧ m = xs.length - i ∧ ys.length = i ∧ (∀ (i : Nat) (x y : V), xs[i]? = some x → ys[i]? = some y → ∃ H3 H4, Same H1 H3 ∧ H3 p ≠ none ∧ P H3 x y H4 ∧ ∀ b o, b ≠ p → H4 b = some o → H2 b = some o) ∧ Same H1 H2 ∧ H2 p = some (.lst ys), ⟨xs.length, Nat.zero_le _, rfl, rfl, fun i x y _ e => by simp at e, Sw.same_new hp _, upd_same⟩, ?_⟩
  rintro i m ys H2 ⟨hi, rfl, hl, hP, g, e⟩
  refine ⟨e, ?_⟩
  have S2 := g.seq hS
  by_cases hin : i < xs.length
  · refine .inr ⟨⟨xs, xs[i], S2, List.getElem?_eq_getElem hin⟩, by omega, fun x H3 hy => ?_⟩
    obtain ⟨rfl, hx⟩ := hy
    have ex := hx xs S2
    refine step x (List.mem_of_getElem? ex) H3 g _ fun y H4 py g4 => ⟨g4 _ _ e, xs.length - (i + 1), by omega, hin, rfl, by simp [hl], fun j x' y' e1 e2 => ?_, Sw.sUpd (g.trans g4) hp _, upd_same⟩
    by_cases hj : j < ys.length
    · rw [List.getElem?_append_left hj] at e2
      obtain ⟨A, B, q1, q2, q3, q4⟩ := hP j x' y' e1 e2
      exact ⟨A, B, q1, q2, q3, fun b o n q => by rw [upd_ne n]; exact g4 _ _ (q4 b o n q)⟩
    · have ej : j = i := by
        have := (List.getElem?_eq_some_iff.mp e2).1
        simp at this
        omega
      subst ej
      rw [List.getElem?_append_right (by omega), hl] at e2
      simp at e2
      subst e2
      rw [ex] at e1
      cases e1
      exact ⟨H3, H4, g, by rw [e]; exact nofun, py, fun b o n q => by rw [upd_ne n]; exact q⟩
  · have e2 : i = xs.length := by omega
    subst e2
    exact .inl ⟨⟨xs, S2, Nat.le_refl _⟩, fin p ys H2 hp hl hP g e⟩
end L2
namespace Sw
open PySem L2 XH Hm
/-! ### nets and plans: what lies at the addresses -/
def Ref2 {α : Type} (R : Addr → α → Prop) (as : List Addr) (xs : List α) : Prop := as.length = xs.length ∧ ∀ (i : Nat) (a : Addr) (x : α), as[i]? = some a → xs[i]? = some x → R a x
theorem Ref2.imp {α : Type} {R S : Addr → α → Prop} {as : List Addr} {xs : List α} (h : Ref2 R as xs) (f : ∀ a x, R a x → S a x) : Ref2 S as xs := ⟨h.1, fun i a x e1 e2 => f a x (h.2 i a x e1 e2)⟩
theorem Ref2.get {α : Type} {R : Addr → α → Prop} {as : List Addr} {xs : List α} (h : Ref2 R as xs) {i : Nat} {x : α} (e : xs[i]? = some x) : ∃ a, as[i]? = some a ∧ R a x := by
  have il : i < as.length := by rw [h.1]; exact (List.getElem?_eq_some_iff.mp e).1
  exact ⟨_, List.getElem?_eq_getElem il, h.2 i _ x (List.getElem?_eq_getElem il) e⟩
theorem Ref2.nil {α : Type} {R : Addr → α → Prop} : Ref2 R [] ([] : List α) := ⟨rfl, fun i a x e => by simp at e⟩
theorem Ref2.snoc {α : Type} {R : Addr → α → Prop} {as : List Addr} {xs : List α} (h : Ref2 R as xs) {a : Addr} {x : α} (r : R a x) : Ref2 R (as ++ [a]) (xs ++ [x]) := by
  refine ⟨by simp [h.1], fun i b y e1 e2 => ?_⟩
  have il := (List.getElem?_eq_some_iff.mp e1).1
  by_cases c : i < as.length
  · rw [List.getElem?_append_left c] at e1
    rw [List.getElem?_append_left (by rw [← h.1]; exact c)] at e2
    exact h.2 i b y e1 e2
  · have ei : i = as.length := by simp at il; omega
    subst ei
    rw [List.getElem?_append_right (Nat.le_refl _)] at e1
    rw [List.getElem?_append_right (by rw [h.1]; exact Nat.le_refl _), h.1] at e2
    simp at e1 e2
    subst e1 e2
    exact r
/-- a list of tuples of numbers -/
def TupsA (H : Hp) (l : Addr) (ks : List Ky) : Prop := ∃ as : List Addr, H l = some (.lst (as.map V.ref)) ∧ Ref2 (fun t k => H t = some (.tup (k.map V.int))) as ks
theorem TupsA.same {H H' : Hp} {l : Addr} {ks : List Ky} (h : TupsA H l ks) (g : Same H H') : TupsA H' l ks := by
  obtain ⟨as, e, r⟩ := h
  exact ⟨as, g _ _ e, r.imp fun a k q => g _ _ q⟩
/-- a way without uses -/
def WayA (H : Hp) (t : Addr) (w : Int × Int) : Prop := ∃ u : Addr, H t = some (.tup [.int w.1, .int w.2, .ref u]) ∧ H u = some (.lst [])
theorem WayA.same {H H' : Hp} {t : Addr} {w : Int × Int} (h : WayA H t w) (g : Same H H') : WayA H' t w := let ⟨u, a, b⟩ := h; ⟨u, g _ _ a, g _ _ b⟩
def WaysA (H : Hp) (l : Addr) (ws : List (Int × Int)) : Prop := ∃ as : List Addr, H l = some (.lst (as.map V.ref)) ∧ Ref2 (WayA H) as ws
theorem WaysA.same {H H' : Hp} {l : Addr} {ws : List (Int × Int)} (h : WaysA H l ws) (g : Same H H') : WaysA H' l ws := by
  obtain ⟨as, e, r⟩ := h
  exact ⟨as, g _ _ e, r.imp fun a k q => q.same g⟩
def TasksA (H : Hp) (l : Addr) (T : List (List (Int × Int))) : Prop := ∃ as : List Addr, H l = some (.lst (as.map V.ref)) ∧ Ref2 (WaysA H) as T
theorem TasksA.same {H H' : Hp} {l : Addr} {T : List (List (Int × Int))} (h : TasksA H l T) (g : Same H H') : TasksA H' l T := by
  obtain ⟨as, e, r⟩ := h
  exact ⟨as, g _ _ e, r.imp fun a k q => q.same g⟩
/-- ways laid anew behind H0 -/
def WaysF (H0 H : Hp) (l : Addr) (ws : List (Int × Int)) : Prop := H0 l = none ∧ ∃ as : List Addr, H l = some (.lst (as.map V.ref)) ∧ Ref2 (fun t w => ∃ u : Addr, H0 u = none ∧ H0 t = none ∧ H t = some (.tup [.int w.1, .int w.2, .ref u]) ∧ H u = some (.lst [])) as ws
theorem WaysF.ways {H0 H H' : Hp} {l p : Addr} {ws : List (Int × Int)} (h : WaysF H0 H l ws) (np : H0 p ≠ none) (g : ∀ b o, b ≠ p → H b = some o → H' b = some o) : WaysA H' l ws := by
  obtain ⟨nl, as, e, r⟩ := h
  have ne : ∀ {q : Addr}, H0 q = none → q ≠ p := fun {q} n z => np (z ▸ n)
  exact ⟨as, g _ _ (ne nl) e, r.imp fun t w ⟨u, nu, nt, et, eu⟩ => ⟨u, g _ _ (ne nt) et, g _ _ (ne nu) eu⟩⟩
theorem WayA.fun {H : Hp} {t : Addr} {w v : Int × Int} (h1 : WayA H t w) (h2 : WayA H t v) : w = v := by
  obtain ⟨u, a, _⟩ := h1
  obtain ⟨u', b, _⟩ := h2
  rw [a] at b
  obtain ⟨w1, w2⟩ := w
  obtain ⟨v1, v2⟩ := v
  simp at b
  rw [b.1, b.2.1]
theorem refs_inj {as bs : List Addr} (h : as.map V.ref = bs.map V.ref) : as = bs := (List.map_inj_right (fun _ _ z => by injection z)).mp h
theorem WaysA.fun {H : Hp} {l : Addr} {ws vs : List (Int × Int)} (h1 : WaysA H l ws) (h2 : WaysA H l vs) : ws = vs := by
  obtain ⟨as, e, r⟩ := h1
  obtain ⟨bs, e', r'⟩ := h2
  rw [e] at e'
  injection e' with e'
  injection e' with e'
  have := refs_inj e'
  subst this
  apply List.ext_getElem (r.1.symm.trans r'.1)
  intro i h1 h2
  obtain ⟨a, ha, q⟩ := r.get (List.getElem?_eq_getElem h1)
  exact q.fun (r'.2 i a _ ha (List.getElem?_eq_getElem h2))
end Sw
set_option Elab.async false
set_option linter.all false
set_option maxRecDepth 100000
namespace L2
open PySem PySem.Spec PyProof.Rows XH
theorem call_lenD1 {X : Cx} : CallR X (.builtin "len") (fun xs H Q => ∃ (d : Addr) (kvs : List (Key × V)), xs = [.ref d] ∧ H d = some (.dK kvs) ∧ Q (.int kvs.length) H) := by
  intro pins s σ H xs us Q I r h
  obtain ⟨d, kvs, rfl, hd, q⟩ := h
  obtain ⟨u, rfl, ru⟩ := vals1 r
  cases ru
  exact d_len I (.inl hd) fun t s' I' => ⟨.int kvs.length, H, I', ⟨t, rfl⟩, q⟩
theorem ix_tupB {X : Cx} {K : PySem.W.Frag} (h : X.K = K) : IxR X (rIxT K) := by
  subst h
  exact ix_tup
theorem call_listB {X : Cx} {K : PySem.W.Frag} (h : X.K = K) : CallR X (.type "list") (fun xs H Q => ∃ p ys, xs = [.ref p] ∧ (SqL K H p ys ∨ SqT K H p ys) ∧ ∀ l, H l = none → Q (.ref l) (upd H l (.lst ys))) := by
  subst h
  exact call_list_of
theorem boot_dict1 : bootBuiltins "dict" = some (.type "dict") := by kernel_rfl
end L2
namespace Sw
open PySem L2 XH Hm
theorem refs_list : ∀ {ys : List V}, (∀ y ∈ ys, ∃ t : Addr, y = .ref t) → ∃ as : List Addr, ys = as.map V.ref
  | [], _ => ⟨[], rfl⟩
  | y :: ys, h => by
    obtain ⟨t, rfl⟩ := h y (by simp)
    obtain ⟨as, e⟩ := refs_list fun z hz => h z (List.mem_cons_of_mem _ hz)
    exact ⟨t :: as, by rw [e]; rfl⟩
/-- a net without tools and pairs -/
structure NetA (C : Addr) (H : Hp) (x : Addr) (T : List (List (Int × Int))) (A : List Ky) (n : Int) : Prop where
  ex : ∃ (dx td tl al pl : Addr) (fs : List (Str × V)), H x = some (.ins C dx fs) ∧ fs.lookup ("tools" : Str) = some (.ref td) ∧ fs.lookup ("tasks" : Str) = some (.ref tl) ∧ fs.lookup ("arcs" : Str) = some (.ref al) ∧ fs.lookup ("apart" : Str) = some (.ref pl) ∧ fs.lookup ("moments" : Str) = some (.int n) ∧
    H td = some (.dK []) ∧ TasksA H tl T ∧ TupsA H al A ∧ H pl = some (.lst [])
theorem NetA.same {C : Addr} {H H' : Hp} {x : Addr} {T : List (List (Int × Int))} {A : List Ky} {n : Int} (h : NetA C H x T A n) (g : Same H H') : NetA C H' x T A n := by
  obtain ⟨dx, td, tl, al, pl, fs, a, b1, b2, b3, b4, b5, c, d, e, f⟩ := h.ex
  exact ⟨dx, td, tl, al, pl, fs, g _ _ a, b1, b2, b3, b4, b5, g _ _ c, d.same g, e.same g, g _ _ f⟩
structure NetOk (T : List (List (Int × Int))) (A : List Ky) (n : Int) : Prop where
  t24 : T.length ≤ 24
  ways : ∀ ws ∈ T, 1 ≤ ws.length ∧ ws.length ≤ 2 ∧ ∀ w ∈ ws, 1 ≤ w.1 ∧ w.1 ≤ w.2 ∧ w.2 ≤ 1000000000
  n0 : 0 ≤ n
  n8 : n ≤ 8
  a600 : A.length ≤ 600
  arcs : ∀ k ∈ A, ∃ p q g : Int, k = [p, q, g] ∧ 0 ≤ p ∧ p < 2 * (T.length : Int) + n ∧ 0 ≤ q ∧ q < 2 * (T.length : Int) + n ∧ -1000000000 ≤ g ∧ g ≤ 1000000000
def netF (td tl al pl n : V) : List (Str × V) := putF "moments" n (putF "apart" pl (putF "arcs" al (putF "tasks" tl (putF "tools" td []))))
theorem netF_at {td tl al pl n : V} : (netF td tl al pl n).lookup ("tools" : Str) = some td ∧ (netF td tl al pl n).lookup ("tasks" : Str) = some tl ∧ (netF td tl al pl n).lookup ("arcs" : Str) = some al ∧ (netF td tl al pl n).lookup ("apart" : Str) = some pl ∧ (netF td tl al pl n).lookup ("moments" : Str) = some n := by
  unfold netF
  refine ⟨?_, ?_, ?_, ?_, ?_⟩
  · rw [lookup_putF, if_neg (by decide), lookup_putF, if_neg (by decide), lookup_putF, if_neg (by decide), lookup_putF, if_neg (by decide), lookup_putF, if_pos rfl]
  · rw [lookup_putF, if_neg (by decide), lookup_putF, if_neg (by decide), lookup_putF, if_neg (by decide), lookup_putF, if_pos rfl]
  · rw [lookup_putF, if_neg (by decide), lookup_putF, if_neg (by decide), lookup_putF, if_pos rfl]
  · rw [lookup_putF, if_neg (by decide), lookup_putF, if_pos rfl]
  · rw [lookup_putF, if_pos rfl]
/-- nothing is changed but at x -/
def Fx (x : Addr) (H H' : Hp) : Prop := ∀ a o, a ≠ x → H a = some o → H' a = some o
theorem Fx.of {x : Addr} {H H' : Hp} (g : Same H H') : Fx x H H' := fun a o _ h => g a o h
theorem Fx.put (x : Addr) (H : Hp) (o : HO) : Fx x H (upd H x o) := fun a u n h => by rw [upd_ne n]; exact h
theorem Fx.trans {x : Addr} {H H1 H2 : Hp} (a : Fx x H H1) (b : Fx x H1 H2) : Fx x H H2 := fun c o n h => b c o n (a c o n h)
theorem TasksA.fx {x : Addr} {H H' : Hp} {l : Addr} {T : List (List (Int × Int))} {C dx : Addr} {fs : List (Str × V)} (h : TasksA H l T) (ex : H x = some (.ins C dx fs)) (g : Fx x H H') : TasksA H' l T := by
  have nl : ∀ {a : Addr} {zs : List V}, H a = some (.lst zs) → a ≠ x := fun e => ne_of e ex (by intro z; cases z)
  have nt : ∀ {a : Addr} {zs : List V}, H a = some (.tup zs) → a ≠ x := fun e => ne_of e ex (by intro z; cases z)
  obtain ⟨as, e, r⟩ := h
  exact ⟨as, g _ _ (nl e) e, r.imp fun a ws ⟨ts, e1, r1⟩ => ⟨ts, g _ _ (nl e1) e1, r1.imp fun t w ⟨u, e2, e3⟩ => ⟨u, g _ _ (nt e2) e2, g _ _ (nl e3) e3⟩⟩⟩
theorem TupsA.fx {x : Addr} {H H' : Hp} {l : Addr} {ks : List Ky} {C dx : Addr} {fs : List (Str × V)} (h : TupsA H l ks) (ex : H x = some (.ins C dx fs)) (g : Fx x H H') : TupsA H' l ks := by
  obtain ⟨as, e, r⟩ := h
  exact ⟨as, g _ _ (ne_of e ex (by intro z; cases z)) e, r.imp fun a k q => g _ _ (ne_of q ex (by intro z; cases z)) q⟩
def spNo : Sp := fun _ _ _ _ => False
def spNet (C : Addr) : Sp := fun vs H Q _ => ∃ (x dx td tl al pl : Addr) (n : Int) (T : List (List (Int × Int))) (A : List Ky), vs = [.ref x, .ref td, .ref tl, .ref al, .ref pl, .int n] ∧ H x = some (.ins C dx []) ∧ H td = some (.dK []) ∧ TasksA H tl T ∧ TupsA H al A ∧ H pl = some (.lst []) ∧ NetOk T A n ∧
  ∀ H', (∀ a o, a ≠ x → H a = some o → H' a = some o) → NetA C H' x T A n → Q .non H'
def spPoints (C : Addr) : Sp := fun vs H Q _ => ∃ (x : Addr) (n : Int) (T : List (List (Int × Int))) (A : List Ky), vs = [.ref x] ∧ NetA C H x T A n ∧ Q (.int (2 * (T.length : Int) + n)) H
def spCopy : Sp := fun vs H Q _ => ∃ (l : Addr) (ws : List (Int × Int)), vs = [.ref l] ∧ WaysA H l ws ∧ ws.length ≤ 2 ∧ ∀ (p : Addr) (H' : Hp), Same H H' → WaysF H H' p ws → Q (.ref p) H'
def spRTools : Sp := fun vs H Q _ => ∃ td : Addr, vs = [.ref td] ∧ H td = some (.dK []) ∧ ∀ H', Same H H' → Q .non H'
def spRTasks : Sp := fun vs H Q _ => ∃ (tl td : Addr) (T : List (List (Int × Int))), vs = [.ref tl, .ref td] ∧ TasksA H tl T ∧ T.length ≤ 24 ∧ (∀ ws ∈ T, 1 ≤ ws.length ∧ ws.length ≤ 2 ∧ ∀ w ∈ ws, 1 ≤ w.1 ∧ w.1 ≤ w.2 ∧ w.2 ≤ 1000000000) ∧ ∀ H', Same H H' → Q .non H'
def spRUses : Sp := fun vs H Q _ => ∃ (u : Addr) (y : V), vs = [.ref u, y] ∧ H u = some (.lst []) ∧ ∀ H', Same H H' → Q .non H'
def spRArcs : Sp := fun vs H Q _ => ∃ (al : Addr) (m : Int) (A : List Ky), vs = [.ref al, .int m] ∧ TupsA H al A ∧ A.length ≤ 600 ∧ (∀ k ∈ A, ∃ p q g : Int, k = [p, q, g] ∧ 0 ≤ p ∧ p < m ∧ 0 ≤ q ∧ q < m ∧ -1000000000 ≤ g ∧ g ≤ 1000000000) ∧ Q .non H
def spRPairs : Sp := fun vs H Q _ => ∃ (pl : Addr) (m : Int), vs = [.ref pl, .int m] ∧ H pl = some (.lst []) ∧ Q .non H
end Sw
set_option Elab.async false
set_option linter.all false
set_option maxRecDepth 100000
namespace L2
open PySem PySem.Spec PyProof.Rows XH
section
variable {X : Cx} {scope : Scope} {cl : List (Str × Addr)} {os : List Str} {ys : List Str} {js : List Nat} {fp : List Addr} {pins : List (Addr × Obj)} {σ : St} {H : Hp} {s s4 : Shared}
end
section
variable {X : Cx} {scope : Scope} {cl : List (Str × Addr)} {os : List Str} {ys : List Str} {js : List Nat} {elt iter tg : Expr} {px pos : Pos} {wi : TI} {te : TE} {g : TG}
end
end L2

namespace Sw
open PySem L2 XH
end Sw
set_option Elab.async false
set_option linter.all false
set_option maxRecDepth 100000
namespace L2
open PySem PySem.Spec PyProof.Rows XH
section
variable {X : Cx} {scope : Scope} {cl : List (Str × Addr)} {os : List Str} {ys : List Str} {js : List Nat} {elt iter tg : Expr} {px pos : Pos} {wi : TI} {te : TE} {g : TG}
end
end L2
set_option Elab.async false
set_option linter.all false
set_option maxRecDepth 100000
namespace Sw
open PySem L2 XH
/-! ### packs -/
end Sw
namespace L2
open PySem PySem.Spec PyProof.Rows
end L2
namespace Sw
open PySem L2 XH
end Sw
set_option Elab.async false
set_option linter.all false
set_option maxRecDepth 100000
namespace Sw
open PySem L2 XH
/-! ### many needs: tops, bottoms, and how many figures of two a bottom has -/
end Sw
set_option Elab.async false
set_option linter.all false
set_option maxRecDepth 100000
namespace Sw
open PySem L2 XH
end Sw
namespace L2
open PySem PySem.Spec PyProof.Rows
end L2
set_option Elab.async false
set_option linter.all false
set_option maxRecDepth 100000
namespace Sw
open PySem L2 XH
/-! ### steps: their fields -/
/-! ### rounds -/
end Sw
set_option Elab.async false
set_option linter.all false
set_option maxRecDepth 100000
namespace L2
open PySem PySem.Spec PyProof.Rows XH
section
variable {X : Cx}
end
/-! ### things alike, of any depth -/
def All2 (R : V → V → Prop) : List V → List V → Prop
  | [], [] => True
  | x :: xs, y :: ys => R x y ∧ All2 R xs ys
  | _, _ => False
theorem All2.len {R : V → V → Prop} : ∀ {xs ys : List V}, All2 R xs ys → xs.length = ys.length
  | [], [], _ => rfl
  | _ :: _, _ :: _, h => by simp [All2.len h.2]
  | [], _ :: _, h => h.elim
  | _ :: _, [], h => h.elim
def Alk (K : PySem.W.Frag) (H : Hp) : Nat → V → V → Prop
  | 0, x, y => x = y ∧ Smp x
  | n + 1, x, y => Alk K H n x y ∨ ∃ a b xs ys, x = .ref a ∧ y = .ref b ∧ ((SqT K H a xs ∧ SqT K H b ys) ∨ (SqL K H a xs ∧ SqL K H b ys)) ∧ All2 (Alk K H n) xs ys
theorem all2_eq {A : Around} {s : Shared} {R : V → V → Prop} (hR : ∀ x y u w, R x y → RelV x u → RelV y w → SeqAt.EqAt A s u w true) : ∀ {xs ys : List V} {us ws : List Value}, All2 R xs ys → Vals xs us → Vals ys ws → ∀ j (h1 : j < us.length) (h2 : j < ws.length), SeqAt.EqAt A s us[j] ws[j] true
  | [], [], _, _, _, .nil, .nil, j, h1, _ => absurd h1 (by simp)
  | _ :: _, _ :: _, _, _, h, .cons r1 _, .cons r2 _, 0, _, _ => hR _ _ _ _ h.1 r1 r2
  | _ :: _, _ :: _, _, _, h, .cons _ t1, .cons _ t2, j + 1, h1, h2 => all2_eq hR h.2 t1 t2 j (by simpa using h1) (by simpa using h2)
theorem alk_eq {X : Cx} {pins : List (Addr × Obj)} {σ : St} {H : Hp} {s : Shared} (I : Inv X pins σ H s) : ∀ (n : Nat) (A : Around) (x y : V) (u w : Value), A.units + n < cLine → Alk X.K H n x y → RelV x u → RelV y w → SeqAt.EqAt A s u w true
  | 0, A, x, y, u, w, _, h, r1, r2 => by
    obtain ⟨rfl, hs⟩ := h
    exact eqat_smp hs r1 r2
  | n + 1, A, x, y, u, w, hu, h, r1, r2 => by
    rcases h with h | ⟨a, b, xs, ys, rfl, rfl, hq, hA⟩
    · exact alk_eq I n A x y u w (by omega) h r1 r2
    cases r1
    cases r2
    by_cases e : a = b
    · subst e
      exact SeqAt.EqAt.same _
    refine SeqAt.EqAt.of_refs e ?_
    have ih := fun x y u w => alk_eq I n A.in1 x y u w (by show A.units + 1 + n < _; omega)
    rcases hq with ⟨h1, h2⟩ | ⟨h1, h2⟩
    · obtain ⟨i1, v1, p1, _⟩ := I.tuple h1
      obtain ⟨i2, v2, p2, _⟩ := I.tuple h2
      have k := SeqAt.RcAt.tuples (A := A) (e := fun _ => true) p1 p2 (by omega) fun j g1 g2 => all2_eq (A := A.in1) (s := s) ih hA v1 v2 j (by simpa using g1) (by simpa using g2)
      have e1 : ∀ m, ((List.range m).all fun _ => true) = true := fun m => by simp
      rw [e1] at k
      simpa [← v1.length, ← v2.length, hA.len] using k
    · obtain ⟨i1, v1, p1, _⟩ := I.list h1
      obtain ⟨i2, v2, p2, _⟩ := I.list h2
      have k := SeqAt.RcAt.lists (A := A) (e := fun _ => true) p1.isList p2.isList (by simp [← v1.length, ← v2.length, hA.len]) (by omega) fun j g1 g2 => all2_eq (A := A.in1) (s := s) ih hA v1 v2 j (by simpa using g1) (by simpa using g2)
      have e1 : ∀ m, ((List.range m).all fun _ => true) = true := fun m => by simp
      rw [e1] at k
      exact k
end L2
namespace Sw
open PySem L2 XH
/-! ### recipes -/
end Sw
set_option Elab.async false
set_option linter.all false
set_option maxRecDepth 100000
namespace L2
open PySem PySem.Spec PyProof.Rows XH Sw So
theorem op_eqAT {X : Cx} (n : Nat) (hu : X.A.units + (n + 1) < cLine) : OpR X (compareOp .Eq) (fun x y H Q => ∃ a b xs ys, x = .ref a ∧ y = .ref b ∧ SqT X.K H a xs ∧ SqT X.K H b ys ∧ All2 (Alk X.K H n) xs ys ∧ Q (.bl true) H) := by
  intro pins s σ H x y v u Q I rx ry h
  obtain ⟨a, b, xs, ys, rfl, rfl, h1, h2, hA, hq⟩ := h
  cases rx
  cases ry
  obtain ⟨i1, v1, p1, _⟩ := I.tuple h1
  obtain ⟨i2, v2, p2, _⟩ := I.tuple h2
  refine SeqAt.eq_tupleAt (e := fun _ => true) p1 p2 (by omega) (fun j g1 g2 => ?_) ?_
  · exact all2_eq (A := X.A.in1) (s := s) (fun x y u w => alk_eq I n X.A.in1 x y u w (by show X.A.units + 1 + n < _; omega)) hA v1 v2 j (by simpa using g1) (by simpa using g2)
  · exact ⟨.bl true, H, I, by show Value.bool _ = Value.bool _; simp [← v1.length, ← v2.length, hA.len], hq⟩
theorem op_neAT {X : Cx} (n : Nat) (hu : X.A.units + (n + 1) < cLine) : OpR X (compareOp .NotEq) (fun x y H Q => ∃ a b xs ys, x = .ref a ∧ y = .ref b ∧ SqT X.K H a xs ∧ SqT X.K H b ys ∧ All2 (Alk X.K H n) xs ys ∧ Q (.bl false) H) := by
  intro pins s σ H x y v u Q I rx ry h
  obtain ⟨a, b, xs, ys, rfl, rfl, h1, h2, hA, hq⟩ := h
  cases rx
  cases ry
  obtain ⟨i1, v1, p1, _⟩ := I.tuple h1
  obtain ⟨i2, v2, p2, _⟩ := I.tuple h2
  refine SeqAt.RcNeAt.tuples (e := fun _ => true) p1 p2 (by omega) (fun j g1 g2 => ?_) _ _ _ _ ⟨.bl false, H, I, by show Value.bool _ = Value.bool _; simp [← v1.length, ← v2.length, hA.len], hq⟩
  exact all2_eq (A := X.A.in1) (s := s) (fun x y u w => alk_eq I n X.A.in1 x y u w (by show X.A.units + 1 + n < _; omega)) hA v1 v2 j (by simpa using g1) (by simpa using g2)
end L2
namespace Sw
open PySem L2 XH Hm
/-! ### breaches: lists of tuples (text, number) -/
theorem Ref2.append {α : Type} {R : Addr → α → Prop} {as bs : List Addr} {xs ys : List α} (h : Ref2 R as xs) (k : Ref2 R bs ys) : Ref2 R (as ++ bs) (xs ++ ys) := by
  refine ⟨by simp [h.1, k.1], fun i a x e1 e2 => ?_⟩
  by_cases c : i < as.length
  · rw [List.getElem?_append_left c] at e1
    rw [List.getElem?_append_left (by rw [← h.1]; exact c)] at e2
    exact h.2 i a x e1 e2
  · rw [List.getElem?_append_right (by omega)] at e1
    rw [List.getElem?_append_right (by rw [← h.1]; omega), ← h.1] at e2
    exact k.2 _ a x e1 e2
end Sw
namespace L2
open PySem PySem.Spec PyProof.Rows XH Sw Hm
end L2
namespace Sw
open PySem L2 XH Hm
/-! ### plans -/
abbrev Rn := Int × Int × Int
def rk (r : Rn) : Ky := [r.1, r.2.1, r.2.2]
def PlanA (H : Hp) (t : Addr) (R : List Rn) (M : List Int) : Prop := ∃ rl ml : Addr, H t = some (.tup [.ref rl, .ref ml]) ∧ TupsA H rl (R.map rk) ∧ H ml = some (.lst (M.map V.int))
theorem PlanA.same {H H' : Hp} {t : Addr} {R : List Rn} {M : List Int} (h : PlanA H t R M) (g : Same H H') : PlanA H' t R M := by
  obtain ⟨rl, ml, a, b, c⟩ := h
  exact ⟨rl, ml, g _ _ a, b.same g, g _ _ c⟩
structure PlanOk (T : List (List (Int × Int))) (R : List Rn) : Prop where
  len : R.length = T.length
  way : ∀ (i : Nat) (r : Rn) (ws : List (Int × Int)), R[i]? = some r → T[i]? = some ws → 0 ≤ r.2.2 ∧ r.2.2 < (ws.length : Int)
def spots : List Rn → List Int → List Int
  | [], M => M
  | r :: R, M => r.1 :: r.2.1 :: spots R M
theorem spots_len (M : List Int) : ∀ R : List Rn, (spots R M).length = 2 * R.length + M.length
  | [] => by simp [spots]
  | r :: R => by simp [spots, spots_len M R]; omega
theorem spots_hi (M : List Int) : ∀ (R : List Rn) (i : Nat), (spots R M)[2 * R.length + i]? = M[i]?
  | [], i => by simp [spots]
  | r :: R, i => by
    have e : 2 * (r :: R).length + i = (2 * R.length + i) + 1 + 1 := by simp; omega
    rw [e]
    show (spots R M)[2 * R.length + i]? = _
    exact spots_hi M R i
theorem spots_lo (M : List Int) : ∀ (R : List Rn) (i : Nat) (r : Rn), R[i]? = some r → (spots R M)[2 * i]? = some r.1 ∧ (spots R M)[2 * i + 1]? = some r.2.1
  | [], i, r, h => by simp at h
  | q :: R, 0, r, h => by
    simp at h
    subst h
    exact ⟨rfl, rfl⟩
  | q :: R, i + 1, r, h => by
    have ih := spots_lo M R i r (by simpa using h)
    exact ih
def spTimeOf : Sp := fun vs H Q _ => ∃ (t : Addr) (p : Int) (R : List Rn) (M : List Int) (v : Int), vs = [.ref t, .int p] ∧ PlanA H t R M ∧ 0 ≤ p ∧ (spots R M)[p.toNat]? = some v ∧ Q (.int v) H
theorem n2 {p A B : Prop} [Decidable p] (h1 : ¬ p → A) (h2 : p → B) : if (!decide p) = true then A else B := by
  by_cases h : p
  · rw [if_neg (by simp [h])]; exact h2 h
  · rw [if_pos (by simp [h])]; exact h1 h
theorem refs_at {as : List Addr} {i : Nat} {y : V} (h : (as.map V.ref)[i]? = some y) : ∃ a, as[i]? = some a ∧ y = .ref a := by
  rw [List.getElem?_map] at h
  obtain ⟨a, e, rfl⟩ := Option.map_eq_some_iff.mp h
  exact ⟨a, e, rfl⟩
theorem map_at {α : Type} {f : α → V} {xs : List α} {i : Nat} {x : α} (h : xs[i]? = some x) : (xs.map f)[i]? = some (f x) := by rw [List.getElem?_map, h]; rfl
theorem run_at {H : Hp} {bs : List Addr} {R : List Rn} (h : Ref2 (fun t k => H t = some (.tup (k.map V.int))) bs (R.map rk)) {i : Nat} {b : Addr} (e : bs[i]? = some b) : ∃ r : Rn, R[i]? = some r ∧ H b = some (.tup [.int r.1, .int r.2.1, .int r.2.2]) := by
  have il : i < R.length := by
    have := (List.getElem?_eq_some_iff.mp e).1
    rw [h.1, List.length_map] at this
    exact this
  exact ⟨_, List.getElem?_eq_getElem il, h.2 i b (rk R[i]) e (by rw [List.getElem?_map, List.getElem?_eq_getElem il]; rfl)⟩
theorem run_get {H : Hp} {bs : List Addr} {R : List Rn} (h : Ref2 (fun t k => H t = some (.tup (k.map V.int))) bs (R.map rk)) {i : Nat} {r : Rn} (e : R[i]? = some r) : ∃ b, bs[i]? = some b ∧ H b = some (.tup [.int r.1, .int r.2.1, .int r.2.2]) := by
  obtain ⟨b, hb, _⟩ := h.get (i := i) (x := rk r) (by rw [List.getElem?_map, e]; rfl)
  obtain ⟨r', e', q⟩ := run_at h hb
  rw [e] at e'
  cases e'
  exact ⟨b, hb, q⟩
/-- a time by its point, from a run -/
theorem time_lo {R : List Rn} {M : List Int} {p v : Int} (p0 : 0 ≤ p) (c : p < 2 * (R.length : Int)) (ev : (spots R M)[p.toNat]? = some v) : ∃ (i : Nat) (r : Rn), p.fdiv 2 = (i : Int) ∧ R[i]? = some r ∧ atI [V.int r.1, .int r.2.1, .int r.2.2] (p.fmod 2) = some (.int v) := by
  have e1 : p.fdiv 2 = p / 2 := Int.fdiv_eq_ediv_of_nonneg p (by decide)
  have e2 : p.fmod 2 = p % 2 := Int.fmod_eq_emod_of_nonneg p (by decide)
  have il : p.toNat / 2 < R.length := by omega
  obtain ⟨s1, s2⟩ := spots_lo M R _ _ (List.getElem?_eq_getElem il)
  refine ⟨p.toNat / 2, _, by rw [e1]; omega, List.getElem?_eq_getElem il, ?_⟩
  rw [e2]
  by_cases h : p.toNat % 2 = 0
  · have ep : p % 2 = ((0 : Nat) : Int) := by omega
    have en : p.toNat = 2 * (p.toNat / 2) := by omega
    rw [en, s1] at ev
    cases ev
    rw [ep]
    exact atI_nat rfl
  · have ep : p % 2 = ((1 : Nat) : Int) := by omega
    have en : p.toNat = 2 * (p.toNat / 2) + 1 := by omega
    rw [en, s2] at ev
    cases ev
    rw [ep]
    exact atI_nat rfl
theorem time_hi {R : List Rn} {M : List Int} {p v : Int} {n : Nat} (hn : n = R.length) (c : p - 2 * (n : Int) ≥ 0) (ev : (spots R M)[p.toNat]? = some v) : atI (M.map V.int) (p - 2 * (n : Int)) = some (.int v) := by
  subst hn
  obtain ⟨j, hj⟩ : ∃ j : Nat, p.toNat = 2 * R.length + j := ⟨p.toNat - 2 * R.length, by omega⟩
  rw [hj, spots_hi] at ev
  have e : p - 2 * (R.length : Int) = (j : Int) := by omega
  rw [e]
  exact atI_nat (map_at ev)
end Sw
set_option Elab.async false
set_option linter.all false
set_option maxRecDepth 100000
namespace Sw
open PySem L2 XH Hm
/-! ### the law on turns and arcs: what its own defs promise -/
def Dwn (z : Int) : Prop := 0 ≤ z ∧ z < 2147483629
def spDrawnB : Sp := fun vs H Q _ => ∃ (c m : Int), vs = [.int c, .int m] ∧ 0 ≤ m ∧ m ≤ 1000 ∧ ∀ (p : Addr) (ns : List Int) (H' : Hp), H p = none → Same H H' → ns.length = m.toNat → (∀ z ∈ ns, Dwn z) → H' p = some (.lst (ns.map V.int)) → Q (.ref p) H'
def spTimeB : Sp := fun vs H Q _ => ∃ x y : Int, vs = [.int x, .int y] ∧ Dwn x ∧ Dwn y ∧ ∀ (v : Int) (H' : Hp), Same H H' → Q (.int v) H'
def WyOk (w : Int × Int) : Prop := 1 ≤ w.1 ∧ w.1 ≤ w.2 ∧ w.2 ≤ 1000000000
theorem spots_cat (M : List Int) : ∀ R : List Rn, spots R [] ++ M = spots R M
  | [] => rfl
  | r :: R => by simp [spots, spots_cat M R]
theorem spots_take : ∀ {R : List Rn} {i : Nat} {r : Rn}, R[i]? = some r → spots (R.take (i + 1)) [] = spots (R.take i) [] ++ [r.1] ++ [r.2.1]
  | [], i, r, h => by simp at h
  | q :: R, 0, r, h => by
    simp at h
    subst h
    rfl
  | q :: R, i + 1, r, h => by
    have ih := spots_take (R := R) (i := i) (r := r) (by simpa using h)
    show q.1 :: q.2.1 :: spots (R.take (i + 1)) [] = q.1 :: q.2.1 :: (spots (R.take i) [] ++ [r.1] ++ [r.2.1])
    rw [ih]
theorem dn_at {ns : List Int} {i : Nat} (h : ∀ z ∈ ns, Dwn z) (hi : i < ns.length) : ∃ z, ns[i]? = some z ∧ Dwn z := ⟨_, List.getElem?_eq_getElem hi, h _ (List.getElem_mem hi)⟩
theorem fm {a n : Int} (h : 0 < n) : 0 ≤ a.fmod n ∧ a.fmod n < n := ⟨Int.fmod_nonneg_of_pos a h, Int.fmod_lt_of_pos a h⟩
theorem ints_at {ns : List Int} {i : Int} (h0 : 0 ≤ i) (h : i < (ns.length : Int)) : ∃ v, atI (ns.map V.int) i = some (.int v) := by
  obtain ⟨j, rfl⟩ : ∃ j : Nat, i = (j : Int) := ⟨i.toNat, by omega⟩
  exact ⟨ns[j]'(by omega), atI_nat (map_at (List.getElem?_eq_getElem (by omega)))⟩
theorem tups_put {H : Hp} {l t : Addr} {as : List Addr} {ks : List Ky} {k : Ky} (e : H l = some (.lst (as.map V.ref))) (r : Ref2 (fun t k => H t = some (.tup (k.map V.int))) as ks) (h : H t = some (.tup (k.map V.int))) : TupsA (upd H l (.lst (as.map V.ref ++ [.ref t]))) l (ks ++ [k]) :=
  ⟨as ++ [t], by rw [upd_same, List.map_append]; rfl, (r.snoc h).imp fun t b q => by rw [upd_ne (ne_of q e (by intro z; cases z))]; exact q⟩
theorem all2_at {R : V → V → Prop} : ∀ {xs ys : List V}, xs.length = ys.length → (∀ (i : Nat) (x y : V), xs[i]? = some x → ys[i]? = some y → R x y) → All2 R xs ys
  | [], [], _, _ => trivial
  | x :: xs, y :: ys, hl, h => ⟨h 0 x y rfl rfl, all2_at (by simpa using hl) fun i a b e1 e2 => h (i + 1) a b (by simpa using e1) (by simpa using e2)⟩
  | [], _ :: _, hl, _ => by simp at hl
  | _ :: _, [], hl, _ => by simp at hl
/-- ways laid behind Hb -/
def WaysN (Hb H : Hp) (l : Addr) (ws : List (Int × Int)) : Prop := Hb l = none ∧ ∃ as : List Addr, H l = some (.lst (as.map V.ref)) ∧ Ref2 (fun t w => ∃ u : Addr, Hb u = none ∧ H t = some (.tup [.int w.1, .int w.2, .ref u]) ∧ H u = some (.lst [])) as ws
theorem WaysN.ways {Hb H : Hp} {l : Addr} {ws : List (Int × Int)} (h : WaysN Hb H l ws) : WaysA H l ws := by
  obtain ⟨_, as, e, r⟩ := h
  exact ⟨as, e, r.imp fun t w ⟨u, _, a, b⟩ => ⟨u, a, b⟩⟩
theorem WaysN.same {Hb H H' : Hp} {l : Addr} {ws : List (Int × Int)} (h : WaysN Hb H l ws) (g : Same H H') : WaysN Hb H' l ws := by
  obtain ⟨n, as, e, r⟩ := h
  exact ⟨n, as, g _ _ e, r.imp fun t w ⟨u, nu, a, b⟩ => ⟨u, nu, g _ _ a, g _ _ b⟩⟩
theorem WaysN.upd {Hb H : Hp} {l x : Addr} {ws : List (Int × Int)} {zs ys : List V} (h : WaysN Hb H l ws) (nx : Hb x ≠ none) (ex : H x = some (.lst zs)) : WaysN Hb (upd H x (.lst ys)) l ws := by
  obtain ⟨n, as, e, r⟩ := h
  have ne : ∀ {q : Addr}, Hb q = none → q ≠ x := fun {q} m z => nx (z ▸ m)
  exact ⟨n, as, by rw [upd_ne (ne n)]; exact e, r.imp fun t w ⟨u, nu, a, b⟩ => ⟨u, nu, by rw [upd_ne (ne_of a ex (by intro z; cases z))]; exact a, by rw [upd_ne (ne nu)]; exact b⟩⟩
def TasksN (Hb H : Hp) (l : Addr) (T : List (List (Int × Int))) : Prop := ∃ as : List Addr, H l = some (.lst (as.map V.ref)) ∧ Ref2 (WaysN Hb H) as T
theorem TasksN.tasks {Hb H : Hp} {l : Addr} {T : List (List (Int × Int))} (h : TasksN Hb H l T) : TasksA H l T := by
  obtain ⟨as, e, r⟩ := h
  exact ⟨as, e, r.imp fun a ws q => q.ways⟩
theorem TasksN.same {Hb H H' : Hp} {l : Addr} {T : List (List (Int × Int))} (h : TasksN Hb H l T) (g : Same H H') : TasksN Hb H' l T := by
  obtain ⟨as, e, r⟩ := h
  exact ⟨as, g _ _ e, r.imp fun a k q => q.same g⟩
theorem TasksN.put {Hb H : Hp} {l lw : Addr} {T : List (List (Int × Int))} {ws : List (Int × Int)} {as : List Addr} (nl : Hb l ≠ none) (e : H l = some (.lst (as.map V.ref))) (r : Ref2 (WaysN Hb H) as T) (h : WaysN Hb H lw ws) : TasksN Hb (upd H l (.lst (as.map V.ref ++ [.ref lw]))) l (T ++ [ws]) :=
  ⟨as ++ [lw], by rw [upd_same, List.map_append]; rfl, (r.snoc h).imp fun a k q => q.upd nl e⟩
theorem TasksN.upd {Hb H : Hp} {l x : Addr} {T : List (List (Int × Int))} {zs ys : List V} (h : TasksN Hb H l T) (nx : Hb x ≠ none) (ex : H x = some (.lst zs)) (xl : l ≠ x) : TasksN Hb (L2.upd H x (.lst ys)) l T := by
  obtain ⟨as, e, r⟩ := h
  exact ⟨as, by rw [upd_ne xl]; exact e, r.imp fun a k q => q.upd nx ex⟩
theorem TupsA.upd {H : Hp} {l x : Addr} {ks : List Ky} {zs ys : List V} (h : TupsA H l ks) (ex : H x = some (.lst zs)) (xl : l ≠ x) : TupsA (L2.upd H x (.lst ys)) l ks := by
  obtain ⟨as, e, r⟩ := h
  exact ⟨as, by rw [upd_ne xl]; exact e, r.imp fun a k q => by rw [upd_ne (ne_of q ex (by intro z; cases z))]; exact q⟩
theorem PlanOk.snoc {T : List (List (Int × Int))} {R : List Rn} {ws : List (Int × Int)} {r : Rn} (h : PlanOk T R) (h0 : 0 ≤ r.2.2) (h1 : r.2.2 < (ws.length : Int)) : PlanOk (T ++ [ws]) (R ++ [r]) := by
  refine ⟨by rw [List.length_append, List.length_append, h.len]; rfl, fun i q vs e1 e2 => ?_⟩
  by_cases c : i < R.length
  · rw [List.getElem?_append_left c] at e1
    rw [List.getElem?_append_left (by rw [← h.len]; exact c)] at e2
    exact h.way i q vs e1 e2
  · have il := (List.getElem?_eq_some_iff.mp e1).1
    have ei : i = R.length := by simp at il; omega
    rw [List.getElem?_append_right (by omega), ei] at e1
    rw [List.getElem?_append_right (by rw [← h.len]; omega), ei, h.len] at e2
    simp at e1 e2
    subst e1 e2
    exact ⟨h0, h1⟩
/-- plans alike, their lists copied -/
theorem plan_alk {K : PySem.W.Frag} {H : Hp} {l1 l2 lr lm : Addr} {bs : List Addr} {ks : List Ky} {M : List Int} (e1 : H l1 = some (.lst (bs.map V.ref))) (e2 : H l2 = some (.lst (M.map V.int))) (e3 : H lr = some (.lst (bs.map V.ref))) (e4 : H lm = some (.lst (M.map V.int))) (r : Ref2 (fun t k => H t = some (.tup (k.map V.int))) bs ks) : All2 (Alk K H 2) [.ref l1, .ref l2] [.ref lr, .ref lm] := by
  refine ⟨.inr ⟨l1, lr, _, _, rfl, rfl, .inr ⟨SqL.of e1, SqL.of e3⟩, ?_⟩, .inr ⟨l2, lm, _, _, rfl, rfl, .inr ⟨SqL.of e2, SqL.of e4⟩, ?_⟩, trivial⟩
  · refine all2_at rfl fun i x y h1 h2 => ?_
    rw [h1] at h2
    cases h2
    obtain ⟨b, hb, rfl⟩ := refs_at h1
    have il : i < ks.length := by rw [← r.1]; exact (List.getElem?_eq_some_iff.mp hb).1
    have eb := r.2 i b _ hb (List.getElem?_eq_getElem il)
    refine .inr ⟨b, b, _, _, rfl, rfl, .inl ⟨SqT.of eb, SqT.of eb⟩, all2_at rfl fun j x y g1 g2 => ?_⟩
    rw [g1] at g2
    cases g2
    rw [List.getElem?_map] at g1
    obtain ⟨z, _, rfl⟩ := Option.map_eq_some_iff.mp g1
    exact ⟨rfl, trivial⟩
  · refine all2_at rfl fun i x y h1 h2 => ?_
    rw [h1] at h2
    cases h2
    rw [List.getElem?_map] at h1
    obtain ⟨z, _, rfl⟩ := Option.map_eq_some_iff.mp h1
    exact .inl ⟨rfl, trivial⟩
theorem made_keep2 {H1 H' : Hp} {x dx : Addr} {C : Addr} (nx : H1 x = none) (nd : H1 dx = none) (h : ∀ a o, a ≠ x → upd (upd H1 dx (.own x)) x (.ins C dx []) a = some o → H' a = some o) : Same H1 H' := fun a o e => by
  have ax : a ≠ x := fun z => by rw [z, nx] at e; cases e
  have ad : a ≠ dx := fun z => by rw [z, nd] at e; cases e
  exact h a o ax (by rw [upd_ne ax, upd_ne ad]; exact e)
theorem fr_upd {Hb H : Hp} {x : Addr} {o : HO} (h : ∀ y, H y = none → Hb y = none) : ∀ y, L2.upd H x o y = none → Hb y = none := fun y e => by
  by_cases z : y = x
  · rw [z, upd_same] at e
    cases e
  · rw [upd_ne z] at e
    exact h y e
end Sw
set_option Elab.async false
set_option linter.all false
set_option maxRecDepth 100000
namespace L2
open PySem PySem.Spec PyProof.Rows XH Sw Hm
end L2
namespace Sw
open PySem L2 XH Hm
/-- whether a plan is one of the net -/
def PlanFor (T : List (List (Int × Int))) (n : Int) (R : List Rn) (M : List Int) : Prop := PlanOk T R ∧ (M.length : Int) = n
def spIsPlanB (C : Addr) : Sp := fun vs H Q _ => ∃ (x t : Addr) (T : List (List (Int × Int))) (A : List Ky) (n : Int) (R : List Rn) (M : List Int), vs = [.ref x, .ref t] ∧ NetA C H x T A n ∧ PlanA H t R M ∧ ∀ (b : Bool) (H' : Hp), Same H H' → (b = true ↔ PlanFor T n R M) → Q (.bl b) H'
def Grt (m : Int) (S : List Int) : Prop := m ∈ 0 :: S ∧ ∀ z ∈ 0 :: S, z ≤ m
theorem Grt.one {m m' : Int} {S : List Int} (h : Grt m S) (h' : Grt m' S) : m = m' := Int.le_antisymm (h'.2 m h.1) (h.2 m' h'.1)
def spLenP : Sp := fun vs H Q _ => ∃ (t : Addr) (R : List Rn) (M : List Int), vs = [.ref t] ∧ PlanA H t R M ∧ R.length ≤ 30 ∧ M.length ≤ 30 ∧ ∀ (m : Int) (H' : Hp), Same H H' → Grt m (spots R M) → Q (.int m) H'
def spTimesTold : Sp := fun vs H Q _ => ∃ (t : Addr) (R : List Rn) (M : List Int), vs = [.ref t] ∧ PlanA H t R M ∧ R.length ≤ 24 ∧ M.length ≤ 8 ∧ ∀ H', Same H H' → Q (.bl true) H'
end Sw
set_option Elab.async false
set_option linter.all false
set_option maxRecDepth 100000
namespace L2
open PySem PySem.Spec PyProof.Rows XH Sw Hm
theorem all_dec {α : Type} [DecidableEq α] {xs ys : List α} (h : xs.length = ys.length) : ((List.range xs.length).all fun i => decide (xs[i]? = ys[i]?)) = decide (xs = ys) := by
  rw [Bool.eq_iff_iff]
  simp only [List.all_eq_true, List.mem_range, decide_eq_true_eq]
  constructor
  · intro a
    apply List.ext_getElem?
    intro i
    by_cases c : i < xs.length
    · exact a i c
    · rw [List.getElem?_eq_none (by omega), List.getElem?_eq_none (by omega)]
  · rintro rfl i _
    rfl
theorem vals_int {ks : List Int} {us : List Value} (h : Vals (ks.map V.int) us) {j : Nat} (hj : j < us.length) : ∃ (k : Int) (t : Tok), ks[j]? = some k ∧ us[j] = .int k t := by
  have lj : j < ks.length := by have := h.length; rw [List.length_map] at this; omega
  obtain ⟨u, hu, ru⟩ := h.get (i := j) (x := .int ks[j]) (by rw [List.getElem?_map, List.getElem?_eq_getElem lj]; rfl)
  obtain ⟨t, rfl⟩ := ru
  rw [List.getElem?_eq_getElem hj] at hu
  injection hu with hu
  exact ⟨_, t, List.getElem?_eq_getElem lj, hu⟩
section
variable {X : Cx} {pins : List (Addr × Obj)} {σ : St} {H : Hp} {s : Shared}
theorem dec_at {α : Type} [DecidableEq α] {a b : α} {xs ys : List α} {i : Nat} (h1 : xs[i]? = some a) (h2 : ys[i]? = some b) : decide (xs[i]? = ys[i]?) = decide (a = b) := by
  rw [h1, h2]
  simp
/-- two tuples of as many numbers -/
theorem eq_tupN (I : Inv X pins σ H s) {A : Around} (hu : A.units < cLine) {t t' : Addr} {k k' : Ky} (e : H t = some (.tup (k.map V.int))) (e' : H t' = some (.tup (k'.map V.int))) (hl : k.length = k'.length) : SeqAt.EqAt A s (.ref t) (.ref t') (decide (k = k')) := by
  by_cases z : t = t'
  · subst z
    rw [e] at e'
    injection e' with e'
    injection e' with e'
    have ek : k = k' := (List.map_inj_right (fun _ _ z => by injection z)).mp e'
    rw [decide_eq_true ek]
    exact SeqAt.EqAt.same _
  refine SeqAt.EqAt.of_refs z ?_
  obtain ⟨i1, v1, p1, _⟩ := I.tuple (SqT.of e)
  obtain ⟨i2, v2, p2, _⟩ := I.tuple (SqT.of e')
  have n1 : i1.length = k.length := by rw [← v1.length, List.length_map]
  have n2 : i2.length = k'.length := by rw [← v2.length, List.length_map]
  have q := SeqAt.RcAt.tuples (A := A) (e := fun j => decide (k[j]? = k'[j]?)) p1 p2 hu fun j g1 g2 => by
    have g1' : j < i1.length := by simpa using g1
    have g2' : j < i2.length := by simpa using g2
    obtain ⟨a, ta, ha, ua⟩ := vals_int v1 g1'
    obtain ⟨b, tb, hb, ub⟩ := vals_int v2 g2'
    rw [dec_at ha hb]
    have w := SeqAt.EqAt.int_int (A := A.in1) (s := s) a ta b tb
    have eb : (a == b) = decide (a = b) := rfl
    rw [eb] at w
    simpa [ua, ub] using w
  have es : ((List.range (min i1.toArray.size i2.toArray.size)).all (fun j => decide (k[j]? = k'[j]?)) && (i1.toArray.size == i2.toArray.size)) = decide (k = k') := by
    simp only [List.size_toArray, n1, n2, hl, Nat.min_self, beq_self_eq_true, Bool.and_true]
    rw [← hl]
    exact all_dec hl
  rw [es] at q
  exact q
/-- two lists of numbers -/
theorem eq_intsL (I : Inv X pins σ H s) {A : Around} (hu : A.units < cLine) {t t' : Addr} {k k' : List Int} (e : H t = some (.lst (k.map V.int))) (e' : H t' = some (.lst (k'.map V.int))) : SeqAt.EqAt A s (.ref t) (.ref t') (decide (k = k')) := by
  by_cases z : t = t'
  · subst z
    rw [e] at e'
    injection e' with e'
    injection e' with e'
    have ek : k = k' := (List.map_inj_right (fun _ _ z => by injection z)).mp e'
    rw [decide_eq_true ek]
    exact SeqAt.EqAt.same _
  refine SeqAt.EqAt.of_refs z ?_
  obtain ⟨i1, v1, p1, _⟩ := I.list (SqL.of e)
  obtain ⟨i2, v2, p2, _⟩ := I.list (SqL.of e')
  have n1 : i1.length = k.length := by rw [← v1.length, List.length_map]
  have n2 : i2.length = k'.length := by rw [← v2.length, List.length_map]
  by_cases hl : k.length = k'.length
  · have q := SeqAt.RcAt.lists (A := A) (e := fun j => decide (k[j]? = k'[j]?)) p1.isList p2.isList (by simp [n1, n2, hl]) hu fun j g1 g2 => by
      have g1' : j < i1.length := by simpa using g1
      have g2' : j < i2.length := by simpa using g2
      obtain ⟨a, ta, ha, ua⟩ := vals_int v1 g1'
      obtain ⟨b, tb, hb, ub⟩ := vals_int v2 g2'
      rw [dec_at ha hb]
      have w := SeqAt.EqAt.int_int (A := A.in1) (s := s) a ta b tb
      have eb : (a == b) = decide (a = b) := rfl
      rw [eb] at w
      simpa [ua, ub] using w
    have es : (List.range i1.toArray.size).all (fun j => decide (k[j]? = k'[j]?)) = decide (k = k') := by
      simp only [List.size_toArray, n1]
      exact all_dec hl
    rw [es] at q
    exact q
  · rw [decide_eq_false (fun h => hl (by rw [h]))]
    exact SeqAt.RcAt.lists_lengths p1.isList p2.isList (by simp [n1, n2, hl]) hu
/-- two lists of tuples of three numbers -/
theorem eq_tupsL (I : Inv X pins σ H s) {A : Around} (hu : A.units + 1 < cLine) {t t' : Addr} {ks ks' : List Ky} (h : TupsA H t ks) (h' : TupsA H t' ks') (h3 : ∀ k ∈ ks, k.length = 3) (h3' : ∀ k ∈ ks', k.length = 3) : SeqAt.EqAt A s (.ref t) (.ref t') (decide (ks = ks')) := by
  obtain ⟨as, e, r⟩ := h
  obtain ⟨as', e', r'⟩ := h'
  by_cases z : t = t'
  · subst z
    rw [e] at e'
    injection e' with e'
    injection e' with e'
    have ea := refs_inj e'
    subst ea
    have ek : ks = ks' := by
      apply List.ext_getElem (r.1.symm.trans r'.1)
      intro i h1 h2
      obtain ⟨a, ha, q⟩ := r.get (List.getElem?_eq_getElem h1)
      have q' : H a = some (.tup (ks'[i].map V.int)) := r'.2 i a _ ha (List.getElem?_eq_getElem h2)
      rw [q] at q'
      injection q' with q'
      injection q' with q'
      exact (List.map_inj_right (fun _ _ z => by injection z)).mp q'
    rw [decide_eq_true ek]
    exact SeqAt.EqAt.same _
  refine SeqAt.EqAt.of_refs z ?_
  obtain ⟨i1, v1, p1, _⟩ := I.list (SqL.of e)
  obtain ⟨i2, v2, p2, _⟩ := I.list (SqL.of e')
  have n1 : i1.length = ks.length := by rw [← v1.length, List.length_map, r.1]
  have n2 : i2.length = ks'.length := by rw [← v2.length, List.length_map, r'.1]
  by_cases hl : ks.length = ks'.length
  · have q := SeqAt.RcAt.lists (A := A) (e := fun j => decide (ks[j]? = ks'[j]?)) p1.isList p2.isList (by simp [n1, n2, hl]) (Nat.lt_of_succ_lt hu) fun j g1 g2 => by
      have g1' : j < i1.length := by simpa using g1
      have g2' : j < i2.length := by simpa using g2
      have hk := List.getElem?_eq_getElem (show j < ks.length by omega)
      have hk' := List.getElem?_eq_getElem (show j < ks'.length by omega)
      obtain ⟨a, ha, q⟩ := r.get hk
      obtain ⟨a', ha', q'⟩ := r'.get hk'
      obtain ⟨u, hu1, ru⟩ := v1.get (i := j) (x := .ref a) (by rw [List.getElem?_map, ha]; rfl)
      obtain ⟨u', hu1', ru'⟩ := v2.get (i := j) (x := .ref a') (by rw [List.getElem?_map, ha']; rfl)
      cases ru
      cases ru'
      rw [List.getElem?_eq_getElem g1'] at hu1
      rw [List.getElem?_eq_getElem g2'] at hu1'
      injection hu1 with hu1
      injection hu1' with hu1'
      rw [dec_at hk hk']
      have w := eq_tupN I (A := A.in1) hu q q' (by rw [h3 _ (List.getElem_mem _), h3' _ (List.getElem_mem _)])
      simpa [hu1, hu1'] using w
    have es : (List.range i1.toArray.size).all (fun j => decide (ks[j]? = ks'[j]?)) = decide (ks = ks') := by
      simp only [List.size_toArray, n1]
      exact all_dec hl
    rw [es] at q
    exact q
  · rw [decide_eq_false (fun h => hl (by rw [h]))]
    exact SeqAt.RcAt.lists_lengths p1.isList p2.isList (by simp [n1, n2, hl]) (Nat.lt_of_succ_lt hu)
theorem rk_inj {R R' : List Rn} (h : R.map rk = R'.map rk) : R = R' := (List.map_inj_right (fun a b z => by
  obtain ⟨a1, a2, a3⟩ := a
  obtain ⟨b1, b2, b3⟩ := b
  injection z with z1 z
  injection z with z2 z
  injection z with z3 z
  cases z1; cases z2; cases z3
  rfl)).mp h
theorem rk_three {R : List Rn} : ∀ k ∈ R.map rk, k.length = 3 := fun k hk => by
  obtain ⟨r, _, rfl⟩ := List.mem_map.mp hk
  rfl
/-- plan == plan -/
theorem op_eqPlan {X : Cx} (hu : X.A.units + 2 < cLine) : OpR X (compareOp .Eq) (fun x y H Q => ∃ (t t' : Addr) (R R' : List Rn) (M M' : List Int), x = .ref t ∧ y = .ref t' ∧ PlanA H t R M ∧ PlanA H t' R' M' ∧ Q (.bl (decide (R = R' ∧ M = M'))) H) := by
  intro pins s σ H x y v u Q I rx ry h
  obtain ⟨t, t', R, R', M, M', rfl, rfl, ⟨rl, ml, et, hR, em⟩, ⟨rl', ml', et', hR', em'⟩, hq⟩ := h
  cases rx
  cases ry
  obtain ⟨i1, v1, p1, _⟩ := I.tuple (SqT.of et)
  obtain ⟨i2, v2, p2, _⟩ := I.tuple (SqT.of et')
  obtain ⟨a1, a2, rfl, r1, r2⟩ := vals2 v1
  obtain ⟨b1, b2, rfl, r3, r4⟩ := vals2 v2
  cases r1
  cases r2
  cases r3
  cases r4
  refine SeqAt.eq_tupleAt (e := fun j => if j = 0 then decide (R = R') else decide (M = M')) p1 p2 (by omega) (fun j g1 g2 => ?_) ?_
  · match j, g1, g2 with
    | 0, _, _ =>
      have w := eq_tupsL I (A := X.A.in1) (show X.A.units + 1 + 1 < cLine by omega) hR hR' rk_three rk_three
      have ew : decide (R.map rk = R'.map rk) = decide (R = R') := by
        by_cases h : R = R'
        · rw [decide_eq_true h, decide_eq_true (by rw [h])]
        · rw [decide_eq_false h, decide_eq_false (fun z => h (rk_inj z))]
      rw [ew] at w
      exact w
    | 1, _, _ => exact eq_intsL I (A := X.A.in1) (show X.A.units + 1 < cLine by omega) em em'
    | n + 2, g, _ => exact absurd g (by simp)
  · refine ⟨_, H, I, ?_, hq⟩
    show Value.bool _ = Value.bool _
    congr 1
    by_cases h1 : R = R' <;> by_cases h2 : M = M' <;> simp [h1, h2, List.range_succ]
end
end L2
set_option Elab.async false
set_option linter.all false
set_option maxRecDepth 100000
namespace L2
open PySem PySem.Spec PyProof.Rows XH Sw Hm
theorem cut_dropB {xs : List V} {c : Nat} : cutV xs (some (c : Int)) none = xs.drop c := by
  by_cases h : c ≤ xs.length
  · exact cut_drop h
  · rw [List.drop_eq_nil_of_le (by omega)]
    apply List.eq_nil_of_length_eq_zero
    unfold cutV
    rw [List.length_take, List.length_drop]
    have : HT.sIx xs.length 0 (some (c : Int)) = xs.length := by
      show (if (c : Int) < 0 then ((c : Int) + (xs.length : Int)).toNat else min (c : Int).toNat xs.length) = xs.length
      rw [if_neg (by omega)]
      omega
    rw [this]
    omega
end L2
namespace Sw
open PySem L2 XH Hm
theorem Ref2.take {α : Type} {R : Addr → α → Prop} {as : List Addr} {xs : List α} (h : Ref2 R as xs) (n : Nat) : Ref2 R (as.take n) (xs.take n) := by
  refine ⟨by rw [List.length_take, List.length_take, h.1], fun i a x e1 e2 => ?_⟩
  have il := (List.getElem?_eq_some_iff.mp e1).1
  rw [List.length_take] at il
  rw [List.getElem?_take_of_lt (by omega)] at e1 e2
  exact h.2 i a x e1 e2
theorem Ref2.drop {α : Type} {R : Addr → α → Prop} {as : List Addr} {xs : List α} (h : Ref2 R as xs) (n : Nat) : Ref2 R (as.drop n) (xs.drop n) := by
  refine ⟨by rw [List.length_drop, List.length_drop, h.1], fun i a x e1 e2 => ?_⟩
  rw [List.getElem?_drop] at e1 e2
  exact h.2 _ a x e1 e2
def spSpoiltP : Sp := fun vs H Q _ => ∃ (lr lm lt : Addr) (kd x : Int) (R : List Rn) (M : List Int) (T : List (List (Int × Int))), vs = [.ref lr, .ref lm, .ref lt, .int kd, .int x] ∧ TupsA H lr (R.map rk) ∧ H lm = some (.lst (M.map V.int)) ∧ TasksA H lt T ∧ PlanOk T R ∧ R.length ≤ 24 ∧ M.length ≤ 8 ∧ 0 ≤ kd ∧ kd < 6 ∧ 0 ≤ x ∧
  ∀ (tp : Addr) (R' : List Rn) (M' : List Int) (H' : Hp), Same H H' → PlanA H' tp R' M' → R'.length ≤ 25 → M'.length ≤ 9 → ((R' = R ∧ M' = M) ∨ ¬ PlanFor T M.length R' M') → Q (.ref tp) H'
def spBad (C c : Addr) : Sp := fun vs H Q E => ∃ (x t : Addr) (T : List (List (Int × Int))) (A : List Ky) (n : Int) (R : List Rn) (M : List Int), vs = [.ref x, .ref t] ∧ NetA C H x T A n ∧ PlanA H t R M ∧ ¬ PlanFor T n R M ∧ ∀ H', Same H H' → E (.ref c) none H'
theorem bad_of {C c : Addr} {vs : List V} {H : Hp} {Q : VK} {E : XK} (h : spNo vs H Q E) : spBad C c vs H Q E0 := h.elim
def spRefusedP (C : Addr) : Sp := fun vs H Q _ => ∃ (x t : Addr) (w : Int) (T : List (List (Int × Int))) (A : List Ky) (n : Int) (R : List Rn) (M : List Int), vs = [.ref x, .ref t, .int w] ∧ NetA C H x T A n ∧ PlanA H t R M ∧ ¬ PlanFor T n R M ∧ ∀ H', Same H H' → Q (.bl true) H'
end Sw
set_option Elab.async false
set_option linter.all false
set_option maxRecDepth 100000
namespace L2
open PySem PySem.Spec PyProof.Rows XH Sw Hm
/-- a range walked in a comprehension, elements told by the heaps around each -/
theorem comp_rngH {hd : Option Value} {n : Nat} {js : List Nat} {te : TE} {σ : L2.St} {H1 : Hp} {Q : VK} (P : Hp → Nat → V → Hp → Prop) (hok : HdOk hd H1) (hn : n ≤ sizeLine)
    (step : ∀ i, i < n → ∀ H3, Same H1 H3 → ∀ Q' : VK, (∀ y H4, P H3 i y H4 → Same H3 H4 → Q' y H4) → te (some (.int (0 + (i : Int))) :: freesOf js σ) H3 Q')
    (fin : ∀ (p : Addr) (ys : List V) (H' : Hp), H1 p = none → ys.length = n → (∀ (i : Nat) (y : V), ys[i]? = some y → ∃ H3 H4, Same H1 H3 ∧ H3 p ≠ none ∧ P H3 i y H4 ∧ ∀ b o, b ≠ p → H4 b = some o → H' b = some o) → Same H1 H' → H' p = some (.lst ys) → Q (.ref p) H') : compR js te σ Q (ItrH hd 0 n) H1 := by
  intro p hp
  refine ⟨fun i m ys H2 => i ≤ n ∧ m = n - i ∧ ys.length = i ∧ (∀ (i : Nat) (y : V), ys[i]? = some y → ∃ H3 H4, Same H1 H3 ∧ H3 p ≠ none ∧ P H3 i y H4 ∧ ∀ b o, b ≠ p → H4 b = some o → H2 b = some o) ∧ Same H1 H2 ∧ H2 p = some (.lst ys), ⟨n, Nat.zero_le _, rfl, rfl, fun i y e => by simp at e, Sw.same_new hp _, upd_same⟩, ?_⟩
  rintro i m ys H2 ⟨hi, rfl, hl, hP, g, e⟩
  refine ⟨e, ?_⟩
  by_cases hin : i < n
  · refine .inr ⟨hin, by omega, fun x H3 hy => ?_⟩
    obtain ⟨rfl, rfl⟩ := hy
    refine step i hin _ g _ fun y H4 py g4 => ⟨g4 _ _ e, n - (i + 1), by omega, hin, rfl, by simp [hl], fun j y' e2 => ?_, Sw.sUpd (g.trans g4) hp _, upd_same⟩
    by_cases hj : j < ys.length
    · rw [List.getElem?_append_left hj] at e2
      obtain ⟨A, B, q1, q2, q3, q4⟩ := hP j y' e2
      exact ⟨A, B, q1, q2, q3, fun b o n q => by rw [upd_ne n]; exact g4 _ _ (q4 b o n q)⟩
    · have ej : j = i := by
        have := (List.getElem?_eq_some_iff.mp e2).1
        simp at this
        omega
      subst ej
      rw [List.getElem?_append_right (by omega), hl] at e2
      simp at e2
      subst e2
      exact ⟨_, H4, g, by rw [e]; exact nofun, py, fun b o n q => by rw [upd_ne n]; exact q⟩
  · have e2 : i = n := by omega
    subst e2
    exact .inl ⟨⟨Nat.le_refl _, hdSame hok g⟩, fin p ys H2 hp hl hP g e⟩
end L2
namespace Sw
open PySem L2 XH Hm
/-- what lies behind a statement, hidden while it is read -/
theorem seqN {t u : TS} {D : Ends} {σ : L2.St} {H : Hp} (h : ∀ N : L2.St → Hp → Prop, (∀ σ H, u D σ H → N σ H) → t { D with nx := N } σ H) : tSeq t u D σ H := h _ fun _ _ q => q
theorem lenOf1 {α : Type} {P : List α → Prop} (h : ∀ a, P [a]) : ∀ us : List α, us.length = 1 → P us
  | [a], _ => h a
theorem lenOf2 {α : Type} {P : List α → Prop} (h : ∀ a b, P [a, b]) : ∀ us : List α, us.length = 2 → P us
  | [a, b], _ => h a b
theorem lenOf3 {α : Type} {P : List α → Prop} (h : ∀ a b c, P [a, b, c]) : ∀ us : List α, us.length = 3 → P us
  | [a, b, c], _ => h a b c
theorem lenOf5 {α : Type} {P : List α → Prop} (h : ∀ a b c d e, P [a, b, c, d, e]) : ∀ us : List α, us.length = 5 → P us
  | [a, b, c, d, e], _ => h a b c d e
theorem catB {xs ys : List V} (a b : Nat) (h1 : xs.length ≤ a) (h2 : ys.length ≤ b) (h : a + b ≤ 1000) : xs.length + ys.length ≤ sizeLine := by
  have sl : sizeLine = 16777216 := sizeLine_eq
  omega
theorem takeB {α : Type} {bs : List α} {f : α → V} {n a : Nat} (h : bs.length ≤ a) : ((bs.take n).map f).length ≤ a := by
  rw [List.length_map, List.length_take]
  omega
theorem dropB {α : Type} {bs : List α} {f : α → V} {n a : Nat} (h : bs.length ≤ a) : ((bs.drop n).map f).length ≤ a := by
  rw [List.length_map, List.length_drop]
  omega
theorem appB {xs ys : List V} {a b : Nat} (h1 : xs.length ≤ a) (h2 : ys.length ≤ b) : (xs ++ ys).length ≤ a + b := by
  rw [List.length_append]
  omega
theorem put_le {α : Type} {xs : List α} {n k : Nat} {a : α} (h : n ≤ xs.length) (hk : xs.length ≤ k) : (xs.take n ++ [a] ++ xs.drop n).length ≤ k + 1 := by
  rw [List.length_append, List.length_append, List.length_take, List.length_drop]
  simp
  omega
theorem put_ne {α β : Type} {xs : List α} {ys : List β} {n : Nat} {a : α} (h : n ≤ xs.length) (hy : xs.length = ys.length) : (xs.take n ++ [a] ++ xs.drop n).length ≠ ys.length := by
  rw [List.length_append, List.length_append, List.length_take, List.length_drop]
  simp
  omega
theorem put_neI {α : Type} {xs : List α} {n : Nat} {a : α} (h : n ≤ xs.length) : ((xs.take n ++ [a] ++ xs.drop n).length : Int) ≠ (xs.length : Int) := by
  rw [List.length_append, List.length_append, List.length_take, List.length_drop]
  simp
  omega
theorem out_len {α : Type} {xs : List α} {n : Nat} (h : n ≤ xs.length) : xs.take n ++ xs.drop (n + 1) = xs ∨ (xs.take n ++ xs.drop (n + 1)).length + 1 = xs.length := by
  by_cases c : n = xs.length
  · left
    subst c
    rw [List.take_length, List.drop_eq_nil_of_le (by omega), List.append_nil]
  · right
    rw [List.length_append, List.length_take, List.length_drop]
    omega
theorem swap_len {α : Type} {xs : List α} {n : Nat} {a : α} (h : n < xs.length) : (xs.take n ++ [a] ++ xs.drop (n + 1)).length = xs.length := by
  rw [List.length_append, List.length_append, List.length_take, List.length_drop]
  simp
  omega
theorem swap_at {α : Type} {xs : List α} {n : Nat} {a : α} (h : n < xs.length) : (xs.take n ++ [a] ++ xs.drop (n + 1))[n]? = some a := by
  rw [List.append_assoc, List.getElem?_append_right (by rw [List.length_take]; omega), List.length_take, show n - min n xs.length = 0 by omega]
  rfl
theorem not_len {T : List (List (Int × Int))} {n : Int} {R' : List Rn} {M' : List Int} (h : R'.length ≠ T.length) : ¬ PlanFor T n R' M' := fun z => h z.1.len
theorem not_way {T : List (List (Int × Int))} {n : Int} {R' : List Rn} {M' : List Int} {i : Nat} {r : Rn} {ws : List (Int × Int)} (h1 : R'[i]? = some r) (h2 : T[i]? = some ws) (h : ¬ (0 ≤ r.2.2 ∧ r.2.2 < (ws.length : Int))) : ¬ PlanFor T n R' M' := fun z => h (z.1.way i r ws h1 h2)
theorem not_mom {T : List (List (Int × Int))} {n : Int} {R' : List Rn} {M' : List Int} (h : (M'.length : Int) ≠ n) : ¬ PlanFor T n R' M' := fun z => h z.2
abbrev TR (H : Hp) (bs : List Addr) (R : List Rn) : Prop := Ref2 (fun t k => H t = some (.tup (k.map V.int))) bs (R.map rk)
theorem TR.same {H H' : Hp} {bs : List Addr} {R : List Rn} (h : TR H bs R) (g : Same H H') : TR H' bs R := h.imp fun a k q => g _ _ q
theorem TR.one {H : Hp} {b : Addr} {r : Rn} (h : H b = some (.tup [.int r.1, .int r.2.1, .int r.2.2])) : TR H [b] [r] := ⟨rfl, fun i a k e1 e2 => by
  match i with
  | 0 => cases e1; cases e2; exact h
  | i + 1 => simp at e1⟩
theorem TR.put {H : Hp} {bs : List Addr} {R : List Rn} (h : TR H bs R) {b : Addr} {r : Rn} (q : H b = some (.tup [.int r.1, .int r.2.1, .int r.2.2])) (n m : Nat) : TR H (bs.take n ++ [b] ++ bs.drop m) (R.take n ++ [r] ++ R.drop m) := by
  show Ref2 _ _ ((R.take n ++ [r] ++ R.drop m).map rk)
  rw [List.map_append, List.map_append, List.map_take, List.map_drop]
  exact ((h.take n).append (TR.one q)).append (h.drop m)
theorem TR.out {H : Hp} {bs : List Addr} {R : List Rn} (h : TR H bs R) (n m : Nat) : TR H (bs.take n ++ bs.drop m) (R.take n ++ R.drop m) := by
  show Ref2 _ _ ((R.take n ++ R.drop m).map rk)
  rw [List.map_append, List.map_take, List.map_drop]
  exact (h.take n).append (h.drop m)
/-- ways of a comprehension, laid behind Hb -/
theorem waysN_of {Hb H1 H' : Hp} {p : Addr} {ys : List V} {w : Int × Int} (fr : ∀ x, H1 x = none → Hb x = none) (np : H1 p = none)
    (hy : ∀ (i : Nat) (y : V), ys[i]? = some y → ∃ H3 H4 : Hp, Same H1 H3 ∧ H3 p ≠ none ∧ (∃ t u : Addr, y = .ref t ∧ H3 u = none ∧ H3 t = none ∧ H4 t = some (.tup [.int w.1, .int w.2, .ref u]) ∧ H4 u = some (.lst [])) ∧ ∀ b o, b ≠ p → H4 b = some o → H' b = some o)
    (ep : H' p = some (.lst ys)) : WaysN Hb H' p (List.replicate ys.length w) := by
  obtain ⟨as, rfl⟩ := refs_list (ys := ys) fun y hy' => by
    obtain ⟨i, hi⟩ := List.mem_iff_getElem?.mp hy'
    obtain ⟨_, _, _, _, ⟨t, _, e, _⟩, _⟩ := hy i y hi
    exact ⟨t, e⟩
  refine ⟨fr _ np, as, ep, by simp, fun i t x e1 e2 => ?_⟩
  obtain ⟨H3, H4, g3, n3, ⟨t', u, q1, q2, q3, q4, q5⟩, f⟩ := hy i (.ref t) (by rw [List.getElem?_map, e1]; rfl)
  cases q1
  have ex : x = w := by
    have := List.mem_of_getElem? e2
    exact (List.mem_replicate.mp this).2
  subst ex
  exact ⟨u, fr _ (g3.free q2), f _ _ (fun z => n3 (z ▸ q3)) q4, f _ _ (fun z => n3 (z ▸ q2)) q5⟩
end Sw
set_option Elab.async false
set_option linter.all false
set_option maxRecDepth 100000
namespace Lk52
open PySem L2 Sw XH PyProof.Rows Hm
def top (i : Nat) : Stmt := PySem.Challenge.pw_stovework_k52_plans_and_none.main.body.getD i (.Pass ⟨0, 0, 0, 0⟩)
def clsAt (s : Stmt) (i : Nat) : Stmt := match s with | .ClassDef _ _ _ body _ _ _ _ _ _ _ => body.getD i (.Pass ⟨0, 0, 0, 0⟩) | _ => s
abbrev sis_name : Stmt := top 11
abbrev spoints_of : Stmt := top 21
abbrev scopy_of_task : Stmt := top 23
abbrev srefuse_wrong_tools : Stmt := top 24
abbrev srefuse_wrong_uses : Stmt := top 26
abbrev srefuse_wrong_tasks : Stmt := top 25
abbrev srefuse_wrong_arcs : Stmt := top 27
abbrev srefuse_wrong_pairs : Stmt := top 28
abbrev sNet_init : Stmt := clsAt (top 20) 0
abbrev sis_plan : Stmt := top 30
abbrev stime_of : Stmt := top 31
abbrev sbreaches : Stmt := top 35
abbrev splan_fits : Stmt := top 42
abbrev slength_of : Stmt := top 43
abbrev sroster : Stmt := top 45
abbrev s_law_cell_at : Stmt := top 50
abbrev s_law_whole : Stmt := top 51
abbrev s_law_drawn : Stmt := top 52
abbrev s_law_time : Stmt := top 53
abbrev s_law_spoilt : Stmt := top 54
abbrev s_law_refused : Stmt := top 55
abbrev s_law_times_told : Stmt := top 56
abbrev slaw : Stmt := top 57
structure Bn (K : PySem.W.Frag) (mg : Str → Option Value) (c_EmptyHeap c_Net c_NoNet c_NoPlan c_StoveError c_TooFew c_TooMany f_Net_init : Addr) : Prop where
  g_MOST_TASKS : ∃ t, mg "MOST_TASKS" = some (.int 24 t)
  g_MOST_TOOLS : ∃ t, mg "MOST_TOOLS" = some (.int 12 t)
  g_MOST_PIECES : ∃ t, mg "MOST_PIECES" = some (.int 8 t)
  g_MOST_WAYS : ∃ t, mg "MOST_WAYS" = some (.int 2 t)
  g_MOST_MOMENTS : ∃ t, mg "MOST_MOMENTS" = some (.int 8 t)
  g_MOST_ARCS : ∃ t, mg "MOST_ARCS" = some (.int 600 t)
  g_MOST_APART : ∃ t, mg "MOST_APART" = some (.int 300 t)
  g_GREATEST : ∃ t, mg "GREATEST" = some (.int 1000000000 t)
  b_len : mg "len" = none
  b_isinstance : mg "isinstance" = none
  b_int : mg "int" = none
  b_bool : mg "bool" = none
  b_range : mg "range" = none
  b_dict : mg "dict" = none
  b_list : mg "list" = none
  b_zip : mg "zip" = none
  b_abs : mg "abs" = none
  b_set : mg "set" = none
  b_max : mg "max" = none
  b_ValueError : mg "ValueError" = none
  m_EmptyHeap : mg "EmptyHeap" = some (.ref c_EmptyHeap)
  m_Net : mg "Net" = some (.ref c_Net)
  m_NoNet : mg "NoNet" = some (.ref c_NoNet)
  m_NoPlan : mg "NoPlan" = some (.ref c_NoPlan)
  m_StoveError : mg "StoveError" = some (.ref c_StoveError)
  m_TooFew : mg "TooFew" = some (.ref c_TooFew)
  m_TooMany : mg "TooMany" = some (.ref c_TooMany)
  x_NoPlan : PySem.W.excIn K c_NoPlan bmV "ValueError.__new__" = true
  i_NoPlan : XI K c_NoPlan
  t_StoveError : XT K c_StoveError
  s_NoPlan_StoveError : PySem.W.subIn K (.ref c_NoPlan) (.ref c_StoveError) = some true
  k_NoPlan_NoNet : PySem.W.kitOne K (.ref c_NoPlan) (.ref c_NoNet) = some false
  k_NoPlan_EmptyHeap : PySem.W.kitOne K (.ref c_NoPlan) (.ref c_EmptyHeap) = some false
  k_NoPlan_TooFew : PySem.W.kitOne K (.ref c_NoPlan) (.ref c_TooFew) = some false
  k_NoPlan_TooMany : PySem.W.kitOne K (.ref c_NoPlan) (.ref c_TooMany) = some false
  k_NoPlan_NoPlan : PySem.W.kitOne K (.ref c_NoPlan) (.ref c_NoPlan) = some true
  k_NoPlan_ValueError : PySem.W.kitOne K (.ref c_NoPlan) (.type "ValueError") = some true
  cl_Net : Cls K c_Net
  mk_Net : Mk K c_Net f_Net_init
  na_Net_tools : NoAttr K c_Net "tools"
  na_Net_tasks : NoAttr K c_Net "tasks"
  na_Net_arcs : NoAttr K c_Net "arcs"
  na_Net_apart : NoAttr K c_Net "apart"
  na_Net_moments : NoAttr K c_Net "moments"
section
variable {P : Program} {w : World} {K : PySem.W.Frag} {mg : Str → Option Value} {base : Heap} {f : Addr} {fd : FuncData} {c_EmptyHeap c_Net c_NoNet c_NoPlan c_StoveError c_TooFew c_TooMany f_Net_init : Addr}
theorem scis_name : FnScope ["thing", "sign"] ["thing"] (defScope sis_name) := ⟨rfl, rfl, rfl, by decide +kernel, rfl, by decide +kernel, by decide +kernel⟩
set_option maxHeartbeats 4000000 in
theorem okis_name {dV : Value} (F : FunD K "is_name" "is_name" sis_name dV f fd) (B : Bn K mg c_EmptyHeap c_Net c_NoNet c_NoPlan c_StoveError c_TooFew c_TooMany f_Net_init)  : FnOk P w K mg base CX0 1 f fd ["thing"] spNo := by
  have sc := scis_name
  refine F.ok sc (fun vs H Q E h => h.elim) (fun cdv A outer s H vs Q E hr h => h.elim)

theorem scpoints_of : FnScope ["net"] ["net"] (defScope spoints_of) := ⟨rfl, rfl, rfl, by decide +kernel, rfl, by decide +kernel, by decide +kernel⟩
set_option maxHeartbeats 4000000 in
theorem okpoints_of {dV : Value} (F : FunD K "points_of" "points_of" spoints_of dV f fd) (B : Bn K mg c_EmptyHeap c_Net c_NoNet c_NoPlan c_StoveError c_TooFew c_TooMany f_Net_init)  : FnOk P w K mg base CX0 1 f fd ["net"] (spPoints c_Net) := by
  have sc := scpoints_of
  refine F.ok sc (fun vs H Q E h => ?_) (fun cdv A outer s H vs Q E hr h => ?_)
  · obtain ⟨x, n, T, A, rfl, _⟩ := h
    rfl
  obtain ⟨x, n, T, A, rfl, N, q⟩ := h
  refine ⟨_, (pss_one (ps_ret (pe_op op_add (pe_op op_mulB pe_int (pe_callB call_len_seq rfl B.b_len boot_len (pa_cons (pe_fld (pv 0) rfl) pa_nil))) (pe_fld (pv 0) rfl)))), ?_⟩
  obtain ⟨dx, td, tl, al, pl, fs, e0, l1, l2, l3, l4, l5, e1, ⟨as, e2, r2⟩, e3, e4⟩ := N.ex
  refine ⟨_, rfl, x, _, dx, _, _, rfl, e0, B.cl_Net, B.na_Net_tasks, l2, tl, _, rfl, .inl (SqL.of e2), _, _, rfl, rfl, IntMulOk.of_left (by decide), _, rfl, x, _, dx, _, _, rfl, e0, B.cl_Net, B.na_Net_moments, l5, _, _, rfl, rfl, ?_⟩
  rw [List.length_map, r2.1]
  exact q

theorem sccopy_of_task : FnScope ["ways"] ["ways"] (defScope scopy_of_task) := ⟨rfl, rfl, rfl, by decide +kernel, rfl, by decide +kernel, by decide +kernel⟩
set_option maxHeartbeats 4000000 in
theorem okcopy_of_task {dV : Value} (F : FunD K "copy_of_task" "copy_of_task" scopy_of_task dV f fd) (B : Bn K mg c_EmptyHeap c_Net c_NoNet c_NoPlan c_StoveError c_TooFew c_TooMany f_Net_init)  : FnOk P w K mg base CX0 1 f fd ["ways"] spCopy := by
  have sc := sccopy_of_task
  refine F.ok sc (fun vs H Q E h => ?_) (fun cdv A outer s H vs Q E hr h => ?_)
  · obtain ⟨l, ws, rfl, _⟩ := h
    rfl
  obtain ⟨l, ws, rfl, ⟨as, el, r⟩, l2, q⟩ := h
  refine ⟨_, (pss_one (ps_ret (pe_comp (own := "way") (ys := []) (js := []) rfl (cok atn .nil (by decide) rfl rfl rfl rfl rfl rfl rfl rfl) (pi_list (pv 0)) (fun C fp s H => (pe_tup (pa_cons (pe_ix (ix_tupB (K := K) rfl) (pv 0) pe_int (fun _ _ => rfl)) (pa_cons (pe_ix (ix_tupB (K := K) rfl) (pv 0) pe_int (fun _ _ => rfl)) (pa_cons (pe_callTy (call_listB (K := K) rfl) rfl B.b_list boot_list (pa_cons (pe_ix (ix_tupB (K := K) rfl) (pv 0) pe_int (fun _ _ => rfl)) pa_nil)) pa_nil)))))))), ?_⟩
  have sl : sizeLine = 16777216 := sizeLine_eq
  refine ⟨_, rfl, l, rfl, ⟨_, SqL.of el⟩, comp_byH (fun H3 x y H4 => ∃ (t t' u u' : Addr) (a b : Int), x = .ref t ∧ H3 t = some (.tup [.int a, .int b, .ref u]) ∧ y = .ref t' ∧ H3 u' = none ∧ H3 t' = none ∧ H4 t' = some (.tup [.int a, .int b, .ref u']) ∧ H4 u' = some (.lst [])) (SqL.of el) (by rw [List.length_map, r.1]; omega) (fun x hx H3 g Q' hQ => ?_) fun p ys H' np ly hy g ep => ?_⟩
  · obtain ⟨t, ht, rfl⟩ := List.mem_map.mp hx
    obtain ⟨i, hi⟩ := List.mem_iff_getElem?.mp ht
    have il : i < ws.length := by rw [← r.1]; exact (List.getElem?_eq_some_iff.mp hi).1
    obtain ⟨u, et, eu⟩ := r.2 i t _ hi (List.getElem?_eq_getElem il)
    have et3 := g _ _ et
    refine ⟨_, rfl, t, _, _, _, rfl, rfl, SqT.of et3, rfl, _, rfl, t, _, _, _, rfl, rfl, SqT.of et3, rfl, _, rfl, t, _, _, _, rfl, rfl, SqT.of et3, rfl, u, [], rfl, .inl (SqL.of (g _ _ eu)), fun u' nu => ⟨(by show 3 ≤ sizeLine; decide), fun t' nt => ?_⟩⟩
    have g1 := same_new nu (.lst [])
    exact hQ _ _ ⟨t, t', u, u', _, _, rfl, et3, rfl, nu, g1.free nt, upd_same, same_new nt _ _ _ upd_same⟩ (g1.trans (same_new nt _))
  · obtain ⟨as', rfl⟩ := refs_list (ys := ys) fun y hy' => by
      obtain ⟨i, hi⟩ := List.mem_iff_getElem?.mp hy'
      have il : i < (as.map V.ref).length := by rw [← ly]; exact (List.getElem?_eq_some_iff.mp hi).1
      obtain ⟨_, _, _, _, ⟨_, t', _, _, _, _, _, _, e, _⟩, _⟩ := hy i _ y (List.getElem?_eq_getElem il) hi
      exact ⟨t', e⟩
    rw [List.length_map, List.length_map] at ly
    refine q p H' g ⟨np, as', ep, by rw [ly, r.1], fun i t' w e1 e2 => ?_⟩
    obtain ⟨t, et, u0, ew, eu0⟩ := r.get e2
    obtain ⟨H3, H4, g3, n3, ⟨t1, t1', u, u', a, b, q1, q2, q3, q4, q7, q5, q6⟩, fr⟩ := hy i (.ref t) (.ref t') (by rw [List.getElem?_map, et]; rfl) (by rw [List.getElem?_map, e1]; rfl)
    cases q1
    cases q3
    rw [g3 _ _ ew] at q2
    cases q2
    have up : u' ≠ p := fun z => n3 (z ▸ q4)
    exact ⟨u', g3.free q4, g3.free q7, fr _ _ (fun z => n3 (z ▸ q7)) q5, fr _ _ up q6⟩

theorem screfuse_wrong_tools : FnScope ["tools", "tool", "many"] ["tools"] (defScope srefuse_wrong_tools) := ⟨rfl, rfl, rfl, by decide +kernel, rfl, by decide +kernel, by decide +kernel⟩
set_option maxHeartbeats 4000000 in
theorem okrefuse_wrong_tools {dV : Value} (F : FunD K "refuse_wrong_tools" "refuse_wrong_tools" srefuse_wrong_tools dV f fd) (B : Bn K mg c_EmptyHeap c_Net c_NoNet c_NoPlan c_StoveError c_TooFew c_TooMany f_Net_init) (Dis_name : Dx P w K mg base CX0 1 "is_name" ["thing"] [] spNo) : FnOk P w K mg base CX0 2 f fd ["tools"] spRTools := by
  have sc := screfuse_wrong_tools
  refine F.ok sc (fun vs H Q E h => ?_) (fun cdv A outer s H vs Q E hr h => ?_)
  · obtain ⟨td, rfl, _⟩ := h
    rfl
  obtain ⟨td, rfl, e, q⟩ := h
  refine ⟨_, (pss_cons (ps_if (pt_cmpR op_gt (pe_callB call_lenD1 rfl B.b_len boot_len (pa_cons (pv 0) pa_nil)) (pe_globI rfl B.g_MOST_TOOLS) (nomark _)) (pss_one ps_never) pss_nil) (pss_one (ps_unf (ps_for PassesOwn.never rfl (pi_items (pe_bm0 PySem.F.plainAttrs_dict PySem.F.slot_dict_items PySem.F.type_dict_items mt_items (pv 0))) (pg_tup rfl (pgs_cons (pg_name (i := 1) sc.nd rfl (Or.inl rfl)) (pgs_cons (pg_name (i := 2) sc.nd rfl (Or.inl rfl)) pgs_nil))) (pss_cons (ps_if (pt_not (pt_val (pcall0 Dis_name hr (by decide) rfl (pa_cons (pv 1) pa_nil)))) (pss_one ps_never) pss_nil) (pss_one (ps_if (pt_not (pt_chain op_le op_le pe_int (pv 2) (pe_globI rfl B.g_MOST_PIECES))) (pss_one ps_never) pss_nil))))))), ?_⟩
  refine ⟨_, rfl, td, [], rfl, e, _, _, rfl, rfl, _, rfl, dF (by decide) ?_⟩
  refine ⟨_, rfl, .inr (.inr (.inl ⟨rfl, .inl ⟨_, e⟩⟩)), td, [], rfl, rfl, e, fun v nv => ?_⟩
  have g := same_new nv (.ext fun h => h.IsItemsView v td)
  refine ⟨v, td, [], rfl, upd_same, g _ _ e, fun o nf => ?_⟩
  refine ⟨fun i m σ H' => i = 0 ∧ H' = upd (upd H v (.ext fun h => h.IsItemsView v td)) td (.frz o (.dK [])), ⟨0, rfl, rfl⟩, ?_⟩
  rintro i m σ H' ⟨rfl, rfl⟩
  refine .inl ⟨⟨upd_same, rfl⟩, td, o, [], upd_same, nf, ?_⟩
  rw [upd_upd, upd_self (g _ _ e)]
  exact q _ g

theorem screfuse_wrong_uses : FnScope ["uses", "tools", "use"] ["uses", "tools"] (defScope srefuse_wrong_uses) := ⟨rfl, rfl, rfl, by decide +kernel, rfl, by decide +kernel, by decide +kernel⟩
set_option maxHeartbeats 4000000 in
theorem okrefuse_wrong_uses {dV : Value} (F : FunD K "refuse_wrong_uses" "refuse_wrong_uses" srefuse_wrong_uses dV f fd) (B : Bn K mg c_EmptyHeap c_Net c_NoNet c_NoPlan c_StoveError c_TooFew c_TooMany f_Net_init)  : FnOk P w K mg base CX0 1 f fd ["uses", "tools"] spRUses := by
  have sc := screfuse_wrong_uses
  refine F.ok sc (fun vs H Q E h => ?_) (fun cdv A outer s H vs Q E hr h => ?_)
  · obtain ⟨u, y, rfl, _⟩ := h
    rfl
  obtain ⟨u, y, rfl, eu, q⟩ := h
  refine ⟨_, (pss_cons (ps_if (pt_cmpR op_ne (pe_lenSet rfl rfl B.b_len rfl B.b_set PyProof.Rows.Boot.«len» PyProof.Rows.Boot.«set» (pe_comp (own := "use") (ys := []) (js := []) rfl (cok atn .nil (by decide) rfl rfl rfl rfl rfl rfl rfl rfl) (pi_list (pv 0)) (fun C fp s H => (pe_ix (ix_tupB (K := K) rfl) (pv 0) pe_int (fun _ _ => rfl))))) (pe_callB call_len_seq rfl B.b_len boot_len (pa_cons (pv 0) pa_nil)) (nomark _)) (pss_one ps_never) pss_nil) (pss_one (ps_for PassesOwn.never rfl (pi_list (pv 0)) (pg_name (i := 2) sc.nd rfl (Or.inl rfl)) (pss_cons (ps_if (pt_cmpR op_notIn_str (pe_ix (ix_tupB (K := K) rfl) (pv 2) pe_int (fun _ _ => rfl)) (pv 1) (by with_unfolding_all rfl)) (pss_one ps_never) pss_nil) (pss_cons (ps_if (pt_not (pt_chain op_le op_le pe_int (pe_ix (ix_tupB (K := K) rfl) (pv 2) pe_int (fun _ _ => rfl)) (pe_ix (ix_tupB (K := K) rfl) (pv 1) (pe_ix (ix_tupB (K := K) rfl) (pv 2) pe_int (fun _ _ => rfl)) (fun _ _ => rfl)))) (pss_one ps_never) pss_nil) (pss_one (ps_if (pt_not (pt_chain op_le op_le pe_int (pe_ix (ix_tupB (K := K) rfl) (pv 2) pe_int (fun _ _ => rfl)) (pe_globI rfl B.g_GREATEST))) (pss_one ps_never) pss_nil))))))), ?_⟩
  refine ⟨_, rfl, u, rfl, ⟨_, SqL.of eu⟩, comp_byL (fun _ _ => True) (SqL.of eu) (Nat.zero_le _) (fun x hx => by simp at hx) fun p ys H' np ly _ g ep => ?_⟩
  have yz : ys = [] := List.eq_nil_of_length_eq_zero ly
  subst yz
  refine ⟨p, [], rfl, SqL.of ep, List.nodup_nil, (by decide), _, rfl, u, _, rfl, .inl (SqL.of (g _ _ eu)), rfl, _, rfl, nFI rfl ?_⟩
  refine ⟨_, rfl, u, rfl, ⟨_, SqL.of (g _ _ eu)⟩, for_list (xs := []) (fun i σ H2 => H2 = H') rfl (fun i σ H2 _ h => by rw [h]; exact SqL.of (g _ _ eu)) (fun i x σ H2 hx => by simp at hx) ?_⟩
  rintro σ H2 rfl
  exact q _ g

theorem screfuse_wrong_tasks : FnScope ["tasks", "tools", "ways", "way"] ["tasks", "tools"] (defScope srefuse_wrong_tasks) := ⟨rfl, rfl, rfl, by decide +kernel, rfl, by decide +kernel, by decide +kernel⟩
set_option maxHeartbeats 4000000 in
theorem okrefuse_wrong_tasks {dV : Value} (F : FunD K "refuse_wrong_tasks" "refuse_wrong_tasks" srefuse_wrong_tasks dV f fd) (B : Bn K mg c_EmptyHeap c_Net c_NoNet c_NoPlan c_StoveError c_TooFew c_TooMany f_Net_init) (Drefuse_wrong_uses : Dx P w K mg base CX0 1 "refuse_wrong_uses" ["uses", "tools"] [] spRUses) : FnOk P w K mg base CX0 2 f fd ["tasks", "tools"] spRTasks := by
  have sc := screfuse_wrong_tasks
  refine F.ok sc (fun vs H Q E h => ?_) (fun cdv A outer s H vs Q E hr h => ?_)
  · obtain ⟨tl, td, T, rfl, _⟩ := h
    rfl
  obtain ⟨tl, td, T, rfl, ⟨as, el, r⟩, l24, ok, q⟩ := h
  refine ⟨_, (pss_cons (ps_if (pt_cmpR op_gt (pe_callB call_len_seq rfl B.b_len boot_len (pa_cons (pv 0) pa_nil)) (pe_globI rfl B.g_MOST_TASKS) (nomark _)) (pss_one ps_never) pss_nil) (pss_one (ps_for PassesOwn.never rfl (pi_list (pv 0)) (pg_name (i := 2) sc.nd rfl (Or.inl rfl)) (pss_cons (ps_if (pt_not (pt_chain op_le op_le pe_int (pe_callB call_len_seq rfl B.b_len boot_len (pa_cons (pv 2) pa_nil)) (pe_globI rfl B.g_MOST_WAYS))) (pss_one ps_never) pss_nil) (pss_one (ps_for PassesOwn.never rfl (pi_list (pv 2)) (pg_name (i := 3) sc.nd rfl (Or.inl rfl)) (pss_cons (ps_if (pt_not (pt_chain3 op_le op_le op_le pe_int (pe_ix ix_tup (pv 3) pe_int (fun _ _ => rfl)) (pe_ix ix_tup (pv 3) pe_int (fun _ _ => rfl)) (pe_globI rfl B.g_GREATEST))) (pss_one ps_never) pss_nil) (pss_one (ps_expr (pcall0 Drefuse_wrong_uses hr (by decide) rfl (pa_cons (pe_ix ix_tup (pv 3) pe_int (fun _ _ => rfl)) (pa_cons (pv 1) pa_nil)))))))))))), ?_⟩
  have ll : (as.map V.ref).length = T.length := by rw [List.length_map]; exact r.1
  refine ⟨_, rfl, tl, _, rfl, .inl (SqL.of el), _, _, rfl, rfl, _, rfl, dF (by rw [ll]; omega) ?_⟩
  refine ⟨_, rfl, tl, rfl, ⟨_, SqL.of el⟩, for_list (xs := as.map V.ref) (fun i σ H' => Same H H' ∧ ∃ o2 o3 : Option V, σ = [some (.ref tl), some (.ref td), o2, o3]) ⟨.refl _, none, none, rfl⟩ (fun i σ H' _ h => SqL.of (h.1 _ _ el)) ?_ ?_⟩
  · rintro i x σ H1 hx ⟨g1, o2, o3, rfl⟩
    rw [List.getElem?_map] at hx
    obtain ⟨wl, hwl, rfl⟩ := Option.map_eq_some_iff.mp hx
    have il : i < T.length := by rw [← r.1]; exact (List.getElem?_eq_some_iff.mp hwl).1
    obtain ⟨ts, ets, rt⟩ := (r.2 i wl _ hwl (List.getElem?_eq_getElem il)).same g1
    obtain ⟨o1, o2', ow⟩ := ok _ (List.getElem_mem il)
    generalize T[i] = ws at rt o1 o2' ow
    have lw : (ts.map V.ref).length = ws.length := by rw [List.length_map]; exact rt.1
    refine ⟨_, rfl, wl, _, rfl, .inl (SqL.of ets), _, _, rfl, rfl, _, rfl, dT (by rw [lw]; omega) ⟨_, _, rfl, rfl, _, rfl, nF (by rw [lw]; omega) ?_⟩⟩
    refine ⟨_, rfl, wl, rfl, ⟨_, SqL.of ets⟩, for_list (xs := ts.map V.ref) (fun j σ H' => Same H H' ∧ Same H1 H' ∧ ∃ o3 : Option V, σ = [some (.ref tl), some (.ref td), some (.ref wl), o3]) ⟨g1, .refl _, o3, rfl⟩ (fun j σ H' _ h => SqL.of (h.2.1 _ _ ets)) ?_ ?_⟩
    · rintro j y σ H2 hy ⟨g2, g12, o3, rfl⟩
      rw [List.getElem?_map] at hy
      obtain ⟨t, ht, rfl⟩ := Option.map_eq_some_iff.mp hy
      have jl : j < ws.length := by rw [← rt.1]; exact (List.getElem?_eq_some_iff.mp ht).1
      obtain ⟨u, et, eu⟩ := (rt.2 j t _ ht (List.getElem?_eq_getElem jl)).same g12
      obtain ⟨w1, w2, w3⟩ := ow _ (List.getElem_mem jl)
      generalize ws[j] = w at et w1 w2 w3
      refine ⟨_, rfl, t, _, _, _, rfl, rfl, SqT.of et, rfl, _, _, rfl, rfl, _, rfl, dT w1 ⟨_, rfl, t, _, _, _, rfl, rfl, SqT.of et, rfl, _, _, rfl, rfl, _, rfl, dT w2 ⟨_, _, rfl, rfl, _, rfl, nF w3 ?_⟩⟩⟩
      exact ⟨_, rfl, t, _, _, _, rfl, rfl, SqT.of et, rfl, _, rfl, u, _, rfl, eu, fun H3 g3 => ⟨g2.trans g3, g12.trans g3, _, rfl⟩⟩
    · rintro σ H2 ⟨g2, _, o3, rfl⟩
      exact ⟨g2, _, _, rfl⟩
  · rintro σ H1 ⟨g1, o2, o3, rfl⟩
    exact q _ g1

theorem screfuse_wrong_arcs : FnScope ["arcs", "points", "arc"] ["arcs", "points"] (defScope srefuse_wrong_arcs) := ⟨rfl, rfl, rfl, by decide +kernel, rfl, by decide +kernel, by decide +kernel⟩
set_option maxHeartbeats 4000000 in
theorem okrefuse_wrong_arcs {dV : Value} (F : FunD K "refuse_wrong_arcs" "refuse_wrong_arcs" srefuse_wrong_arcs dV f fd) (B : Bn K mg c_EmptyHeap c_Net c_NoNet c_NoPlan c_StoveError c_TooFew c_TooMany f_Net_init)  : FnOk P w K mg base CX0 1 f fd ["arcs", "points"] spRArcs := by
  have sc := screfuse_wrong_arcs
  refine F.ok sc (fun vs H Q E h => ?_) (fun cdv A outer s H vs Q E hr h => ?_)
  · obtain ⟨al, m, A, rfl, _⟩ := h
    rfl
  obtain ⟨al, m, A, rfl, ⟨as, el, r⟩, l6, ok, q⟩ := h
  refine ⟨_, (pss_cons (ps_if (pt_cmpR op_gt (pe_callB call_len_seq rfl B.b_len boot_len (pa_cons (pv 0) pa_nil)) (pe_globI rfl B.g_MOST_ARCS) (nomark _)) (pss_one ps_never) pss_nil) (pss_one (ps_for PassesOwn.never rfl (pi_list (pv 0)) (pg_name (i := 2) sc.nd rfl (Or.inl rfl)) (pss_cons (ps_if (pt_not (PW.pt (pw_and (pt_chain op_le op_lt pe_int (pe_ix ix_tup (pv 2) pe_int (fun _ _ => rfl)) (pv 1)) (pw_and1 (pt_chain op_le op_lt pe_int (pe_ix ix_tup (pv 2) pe_int (fun _ _ => rfl)) (pv 1)))))) (pss_one ps_never) pss_nil) (pss_one (ps_if (pt_cmpR op_gt (pe_callB call_abs rfl B.b_abs boot_abs (pa_cons (pe_ix ix_tup (pv 2) pe_int (fun _ _ => rfl)) pa_nil)) (pe_globI rfl B.g_GREATEST) (nomark _)) (pss_one ps_never) pss_nil)))))), ?_⟩
  have ll : (as.map V.ref).length = A.length := by rw [List.length_map]; exact r.1
  refine ⟨_, rfl, al, _, rfl, .inl (SqL.of el), _, _, rfl, rfl, _, rfl, dF (by rw [ll]; omega) ?_⟩
  refine ⟨_, rfl, al, rfl, ⟨_, SqL.of el⟩, for_list (xs := as.map V.ref) (fun i σ H' => H = H' ∧ ∃ o2 : Option V, σ = [some (.ref al), some (.int m), o2]) ⟨rfl, none, rfl⟩ (fun i σ H' _ h => by rw [← h.1]; exact SqL.of el) ?_ ?_⟩
  · rintro i x σ H1 hx ⟨rfl, o2, rfl⟩
    rw [List.getElem?_map] at hx
    obtain ⟨t, ht, rfl⟩ := Option.map_eq_some_iff.mp hx
    have il : i < A.length := by rw [← r.1]; exact (List.getElem?_eq_some_iff.mp ht).1
    have et := r.2 i t _ ht (List.getElem?_eq_getElem il)
    obtain ⟨a, b, g, e, a0, a1, b0, b1, g0, g1⟩ := ok _ (List.getElem_mem il)
    rw [e] at et
    refine ⟨_, rfl, t, _, _, _, rfl, rfl, SqT.of et, rfl, _, _, rfl, rfl, _, rfl, dT a0 ⟨_, rfl, _, _, rfl, rfl, _, rfl, dT a1 ⟨_, rfl, t, _, _, _, rfl, rfl, SqT.of et, rfl, _, _, rfl, rfl, _, rfl, dT b0 ⟨_, rfl, _, _, rfl, rfl, _, rfl, nF b1 ?_⟩⟩⟩⟩
    exact ⟨_, rfl, t, _, _, _, rfl, rfl, SqT.of et, rfl, g, rfl, _, _, rfl, rfl, _, rfl, dF (by split <;> omega) ⟨rfl, _, rfl⟩⟩
  · rintro σ H1 ⟨rfl, o2, rfl⟩
    exact q

theorem screfuse_wrong_pairs : FnScope ["pairs", "many", "pair"] ["pairs", "many"] (defScope srefuse_wrong_pairs) := ⟨rfl, rfl, rfl, by decide +kernel, rfl, by decide +kernel, by decide +kernel⟩
set_option maxHeartbeats 4000000 in
theorem okrefuse_wrong_pairs {dV : Value} (F : FunD K "refuse_wrong_pairs" "refuse_wrong_pairs" srefuse_wrong_pairs dV f fd) (B : Bn K mg c_EmptyHeap c_Net c_NoNet c_NoPlan c_StoveError c_TooFew c_TooMany f_Net_init)  : FnOk P w K mg base CX0 1 f fd ["pairs", "many"] spRPairs := by
  have sc := screfuse_wrong_pairs
  refine F.ok sc (fun vs H Q E h => ?_) (fun cdv A outer s H vs Q E hr h => ?_)
  · obtain ⟨pl, m, rfl, _⟩ := h
    rfl
  obtain ⟨pl, m, rfl, e, q⟩ := h
  refine ⟨_, (pss_cons (ps_if (pt_cmpR op_gt (pe_callB call_len_seq rfl B.b_len boot_len (pa_cons (pv 0) pa_nil)) (pe_globI rfl B.g_MOST_APART) (nomark _)) (pss_one ps_never) pss_nil) (pss_one (ps_for PassesOwn.never rfl (pi_list (pv 0)) (pg_name (i := 2) sc.nd rfl (Or.inl rfl)) (pss_cons (ps_if (pt_not (PW.pt (pw_and (pt_chain op_le op_lt pe_int (pe_ix ix_tup (pv 2) pe_int (fun _ _ => rfl)) (pv 1)) (pw_and1 (pt_chain op_le op_lt pe_int (pe_ix ix_tup (pv 2) pe_int (fun _ _ => rfl)) (pv 1)))))) (pss_one ps_never) pss_nil) (pss_one (ps_if (pt_cmpR op_eq (pe_ix ix_tup (pv 2) pe_int (fun _ _ => rfl)) (pe_ix ix_tup (pv 2) pe_int (fun _ _ => rfl)) (nomark _)) (pss_one ps_never) pss_nil)))))), ?_⟩
  refine ⟨_, rfl, pl, _, rfl, .inl (SqL.of e), _, _, rfl, rfl, _, rfl, dF (by decide) ?_⟩
  refine ⟨_, rfl, pl, rfl, ⟨_, SqL.of e⟩, for_list (xs := []) (fun i σ H2 => H2 = H) rfl (fun i σ H2 _ h => by rw [h]; exact SqL.of e) (fun i x σ H2 hx => by simp at hx) ?_⟩
  rintro σ H2 rfl
  exact q

theorem scNet_init : FnScope ["self", "tools", "tasks", "arcs", "apart", "moments"] ["self", "tools", "tasks", "arcs", "apart", "moments"] (defScope sNet_init) := ⟨rfl, rfl, rfl, by decide +kernel, rfl, by decide +kernel, by decide +kernel⟩
set_option maxHeartbeats 4000000 in
theorem okNet_init {dV : Value} (F : FunD K "__init__" "Net.__init__" sNet_init dV f fd) (B : Bn K mg c_EmptyHeap c_Net c_NoNet c_NoPlan c_StoveError c_TooFew c_TooMany f_Net_init) (Dpoints_of : Dx P w K mg base CX0 1 "points_of" ["net"] [] (spPoints c_Net)) (Dcopy_of_task : Dx P w K mg base CX0 1 "copy_of_task" ["ways"] [] spCopy) (Drefuse_wrong_tools : Dx P w K mg base CX0 2 "refuse_wrong_tools" ["tools"] [] spRTools) (Drefuse_wrong_tasks : Dx P w K mg base CX0 2 "refuse_wrong_tasks" ["tasks", "tools"] [] spRTasks) (Drefuse_wrong_arcs : Dx P w K mg base CX0 1 "refuse_wrong_arcs" ["arcs", "points"] [] spRArcs) (Drefuse_wrong_pairs : Dx P w K mg base CX0 1 "refuse_wrong_pairs" ["pairs", "many"] [] spRPairs) : FnOk P w K mg base CX0 3 f fd ["self", "tools", "tasks", "arcs", "apart", "moments"] (spNet c_Net) := by
  have sc := scNet_init
  refine F.ok sc (fun vs H Q E h => ?_) (fun cdv A outer s H vs Q E hr h => ?_)
  · obtain ⟨x, dx, td, tl, al, pl, n, T, A, rfl, _⟩ := h
    rfl
  obtain ⟨x, dx, td, tl, al, pl, n, T, A, rfl, ex, etd, hT, hA, epl, ok, q⟩ := h
  refine ⟨_, (pss_cons (ps_fld (pv 0) (pe_callTy call_dictD rfl B.b_dict boot_dict1 (pa_cons (pv 1) pa_nil)) rfl) (pss_cons (ps_fld (pv 0) (pe_comp (own := "ways") (ys := []) (js := []) rfl (cok atn .nil (by decide) rfl rfl rfl rfl rfl rfl rfl rfl) (pi_list (pv 2)) (fun C fp s H => (pcall0 Dcopy_of_task hr (by decide) rfl (pa_cons (pv 0) pa_nil)))) rfl) (pss_cons (ps_fld (pv 0) (pe_callTy call_list_of rfl B.b_list boot_list (pa_cons (pv 3) pa_nil)) rfl) (pss_cons (ps_fld (pv 0) (pe_ifExp (pt_cmpR op_isN (pv 4) pe_non (nomark _)) (pe_lst pa_nil) (pe_callTy call_list_of rfl B.b_list boot_list (pa_cons (pv 4) pa_nil))) rfl) (pss_cons (ps_fld (pv 0) (pv 5) rfl) (pss_cons (ps_expr (pcall0 Drefuse_wrong_tools hr (by decide) rfl (pa_cons (pe_fld (pv 0) rfl) pa_nil))) (pss_cons (ps_expr (pcall0 Drefuse_wrong_tasks hr (by decide) rfl (pa_cons (pe_fld (pv 0) rfl) (pa_cons (pe_fld (pv 0) rfl) pa_nil)))) (pss_cons (ps_if (pt_not (pt_chain op_le op_le pe_int (pv 5) (pe_globI rfl B.g_MOST_MOMENTS))) (pss_one ps_never) pss_nil) (pss_cons (ps_expr (pcall0 Drefuse_wrong_arcs hr (by decide) rfl (pa_cons (pe_fld (pv 0) rfl) (pa_cons (pcall0 Dpoints_of hr (by decide) rfl (pa_cons (pv 0) pa_nil)) pa_nil)))) (pss_one (ps_expr (pcall0 Drefuse_wrong_pairs hr (by decide) rfl (pa_cons (pe_fld (pv 0) rfl) (pa_cons (pe_callB call_len_seq rfl B.b_len boot_len (pa_cons (pe_fld (pv 0) rfl) pa_nil)) pa_nil)))))))))))))), ?_⟩
  have sl : sizeLine = 16777216 := sizeLine_eq
  have lp : ∀ (f : Str) (v : V) (fs : List (Str × V)), fs.length < 10 → (putF f v fs).length < 11 := fun f v fs h => by have := length_putF f v fs; omega
  obtain ⟨as, etl, rT⟩ := hT
  obtain ⟨bs, eal, rA⟩ := hA
  refine ⟨_, rfl, td, [], rfl, etd, fun td' ntd => ?_⟩
  have g1 := same_new ntd (.dK [])
  refine ⟨_, rfl, x, _, dx, _, rfl, g1 _ _ ex, B.cl_Net, B.na_Net_tools, (by decide), ?_⟩
  have e1 : upd (upd H td' (.dK [])) x (.ins c_Net dx (putF "tools" (.ref td') [])) x = some (.ins c_Net dx (putF "tools" (.ref td') [])) := upd_same
  have f1 : Fx x H (upd (upd H td' (.dK [])) x (.ins c_Net dx (putF "tools" (.ref td') []))) := (Fx.of g1).trans (Fx.put x _ _)
  have d1 : upd (upd H td' (.dK [])) x (.ins c_Net dx (putF "tools" (.ref td') [])) td' = some (.dK []) := by
    rw [upd_ne (fun z => by rw [z, ex] at ntd; cases ntd)]
    exact upd_same
  generalize upd (upd H td' (.dK [])) x (.ins c_Net dx (putF "tools" (.ref td') [])) = H1 at e1 f1 d1 ⊢
  have etl1 := f1 _ _ (ne_of etl ex (by intro z; cases z)) etl
  have hT1 : TasksA H1 tl T := TasksA.fx ⟨as, etl, rT⟩ ex f1
  have hA1 : TupsA H1 al A := TupsA.fx ⟨bs, eal, rA⟩ ex f1
  have epl1 := f1 _ _ (ne_of epl ex (by intro z; cases z)) epl
  have eal1 := f1 _ _ (ne_of eal ex (by intro z; cases z)) eal
  clear g1 ntd
  obtain ⟨as1, q1, rT1⟩ := hT1
  rw [etl1] at q1
  injection q1 with q1
  injection q1 with q1
  have := refs_inj q1
  subst this
  refine ⟨_, rfl, tl, rfl, ⟨_, SqL.of etl1⟩, comp_byH (fun H3 y z H4 => ∃ (l l' : Addr) (ws : List (Int × Int)), y = .ref l ∧ z = .ref l' ∧ WaysA H3 l ws ∧ WaysF H3 H4 l' ws) (SqL.of etl1) (by rw [List.length_map, rT.1]; have := ok.t24; omega) (fun y hy H3 g Q' hQ => ?_) fun p ys H2 np ly hy g2 ep => ?_⟩
  · obtain ⟨l, hl, rfl⟩ := List.mem_map.mp hy
    obtain ⟨i, hi⟩ := List.mem_iff_getElem?.mp hl
    have il : i < T.length := by rw [← rT.1]; exact (List.getElem?_eq_some_iff.mp hi).1
    have wa := (rT1.2 i l _ hi (List.getElem?_eq_getElem il)).same g
    exact ⟨_, rfl, l, _, rfl, wa, (ok.ways _ (List.getElem_mem il)).2.1, fun p H4 g4 wf => hQ _ _ ⟨l, p, _, rfl, rfl, wa, wf⟩ g4⟩
  have hT2 : TasksA H2 p T := by
    obtain ⟨cs, rfl⟩ := refs_list (ys := ys) fun y hy' => by
      obtain ⟨i, hi⟩ := List.mem_iff_getElem?.mp hy'
      have il : i < (as.map V.ref).length := by rw [← ly]; exact (List.getElem?_eq_some_iff.mp hi).1
      obtain ⟨_, _, _, _, ⟨_, l', _, _, e, _⟩, _⟩ := hy i _ y (List.getElem?_eq_getElem il) hi
      exact ⟨l', e⟩
    rw [List.length_map, List.length_map] at ly
    refine ⟨cs, ep, by rw [ly, rT.1], fun i l' ws k1 k2 => ?_⟩
    obtain ⟨l, hl, wa⟩ := rT1.get k2
    obtain ⟨H3, H4, g3, n3, ⟨l0, l0', ws', q1, q2, q3, q4⟩, fr⟩ := hy i (.ref l) (.ref l') (by rw [List.getElem?_map, hl]; rfl) (by rw [List.getElem?_map, k1]; rfl)
    cases q1
    cases q2
    have := (wa.same g3).fun q3
    subst this
    exact q4.ways n3 fr
  have e2 := g2 _ _ e1
  have d2 := g2 _ _ d1
  have hA2 := hA1.same g2
  have eal2 := g2 _ _ eal1
  have epl2 := g2 _ _ epl1
  have f2 : Fx x H H2 := f1.trans (Fx.of g2)
  clear hy ep ly g2 np hA1 eal1 epl1 f1 rT1 e1 d1 etl1
  refine ⟨_, rfl, x, _, dx, _, rfl, e2, B.cl_Net, B.na_Net_tasks, (by have := lp "tools" (.ref td') [] (by decide); omega), ?_⟩
  have e3 : upd H2 x (.ins c_Net dx (putF "tasks" (.ref p) (putF "tools" (.ref td') []))) x = some (.ins c_Net dx (putF "tasks" (.ref p) (putF "tools" (.ref td') []))) := upd_same
  have w3 : Fx x H2 (upd H2 x (.ins c_Net dx (putF "tasks" (.ref p) (putF "tools" (.ref td') [])))) := Fx.put x H2 _
  generalize upd H2 x (.ins c_Net dx (putF "tasks" (.ref p) (putF "tools" (.ref td') []))) = H3 at e3 w3 ⊢
  have d3 := w3 _ _ (ne_of d2 e2 (by intro z; cases z)) d2
  have hT3 := hT2.fx e2 w3
  have hA3 := hA2.fx e2 w3
  have epl3 := w3 _ _ (ne_of epl2 e2 (by intro z; cases z)) epl2
  have f3 := f2.trans w3
  clear d2 hT2 epl2 f2 w3
  obtain ⟨bs3, eal3, rA3⟩ := hA3
  refine ⟨_, rfl, al, _, rfl, .inl (SqL.of eal3), fun al' nal => ?_⟩
  have g4 := same_new nal (.lst (bs3.map V.ref))
  have l2 : (putF "tasks" (.ref p) (putF "tools" (.ref td') [])).length < 1000 := by
    have := length_putF "tools" (.ref td') []
    have := length_putF "tasks" (.ref p) (putF "tools" (.ref td') [])
    simp at *
    omega
  have hA4 : TupsA (upd H3 al' (.lst (bs3.map V.ref))) al' A := ⟨bs3, upd_same, rA3.imp fun a k q => g4 _ _ q⟩
  have e4 := g4 _ _ e3
  have d4 := g4 _ _ d3
  have hT4 := hT3.same g4
  have epl4 := g4 _ _ epl3
  have f4 := f3.trans (Fx.of g4)
  generalize upd H3 al' (.lst (bs3.map V.ref)) = H4 at hA4 e4 d4 hT4 epl4 f4 ⊢
  clear g4 nal d3 hT3 epl3 f3 rA3 eal3 e3
  refine ⟨_, rfl, x, _, dx, _, rfl, e4, B.cl_Net, B.na_Net_arcs, l2, ?_⟩
  have e5 : upd H4 x (.ins c_Net dx (putF "arcs" (.ref al') (putF "tasks" (.ref p) (putF "tools" (.ref td') [])))) x = some (.ins c_Net dx (putF "arcs" (.ref al') (putF "tasks" (.ref p) (putF "tools" (.ref td') [])))) := upd_same
  have w5 : Fx x H4 (upd H4 x (.ins c_Net dx (putF "arcs" (.ref al') (putF "tasks" (.ref p) (putF "tools" (.ref td') []))))) := Fx.put x H4 _
  generalize upd H4 x (.ins c_Net dx (putF "arcs" (.ref al') (putF "tasks" (.ref p) (putF "tools" (.ref td') [])))) = H5 at e5 w5 ⊢
  have d5 := w5 _ _ (ne_of d4 e4 (by intro z; cases z)) d4
  have hT5 := hT4.fx e4 w5
  have hA5 := hA4.fx e4 w5
  have epl5 := w5 _ _ (ne_of epl4 e4 (by intro z; cases z)) epl4
  have f5 := f4.trans w5
  clear d4 hT4 hA4 epl4 f4 w5
  refine ⟨_, rfl, rfl, _, rfl, dF (by intro z; cases z) ⟨_, rfl, pl, [], rfl, .inl (SqL.of epl5), fun pl' npl => ?_⟩⟩
  have g6 := same_new npl (.lst [])
  have epl6 : upd H5 pl' (.lst []) pl' = some (.lst []) := upd_same
  have e6 := g6 _ _ e5
  have d6 := g6 _ _ d5
  have hT6 := hT5.same g6
  have hA6 := hA5.same g6
  have f6 := f5.trans (Fx.of g6)
  generalize upd H5 pl' (.lst []) = H6 at epl6 e6 d6 hT6 hA6 f6 ⊢
  clear g6 npl d5 hT5 hA5 epl5 f5 e5
  have l3 : (putF "arcs" (.ref al') (putF "tasks" (.ref p) (putF "tools" (.ref td') []))).length < 1000 := by
    have := length_putF "tools" (.ref td') []
    have := length_putF "tasks" (.ref p) (putF "tools" (.ref td') [])
    have := length_putF "arcs" (.ref al') (putF "tasks" (.ref p) (putF "tools" (.ref td') []))
    simp at *
    omega
  refine ⟨_, rfl, x, _, dx, _, rfl, e6, B.cl_Net, B.na_Net_apart, l3, ?_⟩
  have e7 : upd H6 x (.ins c_Net dx (putF "apart" (.ref pl') (putF "arcs" (.ref al') (putF "tasks" (.ref p) (putF "tools" (.ref td') []))))) x = some (.ins c_Net dx (putF "apart" (.ref pl') (putF "arcs" (.ref al') (putF "tasks" (.ref p) (putF "tools" (.ref td') []))))) := upd_same
  have w7 : Fx x H6 (upd H6 x (.ins c_Net dx (putF "apart" (.ref pl') (putF "arcs" (.ref al') (putF "tasks" (.ref p) (putF "tools" (.ref td') [])))))) := Fx.put x H6 _
  generalize upd H6 x (.ins c_Net dx (putF "apart" (.ref pl') (putF "arcs" (.ref al') (putF "tasks" (.ref p) (putF "tools" (.ref td') []))))) = H7 at e7 w7 ⊢
  have d7 := w7 _ _ (ne_of d6 e6 (by intro z; cases z)) d6
  have hT7 := hT6.fx e6 w7
  have hA7 := hA6.fx e6 w7
  have epl7 := w7 _ _ (ne_of epl6 e6 (by intro z; cases z)) epl6
  have f7 := f6.trans w7
  clear d6 hT6 hA6 epl6 f6 w7 e6
  have l4 : (putF "apart" (.ref pl') (putF "arcs" (.ref al') (putF "tasks" (.ref p) (putF "tools" (.ref td') [])))).length < 1000 := by
    have := length_putF "tools" (.ref td') []
    have := length_putF "tasks" (.ref p) (putF "tools" (.ref td') [])
    have := length_putF "arcs" (.ref al') (putF "tasks" (.ref p) (putF "tools" (.ref td') []))
    have := length_putF "apart" (.ref pl') (putF "arcs" (.ref al') (putF "tasks" (.ref p) (putF "tools" (.ref td') [])))
    simp at *
    omega
  refine ⟨_, rfl, _, rfl, x, _, dx, _, rfl, e7, B.cl_Net, B.na_Net_moments, l4, ?_⟩
  have e8 : upd H7 x (.ins c_Net dx (netF (.ref td') (.ref p) (.ref al') (.ref pl') (.int n))) x = some (.ins c_Net dx (netF (.ref td') (.ref p) (.ref al') (.ref pl') (.int n))) := upd_same
  have w8 : Fx x H7 (upd H7 x (.ins c_Net dx (netF (.ref td') (.ref p) (.ref al') (.ref pl') (.int n)))) := Fx.put x H7 _
  change L2.tSeq _ _ _ _ (upd H7 x (.ins c_Net dx (netF (.ref td') (.ref p) (.ref al') (.ref pl') (.int n))))
  generalize upd H7 x (.ins c_Net dx (netF (.ref td') (.ref p) (.ref al') (.ref pl') (.int n))) = H8 at e8 w8 ⊢
  have d8 := w8 _ _ (ne_of d7 e7 (by intro z; cases z)) d7
  have hT8 := hT7.fx e7 w8
  have hA8 := hA7.fx e7 w8
  have epl8 := w8 _ _ (ne_of epl7 e7 (by intro z; cases z)) epl7
  have f8 := f7.trans w8
  clear d7 hT7 hA7 epl7 f7 w8 e7
  obtain ⟨k1, k2, k3, k4, k5⟩ := netF_at (td := .ref td') (tl := .ref p) (al := .ref al') (pl := .ref pl') (n := .int n)
  have N8 : NetA c_Net H8 x T A n := ⟨dx, td', p, al', pl', _, e8, k1, k2, k3, k4, k5, d8, hT8, hA8, epl8⟩
  refine ⟨_, rfl, x, _, dx, _, _, rfl, e8, B.cl_Net, B.na_Net_tools, k1, td', rfl, d8, fun H9 g9 => ?_⟩
  refine ⟨_, rfl, x, _, dx, _, _, rfl, (g9 _ _ e8), B.cl_Net, B.na_Net_tasks, k2, _, rfl, x, _, dx, _, _, rfl, (g9 _ _ e8), B.cl_Net, B.na_Net_tools, k1, p, td', T, rfl, hT8.same g9, ok.t24, ok.ways, fun H10 g10 => ?_⟩
  have g := g9.trans g10
  refine ⟨_, rfl, _, _, rfl, rfl, _, rfl, dT ok.n0 ⟨_, _, rfl, rfl, _, rfl, nF ok.n8 ?_⟩⟩
  refine ⟨_, rfl, x, _, dx, _, _, rfl, (g _ _ e8), B.cl_Net, B.na_Net_arcs, k3, _, rfl, x, n, T, A, rfl, N8.same g, al', _, A, rfl, hA8.same g, ok.a600, ok.arcs, ?_⟩
  obtain ⟨ps, ep8, rp8⟩ := hT8.same g
  refine ⟨_, rfl, x, _, dx, _, _, rfl, (g _ _ e8), B.cl_Net, B.na_Net_apart, k4, _, rfl, x, _, dx, _, _, rfl, (g _ _ e8), B.cl_Net, B.na_Net_tasks, k2, p, _, rfl, .inl (SqL.of ep8), pl', _, rfl, g _ _ epl8, ?_⟩
  exact q _ (f8.trans (Fx.of g)) (N8.same g)

theorem scis_plan : FnScope ["net", "plan", "run", "ways"] ["net", "plan"] (defScope sis_plan) := ⟨rfl, rfl, rfl, by decide +kernel, rfl, by decide +kernel, by decide +kernel⟩
set_option maxHeartbeats 4000000 in
theorem okis_plan {dV : Value} (F : FunD K "is_plan" "is_plan" sis_plan dV f fd) (B : Bn K mg c_EmptyHeap c_Net c_NoNet c_NoPlan c_StoveError c_TooFew c_TooMany f_Net_init)  : FnOk P w K mg base CX0 1 f fd ["net", "plan"] (spIsPlanB c_Net) := by
  have sc := scis_plan
  refine F.ok sc (fun vs H Q E h => ?_) (fun cdv A outer s H vs Q E hr h => ?_)
  · obtain ⟨x, t, T, A, n, R, M, rfl, _⟩ := h
    rfl
  obtain ⟨x, t, T, A, n, R, M, rfl, N, P, q⟩ := h
  refine ⟨_, (pss_cons (ps_if (PW.pt (pw_or (pt_cmpR op_ne (pe_callB call_len_seq rfl B.b_len boot_len (pa_cons (pe_ix ix_tup (pv 1) pe_int (fun _ _ => rfl)) pa_nil)) (pe_callB call_len_seq rfl B.b_len boot_len (pa_cons (pe_fld (pv 0) rfl) pa_nil)) (nomark _)) (pw_or1 (pt_cmpR op_ne (pe_callB call_len_seq rfl B.b_len boot_len (pa_cons (pe_ix ix_tup (pv 1) pe_int (fun _ _ => rfl)) pa_nil)) (pe_fld (pv 0) rfl) (nomark _))))) (pss_one (ps_ret pe_bl)) pss_nil) (pss_cons (ps_for PassesOwn.never rfl (pi_zip rfl B.b_zip (pa_cons (pe_ix ix_tup (pv 1) pe_int (fun _ _ => rfl)) (pa_cons (pe_fld (pv 0) rfl) pa_nil))) (pg_tup rfl (pgs_cons (pg_name (i := 2) sc.nd rfl (Or.inl rfl)) (pgs_cons (pg_name (i := 3) sc.nd rfl (Or.inl rfl)) pgs_nil))) (pss_one (ps_if (pt_not (pt_chain op_le op_lt pe_int (pe_ix ix_tup (pv 2) pe_int (fun _ _ => rfl)) (pe_callB call_len_seq rfl B.b_len boot_len (pa_cons (pv 3) pa_nil)))) (pss_one (ps_ret pe_bl)) pss_nil))) (pss_one (ps_ret pe_bl)))), ?_⟩
  obtain ⟨dx, td, tl, al, pl, fs, e0, l1, l2, l3, l4, l5, ed, ⟨as, el, rT⟩, hA, epl⟩ := N.ex
  obtain ⟨rl, ml, et, ⟨bs, er, rR⟩, em⟩ := P
  have lr : (bs.map V.ref).length = R.length := by rw [List.length_map, rR.1, List.length_map]
  have lt : (as.map V.ref).length = T.length := by rw [List.length_map, rT.1]
  have lm : (M.map V.int).length = M.length := List.length_map _
  refine ⟨_, rfl, t, _, _, _, rfl, rfl, SqT.of et, rfl, rl, _, rfl, .inl (SqL.of er), _, rfl, x, _, dx, _, _, rfl, e0, B.cl_Net, B.na_Net_tasks, l2, tl, _, rfl, .inl (SqL.of el), rfl, _, rfl, n2 (fun c => ?_) (fun c => ?_)⟩
  · refine iteT (q false _ (.refl _) ⟨fun z => (by cases z), fun z => absurd ?_ c⟩)
    rw [lr, lt, z.1.len]
  injection c with c
  have ll : R.length = T.length := by omega
  refine ⟨_, rfl, t, _, _, _, rfl, rfl, SqT.of et, rfl, ml, _, rfl, .inl (SqL.of em), _, rfl, x, _, dx, _, _, rfl, e0, B.cl_Net, B.na_Net_moments, l5, rfl, _, rfl, n2 (fun c => ?_) (fun c => ?_)⟩
  · refine q false _ (.refl _) ⟨fun z => (by cases z), fun z => absurd ?_ c⟩
    rw [lm, z.2]
  injection c with c
  rw [lm] at c
  refine ⟨_, rfl, t, _, _, _, rfl, rfl, SqT.of et, rfl, _, rfl, x, _, dx, _, _, rfl, e0, B.cl_Net, B.na_Net_tasks, l2, rl, tl, rfl, ⟨_, SqL.of er⟩, ⟨_, SqL.of el⟩, for_zip (xs := bs.map V.ref) (ys := as.map V.ref) (fun i σ H' => Same H H' ∧ (∀ (j : Nat) (r : Rn) (ws : List (Int × Int)), j < i → R[j]? = some r → T[j]? = some ws → 0 ≤ r.2.2 ∧ r.2.2 < (ws.length : Int)) ∧ ∃ o2 o3 : Option V, σ = [some (.ref x), some (.ref t), o2, o3]) ⟨.refl _, fun j _ _ hj => by omega, none, none, rfl⟩ (fun i σ H' _ h => ⟨SqL.of (h.1 _ _ er), SqL.of (h.1 _ _ el)⟩) ?_ ?_⟩
  · rintro i y z σ H1 T' hy hz ⟨g1, hk, o2, o3, rfl⟩ nT
    obtain ⟨b, hb, rfl⟩ := refs_at hy
    obtain ⟨wl, hw, rfl⟩ := refs_at hz
    obtain ⟨r, hr', eb⟩ := run_at rR hb
    have il : i < T.length := by rw [← rT.1]; exact (List.getElem?_eq_some_iff.mp hw).1
    have hT := List.getElem?_eq_getElem il
    obtain ⟨ts, ew, rw'⟩ := rT.2 i wl _ hw hT
    have g2 := g1.trans (same_new nT (.tup [.ref b, .ref wl]))
    have lw : (ts.map V.ref).length = T[i].length := by rw [List.length_map, rw'.1]
    have bad : ¬ (0 ≤ r.2.2 ∧ r.2.2 < (T[i].length : Int)) → (false = true ↔ PlanFor T n R M) := fun h => ⟨fun z => (by cases z), fun z => absurd (z.1.way i r _ hr' hT) h⟩
    refine ⟨T', _, rfl, SqT.of upd_same, rfl, _, _, rfl, _, _, rfl, rfl, ?_⟩
    refine ⟨_, rfl, b, _, _, _, rfl, rfl, SqT.of (g2 _ _ eb), rfl, _, _, rfl, rfl, _, rfl, d2 (fun c0 => ⟨_, rfl, wl, _, rfl, .inl (SqL.of (g2 _ _ ew)), _, _, rfl, rfl, _, rfl, n2 (fun c1 => ?_) (fun c1 => ?_)⟩) (fun c0 => ?_)⟩
    · exact q false _ g2 (bad fun z => c1 (by rw [lw]; exact z.2))
    · refine ⟨g2, fun j r' ws hj e1 e2 => ?_, _, _, rfl⟩
      by_cases ji : j = i
      · subst ji
        rw [hr'] at e1
        rw [hT] at e2
        cases e1
        cases e2
        exact ⟨c0, by rw [lw] at c1; exact c1⟩
      · exact hk j r' ws (by omega) e1 e2
    · exact ⟨_, rfl, iteT (q false _ g2 (bad fun z => c0 z.1))⟩
  · rintro σ H1 ⟨g1, hk, o2, o3, rfl⟩
    exact q true _ g1 ⟨fun _ => ⟨⟨ll, fun i r ws e1 e2 => hk i r ws (by have := (List.getElem?_eq_some_iff.mp e1).1; omega) e1 e2⟩, c⟩, fun _ => rfl⟩

theorem sctime_of : FnScope ["plan", "point", "moment"] ["plan", "point"] (defScope stime_of) := ⟨rfl, rfl, rfl, by decide +kernel, rfl, by decide +kernel, by decide +kernel⟩
set_option maxHeartbeats 4000000 in
theorem oktime_of {dV : Value} (F : FunD K "time_of" "time_of" stime_of dV f fd) (B : Bn K mg c_EmptyHeap c_Net c_NoNet c_NoPlan c_StoveError c_TooFew c_TooMany f_Net_init)  : FnOk P w K mg base CX0 1 f fd ["plan", "point"] spTimeOf := by
  have sc := sctime_of
  refine F.ok sc (fun vs H Q E h => ?_) (fun cdv A outer s H vs Q E hr h => ?_)
  · obtain ⟨t, p, R, M, v, rfl, _⟩ := h
    rfl
  obtain ⟨t, p, R, M, v, rfl, ⟨rl, ml, et, ⟨bs, er, rR⟩, em⟩, p0, ev, q⟩ := h
  refine ⟨_, (pss_cons (ps_set (i := 2) sc.nd rfl (Or.inl rfl) (pe_op op_sub (pv 1) (pe_op op_mulB pe_int (pe_callB call_len_seq rfl B.b_len boot_len (pa_cons (pe_ix ix_tup (pv 0) pe_int (fun _ _ => rfl)) pa_nil))))) (pss_cons (ps_if (pt_cmpR op_ge (pv 2) pe_int (nomark _)) (pss_one (ps_ret (pe_ix ix_list (pe_ix ix_tup (pv 0) pe_int (fun _ _ => rfl)) (pv 2) (fun _ _ => rfl)))) pss_nil) (pss_one (ps_ret (pe_ix ix_tup (pe_ix ix_list (pe_ix ix_tup (pv 0) pe_int (fun _ _ => rfl)) (pe_op op_fdivB (pv 1) pe_int) (fun _ _ => rfl)) (pe_op op_modN (pv 1) pe_int) (fun _ _ => rfl)))))), ?_⟩
  have lr : (bs.map V.ref).length = R.length := by rw [List.length_map, rR.1, List.length_map]
  refine ⟨_, rfl, _, rfl, t, _, _, _, rfl, rfl, SqT.of et, rfl, rl, _, rfl, .inl (SqL.of er), _, _, rfl, rfl, IntMulOk.of_left (by decide), _, _, rfl, rfl, ?_⟩
  refine ⟨_, rfl, _, _, rfl, rfl, _, rfl, d2 (fun c => ?_) (fun c => ?_)⟩
  · exact ⟨_, rfl, t, _, _, _, rfl, rfl, SqT.of et, rfl, _, rfl, ml, _, _, _, rfl, rfl, SqL.of em, time_hi lr c ev, q⟩
  · obtain ⟨i, r, e1, e2, e3⟩ := time_lo p0 (by rw [lr] at c; omega) ev
    obtain ⟨b, hb, eb⟩ := run_get rR e2
    exact ⟨_, rfl, t, _, _, _, rfl, rfl, SqT.of et, rfl, _, rfl, _, _, rfl, rfl, ⟨by decide, PyProof.noPylong_small (by decide)⟩, rl, _, _, _, rfl, rfl, SqL.of er, by rw [e1]; exact atI_nat (map_at hb), _, rfl, _, _, rfl, rfl, (by show (2 : Int) ≠ 0; decide), b, _, _, _, rfl, rfl, SqT.of eb, e3, q⟩

theorem scbreaches : FnScope ["net", "plan", "told", "tool"] ["net", "plan"] (defScope sbreaches) := ⟨rfl, rfl, rfl, by decide +kernel, rfl, by decide +kernel, by decide +kernel⟩
set_option maxHeartbeats 4000000 in
theorem okbreaches {dV : Value} (F : FunD K "breaches" "breaches" sbreaches dV f fd) (B : Bn K mg c_EmptyHeap c_Net c_NoNet c_NoPlan c_StoveError c_TooFew c_TooMany f_Net_init) (Dis_plan : Dx P w K mg base CX0 1 "is_plan" ["net", "plan"] [] (spIsPlanB c_Net)) : FnOk P w K mg base (CX1 P w) 2 f fd ["net", "plan"] (spBad c_Net c_NoPlan) := by
  have sc := scbreaches
  refine F.okX sc (fun vs H Q E h => ?_) (fun cdv A outer s H vs Q E hr h => ?_)
  · obtain ⟨x, t, T, A, n, R, M, rfl, _⟩ := h
    rfl
  obtain ⟨x, t, T, A, n, R, M, rfl, N, P, nb, k⟩ := h
  refine ⟨_, (pss_cons (ps_if (pt_not (pt_val (pcall0 Dis_plan hr (by decide) rfl (pa_cons (pv 0) (pa_cons (pv 1) pa_nil))))) (pss_one (ps_raise B.x_NoPlan rfl B.m_NoPlan rfl passX (pa_cons pe_str pa_nil))) pss_nil) pss_never), ?_⟩
  refine ⟨_, rfl, _, rfl, x, t, T, A, n, R, M, rfl, N, P, fun b H1 g1 hb => ⟨_, rfl, ?_⟩⟩
  cases b with
  | true => exact absurd (hb.mp rfl) nb
  | false => exact iteT ⟨by show 1 ≤ sizeLine; decide, k _ g1⟩

theorem scplan_fits : FnScope ["net", "plan"] ["net", "plan"] (defScope splan_fits) := ⟨rfl, rfl, rfl, by decide +kernel, rfl, by decide +kernel, by decide +kernel⟩
set_option maxHeartbeats 4000000 in
theorem okplan_fits {dV : Value} (F : FunD K "plan_fits" "plan_fits" splan_fits dV f fd) (B : Bn K mg c_EmptyHeap c_Net c_NoNet c_NoPlan c_StoveError c_TooFew c_TooMany f_Net_init) (Xbreaches : Dx P w K mg base (CX1 P w) 2 "breaches" ["net", "plan"] [] (spBad c_Net c_NoPlan)) : FnOk P w K mg base (CX1 P w) 3 f fd ["net", "plan"] (spBad c_Net c_NoPlan) := by
  have sc := scplan_fits
  refine F.okX sc (fun vs H Q E h => ?_) (fun cdv A outer s H vs Q E hr h => ?_)
  · obtain ⟨x, t, T, A, n, R, M, rfl, _⟩ := h
    rfl
  obtain ⟨x, t, T, A, n, R, M, rfl, N, P, nb, k⟩ := h
  refine ⟨_, (pss_one (ps_ret (pe_cmpR op_eq (pcall1 Xbreaches hr (by decide) rfl passX (pa_cons (pv 0) (pa_cons (pv 1) pa_nil))) (pe_lst pa_nil) (nomark _)))), ?_⟩
  exact ⟨_, rfl, _, rfl, x, t, T, A, n, R, M, rfl, N, P, nb, k⟩

theorem sclength_of : FnScope ["plan", "points"] ["plan"] (defScope slength_of) := ⟨rfl, rfl, rfl, by decide +kernel, rfl, by decide +kernel, by decide +kernel⟩
set_option maxHeartbeats 4000000 in
theorem oklength_of {dV : Value} (F : FunD K "length_of" "length_of" slength_of dV f fd) (B : Bn K mg c_EmptyHeap c_Net c_NoNet c_NoPlan c_StoveError c_TooFew c_TooMany f_Net_init) (Dtime_of : Dx P w K mg base CX0 1 "time_of" ["plan", "point"] [] spTimeOf) : FnOk P w K mg base CX0 2 f fd ["plan"] spLenP := by
  have sc := sclength_of
  refine F.ok sc (fun vs H Q E h => ?_) (fun cdv A outer s H vs Q E hr h => ?_)
  · obtain ⟨t, R, M, rfl, _⟩ := h
    rfl
  obtain ⟨t, R, M, rfl, P, r30, m30, q⟩ := h
  refine ⟨_, (pss_cons (ps_set (i := 1) sc.nd rfl (Or.inl rfl) (pe_op op_add (pe_op op_mulB pe_int (pe_callB call_len_seq rfl B.b_len boot_len (pa_cons (pe_ix ix_tup (pv 0) pe_int (fun _ _ => rfl)) pa_nil))) (pe_callB call_len_seq rfl B.b_len boot_len (pa_cons (pe_ix ix_tup (pv 0) pe_int (fun _ _ => rfl)) pa_nil)))) (pss_one (ps_ret (pe_callB (call_maxL rfl) rfl B.b_max boot_max (pa_cons (pe_op op_cat (pe_lst (pa_cons pe_int pa_nil)) (pe_compH (hd := none) (own := "point") (ys := ["plan"]) (js := [0]) hr.hd (cok (atc atn) (.cons rfl .nil) (by decide) rfl rfl rfl rfl rfl rfl rfl rfl) (pi_rangeH rfl B.b_range (pa_cons (pv 1) pa_nil)) (fun C fp s H => (pcall0 Dtime_of hr (by decide) rfl (pa_cons (pv 1) (pa_cons (pv 0) pa_nil)))))) pa_nil))))), ?_⟩
  have sl : sizeLine = 16777216 := sizeLine_eq
  obtain ⟨rl, ml, et, ⟨bs, er, rR⟩, em⟩ := id P
  have lr : (bs.map V.ref).length = R.length := by rw [List.length_map, rR.1, List.length_map]
  have lm : (M.map V.int).length = M.length := List.length_map _
  have ls := spots_len M R
  refine ⟨_, rfl, t, _, _, _, rfl, rfl, SqT.of et, rfl, rl, _, rfl, .inl (SqL.of er), _, _, rfl, rfl, IntMulOk.of_left (by decide), _, rfl, t, _, _, _, rfl, rfl, SqT.of et, rfl, ml, _, rfl, .inl (SqL.of em), _, _, rfl, rfl, ?_⟩
  refine ⟨(by show 1 ≤ sizeLine; decide), fun l0 n0 => ?_⟩
  have g0 := same_new n0 (.lst [.int 0])
  refine ⟨_, rfl, _, rfl, by omega, by omega, comp_by (fun i y => ∃ v, (spots R M)[i]? = some v ∧ y = .int v) HdOk.no ?_ (fun i hi H3 g3 Q' hQ => ?_) fun p ys H' np ly hy g ep => ?_⟩
  · omega
  · have il : i < (spots R M).length := by omega
    refine ⟨_, rfl, _, rfl, t, _, R, M, _, rfl, P.same (g0.trans g3), by omega, ?_, hQ _ _ ⟨_, List.getElem?_eq_getElem il, rfl⟩ (.refl _)⟩
    rw [Int.zero_add, Int.toNat_natCast]
    exact List.getElem?_eq_getElem il
  · have e : ys = (spots R M).map V.int := by
      apply List.ext_getElem (by have lz : ((spots R M).map V.int).length = (spots R M).length := List.length_map _; omega)
      intro i h1 h2
      obtain ⟨v, e1, e2⟩ := hy i _ (List.getElem?_eq_getElem h1)
      rw [e2, List.getElem_map]
      rw [List.length_map] at h2
      rw [List.getElem?_eq_getElem h2] at e1
      injection e1 with e1
      rw [e1]
    subst e
    refine ⟨l0, p, _, _, rfl, rfl, g _ _ upd_same, ep, by rw [List.length_map]; simp; omega, fun p2 n2 => ?_⟩
    refine ⟨p2, 0 :: spots R M, rfl, SqL.of upd_same, by simp, fun mm h1 h2 => q mm _ ((g0.trans g).trans (same_new n2 _)) ⟨h1, h2⟩⟩

theorem scroster : FnScope ["net", "plan", "order", "dealt", "tool"] ["net", "plan"] (defScope sroster) := ⟨rfl, rfl, rfl, by decide +kernel, rfl, by decide +kernel, by decide +kernel⟩
set_option maxHeartbeats 4000000 in
theorem okroster {dV : Value} (F : FunD K "roster" "roster" sroster dV f fd) (B : Bn K mg c_EmptyHeap c_Net c_NoNet c_NoPlan c_StoveError c_TooFew c_TooMany f_Net_init) (Xplan_fits : Dx P w K mg base (CX1 P w) 3 "plan_fits" ["net", "plan"] [] (spBad c_Net c_NoPlan)) : FnOk P w K mg base (CX1 P w) 4 f fd ["net", "plan"] (spBad c_Net c_NoPlan) := by
  have sc := scroster
  refine F.okX sc (fun vs H Q E h => ?_) (fun cdv A outer s H vs Q E hr h => ?_)
  · obtain ⟨x, t, T, A, n, R, M, rfl, _⟩ := h
    rfl
  obtain ⟨x, t, T, A, n, R, M, rfl, N, P, nb, k⟩ := h
  refine ⟨_, (pss_cons (ps_if (pt_not (pt_val (pcall1 Xplan_fits hr (by decide) rfl passX (pa_cons (pv 0) (pa_cons (pv 1) pa_nil))))) (pss_one (ps_raise B.x_NoPlan rfl B.m_NoPlan rfl passX (pa_cons pe_str pa_nil))) pss_nil) pss_never), ?_⟩
  exact ⟨_, rfl, _, rfl, x, t, T, A, n, R, M, rfl, N, P, nb, k⟩

theorem sc_law_cell_at : FnScope ["_law_script", "_law_k"] ["_law_script", "_law_k"] (defScope s_law_cell_at) := ⟨rfl, rfl, rfl, by decide +kernel, rfl, by decide +kernel, by decide +kernel⟩
set_option maxHeartbeats 4000000 in
theorem ok_law_cell_at {dV : Value} (F : FunD K "_law_cell_at" "_law_cell_at" s_law_cell_at dV f fd) (B : Bn K mg c_EmptyHeap c_Net c_NoNet c_NoPlan c_StoveError c_TooFew c_TooMany f_Net_init)  : FnOk P w K mg base CX0 1 f fd ["_law_script", "_law_k"] (spCell K) := by
  have sc := sc_law_cell_at
  refine F.ok sc (fun vs H Q E h => ?_) (fun cdv A outer s H vs Q E hr h => ?_)
  · obtain ⟨a, ns, k, rfl, _⟩ := h
    rfl
  obtain ⟨a, ns, k, rfl, hS, h0, q⟩ := h
  refine ⟨_, (pss_cons (ps_if (pt_cmpR op_lt (pv 1) (pe_callB call_len_seq rfl B.b_len boot_len (pa_cons (pv 0) pa_nil)) (nomark _)) (pss_one (ps_ret (pe_ix ix_list (pv 0) (pv 1) (fun _ _ => rfl)))) pss_nil) (pss_one (ps_ret pe_int))), ?_⟩
  refine ⟨_, rfl, _, rfl, a, _, rfl, .inl hS, _, _, rfl, rfl, _, rfl, d2 (fun c => ?_) (fun c => ?_)⟩
  · obtain ⟨v, hv⟩ := cell_ok h0 c
    exact ⟨_, rfl, _, rfl, a, _, _, _, rfl, rfl, hS, hv, q v⟩
  · exact q 0

theorem sc_law_whole : FnScope ["_law_found"] ["_law_found"] (defScope s_law_whole) := ⟨rfl, rfl, rfl, by decide +kernel, rfl, by decide +kernel, by decide +kernel⟩
set_option maxHeartbeats 4000000 in
theorem ok_law_whole {dV : Value} (F : FunD K "_law_whole" "_law_whole" s_law_whole dV f fd) (B : Bn K mg c_EmptyHeap c_Net c_NoNet c_NoPlan c_StoveError c_TooFew c_TooMany f_Net_init)  : FnOk P w K mg base CX0 1 f fd ["_law_found"] spWhole := by
  have sc := sc_law_whole
  refine F.ok sc (fun vs H Q E h => ?_) (fun cdv A outer s H vs Q E hr h => ?_)
  · obtain ⟨v, rfl, _⟩ := h
    rfl
  obtain ⟨v, rfl, q⟩ := h
  refine ⟨_, (pss_one (ps_ret (pe_and (pe_callB call_isi rfl B.b_isinstance boot_isinstance (pa_cons (pv 0) (pa_cons (pe_bltn (v := .ty "int") rfl B.b_int boot_int rfl) pa_nil))) (pe_one (pe_not (pe_callB call_isi rfl B.b_isinstance boot_isinstance (pa_cons (pv 0) (pa_cons (pe_bltn (v := .ty "bool") rfl B.b_bool boot_bool rfl) pa_nil)))))))), ?_⟩
  refine ⟨_, rfl, _, _, _, rfl, .ii v, _, rfl, iteT ⟨_, rfl, _, _, _, rfl, .ib v, _, rfl, q⟩⟩

theorem sc_law_drawn : FnScope ["_law_cell", "_law_many", "_law_found", "_law_number", "_law_k"] ["_law_cell", "_law_many"] (defScope s_law_drawn) := ⟨rfl, rfl, rfl, by decide +kernel, rfl, by decide +kernel, by decide +kernel⟩
set_option maxHeartbeats 4000000 in
theorem ok_law_drawn {dV : Value} (F : FunD K "_law_drawn" "_law_drawn" s_law_drawn dV f fd) (B : Bn K mg c_EmptyHeap c_Net c_NoNet c_NoPlan c_StoveError c_TooFew c_TooMany f_Net_init)  : FnOk P w K mg base CX0 1 f fd ["_law_cell", "_law_many"] spDrawnB := by
  have sc := sc_law_drawn
  refine F.ok sc (fun vs H Q E h => ?_) (fun cdv A outer s H vs Q E hr h => ?_)
  · obtain ⟨c, m, rfl, _⟩ := h
    rfl
  have m0 : (2147483629 : Int) ≠ 0 := by decide
  obtain ⟨c, m, rfl, m0', m1, k⟩ := h
  refine ⟨_, (pss_cons (ps_set (i := 2) sc.nd rfl (Or.inl rfl) (pe_lst pa_nil)) (pss_cons (ps_set (i := 3) sc.nd rfl (Or.inl rfl) (pe_op op_modN (pv 0) pe_int)) (pss_cons (ps_for PassesOwn.never rfl (pi_range1 rfl B.b_range (pa_cons (pv 1) pa_nil)) (pg_name (i := 4) sc.nd rfl (Or.inl rfl)) (pss_cons (ps_set (i := 3) sc.nd rfl (Or.inl rfl) (pe_op op_modN (pe_op op_add (pe_op op_add (pe_op op_add (pe_op op_mulB (pv 3) pe_int) (pe_op op_mulB (pe_op op_fdivB (pv 3) pe_int) pe_int)) pe_int) (pe_op op_mulB (pv 4) (pv 4))) pe_int)) (pss_one (ps_expr (pe_bm PySem.F.plainAttrs_list PySem.F.slot_list_append PySem.F.type_list_append mt_append (pv 2) (pa_cons (pv 3) pa_nil)))))) (pss_one (ps_ret (pv 2)))))), ?_⟩
  refine ⟨(by show 0 ≤ sizeLine; decide), fun l nl => ?_⟩
  refine ⟨_, rfl, _, _, rfl, rfl, m0, ?_⟩
  have nb : ∀ a : Int, 0 ≤ a.fmod 2147483629 ∧ a.fmod 2147483629 < 2147483629 := fun a => ⟨Int.fmod_nonneg_of_pos a (by decide), Int.fmod_lt_of_pos a (by decide)⟩
  refine ⟨_, rfl, m, rfl, (by omega), (by omega), for_range (fun i σ H' => ∃ (ns : List Int) (n : Int) (o : Option V), σ = [some (.int c), some (.int m), some (.ref l), some (.int n), o] ∧ 0 ≤ n ∧ n < 2147483629 ∧ ns.length = i ∧ (∀ z ∈ ns, Dwn z) ∧ Same H H' ∧ H' l = some (.lst (ns.map V.int))) ⟨[], _, none, rfl, (nb c).1, (nb c).2, rfl, fun z hz => by simp at hz, same_new nl _, upd_same⟩ ?_ ?_⟩
  · rintro i σ H' hi ⟨ns, n, o, rfl, n0, n1, hl, hd, g, el⟩
    refine ⟨_, rfl, _, _, rfl, rfl, IntMulOk.of_right (by decide), _, rfl, _, _, rfl, rfl, ⟨by decide, PyProof.noPylong_small (by decide)⟩, _, _, rfl, rfl, IntMulOk.of_right (by decide), _, _, rfl, rfl, _, _, rfl, rfl, _, rfl, _, rfl, _, _, rfl, rfl, IntMulOk.of_left (intBits_le_64 (by omega) (by omega)), _, _, rfl, rfl, _, _, rfl, rfl, m0, ?_⟩
    refine ⟨_, rfl, .inl ⟨rfl, _, SqL.of el⟩, _, rfl, l, _, _, rfl, rfl, el, (by rw [List.length_map, hl]; have : sizeLine = 16777216 := sizeLine_eq; omega), ?_⟩
    refine ⟨ns ++ [(n * 69621 + n.fdiv 127 * 7 + 40692 + (0 + (i : Int)) * (0 + (i : Int))).fmod 2147483629], _, _, rfl, (nb _).1, (nb _).2, by simp [hl], fun z hz => ?_, sUpd g nl _, ?_⟩
    · rcases List.mem_append.mp hz with h | h
      · exact hd z h
      · rw [List.mem_singleton.mp h]
        exact nb _
    rw [List.map_append]
    exact upd_same
  · rintro σ H' ⟨ns, n, o, rfl, n0, n1, hl, hd, g, el⟩
    exact ⟨_, rfl, k l ns H' nl g hl hd el⟩

theorem sc_law_time : FnScope ["_law_x", "_law_y", "_law_great"] ["_law_x", "_law_y"] (defScope s_law_time) := ⟨rfl, rfl, rfl, by decide +kernel, rfl, by decide +kernel, by decide +kernel⟩
set_option maxHeartbeats 4000000 in
theorem ok_law_time {dV : Value} (F : FunD K "_law_time" "_law_time" s_law_time dV f fd) (B : Bn K mg c_EmptyHeap c_Net c_NoNet c_NoPlan c_StoveError c_TooFew c_TooMany f_Net_init)  : FnOk P w K mg base CX0 1 f fd ["_law_x", "_law_y"] spTimeB := by
  have sc := sc_law_time
  refine F.ok sc (fun vs H Q E h => ?_) (fun cdv A outer s H vs Q E hr h => ?_)
  · obtain ⟨x, y, rfl, _⟩ := h
    rfl
  obtain ⟨x, y, rfl, ⟨x0, x1⟩, ⟨y0, y1⟩, q⟩ := h
  refine ⟨_, (pss_cons (ps_set (i := 2) sc.nd rfl (Or.inl rfl) (pe_op op_add (pe_op op_mulB (pe_op op_add (pe_op op_mulB (pv 0) pe_int) (pv 1)) (pe_op op_powB pe_int pe_int)) (pv 0))) (pss_one (ps_ret (pe_ix ix_list (pe_lst (pa_cons (pe_op op_sub (pe_op op_modN (pv 0) pe_int) pe_int) (pa_cons (pe_op op_sub (pv 0) (pe_op op_powB pe_int pe_int)) (pa_cons (pv 2) (pa_cons (pe_un un_neg (pv 2)) pa_nil))))) (pe_op op_modN (pv 1) pe_int) (fun _ _ => rfl))))), ?_⟩
  refine ⟨_, rfl, _, _, rfl, rfl, IntMulOk.of_right (by decide), _, rfl, _, _, rfl, rfl, _, _, rfl, rfl, ⟨by decide, by decide⟩, _, _, rfl, rfl, IntMulOk.of_left (intBits_le_64 (by omega) (by omega)), _, rfl, _, _, rfl, rfl, ?_⟩
  have t := fm (a := y) (n := 4) (by decide)
  obtain ⟨v, hv⟩ := ints_at (ns := [x.fmod 21 - 5, x - 10 ^ (9 : Int).toNat, (x * 2147483647 + y) * 10 ^ (40 : Int).toNat + x, -((x * 2147483647 + y) * 10 ^ (40 : Int).toNat + x)]) t.1 t.2
  exact ⟨_, rfl, _, _, rfl, rfl, (by show (21 : Int) ≠ 0; decide), _, _, rfl, rfl, _, rfl, _, _, rfl, rfl, ⟨by decide, by decide⟩, _, _, rfl, rfl, _, rfl, _, rfl, _, rfl, (by show 4 ≤ sizeLine; decide), fun l nl => ⟨_, rfl, _, _, rfl, rfl, (by show (4 : Int) ≠ 0; decide), l, _, _, _, rfl, rfl, SqL.of upd_same, hv, q v _ (same_new nl _)⟩⟩

theorem sc_law_spoilt : FnScope ["_law_runs", "_law_times", "_law_tasks", "_law_kind", "_law_x", "_law_at", "_law_spot", "_law_begin", "_law_end", "_law_way", "_law_far"] ["_law_runs", "_law_times", "_law_tasks", "_law_kind", "_law_x"] (defScope s_law_spoilt) := ⟨rfl, rfl, rfl, by decide +kernel, rfl, by decide +kernel, by decide +kernel⟩
set_option maxHeartbeats 4000000 in
theorem ok_law_spoilt {dV : Value} (F : FunD K "_law_spoilt" "_law_spoilt" s_law_spoilt dV f fd) (B : Bn K mg c_EmptyHeap c_Net c_NoNet c_NoPlan c_StoveError c_TooFew c_TooMany f_Net_init)  : FnOk P w K mg base CX0 1 f fd ["_law_runs", "_law_times", "_law_tasks", "_law_kind", "_law_x"] spSpoiltP := by
  have sc := sc_law_spoilt
  refine F.ok sc (fun vs H Q E h => ?_) (fun cdv A outer s H vs Q E hr h => ?_)
  · obtain ⟨lr, lm, lt, kd, x, R, M, T, rfl, _⟩ := h
    rfl
  obtain ⟨lr, lm, lt, kd, x, R, M, T, rfl, ⟨bs, er, rR⟩, em, ⟨as, el, rT⟩, pok, r24, m8, k0, k6, x0, q⟩ := h
  refine ⟨_, (pss_cons (ps_set (i := 5) sc.nd rfl (Or.inl rfl) (pe_op op_modN (pe_op op_fdivB (pv 4) pe_int) (pe_op op_add (pe_callB call_len_seq rfl B.b_len boot_len (pa_cons (pv 0) pa_nil)) pe_int))) (pss_cons (ps_set (i := 6) sc.nd rfl (Or.inl rfl) (pe_op op_modN (pe_op op_fdivB (pv 4) pe_int) (pe_op op_add (pe_callB call_len_seq rfl B.b_len boot_len (pa_cons (pv 1) pa_nil)) pe_int))) (pss_cons (ps_if (pt_cmpR op_eq (pv 3) pe_int (nomark _)) (pss_one (ps_ret (pe_tup (pa_cons (pe_op op_cat (pe_op op_cat (pe_slice sl_list (pv 0) po_none (po_some (pv 5))) (pe_lst (pa_cons (pe_tup (pa_cons (pv 4) (pa_cons (pe_op op_add (pv 4) pe_int) (pa_cons pe_int pa_nil)))) pa_nil))) (pe_slice sl_list (pv 0) (po_some (pv 5)) po_none)) (pa_cons (pv 1) pa_nil))))) pss_nil) (pss_cons (ps_if (pt_cmpR op_eq (pv 3) pe_int (nomark _)) (pss_one (ps_ret (pe_tup (pa_cons (pe_op op_cat (pe_slice sl_list (pv 0) po_none (po_some (pv 5))) (pe_slice sl_list (pv 0) (po_some (pe_op op_add (pv 5) pe_int)) po_none)) (pa_cons (pv 1) pa_nil))))) pss_nil) (pss_cons (ps_if (pt_cmpR op_eq (pv 3) pe_int (nomark _)) (pss_one (ps_ret (pe_tup (pa_cons (pv 0) (pa_cons (pe_op op_cat (pe_op op_cat (pe_slice sl_list (pv 1) po_none (po_some (pv 6))) (pe_lst (pa_cons (pv 4) pa_nil))) (pe_slice sl_list (pv 1) (po_some (pv 6)) po_none)) pa_nil))))) pss_nil) (pss_cons (ps_if (pt_cmpR op_eq (pv 3) pe_int (nomark _)) (pss_one (ps_ret (pe_tup (pa_cons (pv 0) (pa_cons (pe_op op_cat (pe_slice sl_list (pv 1) po_none (po_some (pv 6))) (pe_slice sl_list (pv 1) (po_some (pe_op op_add (pv 6) pe_int)) po_none)) pa_nil))))) pss_nil) (pss_cons (ps_if (pt_cmpR op_eq (pv 5) (pe_callB call_len_seq rfl B.b_len boot_len (pa_cons (pv 0) pa_nil)) (nomark _)) (pss_one (ps_ret (pe_tup (pa_cons (pv 0) (pa_cons (pv 1) pa_nil))))) pss_nil) (pss_cons (ps_asg (pe_ix ix_list (pv 0) (pv 5) (fun _ _ => rfl)) (pg_tup rfl (pgs_cons (pg_name (i := 7) sc.nd rfl (Or.inl rfl)) (pgs_cons (pg_name (i := 8) sc.nd rfl (Or.inl rfl)) (pgs_cons (pg_name (i := 9) sc.nd rfl (Or.inl rfl)) pgs_nil))))) (pss_cons (ps_set (i := 10) sc.nd rfl (Or.inl rfl) (pe_op op_modN (pe_op op_fdivB (pv 4) pe_int) pe_int)) (pss_cons (ps_set (i := 9) sc.nd rfl (Or.inl rfl) (pe_ix ix_list (pe_lst (pa_cons (pe_op op_sub (pe_un un_neg pe_int) (pv 10)) (pa_cons (pe_op op_add (pe_callB call_len_seq rfl B.b_len boot_len (pa_cons (pe_ix ix_list (pv 2) (pv 5) (fun _ _ => rfl)) pa_nil)) (pv 10)) pa_nil))) (pe_op op_sub (pv 3) pe_int) (fun _ _ => rfl))) (pss_one (ps_ret (pe_tup (pa_cons (pe_op op_cat (pe_op op_cat (pe_slice sl_list (pv 0) po_none (po_some (pv 5))) (pe_lst (pa_cons (pe_tup (pa_cons (pv 7) (pa_cons (pv 8) (pa_cons (pv 9) pa_nil)))) pa_nil))) (pe_slice sl_list (pv 0) (po_some (pe_op op_add (pv 5) pe_int)) po_none)) (pa_cons (pv 1) pa_nil))))))))))))))), ?_⟩
  have sl : sizeLine = 16777216 := sizeLine_eq
  have lr' : (bs.map V.ref).length = R.length := by rw [List.length_map, rR.1, List.length_map]
  have lb : bs.length = R.length := by rw [rR.1, List.length_map]
  have lm' : (M.map V.int).length = M.length := List.length_map _
  have t1 := fm (a := x.fdiv 4) (n := ((bs.map V.ref).length : Int) + 1) (by omega)
  have t2 := fm (a := x.fdiv 4) (n := ((M.map V.int).length : Int) + 1) (by omega)
  obtain ⟨n, hn⟩ : ∃ n : Nat, (x.fdiv 4).fmod (((bs.map V.ref).length : Int) + 1) = (n : Int) := ⟨_, (Int.toNat_of_nonneg t1.1).symm⟩
  obtain ⟨o, ho⟩ : ∃ o : Nat, (x.fdiv 4).fmod (((M.map V.int).length : Int) + 1) = (o : Int) := ⟨_, (Int.toNat_of_nonneg t2.1).symm⟩
  have nR : n ≤ R.length := by omega
  have oM : o ≤ M.length := by omega
  try dsimp only [gName, tNext]
  refine cut (fun σ H' => H = H' ∧ σ = [some (.ref lr), some (.ref lm), some (.ref lt), some (.int kd), some (.int x), some (.int (n : Int)), none, none, none, none, none]) (fun N hN => ?_) ?_
  · exact ⟨_, rfl, _, _, rfl, rfl, ⟨by decide, PyProof.noPylong_small (by decide)⟩, _, rfl, lr, _, rfl, .inl (SqL.of er), _, _, rfl, rfl, _, _, rfl, rfl, (by omega), hN _ _ ⟨rfl, by rw [← hn]; rfl⟩⟩
  rintro σ H1 ⟨rfl, rfl⟩
  refine cut (fun σ H' => H = H' ∧ σ = [some (.ref lr), some (.ref lm), some (.ref lt), some (.int kd), some (.int x), some (.int (n : Int)), some (.int (o : Int)), none, none, none, none]) (fun N hN => ?_) ?_
  · exact ⟨_, rfl, _, _, rfl, rfl, ⟨by decide, PyProof.noPylong_small (by decide)⟩, _, rfl, lm, _, rfl, .inl (SqL.of em), _, _, rfl, rfl, _, _, rfl, rfl, (by omega), hN _ _ ⟨rfl, by rw [← ho]; rfl⟩⟩
  rintro σ H1 ⟨rfl, rfl⟩
  have cT : cutV (bs.map V.ref) none (some (n : Int)) = (bs.take n).map V.ref := by rw [cut_take (by omega), List.map_take]
  have cD : cutV (bs.map V.ref) (some (n : Int)) none = (bs.drop n).map V.ref := by rw [cut_dropB, List.map_drop]
  have cE : cutV (bs.map V.ref) (some ((n : Int) + 1)) none = (bs.drop (n + 1)).map V.ref := by rw [show (n : Int) + 1 = ((n + 1 : Nat) : Int) by omega, cut_dropB, List.map_drop]
  have dT' : cutV (M.map V.int) none (some (o : Int)) = (M.take o).map V.int := by rw [cut_take (by omega), List.map_take]
  have dD : cutV (M.map V.int) (some (o : Int)) none = (M.drop o).map V.int := by rw [cut_dropB, List.map_drop]
  have dE : cutV (M.map V.int) (some ((o : Int) + 1)) none = (M.drop (o + 1)).map V.int := by rw [show (o : Int) + 1 = ((o + 1 : Nat) : Int) by omega, cut_dropB, List.map_drop]
  have pl := pok.len
  have b24 : bs.length ≤ 24 := by omega
  refine seqN fun Nc0 hNc0 => ?_
  refine ⟨_, rfl, rfl, _, rfl, d2 (fun c => ?_) (fun c0 => hNc0 _ _ ?_)⟩
  · refine ⟨_, rfl, _, rfl, _, rfl, lr, _, rfl, SqL.of er, fun p1 n1 => ?_⟩
    rw [cT]
    have g1 := same_new n1 (.lst ((bs.take n).map V.ref))
    refine ⟨_, rfl, _, rfl, _, _, rfl, rfl, (by show 3 ≤ sizeLine; decide), fun t1 nt => ⟨(by show 1 ≤ sizeLine; decide), fun p2 n2 => ?_⟩⟩
    have g2 := same_new nt (.tup [.int x, .int (x + 1), .int 0])
    have g3 := same_new n2 (.lst [.ref t1])
    have et1 : upd (upd (upd H p1 (.lst ((bs.take n).map V.ref))) t1 (.tup [.int x, .int (x + 1), .int 0])) p2 (.lst [.ref t1]) t1 = some (.tup [.int x, .int (x + 1), .int 0]) := g3 _ _ upd_same
    refine ⟨p1, p2, _, _, rfl, rfl, g3 _ _ (g2 _ _ upd_same), upd_same, (catB 24 1 (takeB b24) (Nat.le_refl 1) (by decide)), fun p3 n3 => ?_⟩
    have g4 := same_new n3 (.lst ((bs.take n).map V.ref ++ [.ref t1]))
    have G4 := ((g1.trans g2).trans g3).trans g4
    refine ⟨_, rfl, _, rfl, _, rfl, lr, _, rfl, SqL.of (G4 _ _ er), fun p4 n4 => ?_⟩
    rw [cD]
    have g5 := same_new n4 (.lst ((bs.drop n).map V.ref))
    refine ⟨p3, p4, _, _, rfl, rfl, g5 _ _ upd_same, upd_same, (catB (24 + 1) 24 (appB (takeB b24) (Nat.le_refl 1)) (dropB b24) (by decide)), fun p5 n5 => ?_⟩
    have g6 := same_new n5 (.lst ((bs.take n).map V.ref ++ [.ref t1] ++ (bs.drop n).map V.ref))
    refine ⟨_, rfl, (by show 2 ≤ sizeLine; decide), fun tp np => ?_⟩
    have g7 := same_new np (.tup [.ref p5, .ref lm])
    have G := ((G4.trans g5).trans g6).trans g7
    refine q tp (R.take n ++ [(x, x + 1, 0)] ++ R.drop n) M _ G ⟨p5, lm, upd_same, ⟨bs.take n ++ [t1] ++ bs.drop n, ?_, TR.put (TR.same rR G) (g7 _ _ (g6 _ _ (g5 _ _ (g4 _ _ et1)))) n n⟩, G _ _ em⟩ (put_le nR r24) (Nat.le_succ_of_le m8) (.inr (not_len (put_ne nR pl)))
    rw [g7 _ _ upd_same, List.map_append, List.map_append]
    rfl
  refine seqN fun Nc1 hNc1 => ?_
  refine ⟨_, rfl, rfl, _, rfl, d2 (fun c => ?_) (fun c1 => hNc1 _ _ ?_)⟩
  · refine ⟨_, rfl, _, rfl, _, rfl, lr, _, rfl, SqL.of er, fun p1 n1 => ?_⟩
    rw [cT]
    have g1 := same_new n1 (.lst ((bs.take n).map V.ref))
    refine ⟨_, rfl, _, rfl, _, _, rfl, rfl, _, rfl, lr, _, rfl, SqL.of (g1 _ _ er), fun p2 n2 => ?_⟩
    rw [cE]
    have g2 := same_new n2 (.lst ((bs.drop (n + 1)).map V.ref))
    refine ⟨p1, p2, _, _, rfl, rfl, g2 _ _ upd_same, upd_same, (catB 24 24 (takeB b24) (dropB b24) (by decide)), fun p3 n3 => ?_⟩
    have g3 := same_new n3 (.lst ((bs.take n).map V.ref ++ (bs.drop (n + 1)).map V.ref))
    refine ⟨_, rfl, (by show 2 ≤ sizeLine; decide), fun tp np => ?_⟩
    have g4 := same_new np (.tup [.ref p3, .ref lm])
    have G := ((g1.trans g2).trans g3).trans g4
    have ol := out_len nR
    have ol2 : (R.take n ++ R.drop (n + 1)).length ≤ R.length := by rw [List.length_append, List.length_take, List.length_drop]; omega
    refine q tp (R.take n ++ R.drop (n + 1)) M _ G ⟨p3, lm, upd_same, ⟨bs.take n ++ bs.drop (n + 1), ?_, TR.out (TR.same rR G) n (n + 1)⟩, G _ _ em⟩ (by omega) (by omega) ?_
    · rw [g4 _ _ upd_same, List.map_append]
    · rcases ol with ol | ol
      · exact .inl ⟨ol, rfl⟩
      · exact .inr (not_len (by omega))
  refine seqN fun Nc2 hNc2 => ?_
  refine ⟨_, rfl, rfl, _, rfl, d2 (fun c => ?_) (fun c2 => hNc2 _ _ ?_)⟩
  · refine ⟨_, rfl, _, rfl, _, rfl, _, rfl, lm, _, rfl, SqL.of em, fun p1 n1 => ?_⟩
    rw [dT']
    have g1 := same_new n1 (.lst ((M.take o).map V.int))
    refine ⟨_, rfl, (by show 1 ≤ sizeLine; decide), fun p2 n2 => ?_⟩
    have g2 := same_new n2 (.lst [.int x])
    refine ⟨p1, p2, _, _, rfl, rfl, g2 _ _ upd_same, upd_same, (catB 8 1 (takeB m8) (Nat.le_refl 1) (by decide)), fun p3 n3 => ?_⟩
    have g3 := same_new n3 (.lst ((M.take o).map V.int ++ [.int x]))
    have G3 := (g1.trans g2).trans g3
    refine ⟨_, rfl, _, rfl, _, rfl, lm, _, rfl, SqL.of (G3 _ _ em), fun p4 n4 => ?_⟩
    rw [dD]
    have g4 := same_new n4 (.lst ((M.drop o).map V.int))
    refine ⟨p3, p4, _, _, rfl, rfl, g4 _ _ upd_same, upd_same, (catB (8 + 1) 8 (appB (takeB m8) (Nat.le_refl 1)) (dropB m8) (by decide)), fun p5 n5 => ?_⟩
    have g5 := same_new n5 (.lst ((M.take o).map V.int ++ [.int x] ++ (M.drop o).map V.int))
    refine ⟨(by show 2 ≤ sizeLine; decide), fun tp np => ?_⟩
    have g6 := same_new np (.tup [.ref lr, .ref p5])
    have G := ((G3.trans g4).trans g5).trans g6
    refine q tp R (M.take o ++ [x] ++ M.drop o) _ G ⟨lr, p5, upd_same, ⟨bs, G _ _ er, TR.same rR G⟩, ?_⟩ (Nat.le_succ_of_le r24) (put_le oM m8) (.inr (not_mom (put_neI oM)))
    rw [g6 _ _ upd_same, List.map_append, List.map_append]
    rfl
  refine seqN fun Nc3 hNc3 => ?_
  refine ⟨_, rfl, rfl, _, rfl, d2 (fun c => ?_) (fun c3 => hNc3 _ _ ?_)⟩
  · refine ⟨_, rfl, _, rfl, _, rfl, _, rfl, lm, _, rfl, SqL.of em, fun p1 n1 => ?_⟩
    rw [dT']
    have g1 := same_new n1 (.lst ((M.take o).map V.int))
    refine ⟨_, rfl, _, rfl, _, _, rfl, rfl, _, rfl, lm, _, rfl, SqL.of (g1 _ _ em), fun p2 n2 => ?_⟩
    rw [dE]
    have g2 := same_new n2 (.lst ((M.drop (o + 1)).map V.int))
    refine ⟨p1, p2, _, _, rfl, rfl, g2 _ _ upd_same, upd_same, (catB 8 8 (takeB m8) (dropB m8) (by decide)), fun p3 n3 => ?_⟩
    have g3 := same_new n3 (.lst ((M.take o).map V.int ++ (M.drop (o + 1)).map V.int))
    refine ⟨(by show 2 ≤ sizeLine; decide), fun tp np => ?_⟩
    have g4 := same_new np (.tup [.ref lr, .ref p3])
    have G := ((g1.trans g2).trans g3).trans g4
    have ol := out_len oM
    have ol2 : (M.take o ++ M.drop (o + 1)).length ≤ M.length := by rw [List.length_append, List.length_take, List.length_drop]; omega
    refine q tp R (M.take o ++ M.drop (o + 1)) _ G ⟨lr, p3, upd_same, ⟨bs, G _ _ er, TR.same rR G⟩, ?_⟩ (by omega) (by omega) ?_
    · rw [g4 _ _ upd_same, List.map_append]
    · rcases ol with ol | ol
      · exact .inl ⟨rfl, ol⟩
      · exact .inr (not_mom (by omega))
  refine seqN fun N4 hN4 => ?_
  refine ⟨_, rfl, _, rfl, lr, _, rfl, .inl (SqL.of er), rfl, _, rfl, d2 (fun c => ?_) (fun c4 => hN4 _ _ ?_)⟩
  · refine ⟨_, rfl, _, rfl, (by show 2 ≤ sizeLine; decide), fun tp np => ?_⟩
    have G := same_new np (.tup [.ref lr, .ref lm])
    exact q tp R M _ G ⟨lr, lm, upd_same, ⟨bs, G _ _ er, TR.same rR G⟩, G _ _ em⟩ (by omega) (by omega) (.inl ⟨rfl, rfl⟩)
  have nlt : n < R.length := by
    refine Nat.lt_of_le_of_ne nR fun z => c4 ?_
    rw [z, lr']
  have hR := List.getElem?_eq_getElem nlt
  obtain ⟨b, hb, eb⟩ := run_get rR hR
  generalize R[n] = r at hR eb
  have hT := List.getElem?_eq_getElem (show n < T.length by omega)
  obtain ⟨wl, hw, ts, ew, rw'⟩ := rT.get hT
  generalize T[n] = ws at hT rw'
  have lw : (ts.map V.ref).length = ws.length := by rw [List.length_map, rw'.1]
  refine seqN fun N5 hN5 => ?_
  refine ⟨_, rfl, _, rfl, lr, _, _, _, rfl, rfl, SqL.of er, atI_nat (map_at hb), b, _, rfl, SqT.of eb, rfl, _, _, rfl, _, _, rfl, _, _, rfl, rfl, hN5 _ _ ?_⟩
  have t3 := fm (a := x.fdiv 128) (n := 3) (by decide)
  refine seqN fun N6 hN6 => ?_
  refine ⟨_, rfl, _, _, rfl, rfl, ⟨by decide, PyProof.noPylong_small (by decide)⟩, _, _, rfl, rfl, (by show (3 : Int) ≠ 0; decide), hN6 _ _ ?_⟩
  refine seqN fun N7 hN7 => ?_
  refine ⟨_, rfl, _, rfl, _, _, rfl, rfl, _, rfl, _, rfl, lt, _, _, _, rfl, rfl, SqL.of el, atI_nat (map_at hw), wl, _, rfl, .inl (SqL.of ew), _, rfl, _, _, rfl, rfl, (by show 2 ≤ sizeLine; decide), fun p0 np0 => ?_⟩
  have kk : kd = 4 ∨ kd = 5 := by
    have h0 : kd ≠ 0 := fun z => c0 (by rw [z])
    have h1 : kd ≠ 1 := fun z => c1 (by rw [z])
    have h2 : kd ≠ 2 := fun z => c2 (by rw [z])
    have h3 : kd ≠ 3 := fun z => c3 (by rw [z])
    omega
  obtain ⟨w', hat, hw'⟩ : ∃ w' : Int, atI [V.int (-1 - (x.fdiv 128).fmod 3), .int (((ts.map V.ref).length : Int) + (x.fdiv 128).fmod 3)] (kd - 4) = some (.int w') ∧ ¬ (0 ≤ w' ∧ w' < (ws.length : Int)) := by
    rcases kk with hk | hk
    · subst hk
      exact ⟨_, rfl, by omega⟩
    · subst hk
      exact ⟨_, rfl, by omega⟩
  refine ⟨_, rfl, _, _, rfl, rfl, p0, _, _, _, rfl, rfl, SqL.of upd_same, hat, hN7 _ _ ?_⟩
  have gA := same_new np0 (.lst [.int (-1 - (x.fdiv 128).fmod 3), .int (((ts.map V.ref).length : Int) + (x.fdiv 128).fmod 3)])
  generalize upd H p0 (.lst [.int (-1 - (x.fdiv 128).fmod 3), .int (((ts.map V.ref).length : Int) + (x.fdiv 128).fmod 3)]) = H0 at gA ⊢
  refine ⟨_, rfl, _, rfl, _, rfl, lr, _, rfl, SqL.of (gA _ _ er), fun p1 n1 => ?_⟩
  rw [cT]
  have g1 := same_new n1 (.lst ((bs.take n).map V.ref))
  refine ⟨_, rfl, _, rfl, _, rfl, (by show 3 ≤ sizeLine; decide), fun t1 nt => ⟨(by show 1 ≤ sizeLine; decide), fun p2 n2 => ?_⟩⟩
  have g2 := same_new nt (.tup [.int r.1, .int r.2.1, .int w'])
  have g3 := same_new n2 (.lst [.ref t1])
  have et1 : upd (upd (upd H0 p1 (.lst ((bs.take n).map V.ref))) t1 (.tup [.int r.1, .int r.2.1, .int w'])) p2 (.lst [.ref t1]) t1 = some (.tup [.int r.1, .int r.2.1, .int w']) := g3 _ _ upd_same
  refine ⟨p1, p2, _, _, rfl, rfl, g3 _ _ (g2 _ _ upd_same), upd_same, (catB 24 1 (takeB b24) (Nat.le_refl 1) (by decide)), fun p3 n3 => ?_⟩
  have g4 := same_new n3 (.lst ((bs.take n).map V.ref ++ [.ref t1]))
  have G4 := (((gA.trans g1).trans g2).trans g3).trans g4
  refine ⟨_, rfl, _, rfl, _, _, rfl, rfl, _, rfl, lr, _, rfl, SqL.of (G4 _ _ er), fun p4 n4 => ?_⟩
  rw [cE]
  have g5 := same_new n4 (.lst ((bs.drop (n + 1)).map V.ref))
  refine ⟨p3, p4, _, _, rfl, rfl, g5 _ _ upd_same, upd_same, (catB (24 + 1) 24 (appB (takeB b24) (Nat.le_refl 1)) (dropB b24) (by decide)), fun p5 n5 => ?_⟩
  have g6 := same_new n5 (.lst ((bs.take n).map V.ref ++ [.ref t1] ++ (bs.drop (n + 1)).map V.ref))
  refine ⟨_, rfl, (by show 2 ≤ sizeLine; decide), fun tp np => ?_⟩
  have g7 := same_new np (.tup [.ref p5, .ref lm])
  have G := ((G4.trans g5).trans g6).trans g7
  refine q tp (R.take n ++ [(r.1, r.2.1, w')] ++ R.drop (n + 1)) M _ G ⟨p5, lm, upd_same, ⟨bs.take n ++ [t1] ++ bs.drop (n + 1), ?_, TR.put (TR.same rR G) (g7 _ _ (g6 _ _ (g5 _ _ (g4 _ _ et1)))) n (n + 1)⟩, G _ _ em⟩ (by rw [swap_len nlt]; omega) (by omega) (.inr (not_way (swap_at nlt) hT hw'))
  rw [g7 _ _ upd_same, List.map_append, List.map_append]
  rfl

theorem sc_law_refused : FnScope ["_law_net", "_law_plan", "_law_which", "e"] ["_law_net", "_law_plan", "_law_which"] (defScope s_law_refused) := ⟨rfl, rfl, rfl, by decide +kernel, rfl, by decide +kernel, by decide +kernel⟩
set_option maxHeartbeats 4000000 in
theorem ok_law_refused {dV : Value} (F : FunD K "_law_refused" "_law_refused" s_law_refused dV f fd) (B : Bn K mg c_EmptyHeap c_Net c_NoNet c_NoPlan c_StoveError c_TooFew c_TooMany f_Net_init) (Xbreaches : Dx P w K mg base (CX1 P w) 2 "breaches" ["net", "plan"] [] (spBad c_Net c_NoPlan)) (Xplan_fits : Dx P w K mg base (CX1 P w) 3 "plan_fits" ["net", "plan"] [] (spBad c_Net c_NoPlan)) (Xroster : Dx P w K mg base (CX1 P w) 4 "roster" ["net", "plan"] [] (spBad c_Net c_NoPlan)) : FnOk P w K mg base CX0 5 f fd ["_law_net", "_law_plan", "_law_which"] (spRefusedP c_Net) := by
  have sc := sc_law_refused
  refine F.ok sc (fun vs H Q E h => ?_) (fun cdv A outer s H vs Q E hr h => ?_)
  · obtain ⟨x, t, w, T, A, n, R, M, rfl, _⟩ := h
    rfl
  obtain ⟨x, t, w, T, A, n, R, M, rfl, N, P, nb, k⟩ := h
  refine ⟨_, (pss_cons (ps_try rfl rfl (fun pins E => (pss_one (ps_if (pt_cmpR op_eq (pv 2) pe_int (nomark _)) (pss_one (ps_expr (pcall1 Xbreaches hr (by decide) rfl passX (pa_cons (pv 0) (pa_cons (pv 1) pa_nil))))) (pss_one (ps_if (pt_cmpR op_eq (pv 2) pe_int (nomark _)) (pss_one (ps_expr (pcall1 Xplan_fits hr (by decide) rfl passX (pa_cons (pv 0) (pa_cons (pv 1) pa_nil))))) (pss_one (ps_expr (pcall1 Xroster hr (by decide) rfl passX (pa_cons (pv 0) (pa_cons (pv 1) pa_nil)))))))))) (ph_asA B.t_StoveError rfl B.m_StoveError sc.nd (i := 3) rfl rfl (fun pins a => (pss_cons (ps_if (PW.pt (pw_or (pt_val (pe_callB (call_isiX (K := K) rfl) rfl B.b_isinstance boot_isinstance (pa_cons (pv 3) (pa_cons (pe_glob (v := V.ref c_NoNet) rfl B.m_NoNet rfl) pa_nil)))) (pw_or (pt_val (pe_callB (call_isiX (K := K) rfl) rfl B.b_isinstance boot_isinstance (pa_cons (pv 3) (pa_cons (pe_glob (v := V.ref c_EmptyHeap) rfl B.m_EmptyHeap rfl) pa_nil)))) (pw_or (pt_val (pe_callB (call_isiX (K := K) rfl) rfl B.b_isinstance boot_isinstance (pa_cons (pv 3) (pa_cons (pe_glob (v := V.ref c_TooFew) rfl B.m_TooFew rfl) pa_nil)))) (pw_or1 (pt_val (pe_callB (call_isiX (K := K) rfl) rfl B.b_isinstance boot_isinstance (pa_cons (pv 3) (pa_cons (pe_glob (v := V.ref c_TooMany) rfl B.m_TooMany rfl) pa_nil))))))))) (pss_one (ps_ret pe_bl)) pss_nil) (pss_one (ps_ret (pe_and (pe_callB (call_isiX (K := K) rfl) rfl B.b_isinstance boot_isinstance (pa_cons (pv 3) (pa_cons (pe_glob (v := V.ref c_NoPlan) rfl B.m_NoPlan rfl) pa_nil))) (pe_one (pe_callB (call_isiX (K := K) rfl) rfl B.b_isinstance boot_isinstance (pa_cons (pv 3) (pa_cons (pe_bltn (v := .ty "ValueError") rfl B.b_ValueError PyProof.Rows.Boot.«ValueError» rfl) pa_nil))))))))) ph_nil)) (pss_one (ps_ret pe_bl))), ?_⟩
  refine ⟨_, rfl, rfl, _, rfl, d2 (fun _ => ⟨_, rfl, _, rfl, x, t, T, A, n, R, M, rfl, N, P, nb, fun H1 g1 a ha => ⟨c_NoPlan, true, rfl, B.s_NoPlan_StoveError, iteT ?_⟩⟩) (fun _ => ⟨_, rfl, rfl, _, rfl, d2 (fun _ => ⟨_, rfl, _, rfl, x, t, T, A, n, R, M, rfl, N, P, nb, fun H1 g1 a ha => ⟨c_NoPlan, true, rfl, B.s_NoPlan_StoveError, iteT ?_⟩⟩) (fun _ => ⟨_, rfl, _, rfl, x, t, T, A, n, R, M, rfl, N, P, nb, fun H1 g1 a ha => ⟨c_NoPlan, true, rfl, B.s_NoPlan_StoveError, iteT ?_⟩⟩)⟩)⟩
  · refine ⟨_, rfl, a, c_NoPlan, none, _, false, rfl, ⟨_, upd_same⟩, True.intro, B.i_NoPlan, .own B.k_NoPlan_NoNet, false, rfl, iteF ⟨_, rfl, a, c_NoPlan, none, _, false, rfl, ⟨_, upd_same⟩, True.intro, B.i_NoPlan, .own B.k_NoPlan_EmptyHeap, false, rfl, iteF ⟨_, rfl, a, c_NoPlan, none, _, false, rfl, ⟨_, upd_same⟩, True.intro, B.i_NoPlan, .own B.k_NoPlan_TooFew, false, rfl, iteF ⟨_, rfl, a, c_NoPlan, none, _, false, rfl, ⟨_, upd_same⟩, True.intro, B.i_NoPlan, .own B.k_NoPlan_TooMany, false, rfl, iteF ?_⟩⟩⟩⟩
    refine ⟨_, rfl, a, c_NoPlan, none, _, true, rfl, ⟨_, upd_same⟩, True.intro, B.i_NoPlan, .own B.k_NoPlan_NoPlan, true, rfl, iteT ⟨_, rfl, a, c_NoPlan, none, _, true, rfl, ⟨_, upd_same⟩, True.intro, B.i_NoPlan, .ty B.k_NoPlan_ValueError, ?_⟩⟩
    exact k _ (g1.trans (same_new ha _))
  · refine ⟨_, rfl, a, c_NoPlan, none, _, false, rfl, ⟨_, upd_same⟩, True.intro, B.i_NoPlan, .own B.k_NoPlan_NoNet, false, rfl, iteF ⟨_, rfl, a, c_NoPlan, none, _, false, rfl, ⟨_, upd_same⟩, True.intro, B.i_NoPlan, .own B.k_NoPlan_EmptyHeap, false, rfl, iteF ⟨_, rfl, a, c_NoPlan, none, _, false, rfl, ⟨_, upd_same⟩, True.intro, B.i_NoPlan, .own B.k_NoPlan_TooFew, false, rfl, iteF ⟨_, rfl, a, c_NoPlan, none, _, false, rfl, ⟨_, upd_same⟩, True.intro, B.i_NoPlan, .own B.k_NoPlan_TooMany, false, rfl, iteF ?_⟩⟩⟩⟩
    refine ⟨_, rfl, a, c_NoPlan, none, _, true, rfl, ⟨_, upd_same⟩, True.intro, B.i_NoPlan, .own B.k_NoPlan_NoPlan, true, rfl, iteT ⟨_, rfl, a, c_NoPlan, none, _, true, rfl, ⟨_, upd_same⟩, True.intro, B.i_NoPlan, .ty B.k_NoPlan_ValueError, ?_⟩⟩
    exact k _ (g1.trans (same_new ha _))
  · refine ⟨_, rfl, a, c_NoPlan, none, _, false, rfl, ⟨_, upd_same⟩, True.intro, B.i_NoPlan, .own B.k_NoPlan_NoNet, false, rfl, iteF ⟨_, rfl, a, c_NoPlan, none, _, false, rfl, ⟨_, upd_same⟩, True.intro, B.i_NoPlan, .own B.k_NoPlan_EmptyHeap, false, rfl, iteF ⟨_, rfl, a, c_NoPlan, none, _, false, rfl, ⟨_, upd_same⟩, True.intro, B.i_NoPlan, .own B.k_NoPlan_TooFew, false, rfl, iteF ⟨_, rfl, a, c_NoPlan, none, _, false, rfl, ⟨_, upd_same⟩, True.intro, B.i_NoPlan, .own B.k_NoPlan_TooMany, false, rfl, iteF ?_⟩⟩⟩⟩
    refine ⟨_, rfl, a, c_NoPlan, none, _, true, rfl, ⟨_, upd_same⟩, True.intro, B.i_NoPlan, .own B.k_NoPlan_NoPlan, true, rfl, iteT ⟨_, rfl, a, c_NoPlan, none, _, true, rfl, ⟨_, upd_same⟩, True.intro, B.i_NoPlan, .ty B.k_NoPlan_ValueError, ?_⟩⟩
    exact k _ (g1.trans (same_new ha _))

theorem sc_law_times_told : FnScope ["_law_plan", "_law_due", "_law_run", "_law_k", "_law_found"] ["_law_plan"] (defScope s_law_times_told) := ⟨rfl, rfl, rfl, by decide +kernel, rfl, by decide +kernel, by decide +kernel⟩
set_option maxHeartbeats 4000000 in
theorem ok_law_times_told {dV : Value} (F : FunD K "_law_times_told" "_law_times_told" s_law_times_told dV f fd) (B : Bn K mg c_EmptyHeap c_Net c_NoNet c_NoPlan c_StoveError c_TooFew c_TooMany f_Net_init) (Dtime_of : Dx P w K mg base CX0 1 "time_of" ["plan", "point"] [] spTimeOf) (Dlength_of : Dx P w K mg base CX0 2 "length_of" ["plan"] [] spLenP) (D_law_whole : Dx P w K mg base CX0 1 "_law_whole" ["_law_found"] [] spWhole) : FnOk P w K mg base CX0 3 f fd ["_law_plan"] spTimesTold := by
  have sc := sc_law_times_told
  refine F.ok sc (fun vs H Q E h => ?_) (fun cdv A outer s H vs Q E hr h => ?_)
  · obtain ⟨t, R, M, rfl, _⟩ := h
    rfl
  obtain ⟨t, R, M, rfl, P, r24, m8, q⟩ := h
  refine ⟨_, (pss_cons (ps_set (i := 1) sc.nd rfl (Or.inl rfl) (pe_lst pa_nil)) (pss_cons (ps_for PassesOwn.never rfl (pi_list (pe_ix ix_tup (pv 0) pe_int (fun _ _ => rfl))) (pg_name (i := 2) sc.nd rfl (Or.inl rfl)) (pss_cons (ps_expr (pe_bm PySem.F.plainAttrs_list PySem.F.slot_list_append PySem.F.type_list_append mt_append (pv 1) (pa_cons (pe_ix ix_tup (pv 2) pe_int (fun _ _ => rfl)) pa_nil))) (pss_one (ps_expr (pe_bm PySem.F.plainAttrs_list PySem.F.slot_list_append PySem.F.type_list_append mt_append (pv 1) (pa_cons (pe_ix ix_tup (pv 2) pe_int (fun _ _ => rfl)) pa_nil)))))) (pss_cons (ps_set (i := 1) sc.nd rfl (Or.inl rfl) (pe_op op_cat (pv 1) (pe_ix ix_tup (pv 0) pe_int (fun _ _ => rfl)))) (pss_cons (ps_for PassesOwn.never rfl (pi_range1 rfl B.b_range (pa_cons (pe_callB call_len_seq rfl B.b_len boot_len (pa_cons (pv 1) pa_nil)) pa_nil)) (pg_name (i := 3) sc.nd rfl (Or.inl rfl)) (pss_cons (ps_set (i := 4) sc.nd rfl (Or.inl rfl) (pcall0 Dtime_of hr (by decide) rfl (pa_cons (pv 0) (pa_cons (pv 3) pa_nil)))) (pss_one (ps_if (PW.pt (pw_or (pt_not (pt_val (pcall0 D_law_whole hr (by decide) rfl (pa_cons (pv 4) pa_nil)))) (pw_or1 (pt_cmpR op_ne (pv 4) (pe_ix ix_list (pv 1) (pv 3) (fun _ _ => rfl)) (nomark _))))) (pss_one (ps_ret pe_bl)) pss_nil)))) (pss_cons (ps_set (i := 4) sc.nd rfl (Or.inl rfl) (pcall0 Dlength_of hr (by decide) rfl (pa_cons (pv 0) pa_nil))) (pss_one (ps_ret (pe_and (pcall0 D_law_whole hr (by decide) rfl (pa_cons (pv 4) pa_nil)) (pe_one (pe_cmpR op_eq (pv 4) (pe_callB (call_maxL rfl) rfl B.b_max boot_max (pa_cons (pe_op op_cat (pe_lst (pa_cons pe_int pa_nil)) (pv 1)) pa_nil)) (nomark _))))))))))), ?_⟩
  have sl : sizeLine = 16777216 := sizeLine_eq
  obtain ⟨rl, ml, et, ⟨bs, er, rR⟩, em⟩ := id P
  have lr : bs.length = R.length := by rw [rR.1, List.length_map]
  refine ⟨(by show 0 ≤ sizeLine; decide), fun l nl => ?_⟩
  have g0 := same_new nl (.lst [])
  refine ⟨_, rfl, t, _, _, _, rfl, rfl, SqT.of (g0 _ _ et), rfl, rl, rfl, ⟨_, SqL.of (g0 _ _ er)⟩, for_list (xs := bs.map V.ref) (fun i σ H' => ∃ o2 : Option V, σ = [some (.ref t), some (.ref l), o2, none, none] ∧ Same H H' ∧ H' l = some (.lst ((spots (R.take i) []).map V.int))) ⟨none, rfl, g0, upd_same⟩ (fun i σ H' _ ⟨_, _, g, _⟩ => SqL.of (g _ _ er)) ?_ ?_⟩
  · rintro i y σ H1 hy ⟨o2, rfl, g1, e1⟩
    obtain ⟨b, hb, rfl⟩ := refs_at hy
    obtain ⟨r, hr', eb⟩ := run_at rR hb
    have ll : ((spots (R.take i) []).map V.int).length ≤ 48 := by rw [List.length_map, spots_len, List.length_take]; simp; omega
    have g2 := sUpd g1 nl (.lst ((spots (R.take i) []).map V.int ++ [.int r.1]))
    refine ⟨_, rfl, .inl ⟨rfl, _, SqL.of e1⟩, _, rfl, b, _, _, _, rfl, rfl, SqT.of (g1 _ _ eb), rfl, l, _, _, rfl, rfl, e1, by omega, ?_⟩
    refine ⟨_, rfl, .inl ⟨rfl, _, SqL.of upd_same⟩, _, rfl, b, _, _, _, rfl, rfl, SqT.of (g2 _ _ eb), rfl, l, _, _, rfl, rfl, upd_same, by rw [List.length_append]; simp at ll ⊢; omega, _, rfl, sUpd g2 nl _, ?_⟩
    rw [upd_same, spots_take hr', List.map_append, List.map_append]
    rfl
  rintro σ H1 ⟨o2, rfl, g1, e1⟩
  have et' : R.take (bs.map V.ref).length = R := by rw [List.length_map, lr]; exact List.take_length
  rw [et'] at e1
  refine ⟨_, rfl, _, rfl, t, _, _, _, rfl, rfl, SqT.of (g1 _ _ et), rfl, l, ml, _, _, rfl, rfl, e1, g1 _ _ em, by rw [List.length_map, List.length_map, spots_len]; simp; omega, fun p np => ?_⟩
  have g2 := g1.trans (same_new np (.lst ((spots R []).map V.int ++ M.map V.int)))
  have e2 : upd H1 p (.lst ((spots R []).map V.int ++ M.map V.int)) p = some (.lst ((spots R M).map V.int)) := by rw [upd_same, ← List.map_append, spots_cat]
  generalize upd H1 p (.lst ((spots R []).map V.int ++ M.map V.int)) = H2 at g2 e2 ⊢
  have lS := spots_len M R
  have lS' : ((spots R M).map V.int).length = (spots R M).length := List.length_map _
  refine ⟨_, rfl, p, _, rfl, .inl (SqL.of e2), _, rfl, by omega, by omega, for_range (fun i σ H' => ∃ o3 o4 : Option V, σ = [some (.ref t), some (.ref p), o2, o3, o4] ∧ H2 = H') ⟨none, none, rfl, rfl⟩ ?_ ?_⟩
  · rintro i σ H3 hi ⟨o3, o4, rfl, rfl⟩
    have hv := List.getElem?_eq_getElem (show i < (spots R M).length by omega)
    refine ⟨_, rfl, _, rfl, t, _, R, M, _, rfl, P.same g2, by omega, (by rw [Int.zero_add, Int.toNat_natCast]; exact hv), ?_⟩
    exact ⟨_, rfl, _, rfl, _, rfl, iteF ⟨_, rfl, _, rfl, _, rfl, p, _, _, _, rfl, rfl, SqL.of e2, (by rw [Int.zero_add]; exact atI_nat (map_at hv)), rfl, _, rfl, nF rfl ⟨_, _, rfl, rfl⟩⟩⟩
  rintro σ H3 ⟨o3, o4, rfl, rfl⟩
  refine ⟨_, rfl, t, R, M, rfl, P.same g2, by omega, by omega, fun mm H4 g4 gr => ?_⟩
  refine ⟨_, rfl, _, rfl, _, rfl, iteT ⟨_, rfl, (by show 1 ≤ sizeLine; decide), fun l0 n0 => ⟨_, rfl, l0, p, _, _, rfl, rfl, upd_same, same_new n0 _ _ _ (g4 _ _ e2), by rw [lS']; simp; omega, fun p2 np2 => ⟨p2, 0 :: spots R M, rfl, SqL.of upd_same, by simp, fun m2 h1 h2 => ⟨rfl, ?_⟩⟩⟩⟩⟩
  have em2 := gr.one ⟨h1, h2⟩
  subst em2
  rw [decide_eq_true rfl]
  exact q _ (((g2.trans g4).trans (same_new n0 _)).trans (same_new np2 _))

theorem sclaw : FnScope ["_law_script", "_law_head", "_law_many", "_law_tasks", "_law_runs", "_law_i", "_law_xs", "_law_times", "_law_k", "_law_net", "_law_kind", "_law_plan", "_law_good", "_law_handed", "_law_found", "_law_which"] ["_law_script"] (defScope slaw) := ⟨rfl, rfl, rfl, by decide +kernel, rfl, by decide +kernel, by decide +kernel⟩
set_option maxHeartbeats 4000000 in
theorem oklaw {dV : Value} (F : FunD K "law" "law" slaw dV f fd) (B : Bn K mg c_EmptyHeap c_Net c_NoNet c_NoPlan c_StoveError c_TooFew c_TooMany f_Net_init) (DNet_init : DxM P w K mg base CX0 3 f_Net_init ["self", "tools", "tasks", "arcs", "apart", "moments"] [.non, .int 0] (spNet c_Net)) (Dis_plan : Dx P w K mg base CX0 1 "is_plan" ["net", "plan"] [] (spIsPlanB c_Net)) (D_law_cell_at : Dx P w K mg base CX0 1 "_law_cell_at" ["_law_script", "_law_k"] [] (spCell K)) (D_law_drawn : Dx P w K mg base CX0 1 "_law_drawn" ["_law_cell", "_law_many"] [] spDrawnB) (D_law_time : Dx P w K mg base CX0 1 "_law_time" ["_law_x", "_law_y"] [] spTimeB) (D_law_spoilt : Dx P w K mg base CX0 1 "_law_spoilt" ["_law_runs", "_law_times", "_law_tasks", "_law_kind", "_law_x"] [] spSpoiltP) (D_law_refused : Dx P w K mg base CX0 5 "_law_refused" ["_law_net", "_law_plan", "_law_which"] [] (spRefusedP c_Net)) (D_law_times_told : Dx P w K mg base CX0 3 "_law_times_told" ["_law_plan"] [] spTimesTold) : FnOk P w K mg base CX0 8 f fd ["_law_script"] (spLaw K) := by
  have sc := sclaw
  refine F.ok sc (fun vs H Q E h => ?_) (fun cdv A outer s H vs Q E hr h => ?_)
  · obtain ⟨a, ns, rfl, _⟩ := h
    rfl
  obtain ⟨a, ns, rfl, hS, h63, q⟩ := h
  refine ⟨_, (pss_cons (ps_set (i := 1) sc.nd rfl (Or.inl rfl) (pcall0 D_law_cell_at hr (by decide) rfl (pa_cons (pv 0) (pa_cons pe_int pa_nil)))) (pss_cons (ps_set (i := 2) sc.nd rfl (Or.inl rfl) (pe_op op_modN (pv 1) pe_int)) (pss_cons (ps_if (pt_cmpR op_eq (pe_op op_modN (pe_op op_fdivB (pv 1) pe_int) pe_int) pe_int (nomark _)) (pss_one (ps_set (i := 2) sc.nd rfl (Or.inl rfl) pe_int)) pss_nil) (pss_cons (ps_set (i := 3) sc.nd rfl (Or.inl rfl) (pe_lst pa_nil)) (pss_cons (ps_set (i := 4) sc.nd rfl (Or.inl rfl) (pe_lst pa_nil)) (pss_cons (ps_for PassesOwn.never rfl (pi_range1 rfl B.b_range (pa_cons (pv 2) pa_nil)) (pg_name (i := 5) sc.nd rfl (Or.inl rfl)) (pss_cons (ps_set (i := 6) sc.nd rfl (Or.inl rfl) (pcall0 D_law_drawn hr (by decide) rfl (pa_cons (pe_op op_add (pe_op op_mulB (pcall0 D_law_cell_at hr (by decide) rfl (pa_cons (pv 0) (pa_cons (pe_op op_add pe_int (pv 5)) pa_nil))) pe_int) (pv 5)) (pa_cons pe_int pa_nil)))) (pss_cons (ps_expr (pe_bm PySem.F.plainAttrs_list PySem.F.slot_list_append PySem.F.type_list_append mt_append (pv 3) (pa_cons (pe_compH (hd := none) (own := "_law_k") (ys := []) (js := []) hr.hd (cok atn .nil (by decide) rfl rfl rfl rfl rfl rfl rfl rfl) (pi_rangeH rfl B.b_range (pa_cons (pe_op op_add pe_int (pe_op op_modN (pe_ix ix_list (pv 6) pe_int (fun _ _ => rfl)) pe_int)) pa_nil)) (fun C fp s H => (pe_tup (pa_cons pe_int (pa_cons pe_int (pa_cons (pe_lst pa_nil) pa_nil)))))) pa_nil))) (pss_one (ps_expr (pe_bm PySem.F.plainAttrs_list PySem.F.slot_list_append PySem.F.type_list_append mt_append (pv 4) (pa_cons (pe_tup (pa_cons (pcall0 D_law_time hr (by decide) rfl (pa_cons (pe_ix ix_list (pv 6) pe_int (fun _ _ => rfl)) (pa_cons (pe_ix ix_list (pv 6) pe_int (fun _ _ => rfl)) pa_nil))) (pa_cons (pcall0 D_law_time hr (by decide) rfl (pa_cons (pe_ix ix_list (pv 6) pe_int (fun _ _ => rfl)) (pa_cons (pe_ix ix_list (pv 6) pe_int (fun _ _ => rfl)) pa_nil))) (pa_cons (pe_op op_modN (pe_op op_fdivB (pe_ix ix_list (pv 6) pe_int (fun _ _ => rfl)) pe_int) (pe_callB call_len_seq rfl B.b_len boot_len (pa_cons (pe_ix ix_list (pv 3) (pv 5) (fun _ _ => rfl)) pa_nil))) pa_nil)))) pa_nil))))))) (pss_cons (ps_set (i := 7) sc.nd rfl (Or.inl rfl) (pe_lst pa_nil)) (pss_cons (ps_for PassesOwn.never rfl (pi_range1 rfl B.b_range (pa_cons (pe_op op_modN (pe_op op_fdivB (pv 1) pe_int) pe_int) pa_nil)) (pg_name (i := 8) sc.nd rfl (Or.inl rfl)) (pss_cons (ps_set (i := 6) sc.nd rfl (Or.inl rfl) (pcall0 D_law_drawn hr (by decide) rfl (pa_cons (pe_op op_add (pe_op op_add (pe_op op_mulB (pcall0 D_law_cell_at hr (by decide) rfl (pa_cons (pv 0) (pa_cons (pe_op op_add pe_int (pv 8)) pa_nil))) pe_int) (pv 8)) pe_int) (pa_cons pe_int pa_nil)))) (pss_one (ps_expr (pe_bm PySem.F.plainAttrs_list PySem.F.slot_list_append PySem.F.type_list_append mt_append (pv 7) (pa_cons (pcall0 D_law_time hr (by decide) rfl (pa_cons (pe_ix ix_list (pv 6) pe_int (fun _ _ => rfl)) (pa_cons (pe_ix ix_list (pv 6) pe_int (fun _ _ => rfl)) pa_nil))) pa_nil)))))) (pss_cons (ps_set (i := 9) sc.nd rfl (Or.inl rfl) (pmake0 B.mk_Net DNet_init hr (by decide) rfl B.m_Net (pa_cons pe_dnewK (pa_cons (pv 3) (pa_cons (pe_lst pa_nil) (pa_cons (pe_lst pa_nil) (pa_cons (pe_callB call_len_seq rfl B.b_len boot_len (pa_cons (pv 7) pa_nil)) pa_nil))))))) (pss_cons (ps_set (i := 10) sc.nd rfl (Or.inl rfl) (pe_op op_modN (pcall0 D_law_cell_at hr (by decide) rfl (pa_cons (pv 0) (pa_cons pe_int pa_nil))) pe_int)) (pss_cons (ps_set (i := 11) sc.nd rfl (Or.inl rfl) (pe_tup (pa_cons (pv 4) (pa_cons (pv 7) pa_nil)))) (pss_cons (ps_if (pt_cmpR op_lt (pv 10) pe_int (nomark _)) (pss_one (ps_set (i := 11) sc.nd rfl (Or.inl rfl) (pcall0 D_law_spoilt hr (by decide) rfl (pa_cons (pv 4) (pa_cons (pv 7) (pa_cons (pv 3) (pa_cons (pv 10) (pa_cons (pe_op op_modN (pcall0 D_law_cell_at hr (by decide) rfl (pa_cons (pv 0) (pa_cons pe_int pa_nil))) (pe_op op_powB pe_int pe_int)) pa_nil)))))))) pss_nil) (pss_cons (ps_set (i := 12) sc.nd rfl (Or.inl rfl) (pe_cmpR (op_eqPlan (Nat.lt_trans (Nat.add_lt_add_left (by decide : 2 < 64) _) hr.units)) (pv 11) (pe_tup (pa_cons (pv 4) (pa_cons (pv 7) pa_nil))) (nomark _))) (pss_cons (ps_set (i := 13) sc.nd rfl (Or.inl rfl) (pe_tup (pa_cons (pe_callTy call_list_of rfl B.b_list boot_list (pa_cons (pe_ix ix_tup (pv 11) pe_int (fun _ _ => rfl)) pa_nil)) (pa_cons (pe_callTy call_list_of rfl B.b_list boot_list (pa_cons (pe_ix ix_tup (pv 11) pe_int (fun _ _ => rfl)) pa_nil)) pa_nil)))) (pss_cons (ps_set (i := 14) sc.nd rfl (Or.inl rfl) (pcall0 Dis_plan hr (by decide) rfl (pa_cons (pv 9) (pa_cons (pv 13) pa_nil)))) (pss_cons (ps_if (PW.pt (pw_or (pt_not (pt_val (pe_callB (call_isiT (K := K) rfl) rfl B.b_isinstance boot_isinstance (pa_cons (pv 14) (pa_cons (pe_bltn (v := .ty "bool") rfl B.b_bool boot_bool rfl) pa_nil))))) (pw_or (pt_cmpR op_ne (pv 14) (pv 12) (nomark _)) (pw_or1 (pt_cmpR (op_neAT 2 (Nat.lt_trans (Nat.add_lt_add_left (by decide : 2 + 1 < 64) _) hr.units)) (pv 13) (pv 11) (nomark _)))))) (pss_one (ps_ret pe_bl)) pss_nil) (pss_cons (ps_if (pt_val (pv 12)) (pss_one (ps_ret (pe_and (pcall0 D_law_times_told hr (by decide) rfl (pa_cons (pv 13) pa_nil)) (pe_one (pe_cmpR (op_eqAT 2 (Nat.lt_trans (Nat.add_lt_add_left (by decide : 2 + 1 < 64) _) hr.units)) (pv 13) (pv 11) (nomark _)))))) pss_nil) (pss_cons (ps_for PassesOwn.never rfl (pi_range1 rfl B.b_range (pa_cons pe_int pa_nil)) (pg_name (i := 15) sc.nd rfl (Or.inl rfl)) (pss_one (ps_if (pt_not (pt_val (pcall0 D_law_refused hr (by decide) rfl (pa_cons (pv 9) (pa_cons (pv 13) (pa_cons (pe_op op_modN (pe_op op_add (pv 15) (pv 10)) pe_int) pa_nil)))))) (pss_one (ps_ret pe_bl)) pss_nil))) (pss_one (ps_ret (pe_cmpR (op_eqAT 2 (Nat.lt_trans (Nat.add_lt_add_left (by decide : 2 + 1 < 64) _) hr.units)) (pv 13) (pv 11) (nomark _)))))))))))))))))))))), ?_⟩
  have sl : sizeLine = 16777216 := sizeLine_eq
  refine ⟨_, rfl, a, ns, 0, rfl, hS, (by decide), fun c0 => ?_⟩
  refine ⟨_, rfl, _, _, rfl, rfl, (by show (6 : Int) ≠ 0; decide), ?_⟩
  have t6 := fm (a := c0) (n := 6) (by decide)
  try dsimp only [gName, tNext]
  refine cut (fun σ H' => ∃ m : Int, σ = [some (.ref a), some (.int c0), some (.int m), none, none, none, none, none, none, none, none, none, none, none, none, none] ∧ H = H' ∧ 0 ≤ m ∧ m ≤ 24) (fun N hN => ?_) ?_
  · refine ⟨_, rfl, _, _, rfl, rfl, ⟨by decide, PyProof.noPylong_small (by decide)⟩, _, _, rfl, rfl, (by show (8 : Int) ≠ 0; decide), rfl, _, rfl, d2 (fun _ => ?_) (fun _ => ?_)⟩
    · exact hN _ _ ⟨24, rfl, rfl, by decide, by decide⟩
    · exact hN _ _ ⟨_, rfl, rfl, t6.1, by omega⟩
  rintro σ H1 ⟨m, rfl, rfl, m0, m24⟩
  refine ⟨(by show 0 ≤ sizeLine; decide), fun lt nlt => ⟨(by show 0 ≤ sizeLine; decide), fun lr nlr => ?_⟩⟩
  have ltr : lt ≠ lr := fun z => by rw [← z, upd_same] at nlr; cases nlr
  have g0 := same_new nlt (.lst [])
  have g01 := g0.trans (same_new nlr (.lst []))
  have nlr0 := g0.free nlr
  have bt : upd (upd H lt (.lst [])) lr (.lst []) lt = some (.lst []) := same_new nlr _ _ _ upd_same
  have br : upd (upd H lt (.lst [])) lr (.lst []) lr = some (.lst []) := upd_same
  generalize upd (upd H lt (.lst [])) lr (.lst []) = Hb at g01 bt br ⊢
  have bt' : Hb lt ≠ none := by rw [bt]; exact nofun
  have br' : Hb lr ≠ none := by rw [br]; exact nofun
  try dsimp only [gName, tNext]
  refine cut (fun σ H' => ∃ (o5 o6 : Option V) (T : List (List (Int × Int))) (R : List Rn), σ = [some (.ref a), some (.int c0), some (.int m), some (.ref lt), some (.ref lr), o5, o6, none, none, none, none, none, none, none, none, none] ∧ Same H H' ∧ TasksA H' lt T ∧ TupsA H' lr (R.map rk) ∧ T.length ≤ 24 ∧ PlanOk T R ∧ ∀ ws ∈ T, 1 ≤ ws.length ∧ ws.length ≤ 2 ∧ ∀ w ∈ ws, WyOk w) (fun N hN => ?_) ?_
  · refine ⟨_, rfl, m, rfl, by omega, by omega, for_range (fun i σ H' => ∃ o5 o6 : Option V, σ = [some (.ref a), some (.int c0), some (.int m), some (.ref lt), some (.ref lr), o5, o6, none, none, none, none, none, none, none, none, none] ∧ Same H H' ∧ (∀ x, H' x = none → Hb x = none) ∧ ∃ (T : List (List (Int × Int))) (R : List Rn), TasksN Hb H' lt T ∧ TupsA H' lr (R.map rk) ∧ T.length = i ∧ PlanOk T R ∧ ∀ ws ∈ T, 1 ≤ ws.length ∧ ws.length ≤ 2 ∧ ∀ w ∈ ws, WyOk w) ⟨none, none, rfl, g01, fun _ h => h, [], [], ⟨[], bt, Ref2.nil⟩, ⟨[], br, Ref2.nil⟩, rfl, ⟨rfl, fun i r ws e => by simp at e⟩, fun ws h => by simp at h⟩ ?_ ?_⟩
    · rintro i σ H1 hi ⟨o5, o6, rfl, g1, fr, T, R, hT, hR, lT, pok, okT⟩
      refine seqN fun N8 hN8 => ?_
      refine ⟨_, rfl, _, rfl, _, _, rfl, rfl, a, ns, _, rfl, g1.seq hS, by omega, fun cc => ⟨_, _, rfl, rfl, IntMulOk.of_right (by decide), _, rfl, _, _, rfl, rfl, _, 5, rfl, by decide, by decide, fun lx xs H2 nx g2 lnx dn ex => hN8 _ _ ?_⟩⟩
      have l9 : xs.length = 5 := lnx
      obtain ⟨z0, h0, d0⟩ := dn_at dn (i := 0) (by omega)
      obtain ⟨z1, h1, d1⟩ := dn_at dn (i := 1) (by omega)
      obtain ⟨z2, h2, d2'⟩ := dn_at dn (i := 2) (by omega)
      obtain ⟨z3, h3, d3⟩ := dn_at dn (i := 3) (by omega)
      obtain ⟨z4, h4, d4⟩ := dn_at dn (i := 4) (by omega)
      have fr2 : ∀ x, H2 x = none → Hb x = none := fun x h => fr x (g2.free h)
      have t2 := fm (a := z0) (n := 2) (by decide)
      have i24 : i < 24 := by omega
      have xlt : lx ≠ lt := fun z => bt' (z ▸ fr _ nx)
      have xlr : lx ≠ lr := fun z => br' (z ▸ fr _ nx)
      obtain ⟨as2, et2, rT2⟩ := hT.same g2
      have nw2 : (1 + z0.fmod 2).toNat ≤ sizeLine := by omega
      have lz : xs.length = 5 := lnx
      refine seqN fun N9 hN9 => ?_
      refine ⟨_, rfl, .inl ⟨rfl, _, SqL.of et2⟩, _, rfl, lx, _, _, _, rfl, rfl, SqL.of ex, (atI_nat (j := 0) (map_at h0)), _, _, rfl, rfl, (by show (2 : Int) ≠ 0; decide), _, _, rfl, rfl, _, rfl, by omega, by omega, ?_⟩
      refine comp_rngH (fun H3 i y H4 => ∃ t u : Addr, y = .ref t ∧ H3 u = none ∧ H3 t = none ∧ H4 t = some (.tup [.int ((1, 5) : Int × Int).1, .int ((1, 5) : Int × Int).2, .ref u]) ∧ H4 u = some (.lst [])) HdOk.no nw2 (fun j hj H3 g3 Q' hQ => ?_) fun lw ys H3 nlw lys hys g3 elw => ?_
      · refine ⟨(by show 0 ≤ sizeLine; decide), fun u nu => ⟨(by show 3 ≤ sizeLine; decide), fun t nt => ?_⟩⟩
        have gu := same_new nu (.lst [])
        exact hQ _ _ ⟨t, u, rfl, nu, gu.free nt, upd_same, same_new nt _ _ _ upd_same⟩ (gu.trans (same_new nt _))
      have w3 : WaysN Hb H3 lw (List.replicate ys.length (1, 5)) := waysN_of fr2 nlw hys elw
      have ly2 : ys.length = (1 + z0.fmod 2).toNat := lys
      have rT3 := rT2.imp fun a k q => q.same g3
      have et3 := g3 _ _ et2
      refine ⟨lt, _, _, rfl, rfl, et3, by rw [List.length_map, rT2.1, lT]; omega, hN9 _ _ ?_⟩
      have hT7 := TasksN.put bt' et3 rT3 w3
      have hR7 := ((hR.same g2).same g3).upd (ys := as2.map V.ref ++ [.ref lw]) et3 ltr.symm
      obtain ⟨_, as7, e7, r7⟩ := w3.upd (ys := as2.map V.ref ++ [.ref lw]) bt' et3
      have g7 := sUpd ((g1.trans g2).trans g3) nlt (.lst (as2.map V.ref ++ [.ref lw]))
      have fr7 := fr_upd (x := lt) (o := .lst (as2.map V.ref ++ [.ref lw])) (fun x h => fr2 x (g3.free h))
      have ex7 : upd H3 lt (.lst (as2.map V.ref ++ [.ref lw])) lx = some (.lst (xs.map V.int)) := by rw [upd_ne xlt]; exact g3 _ _ ex
      have et7 : upd H3 lt (.lst (as2.map V.ref ++ [.ref lw])) lt = some (.lst ((as2 ++ [lw]).map V.ref)) := by rw [upd_same, List.map_append]; rfl
      generalize upd H3 lt (.lst (as2.map V.ref ++ [.ref lw])) = H7 at hT7 hR7 e7 r7 g7 fr7 ex7 et7 ⊢
      have hlw : (as2 ++ [lw])[i]? = some lw := by
        rw [List.getElem?_append_right (by rw [rT2.1, lT]; exact Nat.le_refl _), rT2.1, lT, Nat.sub_self]
        rfl
      have l7 : ((as7.map V.ref).length : Int) = 1 + z0.fmod 2 := by
        rw [List.length_map, r7.1, List.length_replicate, ly2]
        omega
      obtain ⟨bs7, er7, rR7⟩ := hR7
      refine ⟨_, rfl, .inl ⟨rfl, _, SqL.of er7⟩, _, rfl, lx, _, _, _, rfl, rfl, SqL.of ex7, (atI_nat (j := 1) (map_at h1)), _, rfl, lx, _, _, _, rfl, rfl, SqL.of ex7, (atI_nat (j := 2) (map_at h2)), z1, z2, rfl, d1, d2', fun v1 H8 g8 => ?_⟩
      refine ⟨_, rfl, lx, _, _, _, rfl, rfl, SqL.of (g8 _ _ ex7), (atI_nat (j := 3) (map_at h3)), _, rfl, lx, _, _, _, rfl, rfl, SqL.of (g8 _ _ ex7), (atI_nat (j := 4) (map_at h4)), z3, z4, rfl, d3, d4, fun v2 H9 g9 => ?_⟩
      have g89 := g8.trans g9
      refine ⟨_, rfl, lx, _, _, _, rfl, rfl, SqL.of (g89 _ _ ex7), (atI_nat (j := 0) (map_at h0)), _, _, rfl, rfl, ⟨by decide, PyProof.noPylong_small (by decide)⟩, _, rfl, _, rfl, lt, _, _, _, rfl, rfl, SqL.of (g89 _ _ et7), (by rw [Int.zero_add]; exact atI_nat (map_at hlw)), lw, _, rfl, .inl (SqL.of (g89 _ _ e7)), _, _, rfl, rfl, (by omega), (by show 3 ≤ sizeLine; decide), fun tr ntr => ?_⟩
      have tz := fm (a := z0.fdiv 2) (n := ((as7.map V.ref).length : Int)) (by omega)
      have gt := same_new ntr (.tup [.int v1, .int v2, .int ((z0.fdiv 2).fmod ((as7.map V.ref).length : Int))])
      have gg := g89.trans gt
      have er9 := gg _ _ er7
      refine ⟨lr, _, _, rfl, rfl, er9, by rw [List.length_map, rR7.1, List.length_map, pok.len, lT]; omega, ?_⟩
      refine ⟨_, _, rfl, sUpd (g7.trans gg) nlr0 _, fr_upd fun x h => fr7 x (gg.free h), T ++ [List.replicate ys.length (1, 5)], R ++ [(v1, v2, (z0.fdiv 2).fmod ((as7.map V.ref).length : Int))], (hT7.same gg).upd br' er9 ltr, ?_, by rw [List.length_append, lT]; rfl, pok.snoc tz.1 (by rw [List.length_replicate, ly2]; show (z0.fdiv 2).fmod ((as7.map V.ref).length : Int) < _; have := tz.2; omega), fun vs hv => ?_⟩
      · rw [List.map_append]
        exact tups_put er9 (rR7.imp fun a k q => gg _ _ q) upd_same
      · rcases List.mem_append.mp hv with h | h
        · exact okT vs h
        · rw [List.mem_singleton.mp h, List.length_replicate]
          exact ⟨by omega, by omega, fun w hw => by rw [(List.mem_replicate.mp hw).2]; exact ⟨by decide, by decide, by decide⟩⟩
    rintro σ H2 ⟨o5, o6, rfl, g2, _, T, R, hTN, hR, lT, pok, okT⟩
    exact hN _ _ ⟨o5, o6, T, R, rfl, g2, hTN.tasks, hR, by omega, pok, okT⟩
  rintro σ H2 ⟨o5, o6, T, R, rfl, g2, hT, hR, t24, pok, okT⟩
  clear bt br bt' br' g01 nlr0 g0
  have t9 := fm (a := c0.fdiv 48) (n := 9) (by decide)
  refine ⟨(by show 0 ≤ sizeLine; decide), fun lm nlm => ?_⟩
  try dsimp only [gName, tNext]
  refine cut (fun σ H' => ∃ (o6 o8 : Option V) (M : List Int), σ = [some (.ref a), some (.int c0), some (.int m), some (.ref lt), some (.ref lr), o5, o6, some (.ref lm), o8, none, none, none, none, none, none, none] ∧ Same H2 H' ∧ H' lm = some (.lst (M.map V.int)) ∧ M.length ≤ 8) (fun N hN => ?_) ?_
  · refine ⟨_, rfl, _, _, rfl, rfl, ⟨by decide, PyProof.noPylong_small (by decide)⟩, _, _, rfl, rfl, (by show (9 : Int) ≠ 0; decide), _, rfl, by omega, by omega, for_range (fun i σ H' => ∃ o6 o8 : Option V, σ = [some (.ref a), some (.int c0), some (.int m), some (.ref lt), some (.ref lr), o5, o6, some (.ref lm), o8, none, none, none, none, none, none, none] ∧ Same H2 H' ∧ ∃ M : List Int, H' lm = some (.lst (M.map V.int)) ∧ M.length = i) ⟨o6, none, rfl, same_new nlm _, [], upd_same, rfl⟩ ?_ ?_⟩
    · rintro i σ H3 hi ⟨o6', o8, rfl, g3, M, em, lM⟩
      refine ⟨_, rfl, _, rfl, _, _, rfl, rfl, a, ns, _, rfl, (g2.trans g3).seq hS, by omega, fun cc => ⟨_, _, rfl, rfl, IntMulOk.of_right (by decide), _, rfl, _, _, rfl, rfl, _, _, rfl, rfl, _, 2, rfl, by decide, by decide, fun lx xs H4 nx g4 lnx dn ex => ?_⟩⟩
      have l2 : xs.length = 2 := lnx
      obtain ⟨z0, h0, d0⟩ := dn_at dn (i := 0) (by omega)
      obtain ⟨z1, h1, d1⟩ := dn_at dn (i := 1) (by omega)
      refine ⟨_, rfl, .inl ⟨rfl, _, SqL.of (g4 _ _ em)⟩, _, rfl, lx, _, _, _, rfl, rfl, SqL.of ex, (atI_nat (j := 0) (map_at h0)), _, rfl, lx, _, _, _, rfl, rfl, SqL.of ex, (atI_nat (j := 1) (map_at h1)), z0, z1, rfl, d0, d1, fun v H5 g5 => ⟨lm, _, _, rfl, rfl, g5 _ _ (g4 _ _ em), by rw [List.length_map, lM]; omega, _, _, rfl, sUpd ((g3.trans g4).trans g5) nlm _, M ++ [v], ?_, by rw [List.length_append, lM]; rfl⟩⟩
      rw [upd_same, List.map_append]
      rfl
    rintro σ H3 ⟨o6', o8, rfl, g3, M, em, lM⟩
    exact hN _ _ ⟨o6', o8, M, rfl, g3, em, by omega⟩
  rintro σ H3 ⟨o6', o8, M, rfl, g3, em, m8⟩
  have r24 : R.length ≤ 24 := by rw [pok.len]; exact t24
  have hT8 := hT.same g3
  have hR8 := hR.same g3
  have hS8 := (g2.trans g3).seq hS
  have nok : NetOk T [] (M.length : Int) := ⟨t24, okT, by omega, by omega, by decide, fun k hk => by simp at hk⟩
  clear hT hR g3 g2 hS nlt nlr nlm ltr
  refine seqN fun N1 hN1 => ?_
  refine fun td ntd => ⟨_, rfl, (by show 0 ≤ sizeLine; decide), fun la nla => ⟨(by show 0 ≤ sizeLine; decide), fun pl npl => ⟨_, rfl, lm, _, rfl, .inl (SqL.of (same_new npl _ _ _ (same_new nla _ _ _ (same_new ntd _ _ _ em)))), fun x dx nx ndx dxx => ?_⟩⟩⟩
  have ltd := same_new ntd (.dK [])
  have lla := same_new nla (.lst [])
  have lpl := same_new npl (.lst [])
  have gp := (ltd.trans lla).trans lpl
  have sm := made_keep2 (C := c_Net) nx ndx (H' := upd (upd (upd (upd (upd H3 td (.dK [])) la (.lst [])) pl (.lst [])) dx (.own x)) x (.ins c_Net dx [])) (fun a o _ e => e)
  have lmm : (M.map V.int).length = M.length := List.length_map _
  refine ⟨x, dx, td, lt, la, pl, _, T, [], rfl, upd_same, sm _ _ (lpl _ _ (lla _ _ upd_same)), hT8.same (gp.trans sm), ⟨[], sm _ _ (lpl _ _ upd_same), Ref2.nil⟩, sm _ _ upd_same, by rw [lmm]; exact nok, fun H9 fx N => ⟨rfl, hN1 _ _ ?_⟩⟩
  rw [lmm] at N
  have g9 := gp.trans (made_keep2 nx ndx fx)
  clear sm fx gp lpl ltd lla ntd nla npl nx ndx dxx
  have hT9 := hT8.same g9
  have hR9 := hR8.same g9
  have em9 := g9 _ _ em
  have hS9 := g9.seq hS8
  clear g9 hT8 hR8 em hS8
  have t12 : ∀ c1 : Int, 0 ≤ c1.fmod 12 ∧ c1.fmod 12 < 12 := fun c1 => fm (by decide)
  refine seqN fun N2 hN2 => ?_
  refine ⟨_, rfl, a, ns, _, rfl, hS9, (by decide), fun c1 => ⟨_, _, rfl, rfl, (by show (12 : Int) ≠ 0; decide), hN2 _ _ ?_⟩⟩
  have t12 := t12 c1
  refine seqN fun N3 hN3 => ?_
  refine ⟨_, rfl, _, rfl, (by show 2 ≤ sizeLine; decide), fun tp ntp => hN3 _ _ ?_⟩
  have ga := same_new ntp (.tup [.ref lr, .ref lm])
  have hPl : PlanA (upd H9 tp (.tup [.ref lr, .ref lm])) tp R M := ⟨lr, lm, upd_same, hR9.same ga, ga _ _ em9⟩
  have hT10 := hT9.same ga
  have hR10 := hR9.same ga
  have em10 := ga _ _ em9
  have hS10 := ga.seq hS9
  have N10 := N.same ga
  generalize upd H9 tp (.tup [.ref lr, .ref lm]) = H10 at hPl hT10 hR10 em10 hS10 N10 ⊢
  clear ga ntp hT9 hR9 em9 hS9 N
  have hpf : PlanFor T M.length R M := ⟨pok, rfl⟩
  try dsimp only [gName, tNext]
  refine cut (fun σ H' => ∃ (tp : Addr) (R' : List Rn) (M' : List Int), σ = [some (.ref a), some (.int c0), some (.int m), some (.ref lt), some (.ref lr), o5, o6', some (.ref lm), o8, some (.ref x), some (.int (c1.fmod 12)), some (.ref tp), none, none, none, none] ∧ Same H10 H' ∧ PlanA H' tp R' M' ∧ R'.length ≤ 25 ∧ M'.length ≤ 9 ∧ ((R' = R ∧ M' = M) ∨ ¬ PlanFor T M.length R' M')) (fun N hN => ?_) ?_
  · refine ⟨_, rfl, _, _, rfl, rfl, _, rfl, d2 (fun k6 => ?_) (fun _ => ?_)⟩
    · refine ⟨_, rfl, _, rfl, _, rfl, _, rfl, _, rfl, a, ns, _, rfl, hS10, (by decide), fun c2 => ⟨_, _, rfl, rfl, ⟨by decide, by decide⟩, _, _, rfl, rfl, (by show (10 : Int) ^ (9 : Int).toNat ≠ 0; decide), lr, lm, lt, _, _, R, M, T, rfl, hR10, em10, hT10, pok, r24, m8, t12.1, k6, (fm (by decide)).1, fun tp' R' M' H' g' P' l1 l2 or => hN _ _ ⟨tp', R', M', rfl, g', P', l1, l2, or⟩⟩⟩
    · exact hN _ _ ⟨tp, R, M, rfl, .refl _, hPl, by omega, by omega, .inl ⟨rfl, rfl⟩⟩
  clear hPl tp
  rintro σ H11 ⟨tp, R', M', rfl, g11, hP', l25, l9, or⟩
  have hR11 := hR10.same g11
  have em11 := g11 _ _ em10
  have N11 := N10.same g11
  clear g11 hR10 em10 N10 hT10 hS10
  refine seqN fun N4 hN4 => ?_
  refine ⟨_, rfl, _, rfl, _, rfl, (by show 2 ≤ sizeLine; decide), fun tq nq => ⟨tp, tq, R', R, M', M, rfl, rfl, hP'.same (same_new nq _), ⟨lr, lm, upd_same, hR11.same (same_new nq _), same_new nq _ _ _ em11⟩, hN4 _ _ ?_⟩⟩
  have gq := same_new nq (.tup [.ref lr, .ref lm])
  have hP12 := hP'.same gq
  have N12 := N11.same gq
  generalize upd H11 tq (.tup [.ref lr, .ref lm]) = H12 at hP12 N12 ⊢
  clear gq nq hP' N11 hR11 em11 H11
  obtain ⟨rl, ml, etp, ⟨bs, er, rR⟩, em⟩ := id hP12
  refine seqN fun N5 hN5 => ?_
  refine ⟨_, rfl, tp, _, _, _, rfl, rfl, SqT.of etp, rfl, rl, _, rfl, .inl (SqL.of er), fun l1 n1 => ⟨_, rfl, tp, _, _, _, rfl, rfl, SqT.of (same_new n1 _ _ _ etp), rfl, ml, _, rfl, .inl (SqL.of (same_new n1 _ _ _ em)), fun l2 n2 => ⟨(by show 2 ≤ sizeLine; decide), fun th nth => hN5 _ _ ?_⟩⟩⟩
  have ga := same_new n1 (.lst (bs.map V.ref))
  have gb := same_new n2 (.lst (M'.map V.int))
  have gc := same_new nth (.tup [.ref l1, .ref l2])
  have gg := (ga.trans gb).trans gc
  have e1 := gc _ _ (gb _ _ (upd_same (H := H12) (a := l1) (o := .lst (bs.map V.ref))))
  have e2 := gc _ _ (upd_same (H := upd H12 l1 (.lst (bs.map V.ref))) (a := l2) (o := .lst (M'.map V.int)))
  have eth : upd (upd (upd H12 l1 (.lst (bs.map V.ref))) l2 (.lst (M'.map V.int))) th (.tup [.ref l1, .ref l2]) th = some (.tup [.ref l1, .ref l2]) := upd_same
  have N13 := N12.same gg
  have er13 := gg _ _ er
  have em13 := gg _ _ em
  have rR13 := rR.imp fun a k q => gg _ _ q
  have etp13 := gg _ _ etp
  generalize upd (upd (upd H12 l1 (.lst (bs.map V.ref))) l2 (.lst (M'.map V.int))) th (.tup [.ref l1, .ref l2]) = H13 at e1 e2 eth N13 er13 em13 rR13 etp13 ⊢
  clear ga gb gc gg n1 n2 nth er em rR etp hP12 N12
  have hP13 : PlanA H13 th R' M' := ⟨l1, l2, eth, ⟨bs, e1, rR13⟩, e2⟩
  have alk : ∀ Hz : Hp, Same H13 Hz → All2 (Alk K Hz 2) [.ref l1, .ref l2] [.ref rl, .ref ml] := fun Hz g => plan_alk (g _ _ e1) (g _ _ e2) (g _ _ er13) (g _ _ em13) (rR13.imp fun a k q => g _ _ q)
  refine seqN fun N6 hN6 => ?_
  refine ⟨_, rfl, _, rfl, x, th, T, [], _, R', M', rfl, N13, hP13, fun b H14 g14 hb => hN6 _ _ ?_⟩
  have bg : b = decide (R' = R ∧ M' = M) := by
    rcases or with ⟨rfl, rfl⟩ | nb
    · rw [decide_eq_true ⟨rfl, rfl⟩]
      exact hb.mpr hpf
    · have h1 : b = false := by
        cases b with
        | false => rfl
        | true => exact absurd (hb.mp rfl) nb
      rw [h1, decide_eq_false (fun z => nb (by rw [z.1, z.2]; exact hpf))]
  subst bg
  generalize hgd : decide (R' = R ∧ M' = M) = gd at hb ⊢
  refine seqN fun N7 hN7 => ?_
  refine ⟨_, rfl, _, _, _, true, rfl, .bl _, rfl, _, rfl, iteF ⟨_, rfl, _, rfl, rfl, _, rfl, nF rfl ⟨_, rfl, _, rfl, th, tp, _, _, rfl, rfl, SqT.of (g14 _ _ eth), SqT.of (g14 _ _ etp13), alk _ g14, _, rfl, iteF (hN7 _ _ ?_)⟩⟩⟩
  cases gd with
  | true =>
    refine ⟨_, rfl, _, rfl, iteT ⟨_, rfl, th, R', M', rfl, hP13.same g14, ?_, ?_, fun H15 g15 => ⟨_, rfl, iteT ⟨_, rfl, _, rfl, th, tp, _, _, rfl, rfl, SqT.of (g15 _ _ (g14 _ _ eth)), SqT.of (g15 _ _ (g14 _ _ etp13)), alk _ (g14.trans g15), q _⟩⟩⟩⟩
    · have := hb.mp rfl
      rw [this.1.len]
      exact t24
    · have := (hb.mp rfl).2
      omega
  | false =>
    have nb : ¬ PlanFor T M.length R' M' := fun z => by
      have := hb.mpr z
      cases this
    refine ⟨_, rfl, _, rfl, iteF ?_⟩
    try dsimp only [gName, tNext]
    refine ⟨3, rfl, by decide, by decide, for_range (fun i σ H' => ∃ o15 : Option V, σ = [some (.ref a), some (.int c0), some (.int m), some (.ref lt), some (.ref lr), o5, o6', some (.ref lm), o8, some (.ref x), some (.int (c1.fmod 12)), some (.ref tp), some (.bl false), some (.ref th), some (.bl false), o15] ∧ Same H13 H') ⟨none, rfl, g14⟩ ?_ ?_⟩
    · rintro i σ H15 hi ⟨o15, rfl, g15⟩
      exact ⟨_, rfl, _, rfl, _, rfl, _, rfl, _, _, rfl, rfl, _, _, rfl, rfl, (by show (3 : Int) ≠ 0; decide), x, th, _, T, [], _, R', M', rfl, N13.same g15, hP13.same g15, nb, fun H16 g16 => ⟨_, rfl, iteF ⟨_, rfl, g15.trans g16⟩⟩⟩
    · rintro σ H15 ⟨o15, rfl, g15⟩
      exact ⟨_, rfl, _, rfl, th, tp, _, _, rfl, rfl, SqT.of (g15 _ _ eth), SqT.of (g15 _ _ etp13), alk _ g15, q _⟩

end
set_option maxHeartbeats 4000000 in
theorem all_mk {l : PySem.W.OpenLaw} {w : World} {K : PySem.W.Frag} {h : Heap} {mg : Str → Option Value} {fa fis_name fpoints_of fcopy_of_task frefuse_wrong_tools frefuse_wrong_uses frefuse_wrong_tasks frefuse_wrong_arcs frefuse_wrong_pairs fis_plan ftime_of fbreaches fplan_fits flength_of froster f_law_cell_at f_law_whole f_law_drawn f_law_time f_law_spoilt f_law_refused f_law_times_told flaw c_EmptyHeap c_Net c_NoNet c_NoPlan c_StoveError c_TooFew c_TooMany f_Net_init : Addr} (X : K.In h) (G : h.Ns mainGlobals mg) (hfa : mg "law" = some (.ref fa))
    {odis_name anis_name : Option Addr} {slis_name : Array (Option Value)} {ocis_name kVis_name dcis_name pmis_name cdis_name ctis_name : Value}
    {odpoints_of anpoints_of : Option Addr} {slpoints_of : Array (Option Value)} {ocpoints_of kVpoints_of dcpoints_of pmpoints_of cdpoints_of ctpoints_of : Value}
    {odcopy_of_task ancopy_of_task : Option Addr} {slcopy_of_task : Array (Option Value)} {occopy_of_task kVcopy_of_task dccopy_of_task pmcopy_of_task cdcopy_of_task ctcopy_of_task : Value}
    {odrefuse_wrong_tools anrefuse_wrong_tools : Option Addr} {slrefuse_wrong_tools : Array (Option Value)} {ocrefuse_wrong_tools kVrefuse_wrong_tools dcrefuse_wrong_tools pmrefuse_wrong_tools cdrefuse_wrong_tools ctrefuse_wrong_tools : Value}
    {odrefuse_wrong_uses anrefuse_wrong_uses : Option Addr} {slrefuse_wrong_uses : Array (Option Value)} {ocrefuse_wrong_uses kVrefuse_wrong_uses dcrefuse_wrong_uses pmrefuse_wrong_uses cdrefuse_wrong_uses ctrefuse_wrong_uses : Value}
    {odrefuse_wrong_tasks anrefuse_wrong_tasks : Option Addr} {slrefuse_wrong_tasks : Array (Option Value)} {ocrefuse_wrong_tasks kVrefuse_wrong_tasks dcrefuse_wrong_tasks pmrefuse_wrong_tasks cdrefuse_wrong_tasks ctrefuse_wrong_tasks : Value}
    {odrefuse_wrong_arcs anrefuse_wrong_arcs : Option Addr} {slrefuse_wrong_arcs : Array (Option Value)} {ocrefuse_wrong_arcs kVrefuse_wrong_arcs dcrefuse_wrong_arcs pmrefuse_wrong_arcs cdrefuse_wrong_arcs ctrefuse_wrong_arcs : Value}
    {odrefuse_wrong_pairs anrefuse_wrong_pairs : Option Addr} {slrefuse_wrong_pairs : Array (Option Value)} {ocrefuse_wrong_pairs kVrefuse_wrong_pairs dcrefuse_wrong_pairs pmrefuse_wrong_pairs cdrefuse_wrong_pairs ctrefuse_wrong_pairs : Value}
    {odis_plan anis_plan : Option Addr} {slis_plan : Array (Option Value)} {ocis_plan kVis_plan dcis_plan pmis_plan cdis_plan ctis_plan : Value}
    {odtime_of antime_of : Option Addr} {sltime_of : Array (Option Value)} {octime_of kVtime_of dctime_of pmtime_of cdtime_of cttime_of : Value}
    {odbreaches anbreaches : Option Addr} {slbreaches : Array (Option Value)} {ocbreaches kVbreaches dcbreaches pmbreaches cdbreaches ctbreaches : Value}
    {odplan_fits anplan_fits : Option Addr} {slplan_fits : Array (Option Value)} {ocplan_fits kVplan_fits dcplan_fits pmplan_fits cdplan_fits ctplan_fits : Value}
    {odlength_of anlength_of : Option Addr} {sllength_of : Array (Option Value)} {oclength_of kVlength_of dclength_of pmlength_of cdlength_of ctlength_of : Value}
    {odroster anroster : Option Addr} {slroster : Array (Option Value)} {ocroster kVroster dcroster pmroster cdroster ctroster : Value}
    {od_law_cell_at an_law_cell_at : Option Addr} {sl_law_cell_at : Array (Option Value)} {oc_law_cell_at kV_law_cell_at dc_law_cell_at pm_law_cell_at cd_law_cell_at ct_law_cell_at : Value}
    {od_law_whole an_law_whole : Option Addr} {sl_law_whole : Array (Option Value)} {oc_law_whole kV_law_whole dc_law_whole pm_law_whole cd_law_whole ct_law_whole : Value}
    {od_law_drawn an_law_drawn : Option Addr} {sl_law_drawn : Array (Option Value)} {oc_law_drawn kV_law_drawn dc_law_drawn pm_law_drawn cd_law_drawn ct_law_drawn : Value}
    {od_law_time an_law_time : Option Addr} {sl_law_time : Array (Option Value)} {oc_law_time kV_law_time dc_law_time pm_law_time cd_law_time ct_law_time : Value}
    {od_law_spoilt an_law_spoilt : Option Addr} {sl_law_spoilt : Array (Option Value)} {oc_law_spoilt kV_law_spoilt dc_law_spoilt pm_law_spoilt cd_law_spoilt ct_law_spoilt : Value}
    {od_law_refused an_law_refused : Option Addr} {sl_law_refused : Array (Option Value)} {oc_law_refused kV_law_refused dc_law_refused pm_law_refused cd_law_refused ct_law_refused : Value}
    {od_law_times_told an_law_times_told : Option Addr} {sl_law_times_told : Array (Option Value)} {oc_law_times_told kV_law_times_told dc_law_times_told pm_law_times_told cd_law_times_told ct_law_times_told : Value}
    {odlaw anlaw : Option Addr} {sllaw : Array (Option Value)} {oclaw kVlaw dclaw pmlaw cdlaw ctlaw : Value}
    {odNet_init anNet_init : Option Addr} {slNet_init : Array (Option Value)} {ocNet_init kVNet_init dcNet_init pmNet_init cdNet_init ctNet_init : Value}
    {tk_MOST_TASKS : Tok}
    {tk_MOST_TOOLS : Tok}
    {tk_MOST_PIECES : Tok}
    {tk_MOST_WAYS : Tok}
    {tk_MOST_MOMENTS : Tok}
    {tk_MOST_ARCS : Tok}
    {tk_MOST_APART : Tok}
    {tk_GREATEST : Tok}
    {TNet_init : Addr} {ToNet_init : Value} {TdNet_init : Option Addr} {TnNet_init : Nat} {TsNet_init : Array (Option Value)} {TtNet_init : Tok}
    (ais_name : PySem.W.nsIn K mainGlobals "is_name" = some (some (.ref fis_name)))
    (lis_name : K.lookup fis_name = some ⟨ocis_name, odis_name, .func (PySem.W.fnOf "is_name" "is_name" (defArgs sis_name) (defBody sis_name) (defScope sis_name) .none kVis_name dcis_name pmis_name anis_name cdis_name ctis_name), slis_name⟩) (cis_name : PySem.W.codeIn K cdis_name "is_name" = true) (kis_name : PySem.W.keepIn K (.ref fis_name) = true)
    (apoints_of : PySem.W.nsIn K mainGlobals "points_of" = some (some (.ref fpoints_of)))
    (lpoints_of : K.lookup fpoints_of = some ⟨ocpoints_of, odpoints_of, .func (PySem.W.fnOf "points_of" "points_of" (defArgs spoints_of) (defBody spoints_of) (defScope spoints_of) .none kVpoints_of dcpoints_of pmpoints_of anpoints_of cdpoints_of ctpoints_of), slpoints_of⟩) (cpoints_of : PySem.W.codeIn K cdpoints_of "points_of" = true) (kpoints_of : PySem.W.keepIn K (.ref fpoints_of) = true)
    (acopy_of_task : PySem.W.nsIn K mainGlobals "copy_of_task" = some (some (.ref fcopy_of_task)))
    (lcopy_of_task : K.lookup fcopy_of_task = some ⟨occopy_of_task, odcopy_of_task, .func (PySem.W.fnOf "copy_of_task" "copy_of_task" (defArgs scopy_of_task) (defBody scopy_of_task) (defScope scopy_of_task) .none kVcopy_of_task dccopy_of_task pmcopy_of_task ancopy_of_task cdcopy_of_task ctcopy_of_task), slcopy_of_task⟩) (ccopy_of_task : PySem.W.codeIn K cdcopy_of_task "copy_of_task" = true) (kcopy_of_task : PySem.W.keepIn K (.ref fcopy_of_task) = true)
    (arefuse_wrong_tools : PySem.W.nsIn K mainGlobals "refuse_wrong_tools" = some (some (.ref frefuse_wrong_tools)))
    (lrefuse_wrong_tools : K.lookup frefuse_wrong_tools = some ⟨ocrefuse_wrong_tools, odrefuse_wrong_tools, .func (PySem.W.fnOf "refuse_wrong_tools" "refuse_wrong_tools" (defArgs srefuse_wrong_tools) (defBody srefuse_wrong_tools) (defScope srefuse_wrong_tools) .none kVrefuse_wrong_tools dcrefuse_wrong_tools pmrefuse_wrong_tools anrefuse_wrong_tools cdrefuse_wrong_tools ctrefuse_wrong_tools), slrefuse_wrong_tools⟩) (crefuse_wrong_tools : PySem.W.codeIn K cdrefuse_wrong_tools "refuse_wrong_tools" = true) (krefuse_wrong_tools : PySem.W.keepIn K (.ref frefuse_wrong_tools) = true)
    (arefuse_wrong_uses : PySem.W.nsIn K mainGlobals "refuse_wrong_uses" = some (some (.ref frefuse_wrong_uses)))
    (lrefuse_wrong_uses : K.lookup frefuse_wrong_uses = some ⟨ocrefuse_wrong_uses, odrefuse_wrong_uses, .func (PySem.W.fnOf "refuse_wrong_uses" "refuse_wrong_uses" (defArgs srefuse_wrong_uses) (defBody srefuse_wrong_uses) (defScope srefuse_wrong_uses) .none kVrefuse_wrong_uses dcrefuse_wrong_uses pmrefuse_wrong_uses anrefuse_wrong_uses cdrefuse_wrong_uses ctrefuse_wrong_uses), slrefuse_wrong_uses⟩) (crefuse_wrong_uses : PySem.W.codeIn K cdrefuse_wrong_uses "refuse_wrong_uses" = true) (krefuse_wrong_uses : PySem.W.keepIn K (.ref frefuse_wrong_uses) = true)
    (arefuse_wrong_tasks : PySem.W.nsIn K mainGlobals "refuse_wrong_tasks" = some (some (.ref frefuse_wrong_tasks)))
    (lrefuse_wrong_tasks : K.lookup frefuse_wrong_tasks = some ⟨ocrefuse_wrong_tasks, odrefuse_wrong_tasks, .func (PySem.W.fnOf "refuse_wrong_tasks" "refuse_wrong_tasks" (defArgs srefuse_wrong_tasks) (defBody srefuse_wrong_tasks) (defScope srefuse_wrong_tasks) .none kVrefuse_wrong_tasks dcrefuse_wrong_tasks pmrefuse_wrong_tasks anrefuse_wrong_tasks cdrefuse_wrong_tasks ctrefuse_wrong_tasks), slrefuse_wrong_tasks⟩) (crefuse_wrong_tasks : PySem.W.codeIn K cdrefuse_wrong_tasks "refuse_wrong_tasks" = true) (krefuse_wrong_tasks : PySem.W.keepIn K (.ref frefuse_wrong_tasks) = true)
    (arefuse_wrong_arcs : PySem.W.nsIn K mainGlobals "refuse_wrong_arcs" = some (some (.ref frefuse_wrong_arcs)))
    (lrefuse_wrong_arcs : K.lookup frefuse_wrong_arcs = some ⟨ocrefuse_wrong_arcs, odrefuse_wrong_arcs, .func (PySem.W.fnOf "refuse_wrong_arcs" "refuse_wrong_arcs" (defArgs srefuse_wrong_arcs) (defBody srefuse_wrong_arcs) (defScope srefuse_wrong_arcs) .none kVrefuse_wrong_arcs dcrefuse_wrong_arcs pmrefuse_wrong_arcs anrefuse_wrong_arcs cdrefuse_wrong_arcs ctrefuse_wrong_arcs), slrefuse_wrong_arcs⟩) (crefuse_wrong_arcs : PySem.W.codeIn K cdrefuse_wrong_arcs "refuse_wrong_arcs" = true) (krefuse_wrong_arcs : PySem.W.keepIn K (.ref frefuse_wrong_arcs) = true)
    (arefuse_wrong_pairs : PySem.W.nsIn K mainGlobals "refuse_wrong_pairs" = some (some (.ref frefuse_wrong_pairs)))
    (lrefuse_wrong_pairs : K.lookup frefuse_wrong_pairs = some ⟨ocrefuse_wrong_pairs, odrefuse_wrong_pairs, .func (PySem.W.fnOf "refuse_wrong_pairs" "refuse_wrong_pairs" (defArgs srefuse_wrong_pairs) (defBody srefuse_wrong_pairs) (defScope srefuse_wrong_pairs) .none kVrefuse_wrong_pairs dcrefuse_wrong_pairs pmrefuse_wrong_pairs anrefuse_wrong_pairs cdrefuse_wrong_pairs ctrefuse_wrong_pairs), slrefuse_wrong_pairs⟩) (crefuse_wrong_pairs : PySem.W.codeIn K cdrefuse_wrong_pairs "refuse_wrong_pairs" = true) (krefuse_wrong_pairs : PySem.W.keepIn K (.ref frefuse_wrong_pairs) = true)
    (ais_plan : PySem.W.nsIn K mainGlobals "is_plan" = some (some (.ref fis_plan)))
    (lis_plan : K.lookup fis_plan = some ⟨ocis_plan, odis_plan, .func (PySem.W.fnOf "is_plan" "is_plan" (defArgs sis_plan) (defBody sis_plan) (defScope sis_plan) .none kVis_plan dcis_plan pmis_plan anis_plan cdis_plan ctis_plan), slis_plan⟩) (cis_plan : PySem.W.codeIn K cdis_plan "is_plan" = true) (kis_plan : PySem.W.keepIn K (.ref fis_plan) = true)
    (atime_of : PySem.W.nsIn K mainGlobals "time_of" = some (some (.ref ftime_of)))
    (ltime_of : K.lookup ftime_of = some ⟨octime_of, odtime_of, .func (PySem.W.fnOf "time_of" "time_of" (defArgs stime_of) (defBody stime_of) (defScope stime_of) .none kVtime_of dctime_of pmtime_of antime_of cdtime_of cttime_of), sltime_of⟩) (ctime_of : PySem.W.codeIn K cdtime_of "time_of" = true) (ktime_of : PySem.W.keepIn K (.ref ftime_of) = true)
    (abreaches : PySem.W.nsIn K mainGlobals "breaches" = some (some (.ref fbreaches)))
    (lbreaches : K.lookup fbreaches = some ⟨ocbreaches, odbreaches, .func (PySem.W.fnOf "breaches" "breaches" (defArgs sbreaches) (defBody sbreaches) (defScope sbreaches) .none kVbreaches dcbreaches pmbreaches anbreaches cdbreaches ctbreaches), slbreaches⟩) (cbreaches : PySem.W.codeIn K cdbreaches "breaches" = true) (kbreaches : PySem.W.keepIn K (.ref fbreaches) = true)
    (aplan_fits : PySem.W.nsIn K mainGlobals "plan_fits" = some (some (.ref fplan_fits)))
    (lplan_fits : K.lookup fplan_fits = some ⟨ocplan_fits, odplan_fits, .func (PySem.W.fnOf "plan_fits" "plan_fits" (defArgs splan_fits) (defBody splan_fits) (defScope splan_fits) .none kVplan_fits dcplan_fits pmplan_fits anplan_fits cdplan_fits ctplan_fits), slplan_fits⟩) (cplan_fits : PySem.W.codeIn K cdplan_fits "plan_fits" = true) (kplan_fits : PySem.W.keepIn K (.ref fplan_fits) = true)
    (alength_of : PySem.W.nsIn K mainGlobals "length_of" = some (some (.ref flength_of)))
    (llength_of : K.lookup flength_of = some ⟨oclength_of, odlength_of, .func (PySem.W.fnOf "length_of" "length_of" (defArgs slength_of) (defBody slength_of) (defScope slength_of) .none kVlength_of dclength_of pmlength_of anlength_of cdlength_of ctlength_of), sllength_of⟩) (clength_of : PySem.W.codeIn K cdlength_of "length_of" = true) (klength_of : PySem.W.keepIn K (.ref flength_of) = true)
    (aroster : PySem.W.nsIn K mainGlobals "roster" = some (some (.ref froster)))
    (lroster : K.lookup froster = some ⟨ocroster, odroster, .func (PySem.W.fnOf "roster" "roster" (defArgs sroster) (defBody sroster) (defScope sroster) .none kVroster dcroster pmroster anroster cdroster ctroster), slroster⟩) (croster : PySem.W.codeIn K cdroster "roster" = true) (kroster : PySem.W.keepIn K (.ref froster) = true)
    (a_law_cell_at : PySem.W.nsIn K mainGlobals "_law_cell_at" = some (some (.ref f_law_cell_at)))
    (l_law_cell_at : K.lookup f_law_cell_at = some ⟨oc_law_cell_at, od_law_cell_at, .func (PySem.W.fnOf "_law_cell_at" "_law_cell_at" (defArgs s_law_cell_at) (defBody s_law_cell_at) (defScope s_law_cell_at) .none kV_law_cell_at dc_law_cell_at pm_law_cell_at an_law_cell_at cd_law_cell_at ct_law_cell_at), sl_law_cell_at⟩) (c_law_cell_at : PySem.W.codeIn K cd_law_cell_at "_law_cell_at" = true) (k_law_cell_at : PySem.W.keepIn K (.ref f_law_cell_at) = true)
    (a_law_whole : PySem.W.nsIn K mainGlobals "_law_whole" = some (some (.ref f_law_whole)))
    (l_law_whole : K.lookup f_law_whole = some ⟨oc_law_whole, od_law_whole, .func (PySem.W.fnOf "_law_whole" "_law_whole" (defArgs s_law_whole) (defBody s_law_whole) (defScope s_law_whole) .none kV_law_whole dc_law_whole pm_law_whole an_law_whole cd_law_whole ct_law_whole), sl_law_whole⟩) (c_law_whole : PySem.W.codeIn K cd_law_whole "_law_whole" = true) (k_law_whole : PySem.W.keepIn K (.ref f_law_whole) = true)
    (a_law_drawn : PySem.W.nsIn K mainGlobals "_law_drawn" = some (some (.ref f_law_drawn)))
    (l_law_drawn : K.lookup f_law_drawn = some ⟨oc_law_drawn, od_law_drawn, .func (PySem.W.fnOf "_law_drawn" "_law_drawn" (defArgs s_law_drawn) (defBody s_law_drawn) (defScope s_law_drawn) .none kV_law_drawn dc_law_drawn pm_law_drawn an_law_drawn cd_law_drawn ct_law_drawn), sl_law_drawn⟩) (c_law_drawn : PySem.W.codeIn K cd_law_drawn "_law_drawn" = true) (k_law_drawn : PySem.W.keepIn K (.ref f_law_drawn) = true)
    (a_law_time : PySem.W.nsIn K mainGlobals "_law_time" = some (some (.ref f_law_time)))
    (l_law_time : K.lookup f_law_time = some ⟨oc_law_time, od_law_time, .func (PySem.W.fnOf "_law_time" "_law_time" (defArgs s_law_time) (defBody s_law_time) (defScope s_law_time) .none kV_law_time dc_law_time pm_law_time an_law_time cd_law_time ct_law_time), sl_law_time⟩) (c_law_time : PySem.W.codeIn K cd_law_time "_law_time" = true) (k_law_time : PySem.W.keepIn K (.ref f_law_time) = true)
    (a_law_spoilt : PySem.W.nsIn K mainGlobals "_law_spoilt" = some (some (.ref f_law_spoilt)))
    (l_law_spoilt : K.lookup f_law_spoilt = some ⟨oc_law_spoilt, od_law_spoilt, .func (PySem.W.fnOf "_law_spoilt" "_law_spoilt" (defArgs s_law_spoilt) (defBody s_law_spoilt) (defScope s_law_spoilt) .none kV_law_spoilt dc_law_spoilt pm_law_spoilt an_law_spoilt cd_law_spoilt ct_law_spoilt), sl_law_spoilt⟩) (c_law_spoilt : PySem.W.codeIn K cd_law_spoilt "_law_spoilt" = true) (k_law_spoilt : PySem.W.keepIn K (.ref f_law_spoilt) = true)
    (a_law_refused : PySem.W.nsIn K mainGlobals "_law_refused" = some (some (.ref f_law_refused)))
    (l_law_refused : K.lookup f_law_refused = some ⟨oc_law_refused, od_law_refused, .func (PySem.W.fnOf "_law_refused" "_law_refused" (defArgs s_law_refused) (defBody s_law_refused) (defScope s_law_refused) .none kV_law_refused dc_law_refused pm_law_refused an_law_refused cd_law_refused ct_law_refused), sl_law_refused⟩) (c_law_refused : PySem.W.codeIn K cd_law_refused "_law_refused" = true) (k_law_refused : PySem.W.keepIn K (.ref f_law_refused) = true)
    (a_law_times_told : PySem.W.nsIn K mainGlobals "_law_times_told" = some (some (.ref f_law_times_told)))
    (l_law_times_told : K.lookup f_law_times_told = some ⟨oc_law_times_told, od_law_times_told, .func (PySem.W.fnOf "_law_times_told" "_law_times_told" (defArgs s_law_times_told) (defBody s_law_times_told) (defScope s_law_times_told) .none kV_law_times_told dc_law_times_told pm_law_times_told an_law_times_told cd_law_times_told ct_law_times_told), sl_law_times_told⟩) (c_law_times_told : PySem.W.codeIn K cd_law_times_told "_law_times_told" = true) (k_law_times_told : PySem.W.keepIn K (.ref f_law_times_told) = true)
    (alaw : PySem.W.nsIn K mainGlobals "law" = some (some (.ref flaw)))
    (llaw : K.lookup flaw = some ⟨oclaw, odlaw, .func (PySem.W.fnOf "law" "law" (defArgs slaw) (defBody slaw) (defScope slaw) .none kVlaw dclaw pmlaw anlaw cdlaw ctlaw), sllaw⟩) (claw : PySem.W.codeIn K cdlaw "law" = true) (klaw : PySem.W.keepIn K (.ref flaw) = true)
    (zg_MOST_TASKS : PySem.W.nsIn K mainGlobals "MOST_TASKS" = some (some (.int 24 tk_MOST_TASKS)))
    (zg_MOST_TOOLS : PySem.W.nsIn K mainGlobals "MOST_TOOLS" = some (some (.int 12 tk_MOST_TOOLS)))
    (zg_MOST_PIECES : PySem.W.nsIn K mainGlobals "MOST_PIECES" = some (some (.int 8 tk_MOST_PIECES)))
    (zg_MOST_WAYS : PySem.W.nsIn K mainGlobals "MOST_WAYS" = some (some (.int 2 tk_MOST_WAYS)))
    (zg_MOST_MOMENTS : PySem.W.nsIn K mainGlobals "MOST_MOMENTS" = some (some (.int 8 tk_MOST_MOMENTS)))
    (zg_MOST_ARCS : PySem.W.nsIn K mainGlobals "MOST_ARCS" = some (some (.int 600 tk_MOST_ARCS)))
    (zg_MOST_APART : PySem.W.nsIn K mainGlobals "MOST_APART" = some (some (.int 300 tk_MOST_APART)))
    (zg_GREATEST : PySem.W.nsIn K mainGlobals "GREATEST" = some (some (.int 1000000000 tk_GREATEST)))
    (zb_len : PySem.W.nsIn K mainGlobals "len" = some none)
    (zb_isinstance : PySem.W.nsIn K mainGlobals "isinstance" = some none)
    (zb_int : PySem.W.nsIn K mainGlobals "int" = some none)
    (zb_bool : PySem.W.nsIn K mainGlobals "bool" = some none)
    (zb_range : PySem.W.nsIn K mainGlobals "range" = some none)
    (zb_dict : PySem.W.nsIn K mainGlobals "dict" = some none)
    (zb_list : PySem.W.nsIn K mainGlobals "list" = some none)
    (zb_zip : PySem.W.nsIn K mainGlobals "zip" = some none)
    (zb_abs : PySem.W.nsIn K mainGlobals "abs" = some none)
    (zb_set : PySem.W.nsIn K mainGlobals "set" = some none)
    (zb_max : PySem.W.nsIn K mainGlobals "max" = some none)
    (zb_ValueError : PySem.W.nsIn K mainGlobals "ValueError" = some none)
    (zm_EmptyHeap : PySem.W.nsIn K mainGlobals "EmptyHeap" = some (some (.ref c_EmptyHeap)))
    (zm_Net : PySem.W.nsIn K mainGlobals "Net" = some (some (.ref c_Net)))
    (zm_NoNet : PySem.W.nsIn K mainGlobals "NoNet" = some (some (.ref c_NoNet)))
    (zm_NoPlan : PySem.W.nsIn K mainGlobals "NoPlan" = some (some (.ref c_NoPlan)))
    (zm_StoveError : PySem.W.nsIn K mainGlobals "StoveError" = some (some (.ref c_StoveError)))
    (zm_TooFew : PySem.W.nsIn K mainGlobals "TooFew" = some (some (.ref c_TooFew)))
    (zm_TooMany : PySem.W.nsIn K mainGlobals "TooMany" = some (some (.ref c_TooMany)))
    (atNet_init : PySem.W.findIn K (.ref c_Net) "__init__" = some (some (.ref f_Net_init)))
    (lNet_init : K.lookup f_Net_init = some ⟨ocNet_init, odNet_init, .func (PySem.W.fnOf "__init__" "Net.__init__" (defArgs sNet_init) (defBody sNet_init) (defScope sNet_init) (.ref TNet_init) kVNet_init dcNet_init pmNet_init anNet_init cdNet_init ctNet_init), slNet_init⟩) (cNet_init : PySem.W.codeIn K cdNet_init "Net.__init__" = true) (kNet_init : PySem.W.keepIn K (.ref f_Net_init) = true)
    (dNet_init : K.lookup TNet_init = some ⟨ToNet_init, TdNet_init, .seq #[.none, .int 0 TtNet_init] TnNet_init, TsNet_init⟩)
    (zx_NoPlan : PySem.W.excIn K c_NoPlan bmV "ValueError.__new__" = true)
    (zi_NoPlan : XI K c_NoPlan)
    (zt_StoveError : XT K c_StoveError)
    (zs_NoPlan_StoveError : PySem.W.subIn K (.ref c_NoPlan) (.ref c_StoveError) = some true)
    (zk_NoPlan_NoNet : PySem.W.kitOne K (.ref c_NoPlan) (.ref c_NoNet) = some false)
    (zk_NoPlan_EmptyHeap : PySem.W.kitOne K (.ref c_NoPlan) (.ref c_EmptyHeap) = some false)
    (zk_NoPlan_TooFew : PySem.W.kitOne K (.ref c_NoPlan) (.ref c_TooFew) = some false)
    (zk_NoPlan_TooMany : PySem.W.kitOne K (.ref c_NoPlan) (.ref c_TooMany) = some false)
    (zk_NoPlan_NoPlan : PySem.W.kitOne K (.ref c_NoPlan) (.ref c_NoPlan) = some true)
    (zk_NoPlan_ValueError : PySem.W.kitOne K (.ref c_NoPlan) (.type "ValueError") = some true)
    (zcl_Net : Cls K c_Net)
    (zmk_Net : Mk K c_Net f_Net_init)
    (zna_Net_tools : NoAttr K c_Net "tools")
    (zna_Net_tasks : NoAttr K c_Net "tasks")
    (zna_Net_arcs : NoAttr K c_Net "arcs")
    (zna_Net_apart : NoAttr K c_Net "apart")
    (zna_Net_moments : NoAttr K c_Net "moments")
    : ∃ fd : FuncData, (∀ (s : Shared) (v : Value), BindsTo s fd ⟨[v], []⟩ [("_law_script", v)]) ∧ ∀ base : Heap, K.In base → base.Ns mainGlobals mg → FnOk l.prog w K mg base CX0 8 fa fd ["_law_script"] (spLaw K) := by
  have e := hfa.symm.trans (PySem.W.mg_of X G alaw)
  cases e
  have B : Bn K mg c_EmptyHeap c_Net c_NoNet c_NoPlan c_StoveError c_TooFew c_TooMany f_Net_init := ⟨Exists.intro _ <| PySem.W.mg_of X G zg_MOST_TASKS, Exists.intro _ <| PySem.W.mg_of X G zg_MOST_TOOLS, Exists.intro _ <| PySem.W.mg_of X G zg_MOST_PIECES, Exists.intro _ <| PySem.W.mg_of X G zg_MOST_WAYS, Exists.intro _ <| PySem.W.mg_of X G zg_MOST_MOMENTS, Exists.intro _ <| PySem.W.mg_of X G zg_MOST_ARCS, Exists.intro _ <| PySem.W.mg_of X G zg_MOST_APART, Exists.intro _ <| PySem.W.mg_of X G zg_GREATEST, PySem.W.mg_none_of X G zb_len, PySem.W.mg_none_of X G zb_isinstance, PySem.W.mg_none_of X G zb_int, PySem.W.mg_none_of X G zb_bool, PySem.W.mg_none_of X G zb_range, PySem.W.mg_none_of X G zb_dict, PySem.W.mg_none_of X G zb_list, PySem.W.mg_none_of X G zb_zip, PySem.W.mg_none_of X G zb_abs, PySem.W.mg_none_of X G zb_set, PySem.W.mg_none_of X G zb_max, PySem.W.mg_none_of X G zb_ValueError, PySem.W.mg_of X G zm_EmptyHeap, PySem.W.mg_of X G zm_Net, PySem.W.mg_of X G zm_NoNet, PySem.W.mg_of X G zm_NoPlan, PySem.W.mg_of X G zm_StoveError, PySem.W.mg_of X G zm_TooFew, PySem.W.mg_of X G zm_TooMany, zx_NoPlan, zi_NoPlan, zt_StoveError, zs_NoPlan_StoveError, zk_NoPlan_NoNet, zk_NoPlan_EmptyHeap, zk_NoPlan_TooFew, zk_NoPlan_TooMany, zk_NoPlan_NoPlan, zk_NoPlan_ValueError, zcl_Net, zmk_Net, zna_Net_tools, zna_Net_tasks, zna_Net_arcs, zna_Net_apart, zna_Net_moments⟩
  have Fis_name := funD_mk (st := sis_name) lis_name cis_name kis_name
  have Fpoints_of := funD_mk (st := spoints_of) lpoints_of cpoints_of kpoints_of
  have Fcopy_of_task := funD_mk (st := scopy_of_task) lcopy_of_task ccopy_of_task kcopy_of_task
  have Frefuse_wrong_tools := funD_mk (st := srefuse_wrong_tools) lrefuse_wrong_tools crefuse_wrong_tools krefuse_wrong_tools
  have Frefuse_wrong_uses := funD_mk (st := srefuse_wrong_uses) lrefuse_wrong_uses crefuse_wrong_uses krefuse_wrong_uses
  have Frefuse_wrong_tasks := funD_mk (st := srefuse_wrong_tasks) lrefuse_wrong_tasks crefuse_wrong_tasks krefuse_wrong_tasks
  have Frefuse_wrong_arcs := funD_mk (st := srefuse_wrong_arcs) lrefuse_wrong_arcs crefuse_wrong_arcs krefuse_wrong_arcs
  have Frefuse_wrong_pairs := funD_mk (st := srefuse_wrong_pairs) lrefuse_wrong_pairs crefuse_wrong_pairs krefuse_wrong_pairs
  have FNet_init := funD_mk (st := sNet_init) lNet_init cNet_init kNet_init
  have Fis_plan := funD_mk (st := sis_plan) lis_plan cis_plan kis_plan
  have Ftime_of := funD_mk (st := stime_of) ltime_of ctime_of ktime_of
  have Fbreaches := funD_mk (st := sbreaches) lbreaches cbreaches kbreaches
  have Fplan_fits := funD_mk (st := splan_fits) lplan_fits cplan_fits kplan_fits
  have Flength_of := funD_mk (st := slength_of) llength_of clength_of klength_of
  have Froster := funD_mk (st := sroster) lroster croster kroster
  have F_law_cell_at := funD_mk (st := s_law_cell_at) l_law_cell_at c_law_cell_at k_law_cell_at
  have F_law_whole := funD_mk (st := s_law_whole) l_law_whole c_law_whole k_law_whole
  have F_law_drawn := funD_mk (st := s_law_drawn) l_law_drawn c_law_drawn k_law_drawn
  have F_law_time := funD_mk (st := s_law_time) l_law_time c_law_time k_law_time
  have F_law_spoilt := funD_mk (st := s_law_spoilt) l_law_spoilt c_law_spoilt k_law_spoilt
  have F_law_refused := funD_mk (st := s_law_refused) l_law_refused c_law_refused k_law_refused
  have F_law_times_told := funD_mk (st := s_law_times_told) l_law_times_told c_law_times_told k_law_times_told
  have Flaw := funD_mk (st := slaw) llaw claw klaw
  refine ⟨PySem.W.fnOf "law" "law" (defArgs slaw) (defBody slaw) (defScope slaw) .none kVlaw dclaw pmlaw anlaw cdlaw ctlaw, ?bind, fun base _ _ => ?ok⟩
  case bind => exact fun s v => .of_eq rfl
  case ok =>
    have bis_name := Fis_name.binds0 (ps := ["thing"]) fun _ _ _ _ _ _ => lenOf1 (fun _ => rfl)
    have Dis_name : Dx l.prog w K mg base CX0 1 "is_name" ["thing"] [] spNo := ⟨fis_name, _, okis_name Fis_name B , PySem.W.mg_of X G ais_name, kis_name, bis_name, ⟨[], bis_name, .nil⟩⟩
    have bpoints_of := Fpoints_of.binds0 (ps := ["net"]) fun _ _ _ _ _ _ => lenOf1 (fun _ => rfl)
    have Dpoints_of : Dx l.prog w K mg base CX0 1 "points_of" ["net"] [] (spPoints c_Net) := ⟨fpoints_of, _, okpoints_of Fpoints_of B , PySem.W.mg_of X G apoints_of, kpoints_of, bpoints_of, ⟨[], bpoints_of, .nil⟩⟩
    have bcopy_of_task := Fcopy_of_task.binds0 (ps := ["ways"]) fun _ _ _ _ _ _ => lenOf1 (fun _ => rfl)
    have Dcopy_of_task : Dx l.prog w K mg base CX0 1 "copy_of_task" ["ways"] [] spCopy := ⟨fcopy_of_task, _, okcopy_of_task Fcopy_of_task B , PySem.W.mg_of X G acopy_of_task, kcopy_of_task, bcopy_of_task, ⟨[], bcopy_of_task, .nil⟩⟩
    have brefuse_wrong_tools := Frefuse_wrong_tools.binds0 (ps := ["tools"]) fun _ _ _ _ _ _ => lenOf1 (fun _ => rfl)
    have Drefuse_wrong_tools : Dx l.prog w K mg base CX0 2 "refuse_wrong_tools" ["tools"] [] spRTools := ⟨frefuse_wrong_tools, _, okrefuse_wrong_tools Frefuse_wrong_tools B Dis_name, PySem.W.mg_of X G arefuse_wrong_tools, krefuse_wrong_tools, brefuse_wrong_tools, ⟨[], brefuse_wrong_tools, .nil⟩⟩
    have brefuse_wrong_uses := Frefuse_wrong_uses.binds0 (ps := ["uses", "tools"]) fun _ _ _ _ _ _ => lenOf2 (fun _ _ => rfl)
    have Drefuse_wrong_uses : Dx l.prog w K mg base CX0 1 "refuse_wrong_uses" ["uses", "tools"] [] spRUses := ⟨frefuse_wrong_uses, _, okrefuse_wrong_uses Frefuse_wrong_uses B , PySem.W.mg_of X G arefuse_wrong_uses, krefuse_wrong_uses, brefuse_wrong_uses, ⟨[], brefuse_wrong_uses, .nil⟩⟩
    have brefuse_wrong_tasks := Frefuse_wrong_tasks.binds0 (ps := ["tasks", "tools"]) fun _ _ _ _ _ _ => lenOf2 (fun _ _ => rfl)
    have Drefuse_wrong_tasks : Dx l.prog w K mg base CX0 2 "refuse_wrong_tasks" ["tasks", "tools"] [] spRTasks := ⟨frefuse_wrong_tasks, _, okrefuse_wrong_tasks Frefuse_wrong_tasks B Drefuse_wrong_uses, PySem.W.mg_of X G arefuse_wrong_tasks, krefuse_wrong_tasks, brefuse_wrong_tasks, ⟨[], brefuse_wrong_tasks, .nil⟩⟩
    have brefuse_wrong_arcs := Frefuse_wrong_arcs.binds0 (ps := ["arcs", "points"]) fun _ _ _ _ _ _ => lenOf2 (fun _ _ => rfl)
    have Drefuse_wrong_arcs : Dx l.prog w K mg base CX0 1 "refuse_wrong_arcs" ["arcs", "points"] [] spRArcs := ⟨frefuse_wrong_arcs, _, okrefuse_wrong_arcs Frefuse_wrong_arcs B , PySem.W.mg_of X G arefuse_wrong_arcs, krefuse_wrong_arcs, brefuse_wrong_arcs, ⟨[], brefuse_wrong_arcs, .nil⟩⟩
    have brefuse_wrong_pairs := Frefuse_wrong_pairs.binds0 (ps := ["pairs", "many"]) fun _ _ _ _ _ _ => lenOf2 (fun _ _ => rfl)
    have Drefuse_wrong_pairs : Dx l.prog w K mg base CX0 1 "refuse_wrong_pairs" ["pairs", "many"] [] spRPairs := ⟨frefuse_wrong_pairs, _, okrefuse_wrong_pairs Frefuse_wrong_pairs B , PySem.W.mg_of X G arefuse_wrong_pairs, krefuse_wrong_pairs, brefuse_wrong_pairs, ⟨[], brefuse_wrong_pairs, .nil⟩⟩
    have DNet_init : DxM l.prog w K mg base CX0 3 f_Net_init ["self", "tools", "tasks", "arcs", "apart", "moments"] [.non, .int 0] (spNet c_Net) := ⟨_, okNet_init FNet_init B Dpoints_of Dcopy_of_task Drefuse_wrong_tools Drefuse_wrong_tasks Drefuse_wrong_arcs Drefuse_wrong_pairs, FNet_init.binds (ps := ["self", "tools", "tasks", "arcs", "apart", "moments"]) (ds := []) dNet_init rfl fun _ _ _ _ _ _ us hl => match us, hl with | [_, _, _, _, _, _], _ => ⟨_, rfl, rfl⟩, ⟨[.none, .int 0 TtNet_init], FNet_init.binds (ps := ["self", "tools", "tasks", "arcs", "apart", "moments"]) (ds := [.none, .int 0 TtNet_init]) dNet_init rfl fun _ _ _ _ _ _ us hl => match us, hl with | [_, _, _, _], _ => ⟨_, rfl, rfl⟩ | [], h => absurd h (by simp) | [_], h => absurd h (by simp) | [_, _], h => absurd h (by simp) | [_, _, _], h => absurd h (by simp) | _ :: _ :: _ :: _ :: _ :: _, h => absurd h (by simp), .cons rfl (.cons ⟨_, rfl⟩ .nil)⟩⟩
    have bis_plan := Fis_plan.binds0 (ps := ["net", "plan"]) fun _ _ _ _ _ _ => lenOf2 (fun _ _ => rfl)
    have Dis_plan : Dx l.prog w K mg base CX0 1 "is_plan" ["net", "plan"] [] (spIsPlanB c_Net) := ⟨fis_plan, _, okis_plan Fis_plan B , PySem.W.mg_of X G ais_plan, kis_plan, bis_plan, ⟨[], bis_plan, .nil⟩⟩
    have btime_of := Ftime_of.binds0 (ps := ["plan", "point"]) fun _ _ _ _ _ _ => lenOf2 (fun _ _ => rfl)
    have Dtime_of : Dx l.prog w K mg base CX0 1 "time_of" ["plan", "point"] [] spTimeOf := ⟨ftime_of, _, oktime_of Ftime_of B , PySem.W.mg_of X G atime_of, ktime_of, btime_of, ⟨[], btime_of, .nil⟩⟩
    have bbreaches := Fbreaches.binds0 (ps := ["net", "plan"]) fun _ _ _ _ _ _ => lenOf2 (fun _ _ => rfl)
    have Xbreaches : Dx l.prog w K mg base (CX1 l.prog w) 2 "breaches" ["net", "plan"] [] (spBad c_Net c_NoPlan) := ⟨fbreaches, _, okbreaches Fbreaches B Dis_plan, PySem.W.mg_of X G abreaches, kbreaches, bbreaches, ⟨[], bbreaches, .nil⟩⟩
    have Dbreaches : Dx l.prog w K mg base CX0 2 "breaches" ["net", "plan"] [] spNo := Xbreaches.calm (fun _ _ _ _ => bad_of)
    have bplan_fits := Fplan_fits.binds0 (ps := ["net", "plan"]) fun _ _ _ _ _ _ => lenOf2 (fun _ _ => rfl)
    have Xplan_fits : Dx l.prog w K mg base (CX1 l.prog w) 3 "plan_fits" ["net", "plan"] [] (spBad c_Net c_NoPlan) := ⟨fplan_fits, _, okplan_fits Fplan_fits B Xbreaches, PySem.W.mg_of X G aplan_fits, kplan_fits, bplan_fits, ⟨[], bplan_fits, .nil⟩⟩
    have Dplan_fits : Dx l.prog w K mg base CX0 3 "plan_fits" ["net", "plan"] [] spNo := Xplan_fits.calm (fun _ _ _ _ => bad_of)
    have blength_of := Flength_of.binds0 (ps := ["plan"]) fun _ _ _ _ _ _ => lenOf1 (fun _ => rfl)
    have Dlength_of : Dx l.prog w K mg base CX0 2 "length_of" ["plan"] [] spLenP := ⟨flength_of, _, oklength_of Flength_of B Dtime_of, PySem.W.mg_of X G alength_of, klength_of, blength_of, ⟨[], blength_of, .nil⟩⟩
    have broster := Froster.binds0 (ps := ["net", "plan"]) fun _ _ _ _ _ _ => lenOf2 (fun _ _ => rfl)
    have Xroster : Dx l.prog w K mg base (CX1 l.prog w) 4 "roster" ["net", "plan"] [] (spBad c_Net c_NoPlan) := ⟨froster, _, okroster Froster B Xplan_fits, PySem.W.mg_of X G aroster, kroster, broster, ⟨[], broster, .nil⟩⟩
    have Droster : Dx l.prog w K mg base CX0 4 "roster" ["net", "plan"] [] spNo := Xroster.calm (fun _ _ _ _ => bad_of)
    have b_law_cell_at := F_law_cell_at.binds0 (ps := ["_law_script", "_law_k"]) fun _ _ _ _ _ _ => lenOf2 (fun _ _ => rfl)
    have D_law_cell_at : Dx l.prog w K mg base CX0 1 "_law_cell_at" ["_law_script", "_law_k"] [] (spCell K) := ⟨f_law_cell_at, _, ok_law_cell_at F_law_cell_at B , PySem.W.mg_of X G a_law_cell_at, k_law_cell_at, b_law_cell_at, ⟨[], b_law_cell_at, .nil⟩⟩
    have b_law_whole := F_law_whole.binds0 (ps := ["_law_found"]) fun _ _ _ _ _ _ => lenOf1 (fun _ => rfl)
    have D_law_whole : Dx l.prog w K mg base CX0 1 "_law_whole" ["_law_found"] [] spWhole := ⟨f_law_whole, _, ok_law_whole F_law_whole B , PySem.W.mg_of X G a_law_whole, k_law_whole, b_law_whole, ⟨[], b_law_whole, .nil⟩⟩
    have b_law_drawn := F_law_drawn.binds0 (ps := ["_law_cell", "_law_many"]) fun _ _ _ _ _ _ => lenOf2 (fun _ _ => rfl)
    have D_law_drawn : Dx l.prog w K mg base CX0 1 "_law_drawn" ["_law_cell", "_law_many"] [] spDrawnB := ⟨f_law_drawn, _, ok_law_drawn F_law_drawn B , PySem.W.mg_of X G a_law_drawn, k_law_drawn, b_law_drawn, ⟨[], b_law_drawn, .nil⟩⟩
    have b_law_time := F_law_time.binds0 (ps := ["_law_x", "_law_y"]) fun _ _ _ _ _ _ => lenOf2 (fun _ _ => rfl)
    have D_law_time : Dx l.prog w K mg base CX0 1 "_law_time" ["_law_x", "_law_y"] [] spTimeB := ⟨f_law_time, _, ok_law_time F_law_time B , PySem.W.mg_of X G a_law_time, k_law_time, b_law_time, ⟨[], b_law_time, .nil⟩⟩
    have b_law_spoilt := F_law_spoilt.binds0 (ps := ["_law_runs", "_law_times", "_law_tasks", "_law_kind", "_law_x"]) fun _ _ _ _ _ _ => lenOf5 (fun _ _ _ _ _ => rfl)
    have D_law_spoilt : Dx l.prog w K mg base CX0 1 "_law_spoilt" ["_law_runs", "_law_times", "_law_tasks", "_law_kind", "_law_x"] [] spSpoiltP := ⟨f_law_spoilt, _, ok_law_spoilt F_law_spoilt B , PySem.W.mg_of X G a_law_spoilt, k_law_spoilt, b_law_spoilt, ⟨[], b_law_spoilt, .nil⟩⟩
    have b_law_refused := F_law_refused.binds0 (ps := ["_law_net", "_law_plan", "_law_which"]) fun _ _ _ _ _ _ => lenOf3 (fun _ _ _ => rfl)
    have D_law_refused : Dx l.prog w K mg base CX0 5 "_law_refused" ["_law_net", "_law_plan", "_law_which"] [] (spRefusedP c_Net) := ⟨f_law_refused, _, ok_law_refused F_law_refused B Xbreaches Xplan_fits Xroster, PySem.W.mg_of X G a_law_refused, k_law_refused, b_law_refused, ⟨[], b_law_refused, .nil⟩⟩
    have b_law_times_told := F_law_times_told.binds0 (ps := ["_law_plan"]) fun _ _ _ _ _ _ => lenOf1 (fun _ => rfl)
    have D_law_times_told : Dx l.prog w K mg base CX0 3 "_law_times_told" ["_law_plan"] [] spTimesTold := ⟨f_law_times_told, _, ok_law_times_told F_law_times_told B Dtime_of Dlength_of D_law_whole, PySem.W.mg_of X G a_law_times_told, k_law_times_told, b_law_times_told, ⟨[], b_law_times_told, .nil⟩⟩
    exact oklaw Flaw B DNet_init Dis_plan D_law_cell_at D_law_drawn D_law_time D_law_spoilt D_law_refused D_law_times_told
theorem walk {l : PySem.W.OpenLaw} {q : Program} {loose : List Str} {XP : (Str → Option Value) → Heap → Prop} {YP : World → Heap → Prop} {d : DefRec} {K : Params → PySem.W.Frag} (hn : l.most = some 63) (hdf : d.params.defaults = [])
    (hY : ∀ (w : World) (h : Heap), YP w h → (K w.params).In h)
    (F : ∀ (w : World) (mg : Str → Option Value) (fa : Addr) (h : Heap), (K w.params).In h → h.Ns mainGlobals mg → mg d.name = some (.ref fa) →
      ∃ fd : FuncData, (∀ (s : Shared) (u : Value), BindsTo s fd ⟨[u], []⟩ [("_law_script", u)]) ∧ ∀ base : Heap, (K w.params).In base → base.Ns mainGlobals mg → FnOk l.prog w (K w.params) mg base CX0 8 fa fd ["_law_script"] (spLaw (K w.params))) :
    PySem.W.WalkO q loose XP YP l.row.toRowW d [] (fun f vs => PySem.call f vs) :=
  L2.walk_of (n := 63) (k := 8) (x := "_law_script") (CX := fun _ => CX0) (sp := fun w => spLaw (K w.params)) hn (by decide) hdf ⟨rfl, by decide, by decide⟩ hY F (fun _ _ a ns hl _ hS => ⟨a, ns, rfl, hS, hl, fun _ => rfl⟩) fun _ _ _ _ _ z => z
end Lk52
namespace Lk52
open PySem PySem.W PyProof.Rows
def qv : Program := { PySem.Challenge.pw_stovework_k52_plans_and_none with main := { PySem.Challenge.pw_stovework_k52_plans_and_none.main with body := ([1, 2, 3, 4, 5, 6, 7, 9, 10, 11, 13, 14, 15, 16, 17, 18, 19, 20, 21, 22, 23, 24, 25, 26, 27, 28, 30, 31, 32, 33, 34, 35, 36, 37, 38, 39, 40, 41, 42, 43, 45, 46, 47, 48, 50, 51, 52, 53, 54, 55, 56, 57] : List Nat).filterMap fun i => PySem.Challenge.pw_stovework_k52_plans_and_none.main.body[i]? } }
def lo : List Str := []
/-- what the head asks of the text, but the run of its top -/
theorem head {α : Type} {Yf : Shared → α} {Ya : World → α} {YP : World → Heap → Prop} {d : DefRec} {kwd : List (Str × Expr)} (left : LeftO PySem.Challenge.pw_stovework_k52_plans_and_none qv lo (fun s => xlAt qv [] s && recOk [] s) Yf Ya 5554)
    (hY : ∀ w s, Yf s = Ya w → YP w s.heap) (hYk : ∀ w h h', YP w h → (∀ b o, h.get? b = some o → h'.get? b = some o) → YP w h') (hd : defOf qv PySem.Challenge.rw_stovework_k52_plans_and_none.row.name = some (d, kwd))
    (hp : PySem.Challenge.rw_stovework_k52_plans_and_none.row.prog.theDef PySem.Challenge.rw_stovework_k52_plans_and_none.row.name = some (d.params, d.body, d.scope)) (hk : kwWritten? d.params.kwonlyargs d.params.kw_defaults = some kwd)
    (said : PySem.Challenge.rw_stovework_k52_plans_and_none.row.wellSaid = true) (hw : PySem.Challenge.rw_stovework_k52_plans_and_none.row.toRowW.promised) (call : WalkO qv lo (XL qv []) YP PySem.Challenge.rw_stovework_k52_plans_and_none.row.toRowW d kwd fun f vs => PySem.call f vs) : PySem.Challenge.rw_stovework_k52_plans_and_none.row.Holds :=
  holds_open left hY hYk (fun s e => xl_of s (Bool.and_eq_true_iff.mp e).1) XL.keeps hd hp hk (fun s e => recFacts_of (Bool.and_eq_true_iff.mp e).2) rfl said (by decide +kernel) ⟨rfl, rfl, rfl, rfl, rfl, by decide +kernel⟩ hw call
end Lk52
local macro_rules | `(tactic| o_head $H) => `(tactic| refine Lk52.head (Yf := PySem.W.Hook.obs $H) (Ya := PySem.W.Hook.val $H) (YP := PySem.W.Hook.says $H) ?hl (PySem.W.Hook.of $H) (PySem.W.Hook.keeps $H) (by rfl) (by rfl) (by rfl) (by assumption) ?hw ?hc)
open PySem PySem.W PyProof.Rows
set_option maxRecDepth 100000 in
set_option maxHeartbeats 0 in
theorem PySem.Challenge.cw_stovework_k52_plans_and_none_holds : PySem.Challenge.rw_stovework_k52_plans_and_none.Holds := by
  w_on; o_law; k_head
  (case hl =>
    intro w
    unfold PySem.W.openEnds PySem.W.fencedOpening PySem.W.topFrom
    rw [PySem.W.Fast.te14082659384304107361, PySem.W.Fast.te10274390034422433532, PySem.W.Fast.te14289696077712309145, PySem.W.Fast.te4187177175401517315, PySem.W.Fast.te14364793385576792824]
    kernel_rfl)
  (case hw => w_witness2)
  k_fill
  refine Lk52.walk (l := PySem.Challenge.rw_stovework_k52_plans_and_none) rfl rfl (fun w h Y => PySem.W.kIn_of Y) ?F
  case F =>
    intro w mg fa h KX G hmg
    refine' Lk52.all_mk KX G hmg ?h0 ?h1 ?h2 ?h3 ?h4 ?h5 ?h6 ?h7 ?h8 ?h9 ?h10 ?h11 ?h12 ?h13 ?h14 ?h15 ?h16 ?h17 ?h18 ?h19 ?h20 ?h21 ?h22 ?h23 ?h24 ?h25 ?h26 ?h27 ?h28 ?h29 ?h30 ?h31 ?h32 ?h33 ?h34 ?h35 ?h36 ?h37 ?h38 ?h39 ?h40 ?h41 ?h42 ?h43 ?h44 ?h45 ?h46 ?h47 ?h48 ?h49 ?h50 ?h51 ?h52 ?h53 ?h54 ?h55 ?h56 ?h57 ?h58 ?h59 ?h60 ?h61 ?h62 ?h63 ?h64 ?h65 ?h66 ?h67 ?h68 ?h69 ?h70 ?h71 ?h72 ?h73 ?h74 ?h75 ?h76 ?h77 ?h78 ?h79 ?h80 ?h81 ?h82 ?h83 ?h84 ?h85 ?h86 ?h87 ?h88 ?h89 ?h90 ?h91 ?h92 ?h93 ?h94 ?h95 ?h96 ?h97 ?h98 ?h99 ?h100 ?h101 ?h102 ?h103 ?h104 ?h105 ?h106 ?h107 ?h108 ?h109 ?h110 ?h111 ?h112 ?h113 ?h114 ?h115 ?h116 ?h117 ?h118 ?h119 ?h120 ?h121 ?h122 ?h123 ?h124 ?h125 ?h126 ?h127 ?h128 ?h129 ?h130 ?h131 ?h132 ?h133 ?h134 ?h135 ?h136
    (case h0 => k_is)
    (case h1 => k_is)
    (case h2 => k_is)
    (case h3 => k_is)
    (case h4 => k_is)
    (case h5 => k_is)
    (case h6 => k_is)
    (case h7 => k_is)
    (case h8 => k_is)
    (case h9 => k_is)
    (case h10 => k_is)
    (case h11 => k_is)
    (case h12 => k_is)
    (case h13 => k_is)
    (case h14 => k_is)
    (case h15 => k_is)
    (case h16 => k_is)
    (case h17 => k_is)
    (case h18 => k_is)
    (case h19 => k_is)
    (case h20 => k_is)
    (case h21 => k_is)
    (case h22 => k_is)
    (case h23 => k_is)
    (case h24 => k_is)
    (case h25 => k_is)
    (case h26 => k_is)
    (case h27 => k_is)
    (case h28 => k_is)
    (case h29 => k_is)
    (case h30 => k_is)
    (case h31 => k_is)
    (case h32 => k_is)
    (case h33 => k_is)
    (case h34 => k_is)
    (case h35 => k_is)
    (case h36 => k_is)
    (case h37 => k_is)
    (case h38 => k_is)
    (case h39 => k_is)
    (case h40 => k_is)
    (case h41 => k_is)
    (case h42 => k_is)
    (case h43 => k_is)
    (case h44 => k_is)
    (case h45 => k_is)
    (case h46 => k_is)
    (case h47 => k_is)
    (case h48 => k_is)
    (case h49 => k_is)
    (case h50 => k_is)
    (case h51 => k_is)
    (case h52 => k_is)
    (case h53 => k_is)
    (case h54 => k_is)
    (case h55 => k_is)
    (case h56 => k_is)
    (case h57 => k_is)
    (case h58 => k_is)
    (case h59 => k_is)
    (case h60 => k_is)
    (case h61 => k_is)
    (case h62 => k_is)
    (case h63 => k_is)
    (case h64 => k_is)
    (case h65 => k_is)
    (case h66 => k_is)
    (case h67 => k_is)
    (case h68 => k_is)
    (case h69 => k_is)
    (case h70 => k_is)
    (case h71 => k_is)
    (case h72 => k_is)
    (case h73 => k_is)
    (case h74 => k_is)
    (case h75 => k_is)
    (case h76 => k_is)
    (case h77 => k_is)
    (case h78 => k_is)
    (case h79 => k_is)
    (case h80 => k_is)
    (case h81 => k_is)
    (case h82 => k_is)
    (case h83 => k_is)
    (case h84 => k_is)
    (case h85 => k_is)
    (case h86 => k_is)
    (case h87 => k_is)
    (case h88 => k_is)
    (case h89 => k_is)
    (case h90 => k_is)
    (case h91 => k_is)
    (case h92 => k_is)
    (case h93 => k_is)
    (case h94 => k_is)
    (case h95 => k_is)
    (case h96 => k_is)
    (case h97 => k_is)
    (case h98 => k_is)
    (case h99 => k_is)
    (case h100 => k_is)
    (case h101 => k_is)
    (case h102 => k_is)
    (case h103 => k_is)
    (case h104 => k_is)
    (case h105 => k_is)
    (case h106 => k_is)
    (case h107 => k_is)
    (case h108 => k_is)
    (case h109 => k_is)
    (case h110 => k_is)
    (case h111 => k_is)
    (case h112 => k_is)
    (case h113 => k_is)
    (case h114 => k_is)
    (case h115 => k_is)
    (case h116 => k_is)
    (case h117 => k_is)
    (case h118 => k_is)
    (case h119 => k_is)
    (case h120 => kernel_rfl)
    (case h121 => exact ⟨⟨by k_is, by k_is, by k_is⟩, by kernel_rfl, by k_is, by k_is, by k_is, by k_is⟩)
    (case h122 => exact ⟨by k_is, by kernel_rfl, by k_is⟩)
    (case h123 => k_is)
    (case h124 => kernel_rfl)
    (case h125 => kernel_rfl)
    (case h126 => kernel_rfl)
    (case h127 => kernel_rfl)
    (case h128 => kernel_rfl)
    (case h129 => kernel_rfl)
    (case h130 => exact ⟨by k_is, by k_is, by k_is, by k_is⟩)
    (case h131 => exact ⟨by k_is, by k_is, by k_is, by k_is⟩)
    (case h132 => unfold L2.NoAttr; k_is)
    (case h133 => unfold L2.NoAttr; k_is)
    (case h134 => unfold L2.NoAttr; k_is)
    (case h135 => unfold L2.NoAttr; k_is)
    (case h136 => unfold L2.NoAttr; k_is)
