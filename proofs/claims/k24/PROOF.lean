import PyProof.Rows.All
import Wide.All
import OpenK.AllK
import Wide.FinOn
import Lean
import PyProof.EqAt
import PyProof.EqKinds
import PyProof.TupleCall
import PyProof.NeKinds
import PyProof.StationsW
import PyProof.RulesAs
import PyProof.ExcArgsOwn
import PyProof.CompFree
import PyProof.ExcInit
import PyProof.ConsumeWalk
import PyProof.Rows.SeqGen
import PyProof.StrWalks
import PyProof.SliceStr2
import PyProof.MeetsStr
import KE.KIntText
import PyProof.Rows.FStr
import PyProof.StrCalls6
import PyProof.StrBlockL
import PyProof.ToksMono
import PyProof.WalkInts
import PyProof.Rows.MinMaxN
import PyProof.StrLawsReplace
import PyProof.StrLawsTight
import PyProof.Rows.StrLawsPart
import PyProof.DictWalks
import KE.KEqDict
import KE.KDictLaws
import KE.KRevIter
import PyProof.ListCopy
import PyProof.CollectIter
import PyProof.Rows.SetFrom
import PyProof.Rows.SortShellK
import PyProof.Rows.SortStr
import PyProof.Rows.SortWalk
import KE.KDictSum
import KE.KSortTup
import PyProof.TupleOfSeq
import PyProof.Rows.SortRuns
import PyProof.FactsAll.tuple_2
import PyProof.WalksEnum
import PyProof.EnumMake
import PyProof.EnumFor
import PyProof.ZipIter
import KE.KDictOf
import PyProof.DictItems
import PyProof.FactsAll.dict_itemiterator_1
import PyProof.MeetsSeq3
import PyProof.FactsAll.list_2
import PyProof.Rows.StrRules
import PySem.Challenge.RW_stovework_k24_ways_out
set_option Elab.async false
set_option linter.all false
set_option maxRecDepth 100000
namespace So
open PySem PyProof.Rows
def gallop' : Bool → Keyed → Array Keyed → Nat → Nat → Nat → StateT SortSt Sem (Option Nat) := sortPriv% PySem.Builtin.gallop
def mergeLo' : Array Keyed → Array Keyed → StateT SortSt Sem (Array Keyed) := sortPriv% PySem.Builtin.mergeLo
def mergeHi' : Array Keyed → Array Keyed → StateT SortSt Sem (Array Keyed) := sortPriv% PySem.Builtin.mergeHi
/-- the key of an entry -/
def kk (κ : KeyKind) (p : Keyed) : κ.α := (κ.keyOf p.1).getD κ.dflt
def Kd (κ : KeyKind) (p : Keyed) : Prop := ∃ a, κ.keyOf p.1 = some a
/-- what a comparison answers, by the keys -/
def LtS (prog : Program) (w : World) (A : Around) (E : Value → Shared → Prop) (s : Shared) (κ : KeyKind) (kd : SortKind) : Prop := ∀ (st : SortSt) (x y : Keyed) (Q : Option Bool → SortSt → Prop), kindOf st = kd → Kd κ x → Kd κ y → Q (some (κ.blt (kk κ x) (kk κ y))) st → wpS (model prog w) A E s (lt' x y) Q st
section
variable {prog : Program} {w : World} {A : Around} {E : Value → Shared → Prop} {s : Shared} {κ : KeyKind} {kd : SortKind}
theorem wpS_open {α β : Type} {st : SortSt} {x : StateT SortSt Sem α} {f : α → StateT SortSt Sem β} {Q : β → SortSt → Prop} (h : wpS (model prog w) A E s (x >>= f) Q st) : wpS (model prog w) A E s (x >>= f) Q st := h
theorem wpS_lt (hO : LtS prog w A E s κ kd) {st : SortSt} {x y : Keyed} {Q : Option Bool → SortSt → Prop} (hk : kindOf st = kd) (hx : Kd κ x) (hy : Kd κ y) (h : Q (some (κ.blt (kk κ x) (kk κ y))) st) : wpS (model prog w) A E s (lt' x y) Q st := hO st x y Q hk hx hy h
theorem wpS_elem {st : SortSt} {arr : Array Keyed} {i : Nat} {p : Keyed} {Q : Keyed → SortSt → Prop} (e : arr[i]? = some p) (h : Q p st) : wpS (model prog w) A E s (elem' arr i) Q st := by
  rw [elem'_eq, e]
  exact wpS_pure h
def bq (κ : KeyKind) (left : Bool) (key x : Keyed) : Bool := if left = true then κ.blt (kk κ x) (kk κ key) else !κ.blt (kk κ key) (kk κ x)
theorem wpS_beyond (hO : LtS prog w A E s κ kd) {st : SortSt} {arr : Array Keyed} {i : Nat} {left : Bool} {key x : Keyed} {Q : Option Bool → SortSt → Prop} (hk : kindOf st = kd) (e : arr[i]? = some x) (hx : Kd κ x) (hy : Kd κ key) (h : Q (some (bq κ left key x)) st) :
    wpS (model prog w) A E s (elem' arr i >>= fun x => if left = true then lt' x key else lt' key x >>= fun r => pure (Option.map (fun x => !x) r)) Q st := by
  refine wpS_bind (wpS_elem e ?_)
  cases left with
  | true =>
    rw [if_pos rfl]
    exact wpS_lt hO hk hx hy h
  | false =>
    rw [if_neg (by decide)]
    exact wpS_bind (wpS_lt hO hk hy hx (wpS_pure h))
theorem wpS_gallop (hO : LtS prog w A E s κ kd) {st : SortSt} {left : Bool} {key : Keyed} {arr : Array Keyed} {base n hint : Nat} {Q : Option Nat → SortSt → Prop} (hk : kindOf st = kd) (hy : Kd κ key) (f : Nat → Bool)
    (seg : ∀ i, i < n → ∃ x, arr[base + i]? = some x ∧ Kd κ x ∧ bq κ left key x = f i) (anti : ∀ i j, i ≤ j → j < n → f j = true → f i = true) (hh : hint < n)
    (h : ∀ k, k ≤ n → (∀ i, i < k → f i = true) → (∀ i, k ≤ i → i < n → f i = false) → Q (some k) st) : wpS (model prog w) A E s (gallop' left key arr base n hint) Q st := by
  have bey : ∀ {i : Nat} {Q : Option Bool → SortSt → Prop}, i < n → Q (some (f i)) st → wpS (model prog w) A E s (elem' arr (base + i) >>= fun x => if left = true then lt' x key else lt' key x >>= fun r => pure (Option.map (fun x => !x) r)) Q st := fun {i Q} hi hq => by
    obtain ⟨x, e, hx, hf⟩ := seg i hi
    exact wpS_beyond hO hk e hx hy (by rw [hf]; exact hq)
  have anti' : ∀ i j, i ≤ j → j < n → f i = false → f j = false := fun i j hij hj hf => by
    cases hc : f j with
    | false => rfl
    | true => rw [anti i j hij hj hc] at hf; cases hf
  unfold gallop'
  refine wpS_open ?_
  dsimp only
  refine wpS_bind (bey hh ?_)
  dsimp only
  cases hf : f hint with
  | true =>
    rw [if_pos rfl]
    refine wpS_bind (wpS_mono (wpS_forRange (I := fun x c st' => st' = st ∧ ∃ l o, c = (none, l, o) ∧ hint + l < n ∧ f (hint + l) = true ∧ l < o ∧ x + 1 ≤ o)
      (Q := fun c st' => st' = st ∧ ∃ l o, c = (none, l, o) ∧ hint + l < n ∧ f (hint + l) = true ∧ l < o ∧ (n - hint ≤ o ∨ f (hint + o) = false)) ?s1 ?e1 ⟨rfl, 0, 1, rfl, hh, hf, by omega, by omega⟩) ?p1)
    case e1 =>
      rintro c st' ⟨rfl, l, o, rfl, h1, h2, h3, h4⟩
      exact ⟨rfl, l, o, rfl, h1, h2, h3, .inl (by omega)⟩
    case s1 =>
      rintro x c st' _ hx ⟨rfl, l, o, rfl, h1, h2, h3, h4⟩
      dsimp only
      by_cases c : o ≥ n - hint
      · rw [if_pos c]
        exact wpS_pure ⟨rfl, l, o, rfl, h1, h2, h3, .inl c⟩
      · rw [if_neg c]
        refine wpS_bind (bey (by omega) ?_)
        dsimp only
        cases hg : f (hint + o) with
        | true => exact wpS_pure ⟨rfl, o, 2 * o + 1, rfl, by omega, hg, by omega, by omega⟩
        | false => exact wpS_pure ⟨rfl, l, o, rfl, h1, h2, h3, .inr hg⟩
    case p1 =>
      rintro c st' ⟨rfl, l, o, rfl, h1, h2, h3, h4⟩
      dsimp only
      refine wpS_bind (wpS_mono (wpS_forRange (I := fun x c st'' => st'' = st' ∧ ∃ l o, c = (none, l, o) ∧ l ≤ o ∧ o ≤ n ∧ (∀ i, i < l → f i = true) ∧ (∀ i, o ≤ i → i < n → f i = false) ∧ o - l + x ≤ n)
        (Q := fun c st'' => st'' = st' ∧ ∃ k, c = (none, k, k) ∧ k ≤ n ∧ (∀ i, i < k → f i = true) ∧ (∀ i, k ≤ i → i < n → f i = false)) ?s2 ?e2 ⟨rfl, _, _, rfl, by omega, by omega, fun i hi => anti i (hint + l) (by omega) h1 h2, fun i hi hn => ?q2, by omega⟩) ?p2)
      case q2 =>
        rcases h4 with h4 | h4
        · omega
        · exact anti' (hint + o) i (by omega) hn h4
      case e2 =>
        rintro c st'' ⟨rfl, l, o, rfl, g1, g2, g3, g4, g5⟩
        have : l = o := by omega
        subst this
        exact ⟨rfl, l, rfl, g2, g3, g4⟩
      case s2 =>
        rintro x c st'' _ hx ⟨rfl, l, o, rfl, g1, g2, g3, g4, g5⟩
        dsimp only
        by_cases c : l ≥ o
        · rw [if_pos c]
          have : l = o := by omega
          subst this
          exact wpS_pure ⟨rfl, l, rfl, g2, g3, g4⟩
        · rw [if_neg c]
          refine wpS_bind (bey (by omega) ?_)
          dsimp only
          cases hg : f (l + (o - l) / 2) with
          | true => exact wpS_pure ⟨rfl, _, _, rfl, by omega, g2, fun i hi => anti i _ (by omega) (by omega) hg, g4, by omega⟩
          | false => exact wpS_pure ⟨rfl, _, _, rfl, by omega, by omega, g3, fun i hi hn => anti' _ i (by omega) hn hg, by omega⟩
      case p2 =>
        rintro c st'' ⟨rfl, k, rfl, g1, g2, g3⟩
        exact wpS_pure (h k g1 g2 g3)
  | false =>
    rw [if_neg (by decide)]
    refine wpS_bind (wpS_mono (wpS_forRange (I := fun x c st' => st' = st ∧ ∃ l o, c = (none, l, o) ∧ l ≤ hint ∧ f (hint - l) = false ∧ l < o ∧ x + 1 ≤ o)
      (Q := fun c st' => st' = st ∧ ∃ l o, c = (none, l, o) ∧ l ≤ hint ∧ f (hint - l) = false ∧ l < o ∧ (hint + 1 ≤ o ∨ f (hint - o) = true)) ?us1 ?ue1 ⟨rfl, 0, 1, rfl, by omega, hf, by omega, by omega⟩) ?up1)
    case ue1 =>
      rintro c st' ⟨rfl, l, o, rfl, h1, h2, h3, h4⟩
      exact ⟨rfl, l, o, rfl, h1, h2, h3, .inl (by omega)⟩
    case us1 =>
      rintro x c st' _ hx ⟨rfl, l, o, rfl, h1, h2, h3, h4⟩
      dsimp only
      by_cases c : o ≥ hint + 1
      · rw [if_pos c]
        exact wpS_pure ⟨rfl, l, o, rfl, h1, h2, h3, .inl c⟩
      · rw [if_neg c]
        refine wpS_bind (bey (by omega) ?_)
        dsimp only
        cases hg : f (hint - o) with
        | false => exact wpS_pure ⟨rfl, o, 2 * o + 1, rfl, by omega, hg, by omega, by omega⟩
        | true => exact wpS_pure ⟨rfl, l, o, rfl, h1, h2, h3, .inr hg⟩
    case up1 =>
      rintro c st' ⟨rfl, l, o, rfl, h1, h2, h3, h4⟩
      dsimp only
      refine wpS_bind (wpS_mono (wpS_forRange (I := fun x c st'' => st'' = st' ∧ ∃ l o, c = (none, l, o) ∧ l ≤ o ∧ o ≤ n ∧ (∀ i, i < l → f i = true) ∧ (∀ i, o ≤ i → i < n → f i = false) ∧ o - l + x ≤ n)
        (Q := fun c st'' => st'' = st' ∧ ∃ k, c = (none, k, k) ∧ k ≤ n ∧ (∀ i, i < k → f i = true) ∧ (∀ i, k ≤ i → i < n → f i = false)) ?us2 ?ue2 ⟨rfl, _, _, rfl, by omega, by omega, fun i hi => ?uq2, fun i hi hn => anti' _ i hi hn h2, by omega⟩) ?up2)
      case uq2 =>
        rcases h4 with h4 | h4
        · omega
        · exact anti i (hint - o) (by omega) (by omega) h4
      case ue2 =>
        rintro c st'' ⟨rfl, l, o, rfl, g1, g2, g3, g4, g5⟩
        have : l = o := by omega
        subst this
        exact ⟨rfl, l, rfl, g2, g3, g4⟩
      case us2 =>
        rintro x c st'' _ hx ⟨rfl, l, o, rfl, g1, g2, g3, g4, g5⟩
        dsimp only
        by_cases c : l ≥ o
        · rw [if_pos c]
          have : l = o := by omega
          subst this
          exact wpS_pure ⟨rfl, l, rfl, g2, g3, g4⟩
        · rw [if_neg c]
          refine wpS_bind (bey (by omega) ?_)
          dsimp only
          cases hg : f (l + (o - l) / 2) with
          | true => exact wpS_pure ⟨rfl, _, _, rfl, by omega, g2, fun i hi => anti i _ (by omega) (by omega) hg, g4, by omega⟩
          | false => exact wpS_pure ⟨rfl, _, _, rfl, by omega, by omega, g3, fun i hi hn => anti' _ i (by omega) hn hg, by omega⟩
      case up2 =>
        rintro c st'' ⟨rfl, k, rfl, g1, g2, g3⟩
        exact wpS_pure (h k g1 g2 g3)
end
end So
set_option Elab.async false
set_option linter.all false
set_option maxRecDepth 100000
namespace So
open PySem PyProof.Rows
def setG (st : SortSt) (g : Nat) : SortSt := SortSt.mk' (kindOf st) (arrOf st) (pendingOf st) g (failedOf st)
def setMinGallop' : Nat → StateT SortSt Sem Unit := sortPriv% PySem.Builtin.setMinGallop
def GEq (st st' : SortSt) : Prop := kindOf st' = kindOf st ∧ arrOf st' = arrOf st ∧ pendingOf st' = pendingOf st ∧ failedOf st' = failedOf st
theorem GEq.refl (st : SortSt) : GEq st st := ⟨rfl, rfl, rfl, rfl⟩
theorem GEq.set {st st' : SortSt} (h : GEq st st') (g : Nat) : GEq st (setG st' g) := ⟨h.1, h.2.1, h.2.2.1, h.2.2.2⟩
/-- not behind -/
def Lq (κ : KeyKind) (p q : Keyed) : Prop := κ.kle (kk κ p) (kk κ q)
section
variable {κ : KeyKind} {kd : SortKind} {a b out : Array Keyed} {ia ib : Nat}
structure Mg (κ : KeyKind) (a b out : Array Keyed) (ia ib : Nat) : Prop where
  perm : (out.toList ++ (a.toList.drop ia ++ b.toList.drop ib)).Perm (a.toList ++ b.toList)
  srt : out.toList.Pairwise (Lq κ)
  lea : ∀ x ∈ out.toList, ∀ y ∈ a.toList.drop ia, Lq κ x y
  leb : ∀ x ∈ out.toList, ∀ y ∈ b.toList.drop ib, Lq κ x y
def MFin (κ : KeyKind) (a b r : Array Keyed) : Prop := r.toList.Perm (a.toList ++ b.toList) ∧ r.toList.Pairwise (Lq κ)
theorem Mg.pushB (h : Mg κ a b out ia ib) (sb : b.toList.Pairwise (Lq κ)) {y : Keyed} (e : b[ib]? = some y) (hy : ∀ z ∈ a.toList.drop ia, Lq κ y z) : Mg κ a b (out.push y) ia (ib + 1) := by
  have e' : b.toList[ib]? = some y := by simpa using e
  have dr : b.toList.drop ib = y :: b.toList.drop (ib + 1) := by
    obtain ⟨l, g⟩ := List.getElem?_eq_some_iff.mp e'
    rw [List.drop_eq_getElem_cons l, g]
  have sb' : (y :: b.toList.drop (ib + 1)).Pairwise (Lq κ) := by rw [← dr]; exact sb.drop
  have sb2 := List.pairwise_cons.mp sb'
  have lb := h.leb
  have pm := h.perm
  rw [dr] at lb pm
  refine ⟨?_, ?_, ?_, ?_⟩
  · rw [Array.toList_push, List.append_assoc]
    refine List.Perm.trans (List.Perm.append_left _ ?_) pm
    show (y :: (List.drop ia a.toList ++ List.drop (ib + 1) b.toList)).Perm _
    exact (List.perm_middle).symm
  · rw [Array.toList_push, List.pairwise_append]
    refine ⟨h.srt, by simp, fun x hx z hz => ?_⟩
    simp at hz
    rw [hz]
    exact lb x hx y (by simp)
  · intro x hx z hz
    rw [Array.toList_push] at hx
    rcases List.mem_append.mp hx with k | k
    · exact h.lea x k z hz
    · simp at k
      rw [k]
      exact hy z hz
  · intro x hx z hz
    rw [Array.toList_push] at hx
    rcases List.mem_append.mp hx with k | k
    · exact lb x k z (by simp [hz])
    · simp at k
      rw [k]
      exact sb2.1 z hz
theorem Mg.runA (h : Mg κ a b out ia ib) (sa : a.toList.Pairwise (Lq κ)) {k : Nat} (hy : ∀ x ∈ (a.toList.drop ia).take k, ∀ z ∈ b.toList.drop ib, Lq κ x z) : Mg κ a b (out ++ a.extract ia (ia + k)) (ia + k) ib := by
  have ex : (a.extract ia (ia + k)).toList = (a.toList.drop ia).take k := by
    rw [Array.toList_extract, List.extract_eq_take_drop, Nat.add_sub_cancel_left]
  have dr : a.toList.drop ia = (a.toList.drop ia).take k ++ a.toList.drop (ia + k) := by
    rw [← List.drop_drop, List.take_append_drop]
  have sa' : ((a.toList.drop ia).take k ++ a.toList.drop (ia + k)).Pairwise (Lq κ) := by rw [← dr]; exact sa.drop
  have sa2 := List.pairwise_append.mp sa'
  have la := h.lea
  have pm := h.perm
  rw [dr] at la pm
  refine ⟨?_, ?_, ?_, ?_⟩
  · rw [Array.toList_append, ex]
    simpa [List.append_assoc] using pm
  · rw [Array.toList_append, ex, List.pairwise_append]
    exact ⟨h.srt, sa2.1, fun x hx z hz => la x hx z (by simp [hz])⟩
  · intro x hx z hz
    rw [Array.toList_append, ex] at hx
    rcases List.mem_append.mp hx with k | k
    · exact la x k z (by simp [hz])
    · exact sa2.2.2 x k z hz
  · intro x hx z hz
    rw [Array.toList_append, ex] at hx
    rcases List.mem_append.mp hx with k | k
    · exact h.leb x k z hz
    · exact hy x k z hz
theorem Mg.pushA (h : Mg κ a b out ia ib) (sa : a.toList.Pairwise (Lq κ)) {x : Keyed} (e : a[ia]? = some x) (hy : ∀ z ∈ b.toList.drop ib, Lq κ x z) : Mg κ a b (out.push x) (ia + 1) ib := by
  have e' : a.toList[ia]? = some x := by simpa using e
  have dr : a.toList.drop ia = x :: a.toList.drop (ia + 1) := by
    obtain ⟨l, g⟩ := List.getElem?_eq_some_iff.mp e'
    rw [List.drop_eq_getElem_cons l, g]
  have q := h.runA sa (k := 1) (by
    rw [dr]
    intro u hu
    simp at hu
    rw [hu]
    exact hy)
  have ex : out ++ a.extract ia (ia + 1) = out.push x := by
    apply Array.toList_inj.mp
    rw [Array.toList_append, Array.toList_push, Array.toList_extract, List.extract_eq_take_drop, Nat.add_sub_cancel_left, dr]
    rfl
  rw [ex] at q
  exact q
theorem Mg.runB (h : Mg κ a b out ia ib) (sb : b.toList.Pairwise (Lq κ)) {k : Nat} (hy : ∀ x ∈ (b.toList.drop ib).take k, ∀ z ∈ a.toList.drop ia, Lq κ x z) : Mg κ a b (out ++ b.extract ib (ib + k)) ia (ib + k) := by
  have ex : (b.extract ib (ib + k)).toList = (b.toList.drop ib).take k := by
    rw [Array.toList_extract, List.extract_eq_take_drop, Nat.add_sub_cancel_left]
  have dr : b.toList.drop ib = (b.toList.drop ib).take k ++ b.toList.drop (ib + k) := by
    rw [← List.drop_drop, List.take_append_drop]
  have sb' : ((b.toList.drop ib).take k ++ b.toList.drop (ib + k)).Pairwise (Lq κ) := by rw [← dr]; exact sb.drop
  have sb2 := List.pairwise_append.mp sb'
  have lb := h.leb
  have pm := h.perm
  rw [dr] at lb pm
  refine ⟨?_, ?_, ?_, ?_⟩
  · rw [Array.toList_append, ex]
    refine List.Perm.trans ?_ pm
    rw [List.append_assoc]
    refine List.Perm.append_left _ ?_
    rw [← List.append_assoc, ← List.append_assoc]
    exact List.Perm.append_right _ List.perm_append_comm
  · rw [Array.toList_append, ex, List.pairwise_append]
    exact ⟨h.srt, sb2.1, fun x hx z hz => lb x hx z (by simp [hz])⟩
  · intro x hx z hz
    rw [Array.toList_append, ex] at hx
    rcases List.mem_append.mp hx with k | k
    · exact h.lea x k z hz
    · exact hy x k z hz
  · intro x hx z hz
    rw [Array.toList_append, ex] at hx
    rcases List.mem_append.mp hx with k | k
    · exact lb x k z (by simp [hz])
    · exact sb2.2.2 x k z hz
theorem Mg.done (h : Mg κ a b out ia ib) (sa : a.toList.Pairwise (Lq κ)) (sb : b.toList.Pairwise (Lq κ)) (c : a.size ≤ ia ∨ b.size ≤ ib) : MFin κ a b (out ++ a.extract ia ++ b.extract ib) := by
  have xa : (a.extract ia).toList = a.toList.drop ia := by
    rw [Array.toList_extract, List.extract_eq_take_drop, List.take_of_length_le (by simp)]
  have xb : (b.extract ib).toList = b.toList.drop ib := by
    rw [Array.toList_extract, List.extract_eq_take_drop, List.take_of_length_le (by simp)]
  refine ⟨?_, ?_⟩
  · rw [Array.toList_append, Array.toList_append, xa, xb, List.append_assoc]
    exact h.perm
  · rw [Array.toList_append, Array.toList_append, xa, xb, List.append_assoc, List.pairwise_append, List.pairwise_append]
    refine ⟨h.srt, ⟨sa.drop, sb.drop, fun x hx z hz => ?_⟩, fun x hx z hz => ?_⟩
    · rcases c with c | c
      · rw [List.drop_of_length_le (by simpa using c)] at hx
        simp at hx
      · rw [List.drop_of_length_le (by simpa using c)] at hz
        simp at hz
    · rcases List.mem_append.mp hz with k | k
      · exact h.lea x hx z k
      · exact h.leb x hx z k
theorem Mg.lastA (h : Mg κ a b out ia ib) (sa : a.toList.Pairwise (Lq κ)) (sb : b.toList.Pairwise (Lq κ)) (hl : ∀ y ∈ b.toList, ∀ x ∈ a.toList.drop (a.size - 1), Lq κ y x) (c : ia + 1 = a.size) : MFin κ a b (out ++ b.extract ib ++ a.extract ia) := by
  have xa : (a.extract ia).toList = a.toList.drop ia := by
    rw [Array.toList_extract, List.extract_eq_take_drop, List.take_of_length_le (by simp)]
  have xb : (b.extract ib).toList = b.toList.drop ib := by
    rw [Array.toList_extract, List.extract_eq_take_drop, List.take_of_length_le (by simp)]
  have ca : a.size - 1 = ia := by omega
  rw [ca] at hl
  refine ⟨?_, ?_⟩
  · rw [Array.toList_append, Array.toList_append, xa, xb, List.append_assoc]
    exact List.Perm.trans (List.Perm.append_left _ List.perm_append_comm) h.perm
  · rw [Array.toList_append, Array.toList_append, xa, xb, List.append_assoc, List.pairwise_append, List.pairwise_append]
    refine ⟨h.srt, ⟨sb.drop, sa.drop, fun x hx z hz => hl x (List.mem_of_mem_drop hx) z hz⟩, fun x hx z hz => ?_⟩
    rcases List.mem_append.mp hz with k | k
    · exact h.leb x hx z k
    · exact h.lea x hx z k
/-- what stands behind a place is not ahead of what stands there -/
theorem drop_le {xs : Array Keyed} (sx : xs.toList.Pairwise (Lq κ)) {i : Nat} {x y : Keyed} (e : xs[i]? = some x) (h : Lq κ y x) : ∀ z ∈ xs.toList.drop i, Lq κ y z := by
  have e' : xs.toList[i]? = some x := by simpa using e
  have dr : xs.toList.drop i = x :: xs.toList.drop (i + 1) := by
    obtain ⟨l, g⟩ := List.getElem?_eq_some_iff.mp e'
    rw [List.drop_eq_getElem_cons l, g]
  have sx' : (x :: xs.toList.drop (i + 1)).Pairwise (Lq κ) := by rw [← dr]; exact sx.drop
  have sx2 := List.pairwise_cons.mp sx'
  intro z hz
  rw [dr] at hz
  rcases List.mem_cons.mp hz with k | k
  · rw [k]; exact h
  · exact KeyOrd.kle_trans h (sx2.1 z k)
theorem srt_at {xs : Array Keyed} (sx : xs.toList.Pairwise (Lq κ)) {i j : Nat} {x y : Keyed} (hij : i ≤ j) (e1 : xs[i]? = some x) (e2 : xs[j]? = some y) : Lq κ x y := by
  refine drop_le sx e1 (KeyOrd.kle_refl _) y ?_
  have e' : xs.toList[j]? = some y := by simpa using e2
  have : (xs.toList.drop i)[j - i]? = some y := by
    rw [List.getElem?_drop, ← e']
    congr 1
    omega
  exact List.mem_of_getElem? this
end
end So
set_option Elab.async false
set_option linter.all false
set_option maxRecDepth 100000
namespace So
open PySem PyProof.Rows
section
variable {prog : Program} {w : World} {A : Around} {E : Value → Shared → Prop} {s : Shared} {κ : KeyKind} {kd : SortKind}
theorem wpS_setG {st : SortSt} {g : Nat} {Q : Unit → SortSt → Prop} (h : Q () (setG st g)) : wpS (model prog w) A E s (setMinGallop' g) Q st := wpS_modify (f := fun st => setG st g) h
theorem wpS_rule {st : SortSt} {r : String} {Q : Unit → SortSt → Prop} (h : Q () st) : wpS (model prog w) A E s (liftM (rule r) : StateT SortSt Sem Unit) Q st := wpS_lift (wpAny_rule ⟨rfl, h⟩)
/-- the place that a key has in what stands from a place on: right of all that are not behind it -/
theorem wpS_gallopR (hO : LtS prog w A E s κ kd) {st : SortSt} {key : Keyed} {arr : Array Keyed} {base hint n : Nat} {Q : Option Nat → SortSt → Prop} (hk : kindOf st = kd) (hy : Kd κ key) (ka : ∀ x ∈ arr.toList, Kd κ x) (sa : arr.toList.Pairwise (Lq κ)) (hn : base + n ≤ arr.size) (hh : hint < n)
    (h : ∀ k, k ≤ n → (∀ i x, i < k → arr[base + i]? = some x → Lq κ x key) → (∀ i x, k ≤ i → i < n → arr[base + i]? = some x → Lq κ key x) → Q (some k) st) : wpS (model prog w) A E s (gallop' false key arr base n hint) Q st := by
  have get : ∀ i, i < n → ∃ x, arr[base + i]? = some x ∧ Kd κ x := fun i hi => by
    have l : base + i < arr.size := by omega
    exact ⟨arr[base + i], Array.getElem?_eq_getElem l, ka _ (by simp)⟩
  refine wpS_gallop hO hk hy (fun i => match arr[base + i]? with | some x => bq κ false key x | none => false) (fun i hi => ?_) (fun i j hij hj hf => ?_) hh (fun k hk h1 h2 => h k hk (fun i x hi e => ?_) (fun i x hi hn e => ?_))
  · obtain ⟨x, e, kx⟩ := get i hi
    exact ⟨x, e, kx, by rw [e]⟩
  · obtain ⟨x, e, _⟩ := get i (by omega)
    obtain ⟨y, e2, _⟩ := get j hj
    try dsimp only at hf ⊢
    rw [e]
    rw [e2] at hf
    have l := srt_at sa (show base + i ≤ base + j by omega) e e2
    have hf' : (!κ.blt (kk κ key) (kk κ y)) = true := hf
    show (!κ.blt (kk κ key) (kk κ x)) = true
    have f1 : κ.blt (kk κ key) (kk κ y) = false := by simpa using hf'
    have f2 : κ.blt (kk κ key) (kk κ x) = false := KeyOrd.kle_trans l f1
    rw [f2]
    rfl
  · have q := h1 i hi
    try dsimp only at q
    rw [e] at q
    have q' : (!κ.blt (kk κ key) (kk κ x)) = true := q
    show κ.blt (kk κ key) (kk κ x) = false
    simpa using q'
  · have q := h2 i hi hn
    try dsimp only at q
    rw [e] at q
    have q' : (!κ.blt (kk κ key) (kk κ x)) = false := q
    exact KeyOrd.kle_of_klt (show κ.blt (kk κ key) (kk κ x) = true by simpa using q')
/-- left of all that are not ahead of it -/
theorem wpS_gallopL (hO : LtS prog w A E s κ kd) {st : SortSt} {key : Keyed} {arr : Array Keyed} {base hint n : Nat} {Q : Option Nat → SortSt → Prop} (hk : kindOf st = kd) (hy : Kd κ key) (ka : ∀ x ∈ arr.toList, Kd κ x) (sa : arr.toList.Pairwise (Lq κ)) (hn : base + n ≤ arr.size) (hh : hint < n)
    (h : ∀ k, k ≤ n → (∀ i x, i < k → arr[base + i]? = some x → Lq κ x key) → (∀ i x, k ≤ i → i < n → arr[base + i]? = some x → Lq κ key x) → Q (some k) st) : wpS (model prog w) A E s (gallop' true key arr base n hint) Q st := by
  have get : ∀ i, i < n → ∃ x, arr[base + i]? = some x ∧ Kd κ x := fun i hi => by
    have l : base + i < arr.size := by omega
    exact ⟨arr[base + i], Array.getElem?_eq_getElem l, ka _ (by simp)⟩
  refine wpS_gallop hO hk hy (fun i => match arr[base + i]? with | some x => bq κ true key x | none => false) (fun i hi => ?_) (fun i j hij hj hf => ?_) hh (fun k hk h1 h2 => h k hk (fun i x hi e => ?_) (fun i x hi hn e => ?_))
  · obtain ⟨x, e, kx⟩ := get i hi
    exact ⟨x, e, kx, by rw [e]⟩
  · obtain ⟨x, e, _⟩ := get i (by omega)
    obtain ⟨y, e2, _⟩ := get j hj
    try dsimp only at hf ⊢
    rw [e]
    rw [e2] at hf
    have l := srt_at sa (show base + i ≤ base + j by omega) e e2
    exact KeyOrd.klt_of_kle_of_klt l hf
  · have q := h1 i hi
    try dsimp only at q
    rw [e] at q
    exact KeyOrd.kle_of_klt q
  · have q := h2 i hi hn
    try dsimp only at q
    rw [e] at q
    exact q
theorem take_le {xs : Array Keyed} {key : Keyed} {base k : Nat} (h : ∀ i x, i < k → xs[base + i]? = some x → Lq κ x key) : ∀ x ∈ (xs.toList.drop base).take k, Lq κ x key := fun x hx => by
  obtain ⟨i, hi⟩ := List.mem_iff_getElem?.mp hx
  have il : i < k := by
    have := (List.getElem?_eq_some_iff.mp hi).1
    rw [List.length_take] at this
    omega
  rw [List.getElem?_take_of_lt il, List.getElem?_drop] at hi
  exact h i x il (by simpa using hi)
/-- a pair of lists under way: not yet at an end -/
structure Go (κ : KeyKind) (a b : Array Keyed) (m : Nat) (out : Array Keyed) (ia ib : Nat) : Prop where
  mg : Mg κ a b out ia ib
  la : ia + 1 < a.size
  lb : ib < b.size
  far : m ≤ ia + ib
theorem wpS_mergeLo (hO : LtS prog w A E s κ kd) {st : SortSt} {a b : Array Keyed} {Q : Array Keyed → SortSt → Prop} (hk : kindOf st = kd) (ka : ∀ x ∈ a.toList, Kd κ x) (kb : ∀ x ∈ b.toList, Kd κ x)
    (sa : a.toList.Pairwise (Lq κ)) (sb : b.toList.Pairwise (Lq κ)) (na : 0 < a.size) (nb : 0 < b.size) (h0 : ∀ x y, a[0]? = some x → b[0]? = some y → Lq κ y x) (hl : ∀ y ∈ b.toList, ∀ x ∈ a.toList.drop (a.size - 1), Lq κ y x)
    (h : ∀ r st', MFin κ a b r → GEq st st' → Q r st') : wpS (model prog w) A E s (mergeLo' a b) Q st := by
  have getA : ∀ {i : Nat}, i < a.size → ∃ x, a[i]? = some x ∧ Kd κ x := fun {i} hi => ⟨a[i], Array.getElem?_eq_getElem hi, ka _ (by simp)⟩
  have getB : ∀ {i : Nat}, i < b.size → ∃ x, b[i]? = some x ∧ Kd κ x := fun {i} hi => ⟨b[i], Array.getElem?_eq_getElem hi, kb _ (by simp)⟩
  obtain ⟨x0, ex0, kx0⟩ := getA na
  obtain ⟨y0, ey0, ky0⟩ := getB nb
  have M0 : Mg κ a b #[] 0 0 := ⟨by simp, by simp, by simp, by simp⟩
  have M1 : Mg κ a b #[y0] 0 1 := M0.pushB sb ey0 (drop_le sa ex0 (h0 _ _ ex0 ey0))
  unfold mergeLo'
  refine wpS_open ?_
  try dsimp only
  refine wpS_bind (wpS_rule (wpS_bind (wpS_elem ey0 ?_)))
  by_cases c1 : 1 = b.size
  · rw [if_pos (beq_iff_eq.mpr c1)]
    exact wpS_pure (h _ _ (M1.done sa sb (.inr (by omega))) (.refl _))
  rw [if_neg (fun z => c1 (beq_iff_eq.mp z))]
  by_cases c2 : 0 + 1 = a.size
  · rw [if_pos (beq_iff_eq.mpr c2)]
    exact wpS_pure (h _ _ (M1.lastA sa sb hl (by omega)) (.refl _))
  rw [if_neg (fun z => c2 (beq_iff_eq.mp z))]
  refine wpS_bind (wpS_get ?_)
  try dsimp only
  refine wpS_bind (wpS_mono (wpS_forRange
    (I := fun x c st' => GEq st st' ∧ ∃ out ia ib g, c = (none, out, ia, ib, g) ∧ Go κ a b (x + 1) out ia ib)
    (Q := fun c st' => GEq st st' ∧ ∃ r q, c = (some r, q) ∧ MFin κ a b r) ?s1 ?e1 ⟨.refl _, _, _, _, _, rfl, ⟨M1, by omega, by omega, by omega⟩⟩) ?p1)
  case e1 =>
    rintro c st' ⟨ge, out, ia, ib, g, rfl, go⟩
    have := go.la
    have := go.lb
    have := go.far
    omega
  case p1 =>
    rintro c st' ⟨ge, r, q, rfl, f⟩
    exact wpS_pure (h _ _ f ge)
  case s1 =>
    rintro x c st1 _ hx ⟨ge, out, ia, ib, g, rfl, go⟩
    have hk1 : kindOf st1 = kd := ge.1.trans hk
    try dsimp only
    refine wpS_bind (wpS_mono (wpS_forRange
      (I := fun x' c st' => st' = st1 ∧ ∃ out ia ib ac bc, c = (none, out, ia, ib, ac, bc) ∧ Go κ a b (x + 1 + x') out ia ib)
      (Q := fun c st' => st' = st1 ∧ ((∃ r q, c = (some r, q) ∧ MFin κ a b r) ∨ ∃ out ia ib ac bc, c = (none, out, ia, ib, ac, bc) ∧ Go κ a b (x + 1 + 1) out ia ib)) ?s2 ?e2 ⟨rfl, _, _, _, _, _, rfl, go⟩) ?p2)
    case e2 =>
      rintro c st' ⟨_, out, ia, ib, ac, bc, rfl, go⟩
      have := go.la
      have := go.lb
      have := go.far
      omega
    case s2 =>
      rintro x' c st' _ hx' ⟨rfl, out, ia, ib, ac, bc, rfl, go⟩
      have l1 := go.la
      have l2 := go.lb
      have l3 := go.far
      obtain ⟨xa, exa, kxa⟩ := getA (show ia < a.size by omega)
      obtain ⟨yb, eyb, kyb⟩ := getB l2
      try dsimp only
      refine wpS_bind (wpS_elem eyb (wpS_bind (wpS_elem exa (wpS_bind (wpS_lt hO hk1 kyb kxa ?_)))))
      try dsimp only
      cases cc : κ.blt (kk κ yb) (kk κ xa) with
      | true =>
        rw [if_pos rfl]
        have M2 := go.mg.pushB sb eyb (drop_le sa exa (KeyOrd.kle_of_klt cc))
        refine wpS_bind (wpS_elem eyb ?_)
        by_cases d1 : ib + 1 = b.size
        · rw [if_pos (beq_iff_eq.mpr d1)]
          exact wpS_pure ⟨rfl, .inl ⟨_, _, rfl, M2.done sa sb (.inr (by omega))⟩⟩
        rw [if_neg (fun z => d1 (beq_iff_eq.mp z))]
        by_cases d2 : bc + 1 ≥ g
        · rw [if_pos d2]
          exact wpS_pure ⟨rfl, .inr ⟨_, _, _, _, _, rfl, ⟨M2, l1, by omega, by omega⟩⟩⟩
        · rw [if_neg d2]
          exact wpS_pure ⟨rfl, _, _, _, _, _, rfl, ⟨M2, l1, by omega, by omega⟩⟩
      | false =>
        rw [if_neg (by decide)]
        have M2 := go.mg.pushA sa exa (drop_le sb eyb cc)
        refine wpS_bind (wpS_elem exa ?_)
        by_cases d1 : ia + 1 + 1 = a.size
        · rw [if_pos (beq_iff_eq.mpr d1)]
          exact wpS_pure ⟨rfl, .inl ⟨_, _, rfl, M2.lastA sa sb hl d1⟩⟩
        rw [if_neg (fun z => d1 (beq_iff_eq.mp z))]
        by_cases d2 : ac + 1 ≥ g
        · rw [if_pos d2]
          exact wpS_pure ⟨rfl, .inr ⟨_, _, _, _, _, rfl, ⟨M2, by omega, l2, by omega⟩⟩⟩
        · rw [if_neg d2]
          exact wpS_pure ⟨rfl, _, _, _, _, _, rfl, ⟨M2, by omega, l2, by omega⟩⟩
    case p2 =>
      rintro c st' ⟨rfl, ⟨r, q, rfl, f⟩ | ⟨out, ia, ib, ac, bc, rfl, go⟩⟩
      · exact wpS_pure ⟨ge, _, _, rfl, f⟩
      try dsimp only
      refine wpS_bind (wpS_rule ?_)
      refine wpS_bind (wpS_mono (wpS_forRange
        (I := fun x' c st' => GEq st st' ∧ ∃ out ia ib g ac bc, c = (none, out, ia, ib, g, ac, bc) ∧ Go κ a b (x + 1 + 1 + x') out ia ib)
        (Q := fun c st' => GEq st st' ∧ ((∃ r q, c = (some r, q) ∧ MFin κ a b r) ∨ ∃ out ia ib g ac bc, c = (none, out, ia, ib, g, ac, bc) ∧ Go κ a b (x + 1 + 1) out ia ib)) ?s3 ?e3 ⟨ge, _, _, _, _, _, _, rfl, go⟩) ?p3)
      case e3 =>
        rintro c st' ⟨_, out, ia, ib, g, ac, bc, rfl, go⟩
        have := go.la
        have := go.lb
        have := go.far
        omega
      case p3 =>
        rintro c st' ⟨ge, ⟨r, q, rfl, f⟩ | ⟨out, ia, ib, g, ac, bc, rfl, go⟩⟩
        · exact wpS_pure ⟨ge, _, _, rfl, f⟩
        · exact wpS_bind (wpS_setG (wpS_pure ⟨ge.set _, _, _, _, _, rfl, go⟩))
      case s3 =>
        rintro x' c st2 _ hx' ⟨ge2, out, ia, ib, g, ac, bc, rfl, go⟩
        have l1 := go.la
        have l2 := go.lb
        have l3 := go.far
        try dsimp only
        obtain ⟨yb, eyb, kyb⟩ := getB l2
        by_cases cg : g > 1
        all_goals
          first
            | rw [if_pos cg]
            | rw [if_neg cg]
          refine wpS_bind (wpS_setG (wpS_bind (wpS_elem eyb (wpS_bind (wpS_gallopR hO (ge2.1.trans hk) kyb ka sa (by omega) (by omega) fun k hkn p1 p2 => ?_)))))
          try dsimp only
          have ge3 := ge2.set (st' := st2)
          by_cases ck : k > 0
          · rw [if_pos ck]
            have M1 := go.mg.runA sa (k := k) (fun u hu z hz => drop_le sb eyb (take_le p1 u hu) z hz)
            by_cases d1 : ia + k + 1 = a.size
            · rw [if_pos (beq_iff_eq.mpr d1)]
              exact wpS_pure ⟨ge3 _, .inl ⟨_, _, rfl, M1.lastA sa sb hl d1⟩⟩
            rw [if_neg (fun z => d1 (beq_iff_eq.mp z))]
            by_cases d2 : ia + k = a.size
            · rw [if_pos (beq_iff_eq.mpr d2)]
              exact wpS_pure ⟨ge3 _, .inl ⟨_, _, rfl, M1.done sa sb (.inl (by omega))⟩⟩
            rw [if_neg (fun z => d2 (beq_iff_eq.mp z))]
            obtain ⟨xa, exa, kxa⟩ := getA (show ia + k < a.size by omega)
            have M2 := M1.pushB sb eyb (drop_le sa exa (p2 k xa (by omega) (by omega) exa))
            refine wpS_bind (wpS_elem eyb ?_)
            by_cases d3 : ib + 1 = b.size
            · rw [if_pos (beq_iff_eq.mpr d3)]
              exact wpS_pure ⟨ge3 _, .inl ⟨_, _, rfl, M2.done sa sb (.inr (by omega))⟩⟩
            rw [if_neg (fun z => d3 (beq_iff_eq.mp z))]
            refine wpS_bind (wpS_elem exa (wpS_bind (wpS_gallopL hO (ge2.1.trans hk) kxa kb sb (by omega) (by omega) fun k1 hk1n r1 r2 => ?_)))
            try dsimp only
            by_cases ck1 : k1 > 0
            · rw [if_pos ck1]
              have M3 := M2.runB sb (k := k1) (fun u hu z hz => drop_le sa exa (take_le r1 u hu) z hz)
              by_cases d4 : ib + 1 + k1 = b.size
              · rw [if_pos (beq_iff_eq.mpr d4)]
                exact wpS_pure ⟨ge3 _, .inl ⟨_, _, rfl, M3.done sa sb (.inr (by omega))⟩⟩
              rw [if_neg (fun z => d4 (beq_iff_eq.mp z))]
              obtain ⟨y2, ey2, ky2⟩ := getB (show ib + 1 + k1 < b.size by omega)
              have M4 := M3.pushA sa exa (drop_le sb ey2 (r2 k1 y2 (by omega) (by omega) ey2))
              refine wpS_bind (wpS_elem exa ?_)
              by_cases d5 : ia + k + 1 + 1 = a.size
              · rw [if_pos (beq_iff_eq.mpr d5)]
                exact wpS_pure ⟨ge3 _, .inl ⟨_, _, rfl, M4.lastA sa sb hl d5⟩⟩
              rw [if_neg (fun z => d5 (beq_iff_eq.mp z))]
              split
              · exact wpS_pure ⟨ge3 _, .inr ⟨_, _, _, _, _, _, rfl, ⟨M4, by omega, by omega, by omega⟩⟩⟩
              · exact wpS_pure ⟨ge3 _, _, _, _, _, _, _, rfl, ⟨M4, by omega, by omega, by omega⟩⟩
            · rw [if_neg ck1]
              obtain ⟨y2, ey2, ky2⟩ := getB (show ib + 1 < b.size by omega)
              have M4 := M2.pushA sa exa (drop_le sb ey2 (r2 0 y2 (by omega) (by omega) ey2))
              refine wpS_bind (wpS_elem exa ?_)
              by_cases d5 : ia + k + 1 + 1 = a.size
              · rw [if_pos (beq_iff_eq.mpr d5)]
                exact wpS_pure ⟨ge3 _, .inl ⟨_, _, rfl, M4.lastA sa sb hl d5⟩⟩
              rw [if_neg (fun z => d5 (beq_iff_eq.mp z))]
              split
              · exact wpS_pure ⟨ge3 _, .inr ⟨_, _, _, _, _, _, rfl, ⟨M4, by omega, by omega, by omega⟩⟩⟩
              · exact wpS_pure ⟨ge3 _, _, _, _, _, _, _, rfl, ⟨M4, by omega, by omega, by omega⟩⟩
          · rw [if_neg ck]
            obtain ⟨xa, exa, kxa⟩ := getA (show ia < a.size by omega)
            have M2 := go.mg.pushB sb eyb (drop_le sa exa (p2 0 xa (by omega) (by omega) exa))
            refine wpS_bind (wpS_elem eyb ?_)
            by_cases d3 : ib + 1 = b.size
            · rw [if_pos (beq_iff_eq.mpr d3)]
              exact wpS_pure ⟨ge3 _, .inl ⟨_, _, rfl, M2.done sa sb (.inr (by omega))⟩⟩
            rw [if_neg (fun z => d3 (beq_iff_eq.mp z))]
            refine wpS_bind (wpS_elem exa (wpS_bind (wpS_gallopL hO (ge2.1.trans hk) kxa kb sb (by omega) (by omega) fun k1 hk1n r1 r2 => ?_)))
            try dsimp only
            by_cases ck1 : k1 > 0
            · rw [if_pos ck1]
              have M3 := M2.runB sb (k := k1) (fun u hu z hz => drop_le sa exa (take_le r1 u hu) z hz)
              by_cases d4 : ib + 1 + k1 = b.size
              · rw [if_pos (beq_iff_eq.mpr d4)]
                exact wpS_pure ⟨ge3 _, .inl ⟨_, _, rfl, M3.done sa sb (.inr (by omega))⟩⟩
              rw [if_neg (fun z => d4 (beq_iff_eq.mp z))]
              obtain ⟨y2, ey2, ky2⟩ := getB (show ib + 1 + k1 < b.size by omega)
              have M4 := M3.pushA sa exa (drop_le sb ey2 (r2 k1 y2 (by omega) (by omega) ey2))
              refine wpS_bind (wpS_elem exa ?_)
              by_cases d5 : ia + 1 + 1 = a.size
              · rw [if_pos (beq_iff_eq.mpr d5)]
                exact wpS_pure ⟨ge3 _, .inl ⟨_, _, rfl, M4.lastA sa sb hl d5⟩⟩
              rw [if_neg (fun z => d5 (beq_iff_eq.mp z))]
              split
              · exact wpS_pure ⟨ge3 _, .inr ⟨_, _, _, _, _, _, rfl, ⟨M4, by omega, by omega, by omega⟩⟩⟩
              · exact wpS_pure ⟨ge3 _, _, _, _, _, _, _, rfl, ⟨M4, by omega, by omega, by omega⟩⟩
            · rw [if_neg ck1]
              obtain ⟨y2, ey2, ky2⟩ := getB (show ib + 1 < b.size by omega)
              have M4 := M2.pushA sa exa (drop_le sb ey2 (r2 0 y2 (by omega) (by omega) ey2))
              refine wpS_bind (wpS_elem exa ?_)
              by_cases d5 : ia + 1 + 1 = a.size
              · rw [if_pos (beq_iff_eq.mpr d5)]
                exact wpS_pure ⟨ge3 _, .inl ⟨_, _, rfl, M4.lastA sa sb hl d5⟩⟩
              rw [if_neg (fun z => d5 (beq_iff_eq.mp z))]
              split
              · exact wpS_pure ⟨ge3 _, .inr ⟨_, _, _, _, _, _, rfl, ⟨M4, by omega, by omega, by omega⟩⟩⟩
              · exact wpS_pure ⟨ge3 _, _, _, _, _, _, _, rfl, ⟨M4, by omega, by omega, by omega⟩⟩
end
end So
set_option Elab.async false
set_option linter.all false
set_option maxRecDepth 100000
namespace So
open PySem PyProof.Rows
section
variable {κ : KeyKind} {kd : SortKind} {a b out : Array Keyed} {na nb : Nat}
structure Mh (κ : KeyKind) (a b out : Array Keyed) (na nb : Nat) : Prop where
  perm : (a.toList.take na ++ (b.toList.take nb ++ out.toList.reverse)).Perm (a.toList ++ b.toList)
  srt : out.toList.reverse.Pairwise (Lq κ)
  gea : ∀ x ∈ out.toList, ∀ y ∈ a.toList.take na, Lq κ y x
  geb : ∀ x ∈ out.toList, ∀ y ∈ b.toList.take nb, Lq κ y x
theorem Mh.runA (h : Mh κ a b out na nb) (sa : a.toList.Pairwise (Lq κ)) {k : Nat} (hk : k ≤ na) (hy : ∀ x ∈ (a.toList.take na).drop k, ∀ z ∈ b.toList.take nb, Lq κ z x) : Mh κ a b (out ++ (a.extract k na).reverse) k nb := by
  have ex : (a.extract k na).toList = (a.toList.take na).drop k := by
    rw [Array.toList_extract, List.extract_eq_take_drop, List.drop_take]
  have dr : a.toList.take na = a.toList.take k ++ (a.toList.take na).drop k := by
    have e := (List.take_append_drop k (a.toList.take na)).symm
    rw [List.take_take, Nat.min_eq_left hk] at e
    exact e
  have sa' : (a.toList.take k ++ (a.toList.take na).drop k).Pairwise (Lq κ) := by rw [← dr]; exact sa.take
  have sa2 := List.pairwise_append.mp sa'
  have to : (out ++ (a.extract k na).reverse).toList = out.toList ++ ((a.toList.take na).drop k).reverse := by rw [Array.toList_append, Array.toList_reverse, ex]
  have tr : (out ++ (a.extract k na).reverse).toList.reverse = (a.toList.take na).drop k ++ out.toList.reverse := by rw [to, List.reverse_append, List.reverse_reverse]
  have ga := h.gea
  have pm := h.perm
  rw [dr] at pm
  have ga' : ∀ x ∈ out.toList, ∀ y ∈ (a.toList.take k ++ (a.toList.take na).drop k), Lq κ y x := by rw [← dr]; exact ga
  refine ⟨?_, ?_, ?_, ?_⟩
  · rw [tr]
    refine List.Perm.trans ?_ pm
    rw [List.append_assoc]
    refine List.Perm.append_left _ ?_
    rw [← List.append_assoc, ← List.append_assoc]
    exact List.Perm.append_right _ List.perm_append_comm
  · rw [tr, List.pairwise_append]
    exact ⟨sa2.2.1, h.srt, fun x hx z hz => ga' z (by simpa using hz) x (List.mem_append_right _ hx)⟩
  · intro x hx z hz
    rw [to] at hx
    rcases List.mem_append.mp hx with c | c
    · exact ga' x c z (List.mem_append_left _ hz)
    · exact sa2.2.2 z hz x (List.mem_reverse.mp c)
  · intro x hx z hz
    rw [to] at hx
    rcases List.mem_append.mp hx with c | c
    · exact h.geb x c z hz
    · exact hy x (List.mem_reverse.mp c) z hz
theorem Mh.runB (h : Mh κ a b out na nb) (sb : b.toList.Pairwise (Lq κ)) {k : Nat} (hk : k ≤ nb) (hy : ∀ x ∈ (b.toList.take nb).drop k, ∀ z ∈ a.toList.take na, Lq κ z x) : Mh κ a b (out ++ (b.extract k nb).reverse) na k := by
  have ex : (b.extract k nb).toList = (b.toList.take nb).drop k := by
    rw [Array.toList_extract, List.extract_eq_take_drop, List.drop_take]
  have dr : b.toList.take nb = b.toList.take k ++ (b.toList.take nb).drop k := by
    have e := (List.take_append_drop k (b.toList.take nb)).symm
    rw [List.take_take, Nat.min_eq_left hk] at e
    exact e
  have sb' : (b.toList.take k ++ (b.toList.take nb).drop k).Pairwise (Lq κ) := by rw [← dr]; exact sb.take
  have sb2 := List.pairwise_append.mp sb'
  have to : (out ++ (b.extract k nb).reverse).toList = out.toList ++ ((b.toList.take nb).drop k).reverse := by rw [Array.toList_append, Array.toList_reverse, ex]
  have tr : (out ++ (b.extract k nb).reverse).toList.reverse = (b.toList.take nb).drop k ++ out.toList.reverse := by rw [to, List.reverse_append, List.reverse_reverse]
  have pm := h.perm
  rw [dr] at pm
  have gb' : ∀ x ∈ out.toList, ∀ y ∈ (b.toList.take k ++ (b.toList.take nb).drop k), Lq κ y x := by rw [← dr]; exact h.geb
  refine ⟨?_, ?_, ?_, ?_⟩
  · rw [tr]
    refine List.Perm.trans ?_ pm
    rw [List.append_assoc]
  · rw [tr, List.pairwise_append]
    exact ⟨sb2.2.1, h.srt, fun x hx z hz => gb' z (by simpa using hz) x (List.mem_append_right _ hx)⟩
  · intro x hx z hz
    rw [to] at hx
    rcases List.mem_append.mp hx with c | c
    · exact h.gea x c z hz
    · exact hy x (List.mem_reverse.mp c) z hz
  · intro x hx z hz
    rw [to] at hx
    rcases List.mem_append.mp hx with c | c
    · exact gb' x c z (List.mem_append_left _ hz)
    · exact sb2.2.2 z hz x (List.mem_reverse.mp c)
theorem one_ex {xs : Array Keyed} {n : Nat} {x : Keyed} (e : xs[n]? = some x) : xs.extract n (n + 1) = #[x] ∧ (xs.toList.take (n + 1)).drop n = [x] := by
  have e' : xs.toList[n]? = some x := by simpa using e
  obtain ⟨l, g⟩ := List.getElem?_eq_some_iff.mp e'
  have q : (xs.toList.take (n + 1)).drop n = [x] := by
    rw [List.drop_take, Nat.add_sub_cancel_left, List.drop_eq_getElem_cons l, g]
    rfl
  refine ⟨?_, q⟩
  apply Array.toList_inj.mp
  rw [Array.toList_extract, List.extract_eq_take_drop, ← List.drop_take, q]
theorem Mh.pushA (h : Mh κ a b out (na + 1) nb) (sa : a.toList.Pairwise (Lq κ)) {x : Keyed} (e : a[na]? = some x) (hy : ∀ z ∈ b.toList.take nb, Lq κ z x) : Mh κ a b (out.push x) na nb := by
  have q := h.runA sa (k := na) (by omega) (by
    rw [(one_ex e).2]
    intro u hu
    simp at hu
    rw [hu]
    exact hy)
  rw [(one_ex e).1] at q
  have ex : out ++ (#[x] : Array Keyed).reverse = out.push x := by
    apply Array.toList_inj.mp
    simp
  rw [ex] at q
  exact q
theorem Mh.pushB (h : Mh κ a b out na (nb + 1)) (sb : b.toList.Pairwise (Lq κ)) {x : Keyed} (e : b[nb]? = some x) (hy : ∀ z ∈ a.toList.take na, Lq κ z x) : Mh κ a b (out.push x) na nb := by
  have q := h.runB sb (k := nb) (by omega) (by
    rw [(one_ex e).2]
    intro u hu
    simp at hu
    rw [hu]
    exact hy)
  rw [(one_ex e).1] at q
  have ex : out ++ (#[x] : Array Keyed).reverse = out.push x := by
    apply Array.toList_inj.mp
    simp
  rw [ex] at q
  exact q
theorem Mh.popA (h : Mh κ a b out na nb) (sa : a.toList.Pairwise (Lq κ)) (hn : 0 < na) {x : Keyed} (e : a[na - 1]? = some x) (hy : ∀ z ∈ b.toList.take nb, Lq κ z x) : Mh κ a b (out.push x) (na - 1) nb := by
  have en : na = na - 1 + 1 := by omega
  rw [en] at h
  exact h.pushA sa e hy
theorem Mh.popB (h : Mh κ a b out na nb) (sb : b.toList.Pairwise (Lq κ)) (hn : 0 < nb) {x : Keyed} (e : b[nb - 1]? = some x) (hy : ∀ z ∈ a.toList.take na, Lq κ z x) : Mh κ a b (out.push x) na (nb - 1) := by
  have en : nb = nb - 1 + 1 := by omega
  rw [en] at h
  exact h.pushB sb e hy
theorem ext0 (xs : Array Keyed) (n : Nat) : (xs.extract 0 n).toList = xs.toList.take n := by
  rw [Array.toList_extract, List.extract_eq_take_drop]
  simp
theorem Mh.done (h : Mh κ a b out na nb) (sa : a.toList.Pairwise (Lq κ)) (sb : b.toList.Pairwise (Lq κ)) (c : na = 0 ∨ nb = 0) : MFin κ a b (a.extract 0 na ++ b.extract 0 nb ++ out.reverse) := by
  refine ⟨?_, ?_⟩
  · rw [Array.toList_append, Array.toList_append, ext0, ext0, Array.toList_reverse, List.append_assoc]
    exact h.perm
  · rw [Array.toList_append, Array.toList_append, ext0, ext0, Array.toList_reverse, List.append_assoc, List.pairwise_append, List.pairwise_append]
    refine ⟨sa.take, ⟨sb.take, h.srt, fun x hx z hz => h.geb z (List.mem_reverse.mp hz) x hx⟩, fun x hx z hz => ?_⟩
    rcases List.mem_append.mp hz with k | k
    · rcases c with c | c
      · rw [c] at hx; simp at hx
      · rw [c] at k; simp at k
    · exact h.gea z (List.mem_reverse.mp k) x hx
theorem Mh.firstB (h : Mh κ a b out na nb) (sa : a.toList.Pairwise (Lq κ)) (sb : b.toList.Pairwise (Lq κ)) (hf : ∀ x ∈ b.toList.take 1, ∀ z ∈ a.toList, Lq κ x z) (c : nb = 1) : MFin κ a b (b.extract 0 nb ++ a.extract 0 na ++ out.reverse) := by
  subst c
  refine ⟨?_, ?_⟩
  · rw [Array.toList_append, Array.toList_append, ext0, ext0, Array.toList_reverse]
    have pm := h.perm
    rw [← List.append_assoc] at pm
    exact List.Perm.trans (List.Perm.append_right _ List.perm_append_comm) pm
  · rw [Array.toList_append, Array.toList_append, ext0, ext0, Array.toList_reverse, List.append_assoc, List.pairwise_append, List.pairwise_append]
    refine ⟨sb.take, ⟨sa.take, h.srt, fun x hx z hz => h.gea z (List.mem_reverse.mp hz) x hx⟩, fun x hx z hz => ?_⟩
    rcases List.mem_append.mp hz with k | k
    · exact hf x hx z (List.mem_of_mem_take k)
    · exact h.geb z (List.mem_reverse.mp k) x hx
theorem take_at {xs : Array Keyed} {n : Nat} {z : Keyed} (h : z ∈ xs.toList.take n) : ∃ i, i < n ∧ xs[i]? = some z := by
  obtain ⟨i, hi⟩ := List.mem_iff_getElem?.mp h
  have il := (List.getElem?_eq_some_iff.mp hi).1
  rw [List.length_take] at il
  rw [List.getElem?_take_of_lt (by omega)] at hi
  exact ⟨i, by omega, by simpa using hi⟩
theorem mid_at {xs : Array Keyed} {n k : Nat} {z : Keyed} (h : z ∈ (xs.toList.take n).drop k) : ∃ i, k ≤ i ∧ i < n ∧ xs[i]? = some z := by
  obtain ⟨i, hi⟩ := List.mem_iff_getElem?.mp h
  rw [List.getElem?_drop] at hi
  obtain ⟨j, hj, e⟩ : ∃ j, j = k + i ∧ (xs.toList.take n)[j]? = some z := ⟨_, rfl, hi⟩
  have il := (List.getElem?_eq_some_iff.mp e).1
  rw [List.length_take] at il
  rw [List.getElem?_take_of_lt (by omega)] at e
  exact ⟨j, by omega, by omega, by simpa using e⟩
theorem take_to1 {xs : Array Keyed} (sx : xs.toList.Pairwise (Lq κ)) {n : Nat} {x y : Keyed} (hn : 0 < n) (e : xs[n - 1]? = some x) (h : Lq κ x y) : ∀ z ∈ xs.toList.take n, Lq κ z y := fun z hz => by
  obtain ⟨i, hi, ez⟩ := take_at hz
  exact KeyOrd.kle_trans (srt_at sx (by omega) ez e) h
end
structure Gh (κ : KeyKind) (a b : Array Keyed) (m : Nat) (out : Array Keyed) (na nb : Nat) : Prop where
  mh : Mh κ a b out na nb
  la : 0 < na
  lb : 1 < nb
  ha : na ≤ a.size
  hb : nb ≤ b.size
  far : na + nb + m ≤ a.size + b.size
section
variable {prog : Program} {w : World} {A : Around} {E : Value → Shared → Prop} {s : Shared} {κ : KeyKind} {kd : SortKind}
theorem wpS_mergeHi (hO : LtS prog w A E s κ kd) {st : SortSt} {a b : Array Keyed} {Q : Array Keyed → SortSt → Prop} (hk : kindOf st = kd) (ka : ∀ x ∈ a.toList, Kd κ x) (kb : ∀ x ∈ b.toList, Kd κ x)
    (sa : a.toList.Pairwise (Lq κ)) (sb : b.toList.Pairwise (Lq κ)) (pa : 0 < a.size) (pb : 0 < b.size) (h0 : ∀ x ∈ b.toList.take 1, ∀ z ∈ a.toList, Lq κ x z) (hl : ∀ y ∈ b.toList, ∀ x, a[a.size - 1]? = some x → Lq κ y x)
    (h : ∀ r st', MFin κ a b r → GEq st st' → Q r st') : wpS (model prog w) A E s (mergeHi' a b) Q st := by
  have getA : ∀ {i : Nat}, i < a.size → ∃ x, a[i]? = some x ∧ Kd κ x := fun {i} hi => ⟨a[i], Array.getElem?_eq_getElem hi, ka _ (by simp)⟩
  have getB : ∀ {i : Nat}, i < b.size → ∃ x, b[i]? = some x ∧ Kd κ x := fun {i} hi => ⟨b[i], Array.getElem?_eq_getElem hi, kb _ (by simp)⟩
  obtain ⟨x0, ex0, kx0⟩ := getA (show a.size - 1 < a.size by omega)
  have M0 : Mh κ a b #[] (a.size - 1 + 1) b.size := ⟨by
    rw [List.take_of_length_le (by simp; omega), List.take_of_length_le (by simp)]
    simp, by simp, by simp, by simp⟩
  have M1 : Mh κ a b #[x0] (a.size - 1) b.size := M0.pushA sa ex0 (fun z hz => hl z (List.mem_of_mem_take hz) x0 ex0)
  unfold mergeHi'
  refine wpS_open ?_
  try dsimp only
  refine wpS_bind (wpS_rule (wpS_bind (wpS_elem ex0 ?_)))
  by_cases c1 : a.size - 1 = 0
  · rw [if_pos (beq_iff_eq.mpr c1)]
    exact wpS_pure (h _ _ (M1.done sa sb (.inl c1)) (.refl _))
  rw [if_neg (fun z => c1 (beq_iff_eq.mp z))]
  by_cases c2 : b.size = 1
  · rw [if_pos (beq_iff_eq.mpr c2)]
    exact wpS_pure (h _ _ (M1.firstB sa sb h0 c2) (.refl _))
  rw [if_neg (fun z => c2 (beq_iff_eq.mp z))]
  refine wpS_bind (wpS_get ?_)
  try dsimp only
  refine wpS_bind (wpS_mono (wpS_forRange
    (I := fun x c st' => GEq st st' ∧ ∃ out na nb g, c = (none, na, nb, out, g) ∧ Gh κ a b (x + 1) out na nb)
    (Q := fun c st' => GEq st st' ∧ ∃ r q, c = (some r, q) ∧ MFin κ a b r) ?s1 ?e1 ⟨.refl _, _, _, _, _, rfl, ⟨M1, by omega, by omega, by omega, by omega, by omega⟩⟩) ?p1)
  case e1 =>
    rintro c st' ⟨ge, out, na, nb, g, rfl, go⟩
    have := go.la
    have := go.lb
    have := go.far
    omega
  case p1 =>
    rintro c st' ⟨ge, r, q, rfl, f⟩
    exact wpS_pure (h _ _ f ge)
  case s1 =>
    rintro x c st1 _ hx ⟨ge, out, na, nb, g, rfl, go⟩
    have hk1 : kindOf st1 = kd := ge.1.trans hk
    try dsimp only
    refine wpS_bind (wpS_mono (wpS_forRange
      (I := fun x' c st' => st' = st1 ∧ ∃ out na nb ac bc, c = (none, na, nb, out, ac, bc) ∧ Gh κ a b (x + 1 + x') out na nb)
      (Q := fun c st' => st' = st1 ∧ ((∃ r q, c = (some r, q) ∧ MFin κ a b r) ∨ ∃ out na nb ac bc, c = (none, na, nb, out, ac, bc) ∧ Gh κ a b (x + 1 + 1) out na nb)) ?s2 ?e2 ⟨rfl, _, _, _, _, _, rfl, go⟩) ?p2)
    case e2 =>
      rintro c st' ⟨_, out, na, nb, ac, bc, rfl, go⟩
      have := go.la
      have := go.lb
      have := go.far
      omega
    case s2 =>
      rintro x' c st' _ hx' ⟨rfl, out, na, nb, ac, bc, rfl, go⟩
      have l1 := go.la
      have l2 := go.lb
      have l3 := go.far
      have l4 := go.ha
      have l5 := go.hb
      obtain ⟨xa, exa, kxa⟩ := getA (show na - 1 < a.size by omega)
      obtain ⟨yb, eyb, kyb⟩ := getB (show nb - 1 < b.size by omega)
      try dsimp only
      refine wpS_bind (wpS_elem eyb (wpS_bind (wpS_elem exa (wpS_bind (wpS_lt hO hk1 kyb kxa ?_)))))
      try dsimp only
      cases cc : κ.blt (kk κ yb) (kk κ xa) with
      | true =>
        rw [if_pos rfl]
        have M2 := go.mh.popA sa l1 exa (take_to1 sb (by omega) eyb (KeyOrd.kle_of_klt cc))
        refine wpS_bind (wpS_elem exa ?_)
        by_cases d1 : na - 1 = 0
        · rw [if_pos (beq_iff_eq.mpr d1)]
          exact wpS_pure ⟨rfl, .inl ⟨_, _, rfl, M2.done sa sb (.inl d1)⟩⟩
        rw [if_neg (fun z => d1 (beq_iff_eq.mp z))]
        by_cases d2 : ac + 1 ≥ g
        · rw [if_pos d2]
          exact wpS_pure ⟨rfl, .inr ⟨_, _, _, _, _, rfl, ⟨M2, by omega, l2, by omega, l5, by omega⟩⟩⟩
        · rw [if_neg d2]
          exact wpS_pure ⟨rfl, _, _, _, _, _, rfl, ⟨M2, by omega, l2, by omega, l5, by omega⟩⟩
      | false =>
        rw [if_neg (by decide)]
        have M2 := go.mh.popB sb (by omega) eyb (take_to1 sa l1 exa cc)
        refine wpS_bind (wpS_elem eyb ?_)
        by_cases d1 : nb - 1 = 1
        · rw [if_pos (beq_iff_eq.mpr d1)]
          exact wpS_pure ⟨rfl, .inl ⟨_, _, rfl, M2.firstB sa sb h0 d1⟩⟩
        rw [if_neg (fun z => d1 (beq_iff_eq.mp z))]
        by_cases d2 : bc + 1 ≥ g
        · rw [if_pos d2]
          exact wpS_pure ⟨rfl, .inr ⟨_, _, _, _, _, rfl, ⟨M2, l1, by omega, l4, by omega, by omega⟩⟩⟩
        · rw [if_neg d2]
          exact wpS_pure ⟨rfl, _, _, _, _, _, rfl, ⟨M2, l1, by omega, l4, by omega, by omega⟩⟩
    case p2 =>
      rintro c st' ⟨rfl, ⟨r, q, rfl, f⟩ | ⟨out, na, nb, ac, bc, rfl, go⟩⟩
      · exact wpS_pure ⟨ge, _, _, rfl, f⟩
      try dsimp only
      refine wpS_bind (wpS_rule ?_)
      refine wpS_bind (wpS_mono (wpS_forRange
        (I := fun x' c st' => GEq st st' ∧ ∃ out na nb g ac bc, c = (none, na, nb, out, g, ac, bc) ∧ Gh κ a b (x + 1 + 1 + x') out na nb)
        (Q := fun c st' => GEq st st' ∧ ((∃ r q, c = (some r, q) ∧ MFin κ a b r) ∨ ∃ out na nb g ac bc, c = (none, na, nb, out, g, ac, bc) ∧ Gh κ a b (x + 1 + 1) out na nb)) ?s3 ?e3 ⟨ge, _, _, _, _, _, _, rfl, go⟩) ?p3)
      case e3 =>
        rintro c st' ⟨_, out, na, nb, g, ac, bc, rfl, go⟩
        have := go.la
        have := go.lb
        have := go.far
        omega
      case p3 =>
        rintro c st' ⟨ge, ⟨r, q, rfl, f⟩ | ⟨out, na, nb, g, ac, bc, rfl, go⟩⟩
        · exact wpS_pure ⟨ge, _, _, rfl, f⟩
        · exact wpS_bind (wpS_setG (wpS_pure ⟨ge.set _, _, _, _, _, rfl, go⟩))
      case s3 =>
        rintro x' c st2 _ hx' ⟨ge2, out, na, nb, g, ac, bc, rfl, go⟩
        have l1 := go.la
        have l2 := go.lb
        have l3 := go.far
        have l4 := go.ha
        have l5 := go.hb
        try dsimp only
        obtain ⟨yb, eyb, kyb⟩ := getB (show nb - 1 < b.size by omega)
        have z0 : ∀ i : Nat, 0 + i = i := fun i => Nat.zero_add i
        by_cases cg : g > 1
        all_goals
          first
            | rw [if_pos cg]
            | rw [if_neg cg]
          refine wpS_bind (wpS_setG (wpS_bind (wpS_elem eyb (wpS_bind (wpS_gallopR hO (ge2.1.trans hk) kyb ka sa (by omega) (by omega) fun k hkn p1 p2 => ?_)))))
          simp only [z0] at p1 p2
          try dsimp only
          have ge3 := ge2.set (st' := st2)
          have pA : ∀ z ∈ a.toList.take k, Lq κ z yb := fun z hz => by
            obtain ⟨i, hi, ez⟩ := take_at hz
            exact p1 i z hi ez
          by_cases ck : na - k > 0
          · rw [if_pos ck]
            have M1 := go.mh.runA sa (k := k) hkn (fun u hu z hz => by
              obtain ⟨i, h1, h2, e⟩ := mid_at hu
              exact take_to1 sb (by omega) eyb (p2 i u h1 h2 e) z hz)
            by_cases d1 : k = 0
            · rw [if_pos (beq_iff_eq.mpr d1)]
              exact wpS_pure ⟨ge3 _, .inl ⟨_, _, rfl, M1.done sa sb (.inl d1)⟩⟩
            rw [if_neg (fun z => d1 (beq_iff_eq.mp z))]
            have M2 := M1.popB sb (by omega) eyb pA
            refine wpS_bind (wpS_elem eyb ?_)
            by_cases d3 : nb - 1 = 1
            · rw [if_pos (beq_iff_eq.mpr d3)]
              exact wpS_pure ⟨ge3 _, .inl ⟨_, _, rfl, M2.firstB sa sb h0 d3⟩⟩
            rw [if_neg (fun z => d3 (beq_iff_eq.mp z))]
            obtain ⟨xa, exa, kxa⟩ := getA (show k - 1 < a.size by omega)
            refine wpS_bind (wpS_elem exa (wpS_bind (wpS_gallopL hO (ge2.1.trans hk) kxa kb sb (by omega) (by omega) fun k1 hk1n r1 r2 => ?_)))
            simp only [z0] at r1 r2
            try dsimp only
            have pB : ∀ z ∈ b.toList.take k1, Lq κ z xa := fun z hz => by
              obtain ⟨i, hi, ez⟩ := take_at hz
              exact r1 i z hi ez
            by_cases ck1 : nb - 1 - k1 > 0
            · rw [if_pos ck1]
              have M3 := M2.runB sb (k := k1) hk1n (fun u hu z hz => by
                obtain ⟨i, h1, h2, e⟩ := mid_at hu
                exact take_to1 sa (by omega) exa (r2 i u h1 h2 e) z hz)
              by_cases d4 : k1 = 1
              · rw [if_pos (beq_iff_eq.mpr d4)]
                exact wpS_pure ⟨ge3 _, .inl ⟨_, _, rfl, M3.firstB sa sb h0 d4⟩⟩
              rw [if_neg (fun z => d4 (beq_iff_eq.mp z))]
              by_cases d6 : k1 = 0
              · rw [if_pos (beq_iff_eq.mpr d6)]
                exact wpS_pure ⟨ge3 _, .inl ⟨_, _, rfl, M3.done sa sb (.inr d6)⟩⟩
              rw [if_neg (fun z => d6 (beq_iff_eq.mp z))]
              have M4 := M3.popA sa (by omega) exa pB
              refine wpS_bind (wpS_elem exa ?_)
              by_cases d5 : k - 1 = 0
              · rw [if_pos (beq_iff_eq.mpr d5)]
                exact wpS_pure ⟨ge3 _, .inl ⟨_, _, rfl, M4.done sa sb (.inl d5)⟩⟩
              rw [if_neg (fun z => d5 (beq_iff_eq.mp z))]
              split
              · exact wpS_pure ⟨ge3 _, .inr ⟨_, _, _, _, _, _, rfl, ⟨M4, by omega, by omega, by omega, by omega, by omega⟩⟩⟩
              · exact wpS_pure ⟨ge3 _, _, _, _, _, _, _, rfl, ⟨M4, by omega, by omega, by omega, by omega, by omega⟩⟩
            · rw [if_neg ck1]
              have ek : k1 = nb - 1 := by omega
              have M4 := M2.popA sa (by omega) exa (by rw [← ek]; exact pB)
              refine wpS_bind (wpS_elem exa ?_)
              by_cases d5 : k - 1 = 0
              · rw [if_pos (beq_iff_eq.mpr d5)]
                exact wpS_pure ⟨ge3 _, .inl ⟨_, _, rfl, M4.done sa sb (.inl d5)⟩⟩
              rw [if_neg (fun z => d5 (beq_iff_eq.mp z))]
              split
              · exact wpS_pure ⟨ge3 _, .inr ⟨_, _, _, _, _, _, rfl, ⟨M4, by omega, by omega, by omega, by omega, by omega⟩⟩⟩
              · exact wpS_pure ⟨ge3 _, _, _, _, _, _, _, rfl, ⟨M4, by omega, by omega, by omega, by omega, by omega⟩⟩
          · rw [if_neg ck]
            have ekn : k = na := by omega
            have M2 := go.mh.popB sb (by omega) eyb (by rw [← ekn]; exact pA)
            refine wpS_bind (wpS_elem eyb ?_)
            by_cases d3 : nb - 1 = 1
            · rw [if_pos (beq_iff_eq.mpr d3)]
              exact wpS_pure ⟨ge3 _, .inl ⟨_, _, rfl, M2.firstB sa sb h0 d3⟩⟩
            rw [if_neg (fun z => d3 (beq_iff_eq.mp z))]
            obtain ⟨xa, exa, kxa⟩ := getA (show na - 1 < a.size by omega)
            refine wpS_bind (wpS_elem exa (wpS_bind (wpS_gallopL hO (ge2.1.trans hk) kxa kb sb (by omega) (by omega) fun k1 hk1n r1 r2 => ?_)))
            simp only [z0] at r1 r2
            try dsimp only
            have pB : ∀ z ∈ b.toList.take k1, Lq κ z xa := fun z hz => by
              obtain ⟨i, hi, ez⟩ := take_at hz
              exact r1 i z hi ez
            by_cases ck1 : nb - 1 - k1 > 0
            · rw [if_pos ck1]
              have M3 := M2.runB sb (k := k1) hk1n (fun u hu z hz => by
                obtain ⟨i, h1, h2, e⟩ := mid_at hu
                exact take_to1 sa (by omega) exa (r2 i u h1 h2 e) z hz)
              by_cases d4 : k1 = 1
              · rw [if_pos (beq_iff_eq.mpr d4)]
                exact wpS_pure ⟨ge3 _, .inl ⟨_, _, rfl, M3.firstB sa sb h0 d4⟩⟩
              rw [if_neg (fun z => d4 (beq_iff_eq.mp z))]
              by_cases d6 : k1 = 0
              · rw [if_pos (beq_iff_eq.mpr d6)]
                exact wpS_pure ⟨ge3 _, .inl ⟨_, _, rfl, M3.done sa sb (.inr d6)⟩⟩
              rw [if_neg (fun z => d6 (beq_iff_eq.mp z))]
              have M4 := M3.popA sa (by omega) exa pB
              refine wpS_bind (wpS_elem exa ?_)
              by_cases d5 : na - 1 = 0
              · rw [if_pos (beq_iff_eq.mpr d5)]
                exact wpS_pure ⟨ge3 _, .inl ⟨_, _, rfl, M4.done sa sb (.inl d5)⟩⟩
              rw [if_neg (fun z => d5 (beq_iff_eq.mp z))]
              split
              · exact wpS_pure ⟨ge3 _, .inr ⟨_, _, _, _, _, _, rfl, ⟨M4, by omega, by omega, by omega, by omega, by omega⟩⟩⟩
              · exact wpS_pure ⟨ge3 _, _, _, _, _, _, _, rfl, ⟨M4, by omega, by omega, by omega, by omega, by omega⟩⟩
            · rw [if_neg ck1]
              have ek : k1 = nb - 1 := by omega
              have M4 := M2.popA sa (by omega) exa (by rw [← ek]; exact pB)
              refine wpS_bind (wpS_elem exa ?_)
              by_cases d5 : na - 1 = 0
              · rw [if_pos (beq_iff_eq.mpr d5)]
                exact wpS_pure ⟨ge3 _, .inl ⟨_, _, rfl, M4.done sa sb (.inl d5)⟩⟩
              rw [if_neg (fun z => d5 (beq_iff_eq.mp z))]
              split
              · exact wpS_pure ⟨ge3 _, .inr ⟨_, _, _, _, _, _, rfl, ⟨M4, by omega, by omega, by omega, by omega, by omega⟩⟩⟩
              · exact wpS_pure ⟨ge3 _, _, _, _, _, _, _, rfl, ⟨M4, by omega, by omega, by omega, by omega, by omega⟩⟩
end
end So
set_option Elab.async false
set_option linter.all false
set_option maxRecDepth 100000
namespace So
open PySem PyProof.Rows
section
variable {prog : Program} {w : World} {A : Around} {E : Value → Shared → Prop} {s : Shared} {κ : KeyKind} {kd : SortKind}
/-- the place of a key in a sorted stretch -/
theorem wpS_gallopS (hO : LtS prog w A E s κ kd) {st : SortSt} {left : Bool} {key : Keyed} {arr : Array Keyed} {P X S : List Keyed} {hint : Nat} {Q : Option Nat → SortSt → Prop} (hk : kindOf st = kd) (hy : Kd κ key) (ka : ∀ x ∈ arr.toList, Kd κ x) (e : arr.toList = P ++ (X ++ S)) (sx : X.Pairwise (Lq κ)) (hh : hint < X.length)
    (h : ∀ X1 X2, X = X1 ++ X2 → (∀ x ∈ X1, Lq κ x key) → (∀ x ∈ X2, Lq κ key x) → Q (some X1.length) st) : wpS (model prog w) A E s (gallop' left key arr P.length X.length hint) Q st := by
  have at_ : ∀ i, i < X.length → arr[P.length + i]? = X[i]? := fun i hi => by
    have : arr.toList[P.length + i]? = X[i]? := by
      rw [e, List.getElem?_append_right (by omega), Nat.add_sub_cancel_left, List.getElem?_append_left hi]
    simpa using this
  have get : ∀ i, i < X.length → ∃ x, X[i]? = some x ∧ Kd κ x := fun i hi => ⟨X[i], List.getElem?_eq_getElem hi, ka _ (by rw [e]; simp)⟩
  have mono : ∀ {i j : Nat} {x y : Keyed}, i ≤ j → X[i]? = some x → X[j]? = some y → Lq κ x y := fun {i j x y} hij h1 h2 => by
    rcases Nat.lt_or_ge i j with c | c
    · obtain ⟨l1, g1⟩ := List.getElem?_eq_some_iff.mp h1
      obtain ⟨l2, g2⟩ := List.getElem?_eq_some_iff.mp h2
      have := List.pairwise_iff_getElem.mp sx i j l1 l2 c
      rw [g1, g2] at this
      exact this
    · have : i = j := by omega
      subst this
      rw [h1] at h2
      cases h2
      exact KeyOrd.kle_refl _
  refine wpS_gallop hO hk hy (fun i => match X[i]? with | some x => bq κ left key x | none => false) (fun i hi => ?_) (fun i j hij hj hf => ?_) hh (fun k hkn h1 h2 => ?_)
  · obtain ⟨x, ex, kx⟩ := get i hi
    exact ⟨x, (at_ i hi).trans ex, kx, by rw [ex]⟩
  · obtain ⟨x, ex, _⟩ := get i (by omega)
    obtain ⟨y, ey, _⟩ := get j hj
    try dsimp only at hf ⊢
    rw [ex]
    rw [ey] at hf
    have l := mono hij ex ey
    cases left with
    | true => exact KeyOrd.klt_of_kle_of_klt l hf
    | false =>
      have hf' : (!κ.blt (kk κ key) (kk κ y)) = true := hf
      have f1 : κ.blt (kk κ key) (kk κ y) = false := by simpa using hf'
      have f2 : κ.blt (kk κ key) (kk κ x) = false := KeyOrd.kle_trans l f1
      show (!κ.blt (kk κ key) (kk κ x)) = true
      rw [f2]
      rfl
  · have tl : (X.take k).length = k := by rw [List.length_take]; omega
    have q := h (X.take k) (X.drop k) (List.take_append_drop k X).symm (fun x hx => ?_) (fun x hx => ?_)
    · rw [tl] at q
      exact q
    · obtain ⟨i, hi⟩ := List.mem_iff_getElem?.mp hx
      have il := (List.getElem?_eq_some_iff.mp hi).1
      rw [tl] at il
      rw [List.getElem?_take_of_lt il] at hi
      have q := h1 i il
      try dsimp only at q
      rw [hi] at q
      cases left with
      | true => exact KeyOrd.kle_of_klt q
      | false =>
        have q' : (!κ.blt (kk κ key) (kk κ x)) = true := q
        show κ.blt (kk κ key) (kk κ x) = false
        simpa using q'
    · obtain ⟨i, hi⟩ := List.mem_iff_getElem?.mp hx
      rw [List.getElem?_drop] at hi
      have il := (List.getElem?_eq_some_iff.mp hi).1
      have q := h2 (k + i) (by omega) il
      try dsimp only at q
      rw [hi] at q
      cases left with
      | true => exact q
      | false =>
        have q' : (!κ.blt (kk κ key) (kk κ x)) = false := q
        exact KeyOrd.kle_of_klt (show κ.blt (kk κ key) (kk κ x) = true by simpa using q')
end
/-- a stretch written anew -/
theorem writes (P : Nat) : ∀ (l : List Keyed) (c : Nat) (arr : Array Keyed), P + c + l.length ≤ arr.size →
    ((l.zipIdx c).foldl (fun (a : Array Keyed) (q : Keyed × Nat) => a.setIfInBounds (P + q.2) q.1) arr).toList = arr.toList.take (P + c) ++ l ++ arr.toList.drop (P + c + l.length)
  | [], c, arr, h => by simp
  | x :: l, c, arr, h => by
    have hl : P + c < arr.size := by simp at h; omega
    rw [List.zipIdx_cons, List.foldl_cons, writes P l (c + 1) _ (by rw [Array.size_setIfInBounds]; simp at h ⊢; omega)]
    have e : (arr.setIfInBounds (P + c) x).toList = arr.toList.set (P + c) x := by simp
    dsimp only
    rw [e]
    have e1 : P + (c + 1) = P + c + 1 := by omega
    rw [e1]
    have hl' : P + c < arr.toList.length := by simpa using hl
    have t1 : (arr.toList.set (P + c) x).take (P + c + 1) = arr.toList.take (P + c) ++ [x] := by
      rw [List.take_succ, List.take_set_of_le (Nat.le_refl _), List.getElem?_set_self hl']
      rfl
    have t2 : (arr.toList.set (P + c) x).drop (P + c + 1 + l.length) = arr.toList.drop (P + c + (x :: l).length) := by
      rw [List.drop_set_of_lt (by omega)]
      congr 1
      simp
      omega
    rw [t1, t2]
    simp
theorem z_sort {κ : KeyKind} {X1 X2 Y1 Y2 r : List Keyed} (sx : (X1 ++ X2).Pairwise (Lq κ)) (sy : (Y1 ++ Y2).Pairwise (Lq κ)) (h1 : ∀ x ∈ X1, ∀ y ∈ Y1 ++ Y2, Lq κ x y) (h2 : ∀ x ∈ X1 ++ X2, ∀ y ∈ Y2, Lq κ x y) (pr : r.Perm (X2 ++ Y1)) (sr : r.Pairwise (Lq κ)) : (X1 ++ (r ++ Y2)).Pairwise (Lq κ) := by
  have x := List.pairwise_append.mp sx
  have y := List.pairwise_append.mp sy
  rw [List.pairwise_append, List.pairwise_append]
  refine ⟨x.1, ⟨sr, y.2.1, fun u hu v hv => ?_⟩, fun u hu v hv => ?_⟩
  · rcases List.mem_append.mp (pr.mem_iff.mp hu) with k | k
    · exact h2 u (List.mem_append_right _ k) v hv
    · exact y.2.2 u k v hv
  · rcases List.mem_append.mp hv with k | k
    · rcases List.mem_append.mp (pr.mem_iff.mp k) with k | k
      · exact x.2.2 u hu v k
      · exact h1 u hu v (List.mem_append_left _ k)
    · exact h1 u hu v (List.mem_append_right _ k)
theorem z_perm {X1 X2 Y1 Y2 r : List Keyed} (pr : r.Perm (X2 ++ Y1)) : (X1 ++ (r ++ Y2)).Perm ((X1 ++ X2) ++ (Y1 ++ Y2)) := by
  have : (X1 ++ X2) ++ (Y1 ++ Y2) = X1 ++ ((X2 ++ Y1) ++ Y2) := by simp
  rw [this]
  exact List.Perm.append_left _ (List.Perm.append_right _ pr)
theorem wpS_set {M : Model} {A : Around} {E : Value → Shared → Prop} {s : Shared} {σ : Type} {st st' : σ} {Q : PUnit → σ → Prop} (h : Q ⟨⟩ st') : wpS M A E s (set st' : StateT σ Sem PUnit) Q st := by
  unfold wpS
  rw [StateT.run_set]
  exact wpAny_pure ⟨rfl, h⟩
section
variable {prog : Program} {w : World} {A : Around} {E : Value → Shared → Prop} {s : Shared} {κ : KeyKind} {kd : SortKind}
theorem wpS_mergeAt (hO : LtS prog w A E s κ kd) {st : SortSt} {i : Nat} {P X Y S : List Keyed} {pa pb : Nat} {Q : Bool → SortSt → Prop} (hk : kindOf st = kd) (hf : failedOf st = none) (ka : ∀ x ∈ (arrOf st).toList, Kd κ x)
    (e : (arrOf st).toList = P ++ (X ++ (Y ++ S))) (sx : X.Pairwise (Lq κ)) (sy : Y.Pairwise (Lq κ)) (nx : 0 < X.length) (ny : 0 < Y.length)
    (p1 : (pendingOf st)[i]? = some (P.length, X.length, pa)) (p2 : (pendingOf st)[i + 1]? = some (P.length + X.length, Y.length, pb))
    (h : ∀ st' Z, Z.Perm (X ++ Y) → Z.Pairwise (Lq κ) → kindOf st' = kd → failedOf st' = none → (arrOf st').toList = P ++ (Z ++ S) → pendingOf st' = ((pendingOf st).setIfInBounds i (P.length, X.length + Y.length, pa)).eraseIdxIfInBounds (i + 1) → Q true st') :
    wpS (model prog w) A E s (mergeAt' i) Q st := by
  unfold mergeAt'
  refine wpS_open ?_
  try dsimp only
  have ix : ∀ {U V : List Keyed} {v : Keyed}, (arrOf st).toList = U ++ v :: V → (arrOf st)[U.length]? = some v := fun {U V v} q => by
    have : (arrOf st).toList[U.length]? = some v := by rw [q]; simp
    simpa using this
  have sub : ∀ {U V W : List Keyed}, (arrOf st).toList = U ++ (V ++ W) → ((arrOf st).extract U.length (U.length + V.length)).toList = V := fun {U V W} q => by
    rw [Array.toList_extract, List.extract_eq_take_drop, q]
    simp
  obtain ⟨y0, Y', rfl⟩ : ∃ y0 Y', Y = y0 :: Y' := by
    cases Y with
    | nil => simp at ny
    | cons y Y => exact ⟨y, Y, rfl⟩
  have sy' := List.pairwise_cons.mp sy
  have ey : (arrOf st)[P.length + X.length]? = some y0 := by
    have := ix (U := P ++ X) (V := Y' ++ S) (v := y0) (by rw [e]; simp)
    rwa [List.length_append] at this
  have mem : ∀ x ∈ X ++ (y0 :: Y'), x ∈ (arrOf st).toList := fun x hx => by
    rw [e]
    rcases List.mem_append.mp hx with k | k
    · simp [k]
    · simp at k ⊢
      rcases k with k | k
      · simp [k]
      · simp [k]
  refine wpS_bind (wpS_get ?_)
  rw [p1, p2]
  try dsimp only
  refine wpS_bind (wpS_set (wpS_bind (wpS_elem ey (wpS_bind (wpS_gallopS (P := P) (X := X) (S := (y0 :: Y') ++ S) hO hk (ka _ (mem y0 (by simp))) ka e sx nx fun X1 X2 eX q1 q2 => ?_)))))
  try dsimp only
  subst eX
  have lx : (X1 ++ X2).length = X1.length + X2.length := List.length_append
  have leY : ∀ {x : Keyed}, Lq κ x y0 → ∀ y ∈ y0 :: Y', Lq κ x y := fun {x} l y hy => by
    rcases List.mem_cons.mp hy with k | k
    · rw [k]; exact l
    · exact KeyOrd.kle_trans l (sy'.1 y k)
  by_cases c1 : (X1 ++ X2).length - X1.length = 0
  · rw [if_pos (beq_iff_eq.mpr c1)]
    have x2 : X2 = [] := List.eq_nil_of_length_eq_zero (by omega)
    subst x2
    refine wpS_pure (h _ ((X1 ++ []) ++ (y0 :: Y')) (List.Perm.refl _) ?_ hk hf (by rw [show arrOf _ = arrOf st from rfl, e]; simp) rfl)
    rw [List.pairwise_append]
    exact ⟨sx, sy, fun x hx y hy => leY (q1 x (by simpa using hx)) y hy⟩
  rw [if_neg (fun z => c1 (beq_iff_eq.mp z))]
  obtain ⟨X3, xl, rfl⟩ : ∃ X3 xl, X2 = X3 ++ [xl] := by
    rcases List.eq_nil_or_concat X2 with z | ⟨a, b, z⟩
    · subst z; simp at c1
    · exact ⟨a, b, by rw [z, List.concat_eq_append]⟩
  have lx3 : (X3 ++ [xl]).length = X3.length + 1 := by simp
  have exl : (arrOf st)[P.length + X1.length + ((X1 ++ (X3 ++ [xl])).length - X1.length) - 1]? = some xl := by
    have := ix (U := P ++ (X1 ++ X3)) (V := (y0 :: Y') ++ S) (v := xl) (by rw [e]; simp)
    rw [List.length_append, List.length_append] at this
    rw [← this]
    congr 1
    omega
  have lexl : ∀ x ∈ X1 ++ (X3 ++ [xl]), Lq κ x xl := fun x hx => by
    have q : ((X1 ++ X3) ++ [xl]).Pairwise (Lq κ) := by rw [List.append_assoc]; exact sx
    have q' := List.pairwise_append.mp q
    rw [← List.append_assoc] at hx
    rcases List.mem_append.mp hx with k | k
    · exact q'.2.2 x k xl (by simp)
    · simp at k
      rw [k]
      exact KeyOrd.kle_refl _
  have g2 := fun (st2 : SortSt) (hk2 : kindOf st2 = kd) (Q2 : Option Nat → SortSt → Prop) hh => wpS_gallopS (prog := prog) (w := w) (A := A) (E := E) (s := s) (st := st2) (left := true) (key := xl) (arr := arrOf st) (P := P ++ (X1 ++ (X3 ++ [xl]))) (X := y0 :: Y') (S := S) (hint := (y0 :: Y').length - 1) (Q := Q2) hO hk2 (ka _ (mem xl (by simp))) ka (by rw [e]; simp) sy (by simp) hh
  rw [show (P ++ (X1 ++ (X3 ++ [xl]))).length = P.length + (X1 ++ (X3 ++ [xl])).length from List.length_append] at g2
  refine wpS_bind (wpS_elem exl (wpS_bind (g2 _ (by exact hk) _ fun Y1 Y2 eY r1 r2 => ?_)))
  try dsimp only
  have l2 : ∀ x ∈ X1 ++ (X3 ++ [xl]), ∀ y ∈ Y2, Lq κ x y := fun x hx y hy => KeyOrd.kle_trans (lexl x hx) (r2 y hy)
  by_cases c2 : Y1.length = 0
  · rw [if_pos (beq_iff_eq.mpr c2)]
    have y1 : Y1 = [] := List.eq_nil_of_length_eq_zero c2
    subst y1
    have eY' : Y2 = y0 :: Y' := by simpa using eY.symm
    refine wpS_pure (h _ ((X1 ++ (X3 ++ [xl])) ++ (y0 :: Y')) (List.Perm.refl _) ?_ hk hf (by rw [show arrOf _ = arrOf st from rfl, e]; simp) rfl)
    rw [List.pairwise_append]
    exact ⟨sx, sy, fun x hx y hy => l2 x hx y (by rw [eY']; exact hy)⟩
  rw [if_neg (fun z => c2 (beq_iff_eq.mp z))]
  have xx : ((arrOf st).extract (P.length + X1.length) (P.length + (X1 ++ (X3 ++ [xl])).length)).toList = X3 ++ [xl] := by
    have := sub (U := P ++ X1) (V := X3 ++ [xl]) (W := (y0 :: Y') ++ S) (by rw [e]; simp)
    rw [List.length_append] at this
    have l : P.length + (X1 ++ (X3 ++ [xl])).length = P.length + X1.length + (X3 ++ [xl]).length := by rw [List.length_append]; omega
    rw [l]
    exact this
  have yy : ((arrOf st).extract (P.length + (X1 ++ (X3 ++ [xl])).length) (P.length + (X1 ++ (X3 ++ [xl])).length + Y1.length)).toList = Y1 := by
    have := sub (U := P ++ (X1 ++ (X3 ++ [xl]))) (V := Y1) (W := Y2 ++ S) (by rw [e, eY]; simp)
    rw [List.length_append] at this
    exact this
  generalize (arrOf st).extract (P.length + X1.length) (P.length + (X1 ++ (X3 ++ [xl])).length) = ax at xx ⊢
  generalize (arrOf st).extract (P.length + (X1 ++ (X3 ++ [xl])).length) (P.length + (X1 ++ (X3 ++ [xl])).length + Y1.length) = ay at yy ⊢
  have sX := List.pairwise_append.mp sx
  have sY : (Y1 ++ Y2).Pairwise (Lq κ) := by rw [← eY]; exact sy
  have sY1 := (List.pairwise_append.mp sY).1
  have kX : ∀ x ∈ ax.toList, Kd κ x := fun x hx => by
    rw [xx] at hx
    exact ka x (mem x (List.mem_append_left _ (List.mem_append_right _ hx)))
  have kY : ∀ x ∈ ay.toList, Kd κ x := fun x hx => by
    rw [yy] at hx
    exact ka x (mem x (by rw [eY]; simp [hx]))
  have zx : ax.size = X3.length + 1 := by
    have := congrArg List.length xx
    simpa using this
  have zy : ay.size = Y1.length := by
    have := congrArg List.length yy
    simpa using this
  have y1c : ∃ Y3, Y1 = y0 :: Y3 := by
    cases Y1 with
    | nil => simp at c2
    | cons y Y3 =>
      have : y0 = y := by
        have := congrArg List.head? eY
        simpa using this
      exact ⟨Y3, by rw [this]⟩
  obtain ⟨Y3, eY3⟩ := y1c
  have last : ∀ y ∈ ay.toList, Lq κ y xl := fun y hy => r1 y (by rw [← yy]; exact hy)
  have axl : ∀ x, ax[ax.size - 1]? = some x → x = xl := fun x hx => by
    have hx' : ax.toList[ax.size - 1]? = some x := by simpa using hx
    rw [xx, zx, Nat.add_sub_cancel, List.getElem?_append_right (Nat.le_refl _)] at hx'
    simpa using hx'.symm
  have fin : ∀ (r : Array Keyed) (st2 : SortSt), MFin κ ax ay r → kindOf st2 = kd → failedOf st2 = none → arrOf st2 = arrOf st → pendingOf st2 = ((pendingOf st).setIfInBounds i (P.length, (X1 ++ (X3 ++ [xl])).length + (y0 :: Y').length, pa)).eraseIdxIfInBounds (i + 1) →
      Q true (SortSt.mk' (kindOf st2) (List.foldl (fun (a : Array Keyed) (x : Keyed × Nat) => a.setIfInBounds (P.length + X1.length + x.snd) x.fst) (arrOf st2) r.toList.zipIdx) (pendingOf st2) (gallopOf st2) (failedOf st2)) := by
    rintro r st2 ⟨pr, sr⟩ h1 h2 h3 h4
    rw [xx, yy] at pr
    have rl : r.toList.length = X3.length + 1 + Y1.length := by
      rw [pr.length_eq]
      simp
      omega
    refine h _ (X1 ++ (r.toList ++ Y2)) ?_ (z_sort sx sY (fun x hx y hy => leY (q1 x hx) y (by rw [eY]; exact hy)) l2 pr sr) h1 h2 ?_ h4
    · rw [eY]
      exact z_perm pr
    · show (List.foldl (fun (a : Array Keyed) (x : Keyed × Nat) => a.setIfInBounds (P.length + X1.length + x.snd) x.fst) (arrOf st2) r.toList.zipIdx).toList = _
      rw [h3]
      have sz : (arrOf st).size = P.length + X1.length + (X3.length + 1) + (Y1.length + Y2.length) + S.length := by
        have := congrArg List.length e
        rw [eY] at this
        simp at this
        omega
      have w := writes (P.length + X1.length) r.toList 0 (arrOf st) (by rw [rl]; omega)
      rw [w, rl, e, eY]
      have t : P ++ (X1 ++ (X3 ++ [xl]) ++ (Y1 ++ Y2 ++ S)) = (P ++ X1) ++ ((X3 ++ [xl] ++ Y1) ++ (Y2 ++ S)) := by simp
      rw [t]
      have l1 : P.length + X1.length + 0 = (P ++ X1).length := by simp
      have l3 : P.length + X1.length + 0 + (X3.length + 1 + Y1.length) = (P ++ X1).length + (X3 ++ [xl] ++ Y1).length := by simp; omega
      have d : ∀ (A B C : List Keyed), (A ++ (B ++ C)).drop (A.length + B.length) = C := fun A B C => by rw [← List.append_assoc, ← List.length_append, List.drop_left]
      rw [l3, l1, d, List.take_left]
      simp
  by_cases c3 : (X1 ++ (X3 ++ [xl])).length - X1.length ≤ Y1.length
  · rw [if_pos c3]
    refine wpS_bind (wpS_mergeLo hO (by exact hk) kX kY (by rw [xx]; exact sX.2.1) (by rw [yy]; exact sY1) (by omega) (by omega) (fun x y hx hy => ?_) (fun y hy x hx => ?_) fun r st2 mf ge => ?_)
    · have hx' : ax.toList[0]? = some x := by simpa using hx
      have hy' : ay.toList[0]? = some y := by simpa using hy
      rw [yy, eY3] at hy'
      simp at hy'
      rw [← hy']
      rw [xx] at hx'
      exact q2 x (List.mem_of_getElem? hx')
    · rw [xx, zx, Nat.add_sub_cancel, List.drop_left'] at hx
      · simp at hx
        rw [hx]
        exact last y hy
      · rfl
    · refine wpS_bind (wpS_modify (wpS_bind (wpS_get (wpS_pure ?_))))
      have f := fin r st2 mf (ge.1.trans hk) (ge.2.2.2.trans hf) ge.2.1 ge.2.2.1
      have fl : failedOf st2 = none := ge.2.2.2.trans hf
      show Q ((failedOf st2).isNone) _
      rw [fl]
      exact f
  · rw [if_neg c3]
    refine wpS_bind (wpS_mergeHi hO (by exact hk) kX kY (by rw [xx]; exact sX.2.1) (by rw [yy]; exact sY1) (by omega) (by omega) (fun x hx z hz => ?_) (fun y hy x hx => ?_) fun r st2 mf ge => ?_)
    · rw [yy, eY3] at hx
      simp at hx
      rw [hx]
      rw [xx] at hz
      exact q2 z hz
    · rw [axl x hx]
      exact last y hy
    · refine wpS_bind (wpS_modify (wpS_bind (wpS_get (wpS_pure ?_))))
      have f := fin r st2 mf (ge.1.trans hk) (ge.2.2.2.trans hf) ge.2.1 ge.2.2.1
      have fl : failedOf st2 = none := ge.2.2.2.trans hf
      show Q ((failedOf st2).isNone) _
      rw [fl]
      exact f
end
end So
set_option Elab.async false
set_option linter.all false
set_option maxRecDepth 100000
namespace So
open PySem PyProof.Rows
section
variable {prog : Program} {w : World} {A : Around} {E : Value → Shared → Prop} {s : Shared} {κ : KeyKind} {kd : SortKind}
theorem at_R {arr : Array Keyed} {P R : List Keyed} (e : arr.toList = P ++ R) {i : Nat} {x : Keyed} (h : R[i]? = some x) : arr[P.length + i]? = some x := by
  have : arr.toList[P.length + i]? = some x := by rw [e, List.getElem?_append_right (by omega), Nat.add_sub_cancel_left]; exact h
  simpa using this
theorem wpS_ltR (hO : LtS prog w A E s κ kd) {st : SortSt} {P R : List Keyed} {i j i' j' : Nat} {x y : Keyed} {Q : Option Bool → SortSt → Prop} (hk : kindOf st = kd) (ka : ∀ x ∈ R, Kd κ x) (e : (arrOf st).toList = P ++ R)
    (hi : R[i]? = some x) (hj : R[j]? = some y) (ei : i' = P.length + i) (ej : j' = P.length + j) (h : Q (some (κ.blt (kk κ x) (kk κ y))) st) : wpS (model prog w) A E s (ltAt' i' j') Q st := by
  subst ei ej
  rw [ltAt'_eq]
  refine wpS_bind (wpS_get ?_)
  exact wpS_bind (wpS_elem (at_R e hi) (wpS_bind (wpS_elem (at_R e hj) (wpS_lt hO hk (ka x (List.mem_of_getElem? hi)) (ka y (List.mem_of_getElem? hj)) h))))
theorem take_snoc {R : List Keyed} {n : Nat} {x : Keyed} (h : R[n]? = some x) : R.take (n + 1) = R.take n ++ [x] := by
  rw [List.take_succ, h]
  rfl
/-- a rising stretch grows -/
theorem rise {R : List Keyed} {n : Nat} {x y : Keyed} (h1 : 1 ≤ n) (hs : (R.take n).Pairwise (Lq κ)) (hy : R[n - 1]? = some y) (hx : R[n]? = some x) (l : Lq κ y x) : (R.take (n + 1)).Pairwise (Lq κ) := by
  have e1 : R.take n = R.take (n - 1) ++ [y] := by
    have := take_snoc hy
    rwa [show n - 1 + 1 = n by omega] at this
  rw [take_snoc hx, List.pairwise_append]
  refine ⟨hs, by simp, fun u hu v hv => ?_⟩
  simp at hv
  rw [hv]
  rw [e1] at hu hs
  rcases List.mem_append.mp hu with k | k
  · exact KeyOrd.kle_trans ((List.pairwise_append.mp hs).2.2 u k y (by simp)) l
  · simp at k
    rw [k]
    exact l
theorem wpS_asc {st : SortSt} {R : List Keyed} {n0 N : Nat} (hN : N = R.length) {body : Nat → Option (Option Nat) × Nat → StateT SortSt Sem (ForInStep (Option (Option Nat) × Nat))} {Q : Option (Option Nat) × Nat → SortSt → Prop} (h1 : 1 ≤ n0) (hn : n0 ≤ R.length) (hs : (R.take n0).Pairwise (Lq κ))
    (hb : ∀ n x y (i : Nat) (Q' : ForInStep (Option (Option Nat) × Nat) → SortSt → Prop), 1 ≤ n → R[n]? = some x → R[n - 1]? = some y → (κ.blt (kk κ x) (kk κ y) = true → Q' (.done (none, n)) st) → (κ.blt (kk κ x) (kk κ y) = false → Q' (.yield (none, n + 1)) st) → wpS (model prog w) A E s (body i (none, n)) Q' st)
    (h : ∀ n, n0 ≤ n → n ≤ R.length → (R.take n).Pairwise (Lq κ) → (n = R.length ∨ ∃ x y, R[n]? = some x ∧ R[n - 1]? = some y ∧ κ.blt (kk κ x) (kk κ y) = true) → Q (none, n) st) : wpS (model prog w) A E s (forIn [n0:N] (none, n0) body) Q st := by
  subst hN
  refine wpS_forRange (I := fun i c st' => st' = st ∧ c = (none, i) ∧ n0 ≤ i ∧ (R.take i).Pairwise (Lq κ)) ?_ ?_ ⟨rfl, rfl, Nat.le_refl _, hs⟩
  · rintro i c st' hi1 hi2 ⟨rfl, rfl, h3, h4⟩
    have ex := List.getElem?_eq_getElem hi2
    have ey := List.getElem?_eq_getElem (show i - 1 < R.length by omega)
    refine hb i _ _ i _ (by omega) ex ey (fun c => h i h3 (by omega) h4 (.inr ⟨_, _, ex, ey, c⟩)) (fun c => ⟨rfl, rfl, by omega, rise (by omega) h4 ey ex c⟩)
  · rintro c st' ⟨rfl, rfl, h3, h4⟩
    rw [Nat.max_eq_right hn] at h3 h4 ⊢
    exact h _ h3 (Nat.le_refl _) h4 (.inl rfl)
theorem mirror_list {arr : Array Keyed} {P D S : List Keyed} (e : arr.toList = P ++ (D ++ S)) : (mirror arr P.length (P.length + D.length) ((P.length + D.length - P.length) / 2)).toList = P ++ (D.reverse ++ S) := by
  have sz : arr.size = P.length + (D.length + S.length) := by
    have := congrArg List.length e
    simpa using this
  apply List.ext_getElem?
  intro k
  have q := getElem?_mirror_all (xs := arr) (i := P.length) (j := P.length + D.length) (by omega) k
  have q' : (mirror arr P.length (P.length + D.length) ((P.length + D.length - P.length) / 2)).toList[k]? = (mirror arr P.length (P.length + D.length) ((P.length + D.length - P.length) / 2))[k]? := by simp
  have ga : ∀ i, arr[i]? = (P ++ (D ++ S))[i]? := fun i => by rw [← e, Array.getElem?_toList]
  rw [q', q, ga, ga]
  by_cases c : P.length ≤ k ∧ k < P.length + D.length
  · rw [if_pos c, List.getElem?_append_right (by omega), List.getElem?_append_left (by omega), List.getElem?_append_right (by omega), List.getElem?_append_left (by rw [List.length_reverse]; omega), List.getElem?_reverse (by omega)]
    congr 1
    omega
  · rw [if_neg c]
    by_cases c2 : k < P.length
    · rw [List.getElem?_append_left c2, List.getElem?_append_left c2]
    · rw [List.getElem?_append_right (by omega), List.getElem?_append_right (by omega), List.getElem?_append_right (by omega), List.getElem?_append_right (by rw [List.length_reverse]; omega), List.length_reverse]
structure Kp (st st' : SortSt) : Prop where
  kind : kindOf st' = kindOf st
  failed : failedOf st' = failedOf st
  pend : pendingOf st' = pendingOf st
/-- keys that do not rise -/
def NI (κ : KeyKind) (L : List Keyed) (n : Nat) : Prop := ((L.map (kk κ)).take n).Pairwise fun a b => κ.blt a b = false
theorem NI.snoc {L : List Keyed} {n : Nat} {x y : Keyed} (h1 : 1 ≤ n) (h : NI κ L n) (hy : L[n - 1]? = some y) (hx : L[n]? = some x) (l : κ.blt (kk κ y) (kk κ x) = false) : NI κ L (n + 1) := by
  have ey : (L.map (kk κ))[n - 1]? = some (kk κ y) := by rw [List.getElem?_map, hy]; rfl
  have ex : (L.map (kk κ))[n]? = some (kk κ x) := by rw [List.getElem?_map, hx]; rfl
  unfold NI at h ⊢
  have e1 : (L.map (kk κ)).take n = (L.map (kk κ)).take (n - 1) ++ [kk κ y] := by
    have := List.take_succ (l := L.map (kk κ)) (i := n - 1)
    rw [show n - 1 + 1 = n by omega, ey] at this
    exact this
  have e2 : (L.map (kk κ)).take (n + 1) = (L.map (kk κ)).take n ++ [kk κ x] := by
    rw [List.take_succ, ex]
    rfl
  rw [e2, List.pairwise_append]
  refine ⟨h, by simp, fun u hu v hv => ?_⟩
  simp at hv
  rw [hv]
  rw [e1] at hu h
  rcases List.mem_append.mp hu with k | k
  · have q := (List.pairwise_append.mp h).2.2 u k (kk κ y) (by simp)
    exact KeyOrd.kle_trans (O := κ.toKeyOrd) l q
  · simp at k
    rw [k]
    exact l
theorem NI.falls {L : List Keyed} {n : Nat} (h : NI κ L n) : (L.take n).Pairwise (fun p q => Lq κ q p) := by
  unfold NI at h
  rw [← List.map_take, List.pairwise_map] at h
  exact h
/-- the last ones ahead of the place n are alike -/
def Eqs (κ : KeyKind) (L : List Keyed) (n m : Nat) : Prop := ∃ (D1 D2 S : List Keyed) (a : κ.α), L = D1 ++ (D2 ++ S) ∧ D1.length + D2.length = n ∧ D2.length = m + 1 ∧ ∀ x ∈ D2, kk κ x = a
theorem alike_rev {D : List Keyed} {a : κ.α} (h : ∀ x ∈ D, kk κ x = a) : D.reverse.map (kk κ) = D.map (kk κ) := by
  have e1 : D.map (kk κ) = List.replicate D.length a := List.eq_replicate_iff.mpr ⟨by simp, fun b hb => by
    obtain ⟨x, hx, rfl⟩ := List.mem_map.mp hb
    exact h x hx⟩
  have e2 : D.reverse.map (kk κ) = List.replicate D.length a := List.eq_replicate_iff.mpr ⟨by simp, fun b hb => by
    obtain ⟨x, hx, rfl⟩ := List.mem_map.mp hb
    exact h x (List.mem_reverse.mp hx)⟩
  rw [e1, e2]
/-- a stretch of alike ones turned about -/
theorem wpS_turn {st : SortSt} {P L : List Keyed} {n m i j : Nat} {Q : Unit → SortSt → Prop} (e : (arrOf st).toList = P ++ L) (q : Eqs κ L n m) (ei : i = P.length + n - (m + 1)) (ej : j = P.length + n)
    (h : ∀ st' L', Kp st st' → (arrOf st').toList = P ++ L' → L'.Perm L → L'.map (kk κ) = L.map (kk κ) → (∀ k, n ≤ k → L'[k]? = L[k]?) → Q () st') : wpS (model prog w) A E s (reverseSlice' i j) Q st := by
  obtain ⟨D1, D2, S, a, rfl, l1, l2, al⟩ := q
  refine wpS_reverse ?_
  have er : (arrOf st).toList = (P ++ D1) ++ (D2 ++ S) := by rw [e]; simp
  have em := mirror_list er
  have i1 : i = (P ++ D1).length := by rw [List.length_append]; omega
  have j1 : j = (P ++ D1).length + D2.length := by rw [List.length_append]; omega
  rw [i1, j1]
  refine h (setArr st (mirror (arrOf st) (P ++ D1).length ((P ++ D1).length + D2.length) (((P ++ D1).length + D2.length - (P ++ D1).length) / 2))) (D1 ++ (D2.reverse ++ S)) ⟨rfl, rfl, rfl⟩ ?_ ?_ ?_ fun k hk => ?_
  · rw [← List.append_assoc]
    exact em
  · exact List.Perm.append_left _ (List.Perm.append_right _ (List.reverse_perm _))
  · simp only [List.map_append]
    rw [alike_rev al]
  · rw [List.getElem?_append_right (by omega), List.getElem?_append_right (by rw [List.length_reverse]; omega), List.getElem?_append_right (by omega), List.getElem?_append_right (by omega), List.length_reverse]
theorem Kp.trans {a b c : SortSt} (h1 : Kp a b) (h2 : Kp b c) : Kp a c := ⟨h2.kind.trans h1.kind, h2.failed.trans h1.failed, h2.pend.trans h1.pend⟩
theorem eqs_one {L : List Keyed} {n : Nat} (h : n < L.length) : Eqs κ L (n + 1) 0 := by
  refine ⟨L.take n, [L[n]], L.drop (n + 1), kk κ L[n], ?_, by rw [List.length_take]; simp; omega, rfl, fun x hx => by simp at hx; rw [hx]⟩
  have := List.drop_eq_getElem_cons h
  rw [List.singleton_append, ← this, List.take_append_drop]
theorem Eqs.more {L : List Keyed} {n m : Nat} {x y : Keyed} (h : Eqs κ L n m) (hy : L[n - 1]? = some y) (hx : L[n]? = some x) (e : kk κ x = kk κ y) : Eqs κ L (n + 1) (m + 1) := by
  obtain ⟨D1, D2, S, a, rfl, l1, l2, al⟩ := h
  have my : y ∈ D2 := by
    rw [List.getElem?_append_right (by omega), List.getElem?_append_left (by omega)] at hy
    exact List.mem_of_getElem? hy
  rw [List.getElem?_append_right (by omega), List.getElem?_append_right (by omega)] at hx
  have z : n - D1.length - D2.length = 0 := by omega
  rw [z] at hx
  cases S with
  | nil => simp at hx
  | cons s S =>
    simp at hx
    subst hx
    refine ⟨D1, D2 ++ [s], S, a, by simp, by simp; omega, by simp; omega, fun u hu => ?_⟩
    rcases List.mem_append.mp hu with k | k
    · exact al u k
    · simp at k
      rw [k, e]
      exact al y my
theorem wpS_back {st st6 : SortSt} {P L R : List Keyed} {n : Nat} {f : Unit → StateT SortSt Sem (Option Nat)} {Q : Option Nat → SortSt → Prop} (kp : Kp st st6) (e : (arrOf st6).toList = P ++ L) (pr : L.Perm R) (hn : n ≤ R.length) (ni : NI κ L n)
    (h : ∀ st7 M, Kp st st7 → (arrOf st7).toList = P ++ M → M.Perm R → (M.take n).Pairwise (Lq κ) → wpS (model prog w) A E s (f ()) Q st7) : wpS (model prog w) A E s (reverseSlice' P.length (P.length + n) >>= f) Q st6 := by
  have tl : (L.take n).length = n := by rw [List.length_take, pr.length_eq]; omega
  have er : (arrOf st6).toList = P ++ (L.take n ++ L.drop n) := by rw [List.take_append_drop]; exact e
  have em := mirror_list er
  rw [tl] at em
  refine wpS_bind (wpS_reverse (h _ ((L.take n).reverse ++ L.drop n) ⟨kp.kind, kp.failed, kp.pend⟩ em ?_ ?_))
  · refine List.Perm.trans (List.Perm.append_right _ (List.reverse_perm _)) ?_
    rw [List.take_append_drop]
    exact pr
  · rw [List.take_left' (by rw [List.length_reverse, tl]), List.pairwise_reverse]
    exact ni.falls
theorem wpS_countAt (hO : LtS prog w A E s κ kd) {st : SortSt} {P R : List Keyed} {Q : Option Nat → SortSt → Prop} (hk : kindOf st = kd) (ka : ∀ x ∈ R, Kd κ x) (e : (arrOf st).toList = P ++ R) (hR : 1 ≤ R.length)
    (h : ∀ st' X S, Kp st st' → (arrOf st').toList = P ++ (X ++ S) → X.Pairwise (Lq κ) → (X ++ S).Perm R → 1 ≤ X.length → Q (some X.length) st') : wpS (model prog w) A E s (countRun' P.length R.length) Q st := by
  have got : ∀ n, 1 ≤ n → n ≤ R.length → (R.take n).Pairwise (Lq κ) → Q (some n) st := fun n h1 h2 h3 => by
    have q := h st (R.take n) (R.drop n) ⟨rfl, rfl, rfl⟩ (by rw [List.take_append_drop]; exact e) h3 (by rw [List.take_append_drop]) (by rw [List.length_take]; omega)
    rwa [List.length_take, Nat.min_eq_left h2] at q
  unfold countRun'
  refine wpS_open ?_
  try dsimp only
  refine wpS_bind (wpS_asc (κ := κ) (R := R) rfl (Nat.le_refl 1) hR ?_ (fun n x y i Q' h1 hx hy ht hf => ?_) fun n h1 h2 h3 h4 => ?_)
  · cases R with
    | nil => simp
    | cons => simp
  · refine wpS_bind (wpS_ltR hO hk ka e hx hy rfl (by omega) ?_)
    cases c : κ.blt (kk κ x) (kk κ y) with
    | true => exact wpS_pure (ht c)
    | false => exact wpS_pure (hf c)
  try dsimp only
  by_cases c1 : n = R.length
  · rw [if_pos (beq_iff_eq.mpr c1)]
    exact wpS_pure (got n h1 h2 h3)
  rw [if_neg (fun z => c1 (beq_iff_eq.mp z))]
  rcases h4 with h4 | ⟨x, y, hx, hy, lt⟩
  · exact absurd h4 c1
  have nl : n < R.length := by omega
  have all : ∀ (i j : Nat) (u v : Keyed), i ≤ j → j < n → R[i]? = some u → R[j]? = some v → Lq κ u v := fun i j u v hij hj hu hv => by
    rcases Nat.lt_or_ge i j with c | c
    · obtain ⟨l1, g1⟩ := List.getElem?_eq_some_iff.mp hu
      obtain ⟨l2, g2⟩ := List.getElem?_eq_some_iff.mp hv
      have q := List.pairwise_iff_getElem.mp h3 i j (by rw [List.length_take]; omega) (by rw [List.length_take]; omega) c
      rw [List.getElem_take, List.getElem_take, g1, g2] at q
      exact q
    · have : i = j := by omega
      subst this
      rw [hu] at hv
      cases hv
      exact KeyOrd.kle_refl _
  by_cases c2 : n > 1
  case' pos =>
    rw [if_pos c2]
    obtain ⟨x0, hx0⟩ : ∃ x, R[0]? = some x := ⟨_, List.getElem?_eq_getElem (by omega)⟩
    refine wpS_bind (wpS_ltR hO hk ka e hx0 hy rfl (by omega) ?_)
    try dsimp only
    cases rose : κ.blt (kk κ x0) (kk κ y) with
    | true => exact wpS_pure (got n h1 h2 h3)
    | false => ?_
    try dsimp only
    rw [if_neg (by decide)]
    have al : ∀ z ∈ R.take n, kk κ z = kk κ x0 := fun z hz => by
      obtain ⟨k, hk'⟩ := List.mem_iff_getElem?.mp hz
      have kn : k < n := by
        have := (List.getElem?_eq_some_iff.mp hk').1
        rw [List.length_take] at this
        omega
      rw [List.getElem?_take_of_lt kn] at hk'
      have a1 := all 0 k x0 z (by omega) kn hx0 hk'
      have a2 := all k (n - 1) z y (by omega) (by omega) hk' hy
      exact KeyOrd.kle_antisymm (O := κ.toKeyOrd) (KeyOrd.kle_trans (O := κ.toKeyOrd) a2 rose) a1
    have eq0 : Eqs κ R n (n - 1) := ⟨[], R.take n, R.drop n, kk κ x0, by simp, by rw [List.length_take]; simp; omega, by rw [List.length_take]; omega, al⟩
    have ni0 : NI κ R n := by
      unfold NI
      rw [← List.map_take]
      refine List.pairwise_map.mpr (List.Pairwise.imp_of_mem (R := fun _ _ => True) (fun {u v} hu hv _ => ?_) (List.pairwise_of_forall fun _ _ => trivial))
      rw [al u hu, al v hv]
      exact κ.irrefl _
    have ni1 : NI κ R (n + 1) := ni0.snoc h1 hy hx (KeyOrd.kle_of_klt lt)
    refine wpS_bind (wpS_turn (κ := κ) e eq0 (by omega) rfl fun st1 L0 kp1 e1 p1 m1 _ => ?_)
    have niL : NI κ L0 (n + 1) := by
      unfold NI at ni1 ⊢
      rw [m1]
      exact ni1
  case' neg =>
    rw [if_neg c2]
    have n1 : n = 1 := by omega
    have ni1 : NI κ R (n + 1) := by
      refine NI.snoc h1 ?_ hy hx (KeyOrd.kle_of_klt lt)
      rw [n1]
      unfold NI
      cases R with
      | nil => simp
      | cons => simp
    have kp1 : Kp st st := ⟨rfl, rfl, rfl⟩
    have e1 := e
    have p1 := List.Perm.refl R
    have niL := ni1
  all_goals
    refine wpS_bind (wpS_rule ?_)
    have n2 : 2 ≤ n + 1 := by omega
    refine wpS_bind (wpS_mono (wpS_forRange (I := fun i c st' => ∃ L m, c = (none, i, m) ∧ Kp st st' ∧ (arrOf st').toList = P ++ L ∧ L.Perm R ∧ NI κ L i ∧ Eqs κ L i m ∧ 2 ≤ i)
      (Q := fun c st' => ∃ n' L m, c = (none, n', m) ∧ Kp st st' ∧ (arrOf st').toList = P ++ L ∧ L.Perm R ∧ NI κ L n' ∧ Eqs κ L n' m ∧ 2 ≤ n' ∧ n' ≤ R.length) ?ds ?de ⟨_, 0, rfl, kp1, e1, p1, niL, ?i0, n2⟩) ?dp)
    case i0 =>
      exact eqs_one (by rw [p1.length_eq]; omega)
    case de =>
      rintro c st' ⟨L, m, rfl, kp, eL, pL, ni, eq, g1⟩
      have : max (n + 1) R.length = R.length := by omega
      rw [this] at ni eq g1 ⊢
      exact ⟨_, L, m, rfl, kp, eL, pL, ni, eq, g1, Nat.le_refl _⟩
    case ds =>
      rintro i c st' hi1 hi2 ⟨L, m, rfl, kp, eL, pL, ni, eq, g1⟩
      have hi3 : i < L.length := by rw [pL.length_eq]; exact hi2
      have ex := List.getElem?_eq_getElem hi3
      have ey := List.getElem?_eq_getElem (show i - 1 < L.length by omega)
      have kL : ∀ x ∈ L, Kd κ x := fun x hx => ka x (pL.mem_iff.mp hx)
      have hk' := kp.kind.trans hk
      try dsimp only
      refine wpS_bind (wpS_ltR hO hk' kL eL ex ey rfl (by omega) ?_)
      try dsimp only
      cases c : κ.blt (kk κ L[i]) (kk κ L[i - 1]) with
      | true =>
        rw [if_pos rfl]
        by_cases hm : m > 0
        · rw [if_pos hm]
          refine wpS_bind (wpS_turn (κ := κ) eL eq rfl rfl fun st6 L6 kp6 e6 p6 m6 g6 => wpS_pure ⟨L6, 0, rfl, kp.trans kp6, e6, p6.trans pL, ?_, eqs_one (by rw [p6.length_eq]; omega), by omega⟩)
          have := ni.snoc (by omega) ey ex (KeyOrd.kle_of_klt c)
          unfold NI at this ⊢
          rw [m6]
          exact this
        · rw [if_neg hm]
          exact wpS_pure ⟨L, 0, rfl, kp, eL, pL, ni.snoc (by omega) ey ex (KeyOrd.kle_of_klt c), eqs_one (by omega), by omega⟩
      | false =>
        rw [if_neg (by decide)]
        refine wpS_bind (wpS_ltR hO hk' kL eL ey ex (by omega) rfl ?_)
        try dsimp only
        cases c' : κ.blt (kk κ L[i - 1]) (kk κ L[i]) with
        | true => exact wpS_pure ⟨i, L, m, rfl, kp, eL, pL, ni, eq, g1, by omega⟩
        | false => exact wpS_pure ⟨L, m + 1, rfl, kp, eL, pL, ni.snoc (by omega) ey ex c', eq.more ey ex (κ.total _ _ c c'), by omega⟩
    case dp =>
      rintro c st' ⟨n', L, m, rfl, kp, eL, pL, ni, eq, g1, g2⟩
      try dsimp only
      by_cases hm : m > 0
      case' pos =>
        rw [if_pos hm]
        refine wpS_bind (wpS_turn (κ := κ) eL eq rfl rfl fun st6 L6 kp6' e6 p6' m6 g6 => ?_)
        have kp6 := kp.trans kp6'
        have p6 := p6'.trans pL
        have ni6 : NI κ L6 n' := by
          unfold NI at ni ⊢
          rw [m6]
          exact ni
      case' neg =>
        rw [if_neg hm]
        have kp6 := kp
        have e6 := eL
        have p6 := pL
        have ni6 := ni
      all_goals
        refine wpS_back (κ := κ) kp6 e6 p6 g2 ni6 fun st7 M kp7 e7 p7 s7 => ?_
        have rl := p7.length_eq
        have kM : ∀ x ∈ M, Kd κ x := fun x hx => ka x (p7.mem_iff.mp hx)
        refine wpS_bind (wpS_asc (κ := κ) (R := M) rl.symm (by omega) (by omega) s7 (fun m x y i Q' h1 hx hy ht hf => ?_) fun m h1 h2 h3 _ => ?_)
        · try dsimp only
          refine wpS_bind (wpS_ltR hO (kp7.kind.trans hk) kM e7 hx hy rfl (by omega) ?_)
          cases c : κ.blt (kk κ x) (kk κ y) with
          | true => exact wpS_pure (ht c)
          | false => exact wpS_pure (hf c)
        · have q := h st7 (M.take m) (M.drop m) kp7 (by rw [List.take_append_drop]; exact e7) h3 (by rw [List.take_append_drop]; exact p7) (by rw [List.length_take]; omega)
          rw [List.length_take, Nat.min_eq_left h2] at q
          exact wpS_pure q
end
end So
set_option Elab.async false
set_option linter.all false
set_option maxRecDepth 100000
namespace So
open PySem PyProof.Rows
theorem bubble_list {arr : Array Keyed} {B V W : List Keyed} {x : Keyed} (e : arr.toList = B ++ (V ++ x :: W)) : (bubble arr (B.length + V.length) V.length).toList = B ++ (x :: (V ++ W)) := by
  have sz : arr.size = B.length + (V.length + (W.length + 1)) := by
    have := congrArg List.length e
    simpa using this
  apply List.ext_getElem?
  intro k
  have q := getElem?_bubble (xs := arr) (src := B.length + V.length) (by omega) V.length (by omega) k
  rw [Nat.add_sub_cancel] at q
  have ga : ∀ i, arr[i]? = (B ++ (V ++ x :: W))[i]? := fun i => by rw [← e, Array.getElem?_toList]
  rw [Array.getElem?_toList, q, ga, ga, ga]
  by_cases c1 : k = B.length
  · rw [if_pos c1]
    subst c1
    simp
  rw [if_neg c1]
  by_cases c2 : B.length < k ∧ k ≤ B.length + V.length
  · rw [if_pos c2, List.getElem?_append_right (by omega), List.getElem?_append_left (by omega), List.getElem?_append_right (by omega)]
    have : k - B.length = (k - 1 - B.length) + 1 := by omega
    rw [this, List.getElem?_cons_succ, List.getElem?_append_left (by omega)]
  rw [if_neg c2]
  by_cases c3 : k < B.length
  · rw [List.getElem?_append_left c3, List.getElem?_append_left c3]
  · rw [List.getElem?_append_right (by omega), List.getElem?_append_right (by omega), List.getElem?_append_right (by omega)]
    have e1 : k - B.length - V.length = (k - B.length - V.length - 1) + 1 := by omega
    have e2 : k - B.length = (k - B.length - 1) + 1 := by omega
    rw [e1, List.getElem?_cons_succ, e2, List.getElem?_cons_succ, List.getElem?_append_right (by omega)]
    congr 1
    omega
section
variable {prog : Program} {w : World} {A : Around} {E : Value → Shared → Prop} {s : Shared} {κ : KeyKind} {kd : SortKind}
theorem wpS_binAt (hO : LtS prog w A E s κ kd) {st : SortSt} {P D S : List Keyed} {ok n : Nat} {Q : Bool → SortSt → Prop} (hn : n = D.length) (hk : kindOf st = kd) (ka : ∀ x ∈ D, Kd κ x) (e : (arrOf st).toList = P ++ (D ++ S)) (h1 : 1 ≤ ok) (h2 : ok ≤ D.length) (hs : (D.take ok).Pairwise (Lq κ))
    (h : ∀ st' X, Kp st st' → (arrOf st').toList = P ++ (X ++ S) → X.Pairwise (Lq κ) → X.Perm D → Q true st') : wpS (model prog w) A E s (binarySort' P.length n ok) Q st := by
  subst hn
  unfold binarySort'
  refine wpS_open ?_
  try dsimp only
  have mx : max ok 1 = ok := by omega
  rw [mx]
  refine wpS_bind (wpS_mono (wpS_forRange (I := fun k c st' => c = (none, ()) ∧ Kp st st' ∧ ∃ X, (arrOf st').toList = P ++ (X ++ S) ∧ X.Perm D ∧ (X.take k).Pairwise (Lq κ))
    (Q := fun c st' => c = (none, ()) ∧ Kp st st' ∧ ∃ X, (arrOf st').toList = P ++ (X ++ S) ∧ X.Perm D ∧ X.Pairwise (Lq κ)) ?s1 ?e1 ⟨rfl, ⟨rfl, rfl, rfl⟩, D, e, List.Perm.refl _, hs⟩) ?p1)
  case e1 =>
    rintro c st' ⟨rfl, kp, X, eX, pX, sX⟩
    rw [Nat.max_eq_right h2, List.take_of_length_le (by rw [pX.length_eq]; exact Nat.le_refl _)] at sX
    exact ⟨rfl, kp, X, eX, pX, sX⟩
  case p1 =>
    rintro c st' ⟨rfl, kp, X, eX, pX, sX⟩
    exact wpS_pure (h st' X kp eX sX pX)
  case s1 =>
    rintro k c st' hk1 hk2 ⟨rfl, kp, X, eX, pX, sX⟩
    have xl := pX.length_eq
    have kaX : ∀ x ∈ X ++ S, x ∈ X → Kd κ x := fun x _ hx => ka x (pX.mem_iff.mp hx)
    have hkx : k < X.length := by omega
    have ex := List.getElem?_eq_getElem hkx
    generalize X[k] = x at ex
    have eX' : (arrOf st').toList = P ++ X ++ S := by rw [eX, List.append_assoc]
    have lt : ∀ {i : Nat} {y : Keyed} {Q' : Option Bool → SortSt → Prop}, X[i]? = some y → Q' (some (κ.blt (kk κ x) (kk κ y))) st' → wpS (model prog w) A E s (ltAt' (P.length + k) (P.length + i)) Q' st' := fun {i y Q'} hy hq => by
      have il := (List.getElem?_eq_some_iff.mp hy).1
      rw [ltAt'_eq]
      refine wpS_bind (wpS_get ?_)
      exact wpS_bind (wpS_elem (at_R eX (by rw [List.getElem?_append_left hkx]; exact ex)) (wpS_bind (wpS_elem (at_R eX (by rw [List.getElem?_append_left il]; exact hy)) (wpS_lt hO (kp.kind.trans hk) (ka x (pX.mem_iff.mp (List.mem_of_getElem? ex))) (ka y (pX.mem_iff.mp (List.mem_of_getElem? hy))) hq))))
    have mono : ∀ {i j : Nat} {u v : Keyed}, i ≤ j → j < k → X[i]? = some u → X[j]? = some v → Lq κ u v := fun {i j u v} hij hj hu hv => by
      rcases Nat.lt_or_ge i j with c | c
      · obtain ⟨l1, g1⟩ := List.getElem?_eq_some_iff.mp hu
        obtain ⟨l2, g2⟩ := List.getElem?_eq_some_iff.mp hv
        have q := List.pairwise_iff_getElem.mp sX i j (by rw [List.length_take]; omega) (by rw [List.length_take]; omega) c
        rw [List.getElem_take, List.getElem_take, g1, g2] at q
        exact q
      · have : i = j := by omega
        subst this
        rw [hu] at hv
        cases hv
        exact KeyOrd.kle_refl _
    try dsimp only
    refine wpS_bind (wpS_mono (wpS_forRange (I := fun i c st'' => st'' = st' ∧ ∃ l r, c = (none, l, r) ∧ l ≤ r ∧ r ≤ k ∧ (∀ j u, j < l → X[j]? = some u → Lq κ u x) ∧ (∀ j u, r ≤ j → j < k → X[j]? = some u → Lq κ x u) ∧ r - l + i ≤ k)
      (Q := fun c st'' => st'' = st' ∧ ∃ l, c = (none, l, l) ∧ l ≤ k ∧ (∀ j u, j < l → X[j]? = some u → Lq κ u x) ∧ (∀ j u, l ≤ j → j < k → X[j]? = some u → Lq κ x u)) ?s2 ?e2 ⟨rfl, 0, k, rfl, by omega, by omega, fun j u z => absurd z (by omega), fun j u z z' => absurd z' (by omega), by omega⟩) ?p2)
    case e2 =>
      rintro c st'' ⟨rfl, l, r, rfl, a1, a2, a3, a4, a5⟩
      have : l = r := by omega
      subst this
      exact ⟨rfl, l, rfl, a2, a3, a4⟩
    case s2 =>
      rintro i c st'' _ hi ⟨rfl, l, r, rfl, a1, a2, a3, a4, a5⟩
      try dsimp only
      by_cases c : l ≥ r
      · rw [if_pos c]
        have : l = r := by omega
        subst this
        exact wpS_pure ⟨rfl, l, rfl, a2, a3, a4⟩
      · rw [if_neg c]
        have ml : (l + r) / 2 < X.length := by omega
        have em := List.getElem?_eq_getElem ml
        refine wpS_bind (lt em ?_)
        try dsimp only
        cases cc : κ.blt (kk κ x) (kk κ X[(l + r) / 2]) with
        | true => exact wpS_pure ⟨rfl, _, _, rfl, by omega, by omega, a3, fun j u hj hj2 hu => KeyOrd.kle_trans (KeyOrd.kle_of_klt cc) (mono hj hj2 em hu), by omega⟩
        | false => exact wpS_pure ⟨rfl, _, _, rfl, by omega, by omega, fun j u hj hu => KeyOrd.kle_trans (mono (show j ≤ (l + r) / 2 by omega) (by omega) hu em) cc, a4, by omega⟩
    case p2 =>
      rintro c st'' ⟨rfl, l, rfl, a2, a3, a4⟩
      try dsimp only
      have eX2 : X = X.take l ++ ((X.take k).drop l ++ x :: X.drop (k + 1)) := by
        obtain ⟨l1, g1⟩ := List.getElem?_eq_some_iff.mp ex
        have d1 : X.drop k = x :: X.drop (k + 1) := by rw [List.drop_eq_getElem_cons l1, g1]
        have t1 : X.take k = X.take l ++ (X.take k).drop l := by
          have q := (List.take_append_drop l (X.take k)).symm
          rw [List.take_take, Nat.min_eq_left a2] at q
          exact q
        rw [← d1, ← List.append_assoc, ← t1, List.take_append_drop]
      have lv : ((X.take k).drop l).length = k - l := by rw [List.length_drop, List.length_take]; omega
      have lu : (X.take l).length = l := by rw [List.length_take]; omega
      have mU : ∀ u ∈ X.take l, Lq κ u x := fun u hu => by
        obtain ⟨j, hj⟩ := List.mem_iff_getElem?.mp hu
        have jl := (List.getElem?_eq_some_iff.mp hj).1
        rw [lu] at jl
        rw [List.getElem?_take_of_lt jl] at hj
        exact a3 j u jl hj
      have mV : ∀ u ∈ (X.take k).drop l, Lq κ x u := fun u hu => by
        obtain ⟨j, hj⟩ := List.mem_iff_getElem?.mp hu
        have jl := (List.getElem?_eq_some_iff.mp hj).1
        rw [lv] at jl
        rw [List.getElem?_drop, List.getElem?_take_of_lt (by omega)] at hj
        exact a4 (l + j) u (by omega) (by omega) hj
      have sUV : (X.take l ++ (X.take k).drop l).Pairwise (Lq κ) := by
        have q := (List.take_append_drop l (X.take k)).symm
        rw [List.take_take, Nat.min_eq_left a2] at q
        rw [← q]
        exact sX
      generalize X.take l = U at *
      generalize (X.take k).drop l = V at *
      generalize X.drop (k + 1) = W at *
      subst eX2
      have eb : (arrOf st'').toList = (P ++ U) ++ (V ++ x :: (W ++ S)) := by rw [eX]; simp
      have bl := bubble_list eb
      have l1 : (P ++ U).length + V.length = P.length + k := by rw [List.length_append]; omega
      rw [l1] at bl
      have l2 : P.length + k - (P.length + l) = V.length := by omega
      have sp := List.pairwise_append.mp sUV
      refine wpS_bind ?_
      show wpS _ _ _ _ (moveDown' (P.length + k) (P.length + l)) _ _
      rw [moveDown'_eq]
      refine wpS_modify (wpS_pure ⟨rfl, ⟨kp.kind, kp.failed, kp.pend⟩, U ++ (x :: (V ++ W)), ?_, ?_, ?_⟩)
      · show (bubble (arrOf st'') (P.length + k) (P.length + k - (P.length + l))).toList = _
        rw [l2, bl]
        simp
      · refine List.Perm.trans (List.Perm.append_left _ ?_) pX
        exact (List.perm_middle).symm
      · have t : U ++ (x :: (V ++ W)) = (U ++ x :: V) ++ W := by simp
        rw [t, List.take_left' (by simp; omega), List.pairwise_append, List.pairwise_cons]
        refine ⟨sp.1, ⟨mV, sp.2.1⟩, fun u hu v hv => ?_⟩
        rcases List.mem_cons.mp hv with c | c
        · rw [c]; exact mU u hu
        · exact sp.2.2 u hu v c
end
end So
set_option Elab.async false
set_option linter.all false
set_option maxRecDepth 100000
namespace So
open PySem PyProof.Rows
/-! ### the runs that wait -/
def Pd (κ : KeyKind) : Nat → List (Nat × Nat × Nat) → List (List Keyed) → Prop
  | _, [], [] => True
  | a, p :: ps, r :: rs => p.1 = a ∧ p.2.1 = r.length ∧ 1 ≤ r.length ∧ r.Pairwise (Lq κ) ∧ Pd κ (a + r.length) ps rs
  | _, _, _ => False
section
variable {κ : KeyKind} {kd : SortKind}
theorem Pd.len : ∀ {a : Nat} {ps : List (Nat × Nat × Nat)} {rs : List (List Keyed)}, Pd κ a ps rs → ps.length = rs.length
  | _, [], [], _ => rfl
  | _, _ :: _, _ :: _, h => by simp [Pd.len h.2.2.2.2]
  | _, [], _ :: _, h => h.elim
  | _, _ :: _, [], h => h.elim
theorem Pd.snoc : ∀ {a : Nat} {ps : List (Nat × Nat × Nat)} {rs : List (List Keyed)} {p : Nat × Nat × Nat} {r : List Keyed}, Pd κ a ps rs → p.1 = a + rs.flatten.length → p.2.1 = r.length → 1 ≤ r.length → r.Pairwise (Lq κ) → Pd κ a (ps ++ [p]) (rs ++ [r])
  | _, [], [], p, r, _, h1, h2, h3, h4 => ⟨by simpa using h1, h2, h3, h4, trivial⟩
  | a, q :: ps, u :: rs, p, r, h, h1, h2, h3, h4 => ⟨h.1, h.2.1, h.2.2.1, h.2.2.2.1, Pd.snoc h.2.2.2.2 (by rw [h1]; simp; omega) h2 h3 h4⟩
  | _, [], _ :: _, _, _, h, _, _, _, _ => h.elim
  | _, _ :: _, [], _, _, h, _, _, _, _ => h.elim
theorem Pd.big : ∀ {a : Nat} {ps : List (Nat × Nat × Nat)} {rs : List (List Keyed)}, Pd κ a ps rs → rs.length ≤ rs.flatten.length
  | _, [], [], _ => by simp
  | _, _ :: _, r :: rs, h => by
    have := Pd.big h.2.2.2.2
    have := h.2.2.1
    rw [List.flatten_cons, List.length_append, List.length_cons]
    omega
  | _, [], _ :: _, h => h.elim
  | _, _ :: _, [], h => h.elim
/-- the power of a run is no matter -/
theorem Pd.modify (f : Nat × Nat × Nat → Nat × Nat × Nat) (hf : ∀ x, (f x).1 = x.1 ∧ (f x).2.1 = x.2.1) : ∀ {a : Nat} {ps : List (Nat × Nat × Nat)} {rs : List (List Keyed)} (i : Nat), Pd κ a ps rs → Pd κ a (ps.modify i f) rs
  | _, [], [], i, h => by cases i <;> exact h
  | _, p :: ps, r :: rs, 0, h => by
    rw [List.modify_zero_cons]
    exact ⟨(hf p).1.trans h.1, (hf p).2.trans h.2.1, h.2.2⟩
  | _, p :: ps, r :: rs, i + 1, h => by
    rw [List.modify_succ_cons]
    exact ⟨h.1, h.2.1, h.2.2.1, h.2.2.2.1, Pd.modify f hf i h.2.2.2.2⟩
  | _, [], _ :: _, _, h => h.elim
  | _, _ :: _, [], _, h => h.elim
/-- two runs beside one another become one -/
theorem Pd.two : ∀ {a : Nat} {ps : List (Nat × Nat × Nat)} {rs : List (List Keyed)} {i : Nat}, Pd κ a ps rs → i + 1 < rs.length →
    ∃ RL X Y RT pa pb, rs = RL ++ X :: Y :: RT ∧ RL.length = i ∧ ps[i]? = some (a + RL.flatten.length, X.length, pa) ∧ ps[i + 1]? = some (a + RL.flatten.length + X.length, Y.length, pb) ∧ 1 ≤ X.length ∧ 1 ≤ Y.length ∧ X.Pairwise (Lq κ) ∧ Y.Pairwise (Lq κ) ∧
      ∀ Z : List Keyed, Z.length = X.length + Y.length → Z.Pairwise (Lq κ) → Pd κ a ((ps.set i (a + RL.flatten.length, X.length + Y.length, pa)).eraseIdx (i + 1)) (RL ++ Z :: RT)
  | _, [], [], i, _, hi => by simp at hi
  | a, p :: q :: ps, X :: Y :: rs, 0, h, _ => by
    obtain ⟨h1, h2, h3, h4, h5, h6, h7, h8, h9⟩ := h
    refine ⟨[], X, Y, rs, p.2.2, q.2.2, rfl, rfl, ?_, ?_, h3, h7, h4, h8, fun Z hz sz => ?_⟩
    · simp
      rw [← h1, ← h2]
    · simp
      rw [← h5, ← h6]
    · refine ⟨by simp, hz.symm, by omega, sz, ?_⟩
      have : a + Z.length = a + X.length + Y.length := by omega
      rw [this]
      simpa using h9
  | a, [p], X :: Y :: rs, _, h, _ => h.2.2.2.2.elim
  | a, p :: ps, r :: rs, i + 1, h, hi => by
    obtain ⟨RL, X, Y, RT, pa, pb, e1, e2, e3, e4, e5, e6, e7, e8, e9⟩ := Pd.two (i := i) h.2.2.2.2 (by simpa using hi)
    refine ⟨r :: RL, X, Y, RT, pa, pb, by rw [e1]; rfl, by simp [e2], ?_, ?_, e5, e6, e7, e8, fun Z hz sz => ?_⟩
    · simpa [Nat.add_assoc] using e3
    · simpa [Nat.add_assoc] using e4
    · have q := e9 Z hz sz
      refine ⟨h.1, h.2.1, h.2.2.1, h.2.2.2.1, ?_⟩
      simpa [Nat.add_assoc] using q
  | _, _ :: _, [_], 0, _, hi => by simp at hi
  | _, [], _ :: _, _, h, _ => h.elim
  | _, _ :: _, [], _, h, _ => h.elim
end
structure Sv (kd : SortKind) (κ : KeyKind) (a0 : List Keyed) (st : SortSt) (rs : List (List Keyed)) (rest : List Keyed) : Prop where
  kind : kindOf st = kd
  failed : failedOf st = none
  arr : (arrOf st).toList = rs.flatten ++ rest
  pd : Pd κ 0 (pendingOf st).toList rs
  perm : (rs.flatten ++ rest).Perm a0
section
variable {prog : Program} {w : World} {A : Around} {E : Value → Shared → Prop} {s : Shared} {κ : KeyKind} {kd : SortKind}
theorem Sv.size {a0 : List Keyed} {st : SortSt} {rs : List (List Keyed)} {rest : List Keyed} (h : Sv kd κ a0 st rs rest) : (pendingOf st).size = rs.length := by
  have := h.pd.len
  simpa using this
theorem wpS_step (hO : LtS prog w A E s κ kd) {a0 : List Keyed} {st : SortSt} {rs : List (List Keyed)} {rest : List Keyed} {i : Nat} {Q : Bool → SortSt → Prop} (k0 : ∀ x ∈ a0, Kd κ x) (h : Sv kd κ a0 st rs rest) (hi : i + 1 < rs.length)
    (q : ∀ st' rs', Sv kd κ a0 st' rs' rest → rs'.length + 1 = rs.length → rs'.flatten.length = rs.flatten.length → Q true st') : wpS (model prog w) A E s (mergeAt' i) Q st := by
  obtain ⟨RL, X, Y, RT, pa, pb, e1, e2, e3, e4, e5, e6, e7, e8, e9⟩ := h.pd.two hi
  simp only [Nat.zero_add] at e3 e4 e9
  have ea : (arrOf st).toList = RL.flatten ++ (X ++ (Y ++ (RT.flatten ++ rest))) := by rw [h.arr, e1]; simp
  refine wpS_mergeAt hO h.kind h.failed (fun x hx => k0 x (h.perm.mem_iff.mp (by rw [← h.arr]; exact hx))) ea e7 e8 e5 e6 (by simpa using e3) (by simpa using e4) fun st' Z pz sz hk hf ha hp => ?_
  have zl : Z.length = X.length + Y.length := by rw [pz.length_eq, List.length_append]
  refine q st' (RL ++ Z :: RT) ⟨hk, hf, by rw [ha]; simp, ?_, ?_⟩ (by rw [e1]; simp; omega) (by rw [e1]; simp; omega)
  · rw [hp]
    have := e9 Z zl sz
    simpa using this
  · refine List.Perm.trans ?_ h.perm
    rw [e1]
    have t1 : (RL ++ Z :: RT).flatten ++ rest = RL.flatten ++ (Z ++ (RT.flatten ++ rest)) := by simp
    have t2 : (RL ++ X :: Y :: RT).flatten ++ rest = RL.flatten ++ ((X ++ Y) ++ (RT.flatten ++ rest)) := by simp
    rw [t1, t2]
    exact List.Perm.append_left _ (List.Perm.append_right _ pz)
end
end So
set_option Elab.async false
set_option linter.all false
set_option maxRecDepth 100000
namespace So
open PySem PyProof.Rows
section
variable {prog : Program} {w : World} {A : Around} {E : Value → Shared → Prop} {s : Shared} {κ : KeyKind} {kd : SortKind}
theorem wpS_runs (hO : LtS prog w A E s κ kd) {a0 : List Keyed} {st : SortSt} {Q : Unit → SortSt → Prop} (hk : kindOf st = kd) (hf : failedOf st = none) (hp : pendingOf st = #[]) (ha : (arrOf st).toList = a0) (k0 : ∀ x ∈ a0, Kd κ x)
    (h : ∀ st', (arrOf st').toList.Perm a0 → failedOf st' = none → (arrOf st').toList.Pairwise (Lq κ) → Q () st') : wpS (model prog w) A E s sortRuns' Q st := by
  have S0 : Sv kd κ a0 st [] a0 := ⟨hk, hf, by simpa using ha, by rw [hp]; trivial, by simp⟩
  have sz : (arrOf st).size = a0.length := by rw [← ha]; simp
  unfold sortRuns'
  refine wpS_open ?_
  refine wpS_bind (wpS_get ?_)
  dsimp only
  rw [sz]
  generalize (sortPriv% PySem.Builtin.minRun) a0.length a0.length 0 = mr
  refine wpS_bind (wpS_mono (wpS_forRange (I := fun x c st' => ∃ rs rest, c = (none, rs.flatten.length) ∧ Sv kd κ a0 st' rs rest ∧ x ≤ rs.flatten.length)
    (Q := fun c st' => ∃ rs lo, c = (none, lo) ∧ Sv kd κ a0 st' rs []) ?s1 ?e1 ⟨[], a0, rfl, S0, by simp⟩) ?p1)
  case e1 =>
    rintro c st' ⟨rs, rest, rfl, sv, hx⟩
    have l := sv.perm.length_eq
    rw [List.length_append] at l
    have : rest = [] := List.eq_nil_of_length_eq_zero (by omega)
    subst this
    exact ⟨rs, _, rfl, sv⟩
  case p1 =>
    rintro c st' ⟨rs, lo, rfl, sv⟩
    try dsimp only
    refine wpS_bind (wpS_mono (wpS_forRange (I := fun x c st' => c = (none, ()) ∧ ∃ rs, Sv kd κ a0 st' rs [] ∧ rs.length + x ≤ a0.length)
      (Q := fun c st' => c = (none, ()) ∧ ∃ rs, Sv kd κ a0 st' rs [] ∧ rs.length ≤ 1) ?s4 ?e4 ⟨rfl, rs, sv, ?i4⟩) ?p4)
    case i4 =>
      have b := sv.pd.big
      have l := sv.perm.length_eq
      rw [List.length_append] at l
      simp only [List.length_nil, Nat.add_zero] at l ⊢
      omega
    case e4 =>
      rintro c st'' ⟨rfl, rs, sv, hx⟩
      exact ⟨rfl, rs, sv, by omega⟩
    case p4 =>
      rintro c st'' ⟨rfl, rs, sv, hl⟩
      refine wpS_pure (h st'' ?_ sv.failed ?_)
      · rw [sv.arr]
        exact sv.perm
      · rw [sv.arr]
        have pd := sv.pd
        cases rs with
        | nil => simp
        | cons r rs =>
          have : rs = [] := List.eq_nil_of_length_eq_zero (by rw [List.length_cons] at hl; omega)
          subst this
          cases hq : (pendingOf st'').toList with
          | nil => rw [hq] at pd; exact pd.elim
          | cons p ps =>
            rw [hq] at pd
            simpa using pd.2.2.2.1
    case s4 =>
      rintro x c st'' _ hx ⟨rfl, rs, sv, hl⟩
      refine wpS_bind (wpS_get ?_)
      have ps := sv.size
      by_cases c1 : (pendingOf st'').size ≤ 1
      · rw [if_pos c1]
        exact wpS_pure ⟨rfl, rs, sv, by omega⟩
      · rw [if_neg c1]
        refine wpS_bind (wpS_step hO k0 sv ?_ fun st3 rs3 sv3 l3 _ => ?_)
        · have gen : ∀ b : Bool, (if b = true then (pendingOf st'').size - 2 - 1 else (pendingOf st'').size - 2) + 1 < rs.length := fun b => by
            cases b with
            | true => rw [if_pos rfl]; omega
            | false => rw [if_neg (by decide)]; omega
          exact gen _
        · exact wpS_pure ⟨rfl, rs3, sv3, by omega⟩
  case s1 =>
    rintro x c st1 _ hx ⟨rs, rest, rfl, sv, hxl⟩
    have l := sv.perm.length_eq
    rw [List.length_append] at l
    try dsimp only
    by_cases c1 : rs.flatten.length ≥ a0.length
    · rw [if_pos c1]
      have : rest = [] := List.eq_nil_of_length_eq_zero (by omega)
      subst this
      exact wpS_pure ⟨rs, _, rfl, sv⟩
    rw [if_neg c1]
    have kR : ∀ x ∈ rest, Kd κ x := fun x hx => k0 x (sv.perm.mem_iff.mp (by simp [hx]))
    have rl : a0.length - rs.flatten.length = rest.length := by omega
    rw [rl]
    refine wpS_bind (wpS_countAt hO sv.kind kR sv.arr (by omega) fun st3 X3 S3 kp3 e3 s3 p3 l3 => ?_)
    try dsimp only
    have fin : ∀ (n : Nat) (st4 : SortSt) (rs4 : List (List Keyed)) (X S : List Keyed), 1 ≤ X.length → n = X.length → X.Pairwise (Lq κ) → kindOf st4 = kd → failedOf st4 = none → (arrOf st4).toList = rs4.flatten ++ (X ++ S) → Pd κ 0 (pendingOf st4).toList rs4 → rs4.flatten.length = rs.flatten.length → (rs4.flatten ++ (X ++ S)).Perm a0 →
        ∃ rs' rest', ((none : Option Unit), rs.flatten.length + n) = (none, rs'.flatten.length) ∧ Sv kd κ a0 (setPending st4 ((pendingOf st4).push (rs.flatten.length, n, 0))) rs' rest' ∧ x + 1 ≤ rs'.flatten.length := by
      intro n st4 rs4 X S lX hn sX hk4 hf4 e4 pd4 fl pr
      subst hn
      have fl2 : (rs4 ++ [X]).flatten.length = rs.flatten.length + X.length := by
        rw [List.flatten_append, List.length_append, fl]
        simp
      refine ⟨rs4 ++ [X], S, by rw [fl2], ⟨hk4, hf4, by show (arrOf st4).toList = _; rw [e4]; simp, ?_, by simpa using pr⟩, by omega⟩
      show Pd κ 0 ((pendingOf st4).push (rs.flatten.length, X.length, 0)).toList (rs4 ++ [X])
      rw [Array.toList_push]
      exact pd4.snoc (by simp only [Nat.zero_add]; exact fl.symm) rfl lX sX
    have sv3 : Sv kd κ a0 st3 rs (X3 ++ S3) := ⟨kp3.kind.trans sv.kind, kp3.failed.trans sv.failed, e3, by rw [kp3.pend]; exact sv.pd, List.Perm.trans (List.Perm.append_left _ p3) sv.perm⟩
    by_cases cm : X3.length < mr
    case' pos =>
      rw [if_pos cm]
      have fl : min rest.length mr ≤ (X3 ++ S3).length := by rw [p3.length_eq]; omega
      have lx : X3.length ≤ min rest.length mr := by
        have := p3.length_eq
        rw [List.length_append] at this
        omega
      refine wpS_bind (wpS_rule (wpS_bind (wpS_binAt hO (P := rs.flatten) (D := (X3 ++ S3).take (min rest.length mr)) (S := (X3 ++ S3).drop (min rest.length mr)) (by rw [List.length_take]; omega) sv3.kind (fun x hx => kR x (p3.mem_iff.mp (List.mem_of_mem_take hx))) (by rw [List.take_append_drop]; exact e3) l3 (by rw [List.length_take]; omega) (by rw [List.take_take, Nat.min_eq_left lx, List.take_left]; exact s3) fun st4 X4 kp4 e4 s4 p4 => ?_)))
      have l4 : min rest.length mr = X4.length := by rw [p4.length_eq, List.length_take]; omega
      have sv4 : Sv kd κ a0 st4 rs (X4 ++ (X3 ++ S3).drop (min rest.length mr)) := ⟨kp4.kind.trans sv3.kind, kp4.failed.trans sv3.failed, e4, by rw [kp4.pend]; exact sv3.pd, by
        refine List.Perm.trans (List.Perm.append_left _ (List.Perm.append_right _ p4)) ?_
        rw [List.take_append_drop]
        exact sv3.perm⟩
      have l5 : 1 ≤ X4.length := by omega
      simp only [Bool.not_true, Bool.false_eq_true, if_false]
      generalize min rest.length mr = n at l4 sv4 ⊢
      generalize (X3 ++ S3).drop n = S4 at sv4 ⊢
    case' neg =>
      rw [if_neg cm]
      have l4 : X3.length = X3.length := rfl
      have sv4 := sv3
      have s4 := s3
      have l5 := l3
    all_goals
      refine wpS_bind (wpS_get ?_)
      split
      · refine wpS_bind (wpS_mono (wpS_forRange (I := fun _ c st' => c = (none, ()) ∧ ∃ rs', Sv kd κ a0 st' rs' _ ∧ rs'.flatten.length = rs.flatten.length) (Q := fun c st' => c = (none, ()) ∧ ∃ rs', Sv kd κ a0 st' rs' _ ∧ rs'.flatten.length = rs.flatten.length) ?_ (fun _ _ z => z) ⟨rfl, rs, sv4, rfl⟩) ?_)
        · rintro y c st5 _ _ ⟨rfl, rs5, sv5, f5⟩
          refine wpS_bind (wpS_get ?_)
          have ps := sv5.size
          by_cases cp : (pendingOf st5).size > 1
          · rw [if_pos cp]
            split
            · split
              · exact wpS_pure ⟨rfl, rs5, sv5, f5⟩
              · refine wpS_bind (wpS_step hO k0 sv5 (by show (pendingOf st5).size - 2 + 1 < rs5.length; omega) fun st6 rs6 sv6 _ f6 => ?_)
                exact wpS_pure ⟨rfl, rs6, sv6, f6.trans f5⟩
            · exact wpS_pure ⟨rfl, rs5, sv5, f5⟩
          · rw [if_neg cp]
            exact wpS_pure ⟨rfl, rs5, sv5, f5⟩
        · rintro c st5 ⟨rfl, rs5, sv5, f5⟩
          try dsimp only
          refine wpS_bind (wpS_modify (wpS_bind (wpS_modify (wpS_pure ?_))))
          exact fin _ (setPending st5 ((pendingOf st5).modify ((pendingOf st5).size - 1) fun x => (x.fst, x.2.fst, _))) rs5 _ _ l5 l4 s4 sv5.kind sv5.failed sv5.arr (by
            show Pd κ 0 ((pendingOf st5).modify _ _).toList rs5
            rw [Array.toList_modify]
            refine Pd.modify _ ?_ _ sv5.pd
            exact fun x => ⟨rfl, rfl⟩) f5 sv5.perm
      · exact wpS_bind (wpS_modify (wpS_pure (fin _ _ rs _ _ l5 l4 s4 sv4.kind sv4.failed sv4.arr sv4.pd rfl sv4.perm)))
end
end So
set_option Elab.async false
set_option linter.all false
set_option maxRecDepth 100000
namespace So
open PySem PyProof.Rows
section
variable {prog : Program} {w : World} {A : Around} {E : Value → Shared → Prop} {s : Shared} {κ : KeyKind}
theorem KK_at {xs : Array Keyed} {i : Nat} {p : Keyed} (e : xs[i]? = some p) : KK κ xs i = kk κ p := by
  unfold KK kk
  rw [e]
theorem sortedTo_of {xs : Array Keyed} (sx : xs.toList.Pairwise (Lq κ)) : SortedToK κ xs xs.size := fun i j hij hj => by
  have e1 := Array.getElem?_eq_getElem (show i < xs.size by omega)
  have e2 := Array.getElem?_eq_getElem hj
  rw [KK_at e1, KK_at e2]
  exact srt_at sx hij e1 e2
theorem LtS.of_one (hO : κ.OneLt) : LtS prog w A E s κ oneType' := by
  intro st x y Q hk hx hy h
  obtain ⟨a, ha⟩ := hx
  obtain ⟨b, hb⟩ := hy
  have e1 : kk κ x = a := by unfold kk; rw [ha]; rfl
  have e2 : kk κ y = b := by unfold kk; rw [hb]; rfl
  rw [e1, e2] at h
  rw [lt'_eq]
  refine wpS_bind (wpS_get ?_)
  rw [hk, keyLt'_oneType]
  refine wpS_bind (wpS_lift (wpAny_attempt (hO prog w A _ s x.1 y.1 a b ha hb ⟨rfl, ?_⟩)))
  exact wpS_pure h
theorem sort_any (hO : κ.OneLt) {a : Addr} {vs : List Value} {n : Nat} {P : Fin → Shared → Prop} (ho : s.heap.get? a = some (seqObj "list" vs.toArray n))
    (h0 : KeysOf κ (pairsOf vs)) (dist : (pairsOf vs).toList.Pairwise (fun p q => kk κ p ≠ kk κ q)) (hkk : ∀ v₁ v₂ rest, vs = v₁ :: v₂ :: rest → keyKind' (v₁ :: v₂ :: rest).toArray = pure oneType') (hz : vs.length ≤ sizeLine)
    (h : ∀ st' : SortSt, (arrOf st').Perm (pairsOf vs) → SortedToK κ (arrOf st') (pairsOf vs).size → P (.done (.ret .none)) { s with heap := sortedHeap s.heap a vs ((arrOf st').map (·.2)) }) :
    wpAny (model prog w) A (Builtin.«list.sort» ⟨[.ref a], []⟩) P E s := by
  rcases Nat.lt_or_ge vs.length 64 with c | c
  · exact list_sort_treeK hO ho h0 hkk c h
  obtain ⟨v₁, v₂, rest, rfl⟩ : ∃ v₁ v₂ rest, vs = v₁ :: v₂ :: rest := by
    match vs, c with
    | [], c => simp at c
    | [_], c => simp at c
    | v₁ :: v₂ :: rest, _ => exact ⟨v₁, v₂, rest, rfl⟩
  rw [list_sort_plain]
  have ha : a < s.heap.objs.size := Heap.lt_size ho
  refine wpAny_bind (listItems_at ho rfl ?_)
  refine wpAny_bind (listUpdate_at ho rfl ?_)
  obtain ⟨e1, ho1⟩ : ∃ e1, (s.heap.update a (Obj.mapSeq fun _ => #[])).get? a = some (seqObj "list" #[] e1) := ⟨_, get?_update_seq ho (fun _ => #[])⟩
  refine wpAny_bind (seqEpoch_at ho1 rfl (wpAny_bind (wpAny_newTuple (wpAny_bind (wpAny_newList (wpAny_holding ?_))))))
  have ho6 : (((s.heap.update a (Obj.mapSeq fun _ => #[])).push (seqObj "tuple" (v₁ :: v₂ :: rest).toArray 0)).push (seqObj "list" #[] 0)).get? a = some (seqObj "list" #[] e1) := by
    rw [Heap.get?_push_ne _ _ _ (by rw [size_push', Heap.size_update]; exact Nat.ne_of_lt (Nat.lt_succ_of_lt ha)), Heap.get?_push_ne _ _ _ (by rw [Heap.size_update]; exact Nat.ne_of_lt ha)]
    exact ho1
  show wpAny (model prog w) A _ P E { s with heap := ((s.heap.update a (Obj.mapSeq fun _ => #[])).push (seqObj "tuple" (v₁ :: v₂ :: rest).toArray 0)).push (seqObj "list" #[] 0) }
  dsimp only
  have h2 : ¬ (v₁ :: v₂ :: rest).toArray.size < 2 := by simp
  rw [if_neg h2, if_neg h2, hkk _ _ _ rfl]
  refine wpAny_bind (wpAny_pure ?_)
  refine wpAny_bind (wpAny_mono (wpS_runs (κ := κ) (LtS.of_one hO) (a0 := (pairsOf (v₁ :: v₂ :: rest)).toList) (st := SortSt.mk' oneType' ((v₁ :: v₂ :: rest).toArray.zip (v₁ :: v₂ :: rest).toArray) #[] 7 none)
    (Q := fun _ st' => (arrOf st').Perm (pairsOf (v₁ :: v₂ :: rest)) ∧ failedOf st' = none ∧ SortedToK κ (arrOf st') (pairsOf (v₁ :: v₂ :: rest)).size)
    rfl rfl rfl rfl (fun x hx => h0 x hx) fun st' pr fl sr => ⟨Array.perm_iff_toList_perm.mpr pr, fl, ?_⟩) ?_ fun _ _ e => e)
  · have q := sortedTo_of sr
    have z : (arrOf st').size = (pairsOf (v₁ :: v₂ :: rest)).size := by
      have := pr.length_eq
      simpa using this
    rw [← z]
    exact q
  rintro ⟨⟨⟩, st'⟩ s' ⟨rfl, hp, hf, hs⟩
  dsimp only
  refine wpAny_bind (seqEpoch_at ho6 rfl ?_)
  refine wpAny_bind (listUpdate_at ho6 rfl ?_ (hsz2 := by refine Nat.le_trans (Nat.le_of_eq ((Array.size_map ..).trans (hp.size_eq.trans (pairsOf_size _)))) (Nat.le_succ_of_le hz)))
  rw [hf]
  simp only [bne_self_eq_false, Bool.false_eq_true, if_false]
  exact wpAny_pure (h st' hp hs)
end
end So
set_option Elab.async false
set_option linter.all false
set_option maxRecDepth 100000
/-! THE HAND LAYER, for ints, bools, texts, own classes, LISTS and tuples (index, slices, in, append, pop ..), calls, loops. Paste it whole ahead of your own text; what your proof does not reach may be deleted. -/
namespace L2
open PySem PySem.Spec PyProof.Rows

/-- a key: an int or a str -/
abbrev Key := Sum Int Str
def keyIs : Key → Value → Bool
  | .inl k, v => Value.isInt k v
  | .inr x, v => Value.isStrOf x v
def keyH (w : World) : Key → Int
  | .inl k => hashInt k
  | .inr x => hashStr w x
theorem keyIs_shape : ∀ {k : Key} {v : Value}, keyIs k v = true → (∃ i t, k = Sum.inl i ∧ v = Value.int i t) ∨ (∃ x t, k = Sum.inr x ∧ v = Value.str x t)
  | .inl i, v, h => by
    obtain ⟨t, e⟩ := Value.isInt_shape (k := i) (v := v) h
    exact .inl ⟨i, t, rfl, e⟩
  | .inr x, v, h => by
    obtain ⟨t, e⟩ := Value.isStrOf_shape (x := x) (v := v) h
    exact .inr ⟨x, t, rfl, e⟩
theorem keyIs_int (i : Int) (t : Tok) : keyIs (.inl i) (.int i t) = true := by simp [keyIs, Value.isInt]
theorem keyIs_str (x : Str) (t : Tok) : keyIs (.inr x) (.str x t) = true := by simp [keyIs, Value.isStrOf]
theorem key_ll (a b : Int) : decide ((Sum.inl a : Key) = Sum.inl b) = (a == b) := by
  by_cases e : a = b
  · subst e; simp
  · have h : ¬ (Sum.inl a : Key) = Sum.inl b := fun q => e (Sum.inl.inj q)
    rw [decide_eq_false h]
    exact (beq_eq_false_iff_ne.mpr e).symm
theorem key_rr (a b : Str) : decide ((Sum.inr a : Key) = Sum.inr b) = decide (a = b) := by
  by_cases e : a = b
  · subst e; simp
  · have h : ¬ (Sum.inr a : Key) = Sum.inr b := fun q => e (Sum.inr.inj q)
    rw [decide_eq_false h, decide_eq_false e]
theorem key_lr (a : Int) (b : Str) : decide ((Sum.inl a : Key) = Sum.inr b) = false := decide_eq_false (fun q => nomatch q)
theorem key_rl (a : Str) (b : Int) : decide ((Sum.inr a : Key) = Sum.inl b) = false := decide_eq_false (fun q => nomatch q)

def mixKind (prog : Program) (w : World) : PySem.KeyKind prog w Key where
  is := keyIs
  hash := keyH w
  inj := fun v a b ha hb => by
    rcases keyIs_shape ha with ⟨i, t, rfl, rfl⟩ | ⟨x, t, rfl, rfl⟩
    · rcases keyIs_shape hb with ⟨j, u, rfl, e⟩ | ⟨y, u, rfl, e⟩
      · injection e with e1 _; rw [e1]
      · exact nomatch e
    · rcases keyIs_shape hb with ⟨j, u, rfl, e⟩ | ⟨y, u, rfl, e⟩
      · exact nomatch e
      · injection e with e1 _; rw [e1]
  byValue := fun k v h => by
    rcases keyIs_shape h with ⟨i, t, rfl, rfl⟩ | ⟨x, t, rfl, rfl⟩ <;> rfl
  pyHash := fun hv h => by
    rcases keyIs_shape hv with ⟨i, t, rfl, rfl⟩ | ⟨x, t, rfl, rfl⟩
    · exact wpAny_pyHash_int h
    · exact wpAny_pyHash_str h
  eqBool := fun hu hv h => by
    rcases keyIs_shape hu with ⟨i, t, rfl, rfl⟩ | ⟨x, t, rfl, rfl⟩
    · rcases keyIs_shape hv with ⟨j, u, rfl, rfl⟩ | ⟨y, u, rfl, rfl⟩
      · rw [key_ll] at h; exact wpAny_eqBool_int h
      · rw [key_lr] at h; exact SeqAt.EqAt.int_str i t y u _ _ _ _ h
    · rcases keyIs_shape hv with ⟨j, u, rfl, rfl⟩ | ⟨y, u, rfl, rfl⟩
      · rw [key_rl] at h; exact SeqAt.EqAt.str_int x t j u _ _ _ _ h
      · rw [key_rr] at h; exact wpAny_eqBool_str h
  «strs» := fun k x t v h => by
    rcases keyIs_shape h with ⟨i, u, rfl, e⟩ | ⟨y, u, rfl, e⟩
    · exact nomatch e
    · injection e with e1 _
      subst e1
      cases v <;> rfl

theorem mixKind_int (prog : Program) (w : World) (i : Int) (t : Tok) : (mixKind prog w).is (.inl i) (.int i t) = true := keyIs_int i t
theorem mixKind_str (prog : Program) (w : World) (x : Str) (t : Tok) : (mixKind prog w).is (.inr x) (.str x t) = true := keyIs_str x t
end L2

namespace L2
open PySem PySem.Spec PyProof.Rows

/-- a value, without the heap -/
inductive V where
  | non | bl (b : Bool) | int (i : Int) | str (x : Str) | byt (b : Array UInt8) | flt (b : UInt64) | ref (a : Addr) | ty (n : String)
  deriving DecidableEq

def RelV : V → Value → Prop
  | .non, u => u = Value.none
  | .bl b, u => u = Value.bool b
  | .int i, u => ∃ t, u = Value.int i t
  | .str x, u => ∃ t, u = Value.str x t
  | .byt b, u => ∃ t, u = Value.bytes b t
  | .flt b, u => ∃ t, u = Value.float b t
  | .ref a, u => u = Value.ref a
  | .ty n, u => u = Value.type n

abbrev Vals : List V → List Value → Prop := Paired RelV
theorem Vals.length {xs : List V} {us : List Value} (r : Vals xs us) : xs.length = us.length := Paired.length r
theorem Vals.get : ∀ {xs : List V} {us : List Value} {i : Nat} {x : V}, Vals xs us → xs[i]? = some x → ∃ u, us[i]? = some u ∧ RelV x u
  | _, _, _, _, .nil, e => by simp at e
  | _, _, 0, _, .cons r _, e => by simp at e; subst e; exact ⟨_, rfl, r⟩
  | _, _, i + 1, x, .cons _ t, e => by
    obtain ⟨u, h1, h2⟩ := Vals.get (i := i) (x := x) t (by simpa using e)
    exact ⟨u, by simpa using h1, h2⟩
theorem Vals.append : ∀ {xs ys : List V} {us ws : List Value}, Vals xs us → Vals ys ws → Vals (xs ++ ys) (us ++ ws)
  | _, _, _, _, .nil, s => s
  | _, _, _, _, .cons r t, s => .cons r (Vals.append t s)
theorem Vals.take : ∀ {xs : List V} {us : List Value} (n : Nat), Vals xs us → Vals (xs.take n) (us.take n)
  | _, _, 0, _ => .nil
  | _, _, _ + 1, .nil => .nil
  | _, _, n + 1, .cons r t => .cons r (Vals.take n t)
theorem Vals.drop : ∀ {xs : List V} {us : List Value} (n : Nat), Vals xs us → Vals (xs.drop n) (us.drop n)
  | _, _, 0, r => r
  | _, _, _ + 1, .nil => .nil
  | _, _, n + 1, .cons _ t => Vals.drop n t
def RelO : Option V → Option Value → Prop
  | some v, some u => RelV v u
  | none, none => True
  | _, _ => False
def KV {κ : Type} : List (κ × V) → List (κ × Value) → Prop := Paired fun (p : κ × V) (q : κ × Value) => p.1 = q.1 ∧ RelV p.2 q.2

/-- a key of a dict (00_mix): an int or a text -/
def kV : Key → V
  | .inl i => .int i
  | .inr x => .str x

/-- what stands at a tracked address -/
inductive HO where
  /-- a list -/
  | lst (xs : List V)
  /-- a tuple (never changes) -/
  | tup (xs : List V)
  /-- a dict whose keys are ints and texts; one whose keys are tuples of ints and texts (the empty one is both) -/
  | dK (kvs : List (Key × V)) | dT (kvs : List (List Key × V))
  /-- a set of ints: its members, its size -/
  | set (S : Int → Bool) (n : Nat)
  /-- an instance of the class at C, its dict at dx, its attributes -/
  | ins (C dx : Addr) (fs : List (Str × V))
  /-- the dict of the instance at x -/
  | own (x : Addr)
  /-- the dict of an exception -/
  | xd (fs : List (Str × V))
  /-- a bound method, f of x -/
  | met (f x : Addr)
  /-- a range object lo, lo + 1, .. below hi -/
  | rng (lo hi : Int)
  /-- a thing that is known to the object (the script; a dict while a loop walks it): read, never written while it is so -/
  | frz (o : Obj) (u : HO)
  /-- a code object's table -/
  | tbl (ps : Array Value)
  /-- any other thing, by what is true of its one object (a def of one's own: SetO a S n := HO.ext fun h => ..) -/
  | ext (φ : Heap → Prop)

abbrev Hp := Addr → Option HO
def upd (H : Hp) (a : Addr) (o : HO) : Hp := fun b => if b = a then some o else H b
theorem upd_same {H : Hp} {a : Addr} {o : HO} : upd H a o a = some o := by unfold upd; rw [if_pos rfl]
theorem upd_ne {H : Hp} {a b : Addr} {o : HO} (h : b ≠ a) : upd H a o b = H b := by unfold upd; rw [if_neg h]
theorem upd_upd {H : Hp} {a : Addr} {o u : HO} : upd (upd H a o) a u = upd H a u := by
  funext b; unfold upd; split <;> rfl
/-- two objects of different content stand apart -/
theorem ne_of {H : Hp} {a b : Addr} {o u : HO} (h : H a = some o) (h' : H b = some u) (d : o ≠ u) : a ≠ b := by
  intro e; subst e; rw [h] at h'; exact d (Option.some.inj h')
theorem ne_of_none {H : Hp} {a b : Addr} {o : HO} (h : H a = some o) (h' : H b = none) : a ≠ b := by
  intro e; subst e; rw [h] at h'; cases h'

section
variable (P : Program) (w : World)
def ObjOk (H : Hp) (h : Heap) (a : Addr) : HO → Prop
  | .lst xs => xs.length ≤ sizeLine ∧ ∃ (its : List Value) (n : Nat), Vals xs its ∧ h.get? a = some { cls := .type "list", data := .seq its.toArray n }
  | .tup xs => xs.length ≤ sizeLine ∧ ∃ its : List Value, Vals xs its ∧ IsTup h a its.toArray
  | .dK kvs => kvs.length ≤ sizeLine ∧ (a == sysModules) = false ∧ ∃ vs, KV kvs vs ∧ h.DictOf (mixKind P w) a vs
  | .dT kvs => kvs.length ≤ sizeLine ∧ (a == sysModules) = false ∧ ∃ xs : List (List Key × Addr × Value),
      Paired (fun (p : List Key × V) (q : List Key × Addr × Value) => p.1 = q.1 ∧ H q.2.1 = some (.tup (p.1.map kV)) ∧ RelV p.2 q.2.2) kvs xs ∧
      ∃ o es ep, h.get? a = some o ∧ o.ExactDict ∧ o.data = .dict es ep ∧ es.toList = xs.map (entryOfKey (tupleKind (mixKind P w))) ∧ (xs.map (·.1)).Nodup
  | .set S n => h.SetOf (intKind P w) a S n
  | .ins C dx fs => H dx = some (.own a) ∧ fs.length ≤ 1000 ∧ dx ≠ a ∧ h.get? a = some (PySem.W.instObj C dx) ∧
      ∃ mA, h.Ns1 dx mA ∧ (∀ f, RelO (fs.lookup f) (mA f)) ∧ PySem.Within mA (fs.map (·.1))
  | .own _ => ∃ o, h.get? a = some o
  | .xd fs => ∃ mA, h.Ns1 a mA ∧ ∀ f, RelO (fs.lookup f) (mA f)
  | .rng lo hi => ∃ t u v, h.get? a = some { cls := .type "range", data := .fields #[.int lo t, .int hi u, .int 1 v] }
  | .frz o u => h.get? a = some o ∧ ObjOk H h a u
  | .tbl ps => h.get? a = some { cls := .none, data := .fields ps }
  | .met f x => h.get? a = some (PySem.W.methodObj (.ref f) (.ref x))
  | .ext φ => φ h ∧ (∃ o, h.get? a = some o) ∧ ∀ h1 h2 : Heap, φ h1 → (∀ o, h1.get? a = some o → h2.get? a = some o) → φ h2
/-- the abstract heap is held -/
def HOk (H : Hp) (h : Heap) : Prop := ∀ a o, H a = some o → ObjOk P w H h a o
end

section
variable {P : Program} {w : World} {H H' : Hp} {h h' : Heap} {a : Addr} {o : HO}
theorem ObjOk.lt (x : ObjOk P w H h a o) : a < h.objs.size := by
  cases o with
  | lst xs => obtain ⟨_, _, _, _, e⟩ := x; exact Heap.lt_size e
  | tup xs => obtain ⟨_, _, _, p⟩ := x; exact p.lt
  | dK kvs => obtain ⟨_, _, _, _, o, _, _, e, _⟩ := x; exact Heap.lt_size e
  | dT kvs => obtain ⟨_, _, _, _, o, _, _, e, _⟩ := x; exact Heap.lt_size e
  | set S n => obtain ⟨o, _, _, _, e, _⟩ := x; exact Heap.lt_size e
  | ins C dx fs => obtain ⟨_, _, _, e, _⟩ := x; exact Heap.lt_size e
  | own y => obtain ⟨_, e⟩ := x; exact Heap.lt_size e
  | xd fs => obtain ⟨_, ⟨_, _, _, e, _⟩, _⟩ := x; exact Heap.lt_size e
  | rng lo hi => obtain ⟨_, _, _, e⟩ := x; exact Heap.lt_size e
  | frz ob u => obtain ⟨e, _⟩ := x; exact Heap.lt_size e
  | tbl ps => exact Heap.lt_size (show h.get? a = some _ from x)
  | met f y => exact Heap.lt_size (show h.get? a = some _ from x)
  | ext φ => obtain ⟨_, ⟨_, e⟩, _⟩ := x; exact Heap.lt_size e
theorem Paired.mapP {α β : Type} {F G : α → β → Prop} : ∀ {l₁ : List α} {l₂ : List β}, Paired F l₁ l₂ → (∀ a b, F a b → G a b) → Paired G l₁ l₂
  | _, _, .nil, _ => .nil
  | _, _, .cons r t, f => .cons (f _ _ r) (Paired.mapP t f)
/-- what an object's description leans on: its own object, its own dict, the tuples -/
theorem ObjOk.stay (x : ObjOk P w H h a o) (k : ∀ b u, (b = a ∨ H b = some (.own a)) → h.get? b = some u → h'.get? b = some u)
    (ho : ∀ b, H b = some (.own a) → H' b = some (.own a)) (ht : ∀ b xs, H b = some (.tup xs) → H' b = some (.tup xs)) : ObjOk P w H' h' a o := by
  induction o with
  | lst xs => obtain ⟨z, its, n, r, e⟩ := x; exact ⟨z, its, n, r, k _ _ (.inl rfl) e⟩
  | tup xs => obtain ⟨z, its, r, ob, e, c⟩ := x; exact ⟨z, its, r, ob, k _ _ (.inl rfl) e, c⟩
  | dK kvs => obtain ⟨z, y, vs, r, ob, es, ep, e, c⟩ := x; exact ⟨z, y, vs, r, ob, es, ep, k _ _ (.inl rfl) e, c⟩
  | dT kvs =>
    obtain ⟨z, y, xs, r, ob, es, ep, e, c⟩ := x
    exact ⟨z, y, xs, Paired.mapP r fun p q z => ⟨z.1, ht _ _ z.2.1, z.2.2⟩, ob, es, ep, k _ _ (.inl rfl) e, c⟩
  | set S n => obtain ⟨ob, es, ep, t, e, c⟩ := x; exact ⟨ob, es, ep, t, k _ _ (.inl rfl) e, c⟩
  | ins C dx fs =>
    obtain ⟨d, z, ne, e, mA, ⟨od, es, ep, e2, c⟩, r⟩ := x
    exact ⟨ho _ d, z, ne, k _ _ (.inl rfl) e, mA, ⟨od, es, ep, k _ _ (.inr d) e2, c⟩, r⟩
  | own y => obtain ⟨ob, e⟩ := x; exact ⟨ob, k _ _ (.inl rfl) e⟩
  | xd fs => obtain ⟨mA, ⟨od, es, ep, e, c⟩, r⟩ := x; exact ⟨mA, ⟨od, es, ep, k _ _ (.inl rfl) e, c⟩, r⟩
  | rng lo hi => obtain ⟨t, u, v, e⟩ := x; exact ⟨t, u, v, k _ _ (.inl rfl) e⟩
  | frz ob u ih => obtain ⟨e, q⟩ := x; exact ⟨k _ _ (.inl rfl) e, ih q⟩
  | tbl ps =>
    have e : h.get? a = some { cls := .none, data := .fields ps } := x
    show h'.get? a = some { cls := .none, data := .fields ps }
    exact k a _ (.inl rfl) e
  | met f y =>
    have e : h.get? a = some (PySem.W.methodObj (.ref f) (.ref y)) := x
    show h'.get? a = some (PySem.W.methodObj (.ref f) (.ref y))
    exact k a _ (.inl rfl) e
  | ext φ => obtain ⟨p, ⟨o, e⟩, st⟩ := x; exact ⟨st _ _ p fun o q => k _ _ (.inl rfl) q, ⟨o, k _ _ (.inl rfl) e⟩, st⟩
theorem HOk.lt (x : HOk P w H h) (e : H a = some o) : a < h.objs.size := (x a o e).lt
theorem HOk.fresh (x : HOk P w H h) (e : h.objs.size ≤ a) : H a = none := by
  cases q : H a with
  | none => rfl
  | some u => exact absurd (Nat.lt_of_lt_of_le (x.lt q) e) (Nat.lt_irrefl _)
/-- every object of the heap is kept -/
theorem HOk.kept (x : HOk P w H h) (k : ∀ b u, h.get? b = some u → h'.get? b = some u) : HOk P w H h' := fun a o e =>
  (x a o e).stay (fun b u _ q => k b u q) (fun _ q => q) fun _ _ q => q
/-- a new object is laid and tracked -/
theorem HOk.laid (x : HOk P w H h) (k : ∀ b u, h.get? b = some u → h'.get? b = some u) (hp : h.objs.size ≤ a) (new : ObjOk P w (upd H a o) h' a o) : HOk P w (upd H a o) h' := fun b u e => by
  have hn := x.fresh hp
  by_cases hb : b = a
  · subst hb; rw [upd_same] at e; cases e; exact new
  · rw [upd_ne hb] at e
    exact (x b u e).stay (fun c v _ q => k c v q) (fun c q => by rw [upd_ne (ne_of_none q hn)]; exact q) fun c xs q => by rw [upd_ne (ne_of_none q hn)]; exact q
end

/-- what may be read as u: it is u, or a known u -/
def Rd (H : Hp) (a : Addr) (u : HO) : Prop := H a = some u ∨ ∃ o, H a = some (.frz o u)
theorem Rd.ok {P : Program} {w : World} {H : Hp} {h : Heap} {a : Addr} {u : HO} (r : Rd H a u) (x : HOk P w H h) : ObjOk P w H h a u := by
  rcases r with r | ⟨o, r⟩
  · exact x a u r
  · obtain ⟨_, q⟩ := x a _ r
    exact q
/-- what may be written -/
def Mut : Option HO → Prop
  | some (.lst _) => True
  | some (.dK _) => True
  | some (.dT _) => True
  | some (.set _ _) => True
  | some (.ins _ _ _) => True
  | some (.ext _) => True
  | _ => False
section
variable {P : Program} {w : World} {H : Hp} {h h' : Heap} {x e : Addr} {o' : HO}
/-- the object at e is changed: x itself, or the dict of the instance x -/
theorem HOk.write (ok : HOk P w H h) (mu : Mut (H x)) (he : e = x ∨ H e = some (.own x)) (k : ∀ b u, b ≠ e → h.get? b = some u → h'.get? b = some u) (heo : ∃ u, h'.get? e = some u)
    (new : ObjOk P w (upd H x o') h' x o') : HOk P w (upd H x o') h' := fun b u q => by
  have nown : ∀ c y, H c = some (.own y) → c ≠ x := fun c y r z => by subst z; rw [r] at mu; exact mu
  have ntup : ∀ c xs, H c = some (.tup xs) → c ≠ x := fun c xs r z => by subst z; rw [r] at mu; exact mu
  by_cases hb : b = x
  · subst hb; rw [upd_same] at q; cases q; exact new
  · rw [upd_ne hb] at q
    by_cases hbe : b = e
    · have q' : H b = some (.own x) := by
        rcases he with z | z
        · exact absurd (hbe.trans z) hb
        · rw [hbe]; exact z
      rw [q] at q'; cases q'
      obtain ⟨v, hv⟩ := heo
      exact ⟨v, by rw [hbe]; exact hv⟩
    · refine (ok b u q).stay (fun c v hc r => k c v ?_ r) (fun c r => by rw [upd_ne (nown c b r)]; exact r) fun c xs r => by rw [upd_ne (ntup c xs r)]; exact r
      rcases hc with rfl | hc
      · exact hbe
      · rintro rfl
        rcases he with z | z
        · exact nown c b hc z
        · rw [hc] at z; cases z; exact hb rfl
end

/-! ### kept unless tracked; of the frames at fs (the callers') the slots may change (an exception that passes writes there); of the records at ex (iterators) nothing is said -/
structure Un (fs ex : List Addr) (H H' : Hp) (h h' : Heap) : Prop where
  keep : ∀ b o, h.get? b = some o → H b = none → b ∉ fs → b ∉ ex → h'.get? b = some o
  slot : ∀ b o, h.get? b = some o → H b = none → b ∈ fs → b ∉ ex → ∃ sl, h'.get? b = some { o with slots := sl }
  free : ∀ b o, h.get? b = some o → H b = none → b ∉ ex → H' b = none
  there : ∀ b o, h.get? b = some o → b ∉ ex → ∃ o', h'.get? b = some o'
  tups : ∀ b xs, H b = some (.tup xs) → H' b = some (.tup xs)
  frzs : ∀ b o u, H b = some (.frz o u) → H' b = some (.frz o u)
  tbls : ∀ b ps, H b = some (.tbl ps) → ∃ more, H' b = some (.tbl (ps ++ more))
section
variable {fs fs' ex ex' : List Addr} {H H1 H2 : Hp} {h h1 h2 h' : Heap} {a x e : Addr} {o : HO}
theorem Un.any (u : Un fs ex H H1 h h1) {b : Addr} {ob : Obj} (q : h.get? b = some ob) (n : H b = none) (hx : b ∉ ex) : ∃ sl, h1.get? b = some { ob with slots := sl } := by
  by_cases hb : b ∈ fs
  · exact u.slot b ob q n hb hx
  · exact ⟨ob.slots, u.keep b ob q n hb hx⟩
theorem Un.kept (k : ∀ b u, h.get? b = some u → h'.get? b = some u) : Un fs ex H H h h' :=
  ⟨fun b ob q _ _ _ => k b ob q, fun b ob q _ _ _ => ⟨ob.slots, k b ob q⟩, fun _ _ _ n _ => n, fun b ob q _ => ⟨ob, k b ob q⟩, fun _ _ q => q, fun _ _ _ q => q, fun _ ps q => ⟨#[], by rw [q]; simp⟩⟩
theorem Un.refl : Un fs ex H H h h := Un.kept fun _ _ q => q
theorem Un.laid (k : ∀ b u, h.get? b = some u → h'.get? b = some u) (hp : h.objs.size ≤ a) (hn : H a = none) : Un fs ex H (upd H a o) h h' where
  keep := fun b u q _ _ _ => k b u q
  slot := fun b u q _ _ _ => ⟨u.slots, k b u q⟩
  free := fun b u q n _ => by rw [upd_ne (Nat.ne_of_lt (Nat.lt_of_lt_of_le (Heap.lt_size q) hp))]; exact n
  there := fun b u q _ => ⟨u, k b u q⟩
  tups := fun b xs q => by rw [upd_ne (ne_of_none q hn)]; exact q
  frzs := fun b u xs q => by rw [upd_ne (ne_of_none q hn)]; exact q
  tbls := fun b ps q => ⟨#[], by rw [upd_ne (ne_of_none q hn), q]; simp⟩
theorem Un.write (mu : Mut (H x)) (he : e = x ∨ H e = some (.own x)) (k : ∀ b u, b ≠ e → h.get? b = some u → h'.get? b = some u) (heo : ∃ u, h'.get? e = some u) : Un fs ex H (upd H x o) h h' := by
  have hx : ∀ b, H b = none → b ≠ x := fun b n z => by subst z; rw [n] at mu; exact mu
  have hb : ∀ b, H b = none → b ≠ e := fun b n z => by
    subst z
    rcases he with r | r
    · exact hx b n r
    · rw [n] at r; cases r
  have hm : ∀ b u, H b = some u → ¬ Mut (some u) → b ≠ x := fun b u q nm z => by subst z; rw [q] at mu; exact nm mu
  refine ⟨fun b u q n _ _ => k b u (hb b n) q, fun b u q n _ _ => ⟨u.slots, k b u (hb b n) q⟩, fun b u q n _ => by rw [upd_ne (hx b n)]; exact n, fun b u q _ => ?_,
    fun b xs q => by rw [upd_ne (hm b _ q fun z => z)]; exact q, fun b u xs q => by rw [upd_ne (hm b _ q fun z => z)]; exact q, fun b ps q => ⟨#[], by rw [upd_ne (hm b _ q fun z => z), q]; simp⟩⟩
  by_cases hbe : b = e
  · subst hbe; exact heo
  · exact ⟨u, k b u hbe q⟩
end

/-! ### the heap without what is tracked -/
def trk (h : Heap) (H : Hp) : List Addr := (List.range h.objs.size).filter fun a => (H a).isSome
def hidT (h : Heap) (H : Hp) : Heap := PySem.W.hideAll h (trk h H)
theorem hidT_size (h : Heap) (H : Hp) : (hidT h H).objs.size = h.objs.size := PySem.W.hideAll_size _ _
theorem hidT_get {h : Heap} {H : Hp} {b : Addr} {o : Obj} (e : h.get? b = some o) (n : H b = none) : (hidT h H).get? b = some o :=
  PySem.W.hideAll_get _ e fun hm => by
    have q : (H b).isSome = true := (List.mem_filter.mp hm).2
    rw [n] at q; simp at q
theorem of_hidT {h : Heap} {H : Hp} {b : Addr} {o : Obj} (e : (hidT h H).get? b = some o) : h.get? b = some o ∧ H b = none := by
  have e' : h.get? b = some o := PySem.W.of_hideAll (trk h H) e
  refine ⟨e', ?_⟩
  cases q : H b with
  | none => rfl
  | some x =>
    have hm : b ∈ trk h H := List.mem_filter.mpr ⟨List.mem_range.mpr (Heap.lt_size e'), by simp [q]⟩
    have z : (hidT h H).get? b = none := PySem.W.hideAll_none (trk h H) hm
    rw [z] at e; cases e

/-! ### OpenK's ledger, filled with every new object but one -/
end L2

namespace L2
open PySem PySem.Spec PyProof.Rows

/-- the module's facts, over the base: the heap at the law's entry without what is tracked there -/
structure Mod (K : PySem.W.Frag) (mg : Str → Option Value) (base : Heap) : Prop where
  kin : K.In base
  glob : base.Ns mainGlobals mg
  blt : ∃ mb, base.Ns builtinsNs mb ∧ ∀ x : Str, x ≠ "__name__" → mb x = bootBuiltins x
  nolimit : base.NoLimit

/-- the context: a def's body (or a comprehension's block) running. base: fixed through the whole law; s₀, H₀: the entry; outer: the frames whose slots others may change (a def's callers); stack: all frames that run;
   ex: iterators that were made ahead of the entry and are walked here (a comprehension's); fn: the names whose cells were made at the entry (a def: all; a comprehension's block: its own); calm: not within an except suite; pn: pins that every state bears; xe: what is wanted of an exception that leaves the code -/
structure Cx where
  prog : Program
  w : World
  K : PySem.W.Frag
  mg : Str → Option Value
  base : Heap
  A : Around
  N : List Str
  s₀ : Shared
  H₀ : Hp
  env : Env
  outer : List Env
  stack : List Env
  ex : List Addr
  fn : Str → Bool
  calm : Bool
  pn : List (Addr × Obj)
  xe : Value → Shared → Prop
/-- the callers' frames -/
def frs (l : List Env) : List Addr := l.filterMap (·.frame)
abbrev Cx.fs (X : Cx) : List Addr := frs X.outer

def Vis (sc : Scope) (x : Str) : Prop := sc.names.lookup x = some .local ∨ sc.names.lookup x = some .cell ∨ sc.names.lookup x = some .free
def Loc (sc : Scope) (x : Str) : Prop := sc.names.lookup x = some .local ∨ sc.names.lookup x = some .cell
def Look (env : Env) (h : Heap) (m : Str → Option Value) (x : Str) (u : Value) : Prop :=
  (env.kindOf x = some .local ∧ m x = some u) ∨ ((env.kindOf x = some .cell ∨ env.kindOf x = some .free) ∧ ∃ c, env.cells.lookup x = some c ∧ h.IsCell c (some u))

structure Cx.Ok (X : Cx) : Prop where
  mod : Mod X.K X.mg X.base
  kind : X.env.scope.kind = .function
  glob : X.env.globals = mainGlobals
  blt : X.env.builtins = builtinsNs
  above : X.s₀.heap.objs.size ≤ X.env.locals
  inj : ∀ x y c, X.env.cells.lookup x = some c → X.env.cells.lookup y = some c → x = y
  has : ∀ x, (X.env.kindOf x = some .cell ∨ X.env.kindOf x = some .free) → ∃ c, X.env.cells.lookup x = some c
  cab : ∀ x c, X.fn x = true → X.env.cells.lookup x = some c → X.s₀.heap.objs.size ≤ c
  hd : X.calm = true → X.A.handled = none
  frames : X.A.frames = some X.stack
  stk : X.stack = X.outer ∨ (X.stack = X.env :: X.outer ∧ X.env.frame = some X.env.locals)
  exf : ∀ b ∈ X.ex, b ≠ X.env.locals ∧ ∀ x c, X.env.cells.lookup x = some c → c ≠ b
  bs : ∀ b o, X.base.get? b = some o → X.s₀.heap.get? b = some o ∧ X.H₀ b = none
  bsz : X.base.objs.size ≤ X.s₀.heap.objs.size
  noex : ∀ b o, X.base.get? b = some o → b ∉ X.ex
  exfs : ∀ b ∈ X.ex, b ∉ X.fs
  funs : X.s₀.heap.FunFrames X.base X.outer
  frf : ∀ b ∈ X.fs, X.H₀ b = none

structure Inv (X : Cx) (pins : List (Addr × Obj)) (σ : List (Option V)) (H : Hp) (s : Shared) : Prop where
  ok : X.Ok
  os : s.os = X.s₀.os
  bare : AllBare s.gens
  base : Un X.fs X.ex X.H₀ H X.s₀.heap s.heap
  loc : ∃ m, s.heap.Ns X.env.locals m ∧ ∀ (i : Nat) (x : Str) (v : V), X.N[i]? = some x → σ[i]? = some (some v) → Vis X.env.scope x → ∃ u, RelV v u ∧ Look X.env s.heap m x u
  cell : ∀ x c, X.env.cells.lookup x = some c → ∃ v, s.heap.IsCell c v
  free : H X.env.locals = none
  freeC : ∀ x c, X.env.cells.lookup x = some c → H c = none
  pin : ∀ p ∈ X.pn ++ pins, s.heap.get? p.1 = some p.2 ∧ H p.1 = none ∧ p.1 ≠ X.env.locals ∧ p.1 ∉ X.fs ∧ ∀ v, p.2.data ≠ .cell v
  hok : HOk X.prog X.w H s.heap
  len : σ.length = X.N.length

section
variable {X : Cx} {pins : List (Addr × Obj)} {σ : List (Option V)} {H H' : Hp} {s : Shared} {h' : Heap}

theorem Cx.Ok.nofr (ok : X.Ok) {b : Addr} {o : Obj} (e : X.base.get? b = some o) : b ∉ X.fs := fun hb => by
  have := (ok.funs.mem hb).1
  rw [e] at this; cases this
theorem Inv.bs (I : Inv X pins σ H s) : ∀ b o, X.base.get? b = some o → s.heap.get? b = some o ∧ H b = none := fun b o e =>
  ⟨I.base.keep b o (I.ok.bs b o e).1 (I.ok.bs b o e).2 (I.ok.nofr e) (I.ok.noex b o e), I.base.free b o (I.ok.bs b o e).1 (I.ok.bs b o e).2 (I.ok.noex b o e)⟩
theorem Inv.bk (I : Inv X pins σ H s) : ∀ b o, X.base.get? b = some o → s.heap.get? b = some o := fun b o e => (I.bs b o e).1
theorem Inv.mod (I : Inv X pins σ H s) : Mod X.K X.mg X.base := I.ok.mod
theorem Inv.kIn (I : Inv X pins σ H s) : X.K.In s.heap := I.ok.mod.kin.keeps I.bk
theorem Inv.lt (I : Inv X pins σ H s) : X.env.locals < s.heap.objs.size := let ⟨_, hn, _⟩ := I.loc; hn.lt
theorem Inv.sz (I : Inv X pins σ H s) : X.s₀.heap.objs.size ≤ s.heap.objs.size := Nat.le_trans I.ok.above (Nat.le_of_lt I.lt)
theorem Inv.nofs (I : Inv X pins σ H s) {a : Addr} (h : s.heap.objs.size ≤ a) : a ∉ X.fs := fun hb => by
  obtain ⟨_, o, ho, _⟩ := I.ok.funs.mem hb
  exact absurd (Nat.lt_of_lt_of_le (Heap.lt_size ho) (Nat.le_trans I.sz h)) (Nat.lt_irrefl _)
theorem Inv.cne (I : Inv X pins σ H s) : ∀ x c, X.env.cells.lookup x = some c → c ≠ X.env.locals := fun x c e z => by
  obtain ⟨v, o, ho, hd⟩ := I.cell x c e
  obtain ⟨m, ⟨o', es, ep, ho', hd', _⟩, _⟩ := I.loc
  rw [z, ho'] at ho; cases ho; rw [hd'] at hd; cases hd
theorem Inv.funs (I : Inv X pins σ H s) : s.heap.FunFrames X.base X.outer := by
  have all : ∀ (l : List Env), (∀ b ∈ frs l, b ∈ X.fs) → X.s₀.heap.FunFrames X.base l → s.heap.FunFrames X.base l := by
    intro l
    induction l with
    | nil => intro _ _; trivial
    | cons env r ih =>
      intro hs hl
      obtain ⟨hk, ⟨L, o, hf, hn, ho, hd⟩, hr⟩ := hl
      have hL : L ∈ X.fs := hs L (by unfold frs; rw [List.filterMap_cons, hf]; exact List.mem_cons_self)
      obtain ⟨sl, e⟩ := I.base.slot L o ho (I.ok.frf L hL) hL fun z => I.ok.exfs L z hL
      exact ⟨hk, ⟨L, _, hf, hn, e, hd⟩, ih (fun b hb => hs b (by unfold frs; rw [List.filterMap_cons, hf]; exact List.mem_cons_of_mem _ hb)) hr⟩
  exact all X.outer (fun _ hb => hb) I.ok.funs

/-- the frames that run, for a call -/
theorem Inv.stack (I : Inv X pins σ H s) : s.heap.FunFrames X.base X.stack := by
  rcases I.ok.stk with e | ⟨e, hf⟩
  · rw [e]; exact I.funs
  · rw [e]
    obtain ⟨m, hn, _⟩ := I.loc
    refine .cons (by rw [I.ok.kind]; decide) hf hn ?_ I.funs
    exact Heap.get?_none_of_le (Nat.le_trans I.ok.bsz I.ok.above)
theorem Inv.stkSub (I : Inv X pins σ H s) : ∀ b ∈ frs X.stack, b ∈ X.env.locals :: X.fs := fun b hb => by
  rcases I.ok.stk with e | ⟨e, hf⟩
  · rw [e] at hb; exact List.mem_cons_of_mem _ hb
  · rw [e] at hb
    unfold frs at hb
    rw [List.filterMap_cons, hf] at hb
    exact hb
theorem Inv.stkFree (I : Inv X pins σ H s) : ∀ b ∈ frs X.stack, H b = none := fun b hb => by
  rcases List.mem_cons.mp (I.stkSub b hb) with e | hb
  · rw [e]; exact I.free
  · obtain ⟨_, o, ho, _⟩ := I.ok.funs.mem hb
    exact I.base.free b o ho (I.ok.frf b hb) fun z => I.ok.exfs b z hb

/-- THE STEP: the untracked objects but the frame and the records at ch are kept (the callers' frames up to slots), the frame's map is kept, the new abstract heap is held -/
theorem Inv.step {g' : Array GenState} {t' : Nat} {d' : Drawn} {ch : List Addr} (I : Inv X pins σ H s)
    (hch : ∀ b ∈ ch, (b ∈ X.ex ∨ X.s₀.heap.objs.size ≤ b) ∧ b ≠ X.env.locals ∧ (∀ x c, X.env.cells.lookup x = some c → c ≠ b) ∧ ∀ p ∈ X.pn ++ pins, p.1 ≠ b)
    (keep : ∀ b o, b ≠ X.env.locals → b ∉ X.fs → b ∉ ch → s.heap.get? b = some o → H b = none → h'.get? b = some o)
    (slot : ∀ b o, b ≠ X.env.locals → b ∈ X.fs → b ∉ ch → s.heap.get? b = some o → H b = none → ∃ sl, h'.get? b = some { o with slots := sl }) (free : ∀ b o, b ∉ ch → s.heap.get? b = some o → H b = none → H' b = none)
    (there : ∀ b o, b ∉ ch → s.heap.get? b = some o → ∃ o', h'.get? b = some o')
    (tups : ∀ b xs, H b = some (.tup xs) → H' b = some (.tup xs)) (frzs : ∀ b o u, H b = some (.frz o u) → H' b = some (.frz o u)) (tbls : ∀ b ps, H b = some (.tbl ps) → ∃ more, H' b = some (.tbl (ps ++ more)))
    (ns : ∀ m, s.heap.Ns X.env.locals m → h'.Ns X.env.locals m) (hok : HOk X.prog X.w H' h') (hg : AllBare g') :
    Inv X pins σ H' { s with heap := h', gens := g', drawn := d', toks := t' } := by
  have neL : ∀ b o, X.s₀.heap.get? b = some o → b ≠ X.env.locals := fun b o e => Nat.ne_of_lt (Nat.lt_of_lt_of_le (Heap.lt_size e) I.ok.above)
  have neC : ∀ b o, X.s₀.heap.get? b = some o → b ∉ X.ex → b ∉ ch := fun b o e hx hb => by
    rcases (hch b hb).1 with z | z
    · exact hx z
    · exact absurd (Nat.lt_of_lt_of_le (Heap.lt_size e) z) (Nat.lt_irrefl _)
  have cellK : ∀ x c, X.env.cells.lookup x = some c → ∀ v, s.heap.IsCell c v → h'.IsCell c v := fun x c e v ⟨o, ho, hd⟩ => by
    have nch : c ∉ ch := fun z => (hch c z).2.2.1 x c e rfl
    by_cases hc : c ∈ X.fs
    · obtain ⟨sl, q⟩ := slot c o (I.cne x c e) hc nch ho (I.freeC x c e)
      exact ⟨_, q, hd⟩
    · exact ⟨o, keep c o (I.cne x c e) hc nch ho (I.freeC x c e), hd⟩
  refine ⟨I.ok, I.os, hg, ⟨fun b o e n hb hx => ?_, fun b o e n hb hx => ?_, fun b o e n hx => ?_, fun b o e hx => ?_, fun b xs e => tups b xs (I.base.tups b xs e), fun b o xs e => frzs b o xs (I.base.frzs b o xs e), fun b ps e => ?_⟩, ?_, fun x c e => ?_, ?_, fun x c e => ?_, fun p hp => ?_, hok, I.len⟩
  · exact keep b o (neL b o e) hb (neC b o e hx) (I.base.keep b o e n hb hx) (I.base.free b o e n hx)
  · obtain ⟨sl, e1⟩ := I.base.slot b o e n hb hx
    obtain ⟨sl', e2⟩ := slot b _ (neL b o e) hb (neC b o e hx) e1 (I.base.free b o e n hx)
    exact ⟨sl', e2⟩
  · obtain ⟨o', e1⟩ := I.base.there b o e hx
    exact free b o' (neC b o e hx) e1 (I.base.free b o e n hx)
  · obtain ⟨o', e1⟩ := I.base.there b o e hx
    exact there b o' (neC b o e hx) e1
  · obtain ⟨m1, e1⟩ := I.base.tbls b ps e
    obtain ⟨m2, e2⟩ := tbls b _ e1
    exact ⟨m1 ++ m2, by rw [e2, Array.append_assoc]⟩
  · obtain ⟨m, hn, hl⟩ := I.loc
    refine ⟨m, ns m hn, fun i x v e1 e2 e3 => ?_⟩
    obtain ⟨u, r, l⟩ := hl i x v e1 e2 e3
    refine ⟨u, r, ?_⟩
    rcases l with l | ⟨k, c, e, z⟩
    · exact .inl l
    · exact .inr ⟨k, c, e, cellK x c e _ z⟩
  · obtain ⟨v, z⟩ := I.cell x c e
    exact ⟨v, cellK x c e v z⟩
  · obtain ⟨m, ⟨o, _, _, ho, _⟩, _⟩ := I.loc
    exact free _ o (fun z => (hch _ z).2.1 rfl) ho I.free
  · obtain ⟨v, o, ho, hd⟩ := I.cell x c e
    exact free c o (fun z => (hch c z).2.2.1 x c e rfl) ho (I.freeC x c e)
  · obtain ⟨e, n, ne, nf, d⟩ := I.pin p hp
    have nch : p.1 ∉ ch := fun z => (hch p.1 z).2.2.2 p hp rfl
    exact ⟨keep p.1 p.2 ne nf nch e n, free p.1 p.2 nch e n, ne, nf, d⟩
/-- .. where the frame's own object is kept too -/
theorem Inv.un {t' : Nat} (I : Inv X pins σ H s) (u : Un X.fs [] H H' s.heap h') (hok : HOk X.prog X.w H' h') : Inv X pins σ H' { s with heap := h', toks := t' } := by
  obtain ⟨m, ⟨o, es, ep, ho, r⟩, _⟩ := id I.loc
  obtain ⟨sl, hL⟩ := u.any ho I.free (by simp)
  exact I.step (g' := s.gens) (d' := s.drawn) (ch := []) (fun _ z => nomatch z) (fun b o _ hb _ e n => u.keep b o e n hb (by simp)) (fun b o _ hb _ e n => u.slot b o e n hb (by simp)) (fun b o _ e n => u.free b o e n (by simp)) (fun b o _ e => u.there b o e (by simp)) u.tups u.frzs u.tbls (fun m' hm => by
    obtain ⟨o', es', ep', ho', r'⟩ := hm
    rw [ho] at ho'; cases ho'
    exact ⟨_, es', ep', hL, r'⟩) hok I.bare
/-- behind a call (or a comprehension's block): the slots of this frame may have changed too, the records at ch may have turned -/
theorem Inv.call {g' : Array GenState} {t' : Nat} {d' : Drawn} {ch : List Addr} (I : Inv X pins σ H s) (u : Un (frs X.stack) ch H H' s.heap h') (hok : HOk X.prog X.w H' h') (hg : AllBare g')
    (hch : ∀ b ∈ ch, (b ∈ X.ex ∨ X.s₀.heap.objs.size ≤ b) ∧ b ≠ X.env.locals ∧ (∀ x c, X.env.cells.lookup x = some c → c ≠ b) ∧ ∀ p ∈ X.pn ++ pins, p.1 ≠ b) :
    Inv X pins σ H' { s with heap := h', gens := g', drawn := d', toks := t' } := by
  obtain ⟨m, ⟨o, es, ep, ho, r⟩, _⟩ := id I.loc
  obtain ⟨sl, hL⟩ := u.any ho I.free fun z => (hch _ z).2.1 rfl
  exact I.step (ch := ch) hch (fun b o hL hb hc e n => u.keep b o e n (fun z => (List.mem_cons.mp (I.stkSub b z)).elim hL hb) hc) (fun b o _ _ hc e n => u.any e n hc) (fun b o hc e n => u.free b o e n hc) (fun b o hc e => u.there b o e hc) u.tups u.frzs u.tbls (fun m' hm => by
    obtain ⟨o', es', ep', ho', r'⟩ := hm
    rw [ho] at ho'; cases ho'
    exact ⟨_, es', ep', hL, r'⟩) hok hg
/-- an untracked record of ours (an iterator) has turned -/
theorem Inv.turned {t' : Nat} {it : Addr} (I : Inv X pins σ H s) (k : ∀ b o, b ≠ it → s.heap.get? b = some o → h'.get? b = some o) (hn : H it = none) (hL : it ≠ X.env.locals)
    (h1 : it ∈ X.ex ∨ X.s₀.heap.objs.size ≤ it) (h2 : ∀ x c, X.env.cells.lookup x = some c → c ≠ it) (h3 : ∀ p ∈ X.pn ++ pins, p.1 ≠ it) : Inv X pins σ H { s with heap := h', toks := t' } := by
  have nit : ∀ b u, H b = some u → b ≠ it := fun b u e z => by rw [z, hn] at e; cases e
  refine I.step (g' := s.gens) (d' := s.drawn) (ch := [it]) (fun b hb => ?_) (fun b o _ _ hc e _ => k b o (fun z => hc (by simp [z])) e) (fun b o _ _ hc e _ => ⟨o.slots, k b o (fun z => hc (by simp [z])) e⟩) (fun _ _ _ _ n => n)
    (fun b o hc e => ⟨o, k b o (fun z => hc (by simp [z])) e⟩) (fun _ _ e => e) (fun _ _ _ e => e) (fun b ps e => ⟨#[], by rw [e]; simp⟩) (fun m hm => ?_) (fun b u e => ?_) I.bare
  · have e : b = it := by simpa using hb
    subst e
    exact ⟨h1, hL, h2, h3⟩
  · obtain ⟨o, es, ep, ho, r⟩ := hm
    exact ⟨o, es, ep, k _ o (Ne.symm hL) ho, r⟩
  · refine (I.hok b u e).stay (fun c v hc q => k c v ?_ q) (fun _ q => q) fun _ _ q => q
    rcases hc with z | z
    · rw [z]; exact nit b u e
    · exact nit c _ z
theorem Inv.tok (I : Inv X pins σ H s) (t : Nat) : Inv X pins σ H { s with toks := t } := I.un (h' := s.heap) (t' := t) Un.refl I.hok
/-- all objects kept -/
theorem Inv.kept {t' : Nat} (I : Inv X pins σ H s) (k : ∀ b u, s.heap.get? b = some u → h'.get? b = some u) : Inv X pins σ H { s with heap := h', toks := t' } := I.un (Un.kept k) (I.hok.kept k)
/-- a new object laid and tracked -/
theorem Inv.laid {a : Addr} {o : HO} {t' : Nat} (I : Inv X pins σ H s) (k : ∀ b u, s.heap.get? b = some u → h'.get? b = some u) (hp : s.heap.objs.size ≤ a) (new : ObjOk X.prog X.w (upd H a o) h' a o) :
    Inv X pins σ (upd H a o) { s with heap := h', toks := t' } := I.un (Un.laid k hp (I.hok.fresh hp)) (I.hok.laid k hp new)
/-- an object written -/
theorem Inv.write {x e : Addr} {o : HO} {t' : Nat} (I : Inv X pins σ H s) (mu : Mut (H x)) (he : e = x ∨ H e = some (.own x)) (k : ∀ b u, b ≠ e → s.heap.get? b = some u → h'.get? b = some u) (heo : ∃ u, h'.get? e = some u)
    (new : ObjOk X.prog X.w (upd H x o) h' x o) : Inv X pins σ (upd H x o) { s with heap := h', toks := t' } := I.un (Un.write mu he k heo) (I.hok.write mu he k heo new)
theorem Inv.pins_of {pins' : List (Addr × Obj)} (I : Inv X pins σ H s) (h : ∀ p ∈ pins', s.heap.get? p.1 = some p.2 ∧ H p.1 = none ∧ p.1 ≠ X.env.locals ∧ p.1 ∉ X.fs ∧ ∀ v, p.2.data ≠ .cell v) : Inv X pins' σ H s :=
  ⟨I.ok, I.os, I.bare, I.base, I.loc, I.cell, I.free, I.freeC, fun p hp => (List.mem_append.mp hp).elim (fun z => I.pin p (List.mem_append_left _ z)) (h p), I.hok, I.len⟩

theorem nodup_ix {N : List Str} (hN : N.Nodup) {i j : Nat} {x : Str} (a : N[i]? = some x) (b : N[j]? = some x) : i = j := by
  obtain ⟨h1, e1⟩ := List.getElem?_eq_some_iff.mp a
  obtain ⟨h2, e2⟩ := List.getElem?_eq_some_iff.mp b
  exact (List.getElem_inj hN).mp (e1.trans e2.symm)

/-- a name is stored; what changed -/
theorem store_ok2 {M : Model} {A : Around} {E : Value → Shared → Prop} {i : Nat} {x : Str} {v : V} {u : Value} {Q : Unit → Shared → Prop} (I : Inv X pins σ H s) (hN : X.N.Nodup) (hi : X.N[i]? = some x) (hx : Loc X.env.scope x) (r : RelV v u)
    (h : ∀ s', Inv X pins (σ.set i (some v)) H s' → (∃ a, Heap.SameBut a s.heap s'.heap ∧ (a = X.env.locals ∨ X.env.cells.lookup x = some a)) → Q () s') (hf : X.fn x = true ∨ X.env.scope.names.lookup x = some .local := by first | exact .inl rfl | exact .inr rfl | assumption) : wpAny M A (storeName X.env x u) Q E s := by
  obtain ⟨m, hn, hl⟩ := id I.loc
  have hcls : (X.env.scope.kind == .class || (X.env.scope.kind == .module && X.env.locals != X.env.globals)) = false := by rw [I.ok.kind]; rfl
  have hiσ : i < σ.length := by rw [I.len]; exact (List.getElem?_eq_some_iff.mp hi).1
  have cne := I.cne
  have tracked : ∀ {a : Addr} {h' : Heap}, (∃ o, s.heap.get? a = some o ∧ H a = none) → Heap.SameBut a s.heap h' → HOk X.prog X.w H h' := fun {a h'} ha hs b ob e => by
    obtain ⟨_, _, hfree⟩ := ha
    refine (I.hok b ob e).stay (fun c w' hc q => (hs.2 c ?_).trans q) (fun _ q => q) fun _ _ q => q
    rintro rfl
    rcases hc with rfl | hc
    · rw [hfree] at e; cases e
    · rw [hfree] at hc; cases hc
  rcases hx with hk | hk
  · refine wpAny_storeName_local hk hn (fun h' hn' hs => ?_) hcls
    obtain ⟨oL, _, _, hoL, _⟩ := id hn
    refine h _ ⟨I.ok, I.os, I.bare, ⟨fun b o e n hb hx => ?_, fun b o e n hb hx => ?_, I.base.free, fun b o e hx => ?_, I.base.tups, I.base.frzs, I.base.tbls⟩, ⟨_, hn', fun j y v' e1 e2 e3 => ?_⟩, fun y c e => ?_, I.free, I.freeC, fun p hp => ?_, tracked ⟨oL, hoL, I.free⟩ hs, by simpa using I.len⟩ ⟨_, hs, .inl rfl⟩
    · exact (hs.2 b (Nat.ne_of_lt (Nat.lt_of_lt_of_le (Heap.lt_size e) I.ok.above))).trans (I.base.keep b o e n hb hx)
    · obtain ⟨sl, e1⟩ := I.base.slot b o e n hb hx
      exact ⟨sl, (hs.2 b (Nat.ne_of_lt (Nat.lt_of_lt_of_le (Heap.lt_size e) I.ok.above))).trans e1⟩
    · obtain ⟨o', e1⟩ := I.base.there b o e hx
      exact ⟨o', (hs.2 b (Nat.ne_of_lt (Nat.lt_of_lt_of_le (Heap.lt_size e) I.ok.above))).trans e1⟩
    · by_cases hj : j = i
      · subst hj
        rw [hi] at e1; cases e1
        rw [List.getElem?_set_self hiσ] at e2
        cases e2
        exact ⟨u, r, .inl ⟨hk, by simp⟩⟩
      · rw [List.getElem?_set_ne (Ne.symm hj)] at e2
        obtain ⟨u', r', q⟩ := hl j y v' e1 e2 e3
        refine ⟨u', r', ?_⟩
        rcases q with ⟨k, e⟩ | ⟨k, c, e, z⟩
        · refine .inl ⟨k, ?_⟩
          have : y ≠ x := fun e => hj (nodup_ix hN e1 (e ▸ hi))
          simp [this, e]
        · exact .inr ⟨k, c, e, z.sameBut hs (cne y c e)⟩
    · obtain ⟨w', z⟩ := I.cell y c e
      exact ⟨w', z.sameBut hs (cne y c e)⟩
    · obtain ⟨e, n, ne, nf, d⟩ := I.pin p hp
      exact ⟨(hs.2 p.1 ne).trans e, n, ne, nf, d⟩
  · have hfn : X.fn x = true := by
      rcases hf with z | z
      · exact z
      · rw [z] at hk; cases hk
    obtain ⟨c, hc⟩ := I.ok.has x (.inl hk)
    obtain ⟨w', z⟩ := I.cell x c hc
    refine wpAny_storeName_cell I.ok.kind hk hc z (fun h' hc' hs => ?_)
    obtain ⟨oc, hoc, hocd⟩ := id z
    refine h { s with heap := h' } ⟨I.ok, I.os, I.bare, ⟨fun b o e n hb hx => ?_, fun b o e n hb hx => ?_, I.base.free, fun b o e hx => ?_, I.base.tups, I.base.frzs, I.base.tbls⟩, ⟨m, hn.sameBut hs (Ne.symm (cne x c hc)), fun j y v' e1 e2 e3 => ?_⟩, fun y c' e => ?_, I.free, I.freeC, fun p hp => ?_, tracked ⟨oc, hoc, I.freeC x c hc⟩ hs, by simpa using I.len⟩ ⟨c, hs, .inr hc⟩
    · exact (hs.2 b (Nat.ne_of_lt (Nat.lt_of_lt_of_le (Heap.lt_size e) (I.ok.cab x c hfn hc)))).trans (I.base.keep b o e n hb hx)
    · obtain ⟨sl, e1⟩ := I.base.slot b o e n hb hx
      exact ⟨sl, (hs.2 b (Nat.ne_of_lt (Nat.lt_of_lt_of_le (Heap.lt_size e) (I.ok.cab x c hfn hc)))).trans e1⟩
    · obtain ⟨o', e1⟩ := I.base.there b o e hx
      exact ⟨o', (hs.2 b (Nat.ne_of_lt (Nat.lt_of_lt_of_le (Heap.lt_size e) (I.ok.cab x c hfn hc)))).trans e1⟩
    · by_cases hj : j = i
      · subst hj
        rw [hi] at e1; cases e1
        rw [List.getElem?_set_self hiσ] at e2
        cases e2
        exact ⟨u, r, .inr ⟨.inl hk, c, hc, hc'⟩⟩
      · rw [List.getElem?_set_ne (Ne.symm hj)] at e2
        obtain ⟨u', r', q⟩ := hl j y v' e1 e2 e3
        refine ⟨u', r', ?_⟩
        rcases q with q | ⟨k, c', e, z'⟩
        · exact .inl q
        · refine .inr ⟨k, c', e, z'.sameBut hs ?_⟩
          rintro rfl
          exact hj (nodup_ix hN e1 (I.ok.inj _ _ _ e hc ▸ hi))
    · by_cases hcc : c' = c
      · subst hcc; exact ⟨_, hc'⟩
      · obtain ⟨w2, z2⟩ := I.cell y c' e
        exact ⟨w2, z2.sameBut hs hcc⟩
    · obtain ⟨e, n, ne, nf, d⟩ := I.pin p hp
      refine ⟨(hs.2 p.1 ?_).trans e, n, ne, nf, d⟩
      intro q
      rw [q, hoc] at e
      have q' : oc = p.2 := Option.some.inj e
      exact d w' (by rw [← q']; exact hocd)
theorem store_ok {M : Model} {A : Around} {E : Value → Shared → Prop} {i : Nat} {x : Str} {v : V} {u : Value} {Q : Unit → Shared → Prop} (I : Inv X pins σ H s) (hN : X.N.Nodup) (hi : X.N[i]? = some x) (hx : Loc X.env.scope x) (r : RelV v u)
    (h : ∀ s', Inv X pins (σ.set i (some v)) H s' → Q () s') (hf : X.fn x = true ∨ X.env.scope.names.lookup x = some .local := by first | exact .inl rfl | exact .inr rfl | assumption) : wpAny M A (storeName X.env x u) Q E s :=
  store_ok2 I hN hi hx r (fun s' I' _ => h s' I') hf
/-- behind a call or a block, the state as it is -/
theorem Inv.call' {s' : Shared} {ch : List Addr} (I : Inv X pins σ H s) (ho : s'.os = s.os) (u : Un (frs X.stack) ch H H' s.heap s'.heap) (hok : HOk X.prog X.w H' s'.heap) (hg : AllBare s'.gens)
    (hch : ∀ b ∈ ch, (b ∈ X.ex ∨ X.s₀.heap.objs.size ≤ b) ∧ b ≠ X.env.locals ∧ (∀ x c, X.env.cells.lookup x = some c → c ≠ b) ∧ ∀ p ∈ X.pn ++ pins, p.1 ≠ b) : Inv X pins σ H' s' := by
  obtain ⟨h', g', d', t', o'⟩ := s'
  have e : o' = s.os := ho
  subst e
  exact I.call (g' := g') (t' := t') (d' := d') u hok hg hch
end

/-! ### the judgements -/
/-- an exception: its class, its own dict's address (where it has one), the abstract heap behind it -/
abbrev XK := Value → Option Addr → Hp → Prop
abbrev St := List (Option V)
abbrev VK := V → Hp → Prop
/-- an expression's reading; a test's; an argument list's -/
abbrev TE := St → Hp → VK → Prop
abbrev TT := St → Hp → (Bool → Hp → Prop) → Prop
abbrev TA := St → Hp → (List V → Hp → Prop) → Prop
/-- what is wanted behind a statement -/
structure Ends where
  nx : St → Hp → Prop
  rt : VK
  bk : St → Hp → Prop := fun _ _ => False
  ct : St → Hp → Prop := fun _ _ => False
abbrev TS := Ends → St → Hp → Prop

def EP (X : Cx) (pins : List (Addr × Obj)) (σ : St) (Q : VK) (u : Value) (s' : Shared) : Prop := ∃ v H', Inv X pins σ H' s' ∧ RelV v u ∧ Q v H'
def TP (X : Cx) (pins : List (Addr × Obj)) (σ : St) (Q : Bool → Hp → Prop) (b : Bool) (s' : Shared) : Prop := ∃ H', Inv X pins σ H' s' ∧ Q b H'
def AP (X : Cx) (pins : List (Addr × Obj)) (σ : St) (Q : List V → Hp → Prop) (us : List Value) (s' : Shared) : Prop := ∃ vs H', Inv X pins σ H' s' ∧ Vals vs us ∧ Q vs H'
def SP (X : Cx) (pins : List (Addr × Obj)) (D : Ends) (f : Flow) (s' : Shared) : Prop :=
  match f with
  | .next => ∃ σ' H', Inv X pins σ' H' s' ∧ D.nx σ' H'
  | .brk => ∃ σ' H', Inv X pins σ' H' s' ∧ D.bk σ' H'
  | .cont => ∃ σ' H', Inv X pins σ' H' s' ∧ D.ct σ' H'
  | .ret u => ∃ v σ' H', Inv X pins σ' H' s' ∧ RelV v u ∧ D.rt v H'

def PE (X : Cx) (e : Expr) (t : TE) : Prop :=
  ∀ (pins : List (Addr × Obj)) (s : Shared) (σ : St) (H : Hp) (Q : VK), Inv X pins σ H s → t σ H Q → wpAny (model X.prog X.w) X.A (eval e X.env) (EP X pins σ Q) X.xe s
def PT (X : Cx) (e : Expr) (t : TT) : Prop :=
  ∀ (pins : List (Addr × Obj)) (s : Shared) (σ : St) (H : Hp) (Q : Bool → Hp → Prop), Inv X pins σ H s → t σ H Q → wpAny (model X.prog X.w) X.A (isTrue e X.env (eval e X.env)) (TP X pins σ Q) X.xe s
/-- a test whatever its 'whole' is (and, or) -/
def PW (X : Cx) (e : Expr) (t : TT) : Prop :=
  ∀ (whole : Sem Value) (pins : List (Addr × Obj)) (s : Shared) (σ : St) (H : Hp) (Q : Bool → Hp → Prop), Inv X pins σ H s → t σ H Q → wpAny (model X.prog X.w) X.A (isTrue e X.env whole) (TP X pins σ Q) X.xe s
theorem PW.pt {X : Cx} {e : Expr} {t : TT} (h : PW X e t) : PT X e t := h _
/-- an argument list (no star), from the left -/
def PA (X : Cx) (es : List Expr) (t : TA) : Prop :=
  ∀ (pos : Pos) (pins : List (Addr × Obj)) (s : Shared) (σ : St) (H : Hp) (Q : List V → Hp → Prop), Inv X pins σ H s → t σ H Q → wpAny (model X.prog X.w) X.A (spliced (backTo pos (starEach es X.env))) (AP X pins σ Q) X.xe s
def PS (X : Cx) (st : Stmt) (t : TS) : Prop :=
  ∀ (pins : List (Addr × Obj)) (s : Shared) (σ : St) (H : Hp) (D : Ends), Inv X pins σ H s → t D σ H → wpAny (model X.prog X.w) X.A (exec st X.env) (SP X pins D) X.xe s
def PSs (X : Cx) (st : List Stmt) (t : TS) : Prop :=
  ∀ (pins : List (Addr × Obj)) (s : Shared) (σ : St) (H : Hp) (D : Ends), Inv X pins σ H s → t D σ H → wpAny (model X.prog X.w) X.A (execs st X.env) (SP X pins D) X.xe s
/-- weaken the end -/
theorem thn {α : Type} {t : Sem α} {Q Q' : α → Shared → Prop} {M : Model} {A : Around} {E : Value → Shared → Prop} {s : Shared} (h : wpAny M A t Q E s) (hQ : ∀ a s, Q a s → Q' a s) : wpAny M A t Q' E s := wpAny_mono h hQ fun _ _ x => x
end L2

namespace L2
open PySem PySem.Spec PyProof.Rows
section
variable {X : Cx}

/-! ### names and constants -/
def tVar (i : Nat) : TE := fun σ H Q => ∃ v, σ[i]? = some (some v) ∧ Q v H
def tC (v : V) : TE := fun _ H Q => Q v H
theorem pe_var {i : Nat} {x : Str} {pos : Pos} (hN : X.N[i]? = some x) (hv : Vis X.env.scope x) (hd : (x == ("__debug__" : Str)) = false := by decide) (hcd : (x == ("__classdict__" : Str)) = false := by decide) : PE X (.Name x pos) (tVar i) := by
  intro pins s σ H Q I h
  obtain ⟨v, e, h⟩ := h
  obtain ⟨m, hn, hl⟩ := I.loc
  obtain ⟨u, r, l⟩ := hl i x v hN e hv
  have fin : EP X pins σ Q u s := ⟨v, H, I, r, h⟩
  rcases l with ⟨hk, hm⟩ | ⟨hk, c, hc, hcell⟩
  · exact wpAny_Name (wpAny_loadName_local I.ok.kind hk hn hm fin) hd
  · rcases hk with hk | hk
    · exact wpAny_Name (wpAny_loadName_cell I.ok.kind hk hc hcell fin) hd
    · exact wpAny_Name (wpAny_loadName_free I.ok.kind hk hc hcell fin hcd) hd
theorem pe_int {i j pos} : PE X (.Constant (.int i) j pos) (tC (.int i)) := fun _ _ _ H _ I h => wpAny_Constant_int ⟨.int i, H, I.tok _, ⟨_, rfl⟩, h⟩
theorem pe_bl {b j pos} : PE X (.Constant (.bool b) j pos) (tC (.bl b)) := fun _ _ _ H _ I h => Constant_bool ⟨.bl b, H, I, rfl, h⟩
theorem pe_non {j pos} : PE X (.Constant .none j pos) (tC .non) := fun _ _ _ H _ I h => Constant_none ⟨.non, H, I, rfl, h⟩
theorem pe_str {x j pos} : PE X (.Constant (.str x) j pos) (tC (.str x)) := fun _ _ _ H _ I h => Calls.Constant_str ⟨.str x, H, I.tok _, ⟨_, rfl⟩, h⟩

/-- a global name of the def -/
def Gl (X : Cx) (x : Str) : Prop := X.env.kindOf x = some .globalImplicit
theorem ld_glob {E : Value → Shared → Prop} {pins : List (Addr × Obj)} {s : Shared} {σ : St} {H : Hp} {x : Str} {u : Value} {pos : Pos} {Q : Value → Shared → Prop} (I : Inv X pins σ H s) (hg : Gl X x) (hm : X.mg x = some u) (h : Q u s)
    (hd : (x == ("__debug__" : Str)) = false := by decide) : wpAny (model X.prog X.w) X.A (eval (.Name x pos) X.env) Q E s :=
  Calls.Name_function_global I.ok.kind hg (Calls.loadGlobal_global (by rw [I.ok.glob]; exact I.mod.glob.keeps I.bk) hm h) hd
theorem ld_blt {E : Value → Shared → Prop} {pins : List (Addr × Obj)} {s : Shared} {σ : St} {H : Hp} {x : Str} {u : Value} {pos : Pos} {Q : Value → Shared → Prop} (I : Inv X pins σ H s) (hg : Gl X x) (hm : X.mg x = none) (hv : bootBuiltins x = some u) (h : Q u s)
    (hn : x ≠ "__name__" := by decide) (hd : (x == ("__debug__" : Str)) = false := by decide) : wpAny (model X.prog X.w) X.A (eval (.Name x pos) X.env) Q E s := by
  obtain ⟨mb, h1, h2⟩ := I.mod.blt
  exact Calls.Name_function_global I.ok.kind hg (Calls.loadGlobal_builtin (by rw [I.ok.glob]; exact I.mod.glob.keeps I.bk) hm (by rw [I.ok.blt]; exact h1.keeps I.bk) ((h2 x hn).trans hv) h) hd
theorem pe_bltn {x : Str} {v : V} {u : Value} {pos : Pos} (hg : Gl X x) (hm : X.mg x = none) (hv : bootBuiltins x = some u) (r : RelV v u) (hn : x ≠ "__name__" := by decide) (hd : (x == ("__debug__" : Str)) = false := by decide) : PE X (.Name x pos) (tC v) :=
  fun _ _ _ H _ I h => ld_blt I hg hm hv ⟨v, H, I, r, h⟩ hn hd

/-! ### arithmetic -/
variable {a b : Expr} {ta tb : TE} {pos : Pos}
/-! ### comparisons -/
def PC (X : Cx) (op : CmpOp) (a b : Expr) (t : TE) : Prop :=
  ∀ (pins : List (Addr × Obj)) (s : Shared) (σ : St) (H : Hp) (Q : VK), Inv X pins σ H s → t σ H Q →
    wpAny (model X.prog X.w) X.A (eval a X.env) (fun v s₁ => wpAny (model X.prog X.w) X.A (eval b X.env) (fun u s₂ => wpAny (model X.prog X.w) X.A (compareOp op v u) (EP X pins σ Q) X.xe s₂) X.xe s₁) X.xe s
/-- a comparison as a value, as a test -/
def tB (t : TE) : TT := fun σ H Q => t σ H fun x H1 => ∃ c, x = .bl c ∧ Q c H1
theorem pt_cmp {op : CmpOp} {t : TE} (h : PC X op a b t) (h1 : behindInMarks op b = false := by first | exact nobehind _ (by decide) (by decide) | rfl) : PT X (.Compare a [op] [b] pos) (tB t) := by
  intro pins s σ H Q I hw
  refine wpAny_isTrue_Compare1 (thn (h pins s σ H _ I hw) fun v s1 h1 => thn h1 fun u s2 h2 => thn h2 fun c s3 ⟨x, H1, I1, r1, q1⟩ => ?_) h1
  obtain ⟨d, rfl, q⟩ := q1
  cases r1
  exact wpAny_truthy_bool ⟨H1, I1, q⟩
/-- an expression whose value is a bool, as a test -/
theorem pt_val {e : Expr} {t : TE} (h : PE X e t) (he : ∀ whole, isTrue e X.env whole = (do let v ← whole; standAt e.pos; holding [v] (truthy v)) := by intro _; rfl) : PT X e (tB t) := by
  intro pins s σ H Q I hw
  refine isTrue_plain (thn (h pins s σ H _ I hw) fun v s1 ⟨x, H1, I1, r1, q1⟩ => ?_) (he _)
  obtain ⟨d, rfl, q⟩ := q1
  cases r1
  exact wpAny_truthy_bool ⟨H1, I1, q⟩

/-! ### and, or, not -/
variable {tA tB' : TT} {rest : List Expr}
def tAnd (t u : TT) : TT := fun σ H Q => t σ H fun c H1 => if c = true then u σ H1 Q else Q false H1
def tOr (t u : TT) : TT := fun σ H Q => t σ H fun c H1 => if c = true then Q true H1 else u σ H1 Q
def tNot (t : TT) : TT := fun σ H Q => t σ H fun c H1 => Q (!c) H1
theorem pw_and1 (ha : PT X a tA) : PW X (.BoolOp .And [a] pos) tA := by
  intro wh pins s σ H Q I h
  refine isTrue_and (thn (ha pins s σ H Q I h) fun c s1 e => ?_)
  cases c with
  | true => exact isTrue_and_nil e
  | false => exact e
theorem pw_or1 (ha : PT X a tA) : PW X (.BoolOp .Or [a] pos) tA := by
  intro wh pins s σ H Q I h
  refine isTrue_or (thn (ha pins s σ H Q I h) fun c s1 e => ?_)
  cases c with
  | false => exact isTrue_or_nil e
  | true => exact e
theorem pw_and (ha : PT X a tA) (hb : PW X (.BoolOp .And (b :: rest) pos) tB') : PW X (.BoolOp .And (a :: b :: rest) pos) (tAnd tA tB') := by
  intro wh pins s σ H Q I h
  refine isTrue_and (thn (ha pins s σ H _ I h) fun c s1 ⟨H1, I1, q1⟩ => ?_)
  cases c with
  | true => exact hb wh pins s1 σ H1 Q I1 q1
  | false => exact ⟨H1, I1, q1⟩
theorem pw_or (ha : PT X a tA) (hb : PW X (.BoolOp .Or (b :: rest) pos) tB') : PW X (.BoolOp .Or (a :: b :: rest) pos) (tOr tA tB') := by
  intro wh pins s σ H Q I h
  refine isTrue_or (thn (ha pins s σ H _ I h) fun c s1 ⟨H1, I1, q1⟩ => ?_)
  cases c with
  | true => exact ⟨H1, I1, q1⟩
  | false => exact hb wh pins s1 σ H1 Q I1 q1
theorem pt_not (ha : PT X a tA) : PT X (.UnaryOp .Not a pos) (tNot tA) := by
  intro pins s σ H Q I h
  exact isTrue_not (ha pins s σ H (fun c H1 => Q (!c) H1) I h)
/-- .. as values (bools) -/
def tAndV (ta tb : TE) : TE := fun σ H Q => ta σ H fun x H1 => ∃ c, x = .bl c ∧ if c = true then tb σ H1 Q else Q (.bl false) H1
def tNotV (ta : TE) : TE := fun σ H Q => ta σ H fun x H1 => ∃ c, x = .bl c ∧ Q (.bl (!c)) H1
theorem pe_one {op} {t : TE} (h : PE X a t) : PE X (.BoolOp op [a] pos) t := fun pins s σ H Q I hw => BoolOp_one (h pins s σ H Q I hw)
theorem pe_and (ha : PE X a ta) (hb : PE X (.BoolOp .And (b :: rest) pos) tb) : PE X (.BoolOp .And (a :: b :: rest) pos) (tAndV ta tb) := by
  intro pins s σ H Q I h
  refine BoolOp_and (thn (ha pins s σ H _ I h) fun v s1 ⟨x, H1, I1, r1, q1⟩ => ?_)
  obtain ⟨c, rfl, q1⟩ := q1
  cases r1
  refine wpAny_truthy_bool ?_
  cases c with
  | true => exact hb pins s1 σ H1 Q I1 q1
  | false => exact ⟨.bl false, H1, I1, rfl, q1⟩
theorem pe_not (ha : PE X a ta) : PE X (.UnaryOp .Not a pos) (tNotV ta) := by
  intro pins s σ H Q I h
  refine UnaryOp_ (thn (ha pins s σ H _ I h) fun v s1 ⟨x, H1, I1, r1, q1⟩ => ?_)
  obtain ⟨c, rfl, q1⟩ := q1
  cases r1
  exact not_of (wpAny_truthy_bool ⟨.bl (!c), H1, I1, rfl, q1⟩)
end
end L2

namespace L2
open PySem PySem.Spec PyProof.Rows

/-! ### a list, a tuple that is read: tracked, frozen, or an object of the module -/
def SqL (K : PySem.W.Frag) (H : Hp) (a : Addr) (xs : List V) : Prop :=
  Rd H a (.lst xs) ∨
    ∃ (o : Obj) (its : Array Value) (n : Nat), K.lookup a = some o ∧ o.cls = .type "list" ∧ o.dict = none ∧ o.data = .seq its n ∧ its.size ≤ sizeLine ∧ Vals xs its.toList
def SqT (K : PySem.W.Frag) (H : Hp) (a : Addr) (xs : List V) : Prop :=
  Rd H a (.tup xs) ∨
    ∃ (o : Obj) (its : Array Value) (n : Nat), K.lookup a = some o ∧ o.cls = .type "tuple" ∧ o.data = .seq its n ∧ its.size ≤ sizeLine ∧ Vals xs its.toList
def absV : Value → Option V
  | .none => some .non
  | .bool b => some (.bl b)
  | .int i _ => some (.int i)
  | .str x _ => some (.str x)
  | .bytes b _ => some (.byt b)
  | .float b _ => some (.flt b)
  | .ref a => some (.ref a)
  | .type n => some (.ty n)
  | _ => none
theorem RelV.abs {x : V} {u : Value} (r : RelV x u) : absV u = some x := by
  cases x with
  | non => cases r; rfl
  | bl _ => cases r; rfl
  | int _ => obtain ⟨t, rfl⟩ := r; rfl
  | str _ => obtain ⟨t, rfl⟩ := r; rfl
  | byt _ => obtain ⟨t, rfl⟩ := r; rfl
  | flt _ => obtain ⟨t, rfl⟩ := r; rfl
  | ref _ => cases r; rfl
  | ty _ => cases r; rfl
theorem RelV.inj {x y : V} {u : Value} (r : RelV x u) (q : RelV y u) : x = y := Option.some.inj (r.abs.symm.trans q.abs)
theorem Vals.inj : ∀ {xs ys : List V} {us : List Value}, Vals xs us → Vals ys us → xs = ys
  | _, _, _, .nil, .nil => rfl
  | _, _, _, .cons r t, .cons r' t' => by rw [r.inj r', Vals.inj t t']
section
variable {X : Cx} {pins : List (Addr × Obj)} {σ : St} {H : Hp} {s : Shared} {a : Addr} {xs ys : List V}
theorem SqL.of {K : PySem.W.Frag} (h : H a = some (.lst xs)) : SqL K H a xs := .inl (.inl h)
theorem SqT.of {K : PySem.W.Frag} (h : H a = some (.tup xs)) : SqT K H a xs := .inl (.inl h)
theorem Inv.list (I : Inv X pins σ H s) (h : SqL X.K H a xs) : ∃ its : List Value, Vals xs its ∧ PlainL s.heap a its.toArray ∧ xs.length ≤ sizeLine := by
  rcases h with h | ⟨o, its, n, hk, hc, hd, hs, hz, r⟩
  · obtain ⟨z, its, n, r, e⟩ := h.ok I.hok
    exact ⟨its, r, ⟨_, n, e, rfl, rfl, rfl⟩, z⟩
  · refine ⟨its.toList, r, ⟨o, n, I.kIn a o hk, hc, hd, by simpa using hs⟩, ?_⟩
    have e := r.length
    simp only [Array.length_toList] at e
    omega
theorem Inv.tuple (I : Inv X pins σ H s) (h : SqT X.K H a xs) : ∃ its : List Value, Vals xs its ∧ IsTup s.heap a its.toArray ∧ xs.length ≤ sizeLine := by
  rcases h with h | ⟨o, its, n, hk, hc, hs, hz, r⟩
  · obtain ⟨z, its, r, p⟩ := h.ok I.hok
    exact ⟨its, r, p, z⟩
  · refine ⟨its.toList, r, ⟨o, I.kIn a o hk, hc, n, by simpa using hs⟩, ?_⟩
    have e := r.length
    simp only [Array.length_toList] at e
    omega
theorem Inv.list_inj (I : Inv X pins σ H s) (h : SqL X.K H a xs) (h' : SqL X.K H a ys) : xs = ys := by
  obtain ⟨its, r, ⟨o, n, e, _, _, d⟩, _⟩ := I.list h
  obtain ⟨its', r', ⟨o', n', e', _, _, d'⟩, _⟩ := I.list h'
  rw [e] at e'; cases e'
  rw [d] at d'
  injection d' with d1 _
  have : its = its' := by simpa using congrArg Array.toList d1
  subst this
  exact r.inj r'
end

/-! ### another wish about exceptions -/
abbrev Cx.wish (X : Cx) (E : Value → Shared → Prop) : Cx := { X with xe := E }
/-- no exception leaves -/
abbrev Cx.nox (X : Cx) : Cx := X.wish fun _ _ => False
theorem Cx.Ok.wish {X : Cx} (ok : X.Ok) (E : Value → Shared → Prop) : (X.wish E).Ok :=
  ⟨ok.mod, ok.kind, ok.glob, ok.blt, ok.above, ok.inj, ok.has, ok.cab, ok.hd, ok.frames, ok.stk, ok.exf, ok.bs, ok.bsz, ok.noex, ok.exfs, ok.funs, ok.frf⟩
theorem Cx.Ok.unwish {X : Cx} {E : Value → Shared → Prop} (ok : (X.wish E).Ok) : X.Ok :=
  ⟨ok.mod, ok.kind, ok.glob, ok.blt, ok.above, ok.inj, ok.has, ok.cab, ok.hd, ok.frames, ok.stk, ok.exf, ok.bs, ok.bsz, ok.noex, ok.exfs, ok.funs, ok.frf⟩
section
variable {X : Cx} {pins : List (Addr × Obj)} {σ : St} {H : Hp} {s : Shared} {E : Value → Shared → Prop}
theorem Inv.wish (I : Inv X pins σ H s) (E : Value → Shared → Prop) : Inv (X.wish E) pins σ H s := ⟨I.ok.wish E, I.os, I.bare, I.base, I.loc, I.cell, I.free, I.freeC, I.pin, I.hok, I.len⟩
theorem Inv.unwish (I : Inv (X.wish E) pins σ H s) : Inv X pins σ H s := ⟨I.ok.unwish, I.os, I.bare, I.base, I.loc, I.cell, I.free, I.freeC, I.pin, I.hok, I.len⟩
theorem SP.unwish {D : Ends} {f : Flow} {s' : Shared} (h : SP (X.wish E) pins D f s') : SP X pins D f s' := by
  cases f with
  | next => obtain ⟨σ', H', I, q⟩ := h; exact ⟨σ', H', I.unwish, q⟩
  | brk => obtain ⟨σ', H', I, q⟩ := h; exact ⟨σ', H', I.unwish, q⟩
  | cont => obtain ⟨σ', H', I, q⟩ := h; exact ⟨σ', H', I.unwish, q⟩
  | ret u => obtain ⟨v, σ', H', I, r, q⟩ := h; exact ⟨v, σ', H', I.unwish, r, q⟩
theorem PSs.nox {st : List Stmt} {t : TS} (h : PSs X.nox st t) : PSs X st t := fun pins s σ H D I hw =>
  wpAny_mono (h pins s σ H D (I.wish _) hw) (fun _ _ q => q.unwish) fun _ _ z => False.elim z
end

/-! ### blocks and small statements -/
section
variable {X : Cx} {st : Stmt} {rest : List Stmt} {t u : TS} {e : Expr} {te : TE} {pos : Pos}
def tNext : TS := fun D σ H => D.nx σ H
def tSeq (t u : TS) : TS := fun D σ H => t { D with nx := u D } σ H
theorem pss_nil : PSs X [] tNext := fun _ _ σ H _ I h => wpAny_execs_nil ⟨σ, H, I, h⟩
theorem pss_cons (h1 : PS X st t) (h2 : PSs X rest u) : PSs X (st :: rest) (tSeq t u) := by
  intro pins s σ H D I h
  refine wpAny_execs_cons (thn (h1 pins s σ H { D with nx := u D } I h) fun f s1 q => ?_)
  cases f with
  | next =>
    obtain ⟨σ', H', I', q⟩ := q
    exact h2 pins s1 σ' H' D I' q
  | ret v => exact q
  | brk => exact q
  | cont => exact q
theorem pss_one (h1 : PS X st t) : PSs X [st] t := by
  intro pins s σ H D I h
  refine wpAny_execs_cons (thn (h1 pins s σ H D I h) fun f s1 q => ?_)
  cases f with
  | next => exact wpAny_execs_nil q
  | ret v => exact q
  | brk => exact q
  | cont => exact q
/-- in a def's body nothing is shown -/
theorem Inv.quiet {pins : List (Addr × Obj)} {σ : St} {H : Hp} {s : Shared} (I : Inv X pins σ H s) : interactive X.env = false := by simp [interactive, I.ok.kind]
/-- an expression whose value is dropped -/
def tDrop (te : TE) : TS := fun D σ H => te σ H fun _ H1 => D.nx σ H1
theorem ps_expr (he : PE X e te) (hs : swapsWith e none pos.line X.env = pure false := by rfl) : PS X (.Expr e pos) (tDrop te) := by
  intro pins s σ H D I h
  exact wpAny_Expr_any (thn (he pins s σ H _ I h) fun v s1 ⟨x, H1, I1, r1, q1⟩ => ⟨σ, H1, I1, q1⟩) I.quiet hs
def tRet (te : TE) : TS := fun D σ H => te σ H D.rt
theorem ps_ret (he : PE X e te) : PS X (.Return (some e) pos) (tRet te) := by
  intro pins s σ H D I h
  exact wpAny_Return_some (thn (he pins s σ H _ I h) fun v s1 ⟨x, H1, I1, r1, q1⟩ => ⟨x, σ, H1, I1, r1, q1⟩)
def tIfS (c : TT) (t u : TS) : TS := fun D σ H => c σ H fun b H1 => if b = true then t D σ H1 else u D σ H1
theorem ps_if {c : Expr} {a b : List Stmt} {tc : TT} (hc : PT X c tc) (ha : PSs X a t) (hb : PSs X b u) : PS X (.If c a b pos) (tIfS tc t u) := by
  intro pins s σ H D I h
  refine wpAny_If (thn (hc pins s σ H _ I h) fun d s1 ⟨H1, I1, q1⟩ => ?_)
  cases d with
  | true => exact ha pins s1 σ H1 D I1 q1
  | false => exact hb pins s1 σ H1 D I1 q1
end

/-! ### targets -/
abbrev TG := V → St → Hp → (St → Hp → Prop) → Prop
abbrev TGs := List V → St → Hp → (St → Hp → Prop) → Prop
def PG (X : Cx) (target : Expr) (t : TG) : Prop :=
  ∀ (pins : List (Addr × Obj)) (s : Shared) (σ : St) (H : Hp) (v : V) (u : Value) (Q : St → Hp → Prop), Inv X pins σ H s → RelV v u → t v σ H Q →
    wpAny (model X.prog X.w) X.A (assign target X.env u) (fun _ s' => ∃ σ' H', Inv X pins σ' H' s' ∧ Q σ' H') X.xe s
/-- several targets, one after another -/
def PGs (X : Cx) (ts : List Expr) (t : TGs) : Prop :=
  ∀ (pins : List (Addr × Obj)) (s : Shared) (σ : St) (H : Hp) (vs : List V) (us : List Value) (Q : St → Hp → Prop), Inv X pins σ H s → Vals vs us → t vs σ H Q →
    wpAny (model X.prog X.w) X.A (assignInOrder ((assignEach ts X.env).map (·.2)) us) (fun _ s' => ∃ σ' H', Inv X pins σ' H' s' ∧ Q σ' H') X.xe s
/-- a op= b, by values -/
abbrev TIp := V → V → Hp → VK → Prop
def PIp (X : Cx) (op : Operator) (t : TIp) : Prop :=
  ∀ (pins : List (Addr × Obj)) (s : Shared) (σ : St) (H : Hp) (x y : V) (v u : Value) (Q : VK), Inv X pins σ H s → RelV x v → RelV y u → t x y H Q →
    wpAny (model X.prog X.w) X.A (inplaceOp op v u) (EP X pins σ Q) X.xe s
section
variable {X : Cx} {pos : Pos}
def gName (i : Nat) : TG := fun v σ H Q => Q (σ.set i (some v)) H
theorem pg_name {i : Nat} {x : Str} (hN : X.N.Nodup) (hi : X.N[i]? = some x) (hx : Loc X.env.scope x) (hf : X.fn x = true ∨ X.env.scope.names.lookup x = some .local := by first | exact .inl rfl | exact .inr rfl | assumption) : PG X (.Name x pos) (gName i) := by
  intro pins s σ H v u Q I r h
  exact wpAny_assign_Name (store_ok I hN hi hx r (fun s' I' => ⟨_, H, I', h⟩) hf)
def gNil : TGs := fun vs σ H Q => vs = [] ∧ Q σ H
def gCons (t : TG) (u : TGs) : TGs := fun vs σ H Q => ∃ v r, vs = v :: r ∧ t v σ H fun σ' H' => u r σ' H' Q
theorem pgs_nil : PGs X [] gNil := by
  intro pins s σ H vs us Q I r h
  obtain ⟨e, h⟩ := h
  subst e
  cases r
  exact assignInOrder_nil ⟨σ, H, I, h⟩
theorem pgs_cons {e : Expr} {es : List Expr} {t : TG} {u : TGs} (h1 : PG X e t) (h2 : PGs X es u)
    (hs : (assignEach (e :: es) X.env).map (·.2) = assign e X.env :: (assignEach es X.env).map (·.2) := by rfl) : PGs X (e :: es) (gCons t u) := by
  intro pins s σ H vs us Q I r h
  obtain ⟨v, vr, e1, h⟩ := h
  subst e1
  cases r with
  | cons r rr =>
    rw [hs]
    refine assignInOrder_cons (thn (h1 pins s σ H _ _ _ I r h) fun _ s1 ⟨σ1, H1, I1, q1⟩ => ?_)
    exact h2 pins s1 σ1 H1 _ _ Q I1 rr q1
/-- (a, b, ..) = a tuple of that length -/
def gTup (K : PySem.W.Frag) (n : Nat) (t : TGs) : TG := fun v σ H Q => ∃ a xs, v = .ref a ∧ SqT K H a xs ∧ xs.length = n ∧ t xs σ H Q
theorem pg_tup {es : List Expr} {k : Nat} {t : TGs} {n : Nat} (hc : X.calm = true) (h : PGs X es t)
    (hn : (assignEach es X.env).length = n := by rfl) (hst : (assignEach es X.env).findIdx? (·.1) = none := by rfl) : PG X (.Tuple es k pos) (gTup X.K n t) := by
  intro pins s σ H v u Q I r hw
  obtain ⟨a, xs, e1, hq, hl, hw⟩ := hw
  subst e1
  cases r
  obtain ⟨its, rv, ht, hz⟩ := I.tuple hq
  refine assign_Tuple_tuple (I.ok.hd hc) ht (by simp [hn, ← hl, rv.length]) hst fun h' hx => ?_
  have I1 : Inv X pins σ H { s with heap := h' } := I.kept (t' := s.toks) fun b o e => hx b o (Nat.ne_of_lt (Heap.lt_size e)) e
  exact h pins _ σ H xs _ Q I1 (by simpa using rv) hw
/-- target = value -/
def tAsg (te : TE) (g : TG) : TS := fun D σ H => te σ H fun x H1 => g x σ H1 D.nx
/-- name = value -/
theorem ps_set {i : Nat} {x : Str} {e : Expr} {te : TE} {pos' : Pos} (hN : X.N.Nodup) (hi : X.N[i]? = some x) (hx : Loc X.env.scope x) (he : PE X e te) (hs : swapsWith e (some (.Name x pos')) pos.line X.env = pure false := by rfl) (hf : X.fn x = true ∨ X.env.scope.names.lookup x = some .local := by first | exact .inl rfl | exact .inr rfl | assumption) :
    PS X (.Assign [.Name x pos'] e pos) (tAsg te (gName i)) := by
  intro pins s σ H D I h
  refine wpAny_Assign_Name (thn (he pins s σ H _ I h) fun v s1 ⟨y, H1, I1, r1, q1⟩ => ?_) hs
  exact store_ok I1 hN hi hx r1 (fun s2 I2 => ⟨_, H1, I2, q1⟩) hf
/-- a, b = x, y with plain local names: stored from the right; the pair itself is not tracked (the opening rows as in PyProof/Rows/TupAssign.lean:23) -/
def tPar (i j : Nat) (ta : TA) : TS := fun D σ H => ta σ H fun vs H1 => ∃ v w, vs = [v, w] ∧ D.nx ((σ.set i (some v)).set j (some w)) H1
theorem ps_par {i j : Nat} {x y : Str} {a b : Expr} {ta : TA} {px py pt : Pos} {kt k2 pt2} (hc : X.calm = true) (hN : X.N.Nodup) (hi : X.N[i]? = some x) (hj : X.N[j]? = some y) (hij : i ≠ j)
    (hx : X.env.scope.names.lookup x = some .local) (hy : X.env.scope.names.lookup y = some .local) (ha : PA X [a, b] ta)
    (hw : swappedStores [.Tuple [.Name x px, .Name y py] kt pt] (.Tuple [a, b] k2 pt2) X.env = pure (some [x, y]))
    (hs : swapsWithSole [.Tuple [.Name x px, .Name y py] kt pt] (.Tuple [a, b] k2 pt2) pos.line X.env = pure false := by rfl) :
    PS X (.Assign [.Tuple [.Name x px, .Name y py] kt pt] (.Tuple [a, b] k2 pt2) pos) (tPar i j ta) := by
  intro pins s σ H D I h
  rw [exec_Assign_arm]
  refine wpAny_bind (wpAny_standAt ?_)
  rw [hs]
  refine wpAny_bind (wpAny_pure ?_)
  rw [if_neg (by decide)]
  refine wpAny_bind (Tuple_ (thn (ha _ pins s σ H _ I h) fun us s1 ⟨vs, H1, I1, r1, q1⟩ => ?_))
  obtain ⟨v, w, e1, q1⟩ := q1
  subst e1
  obtain ⟨u1, u2, rfl, rv, rw'⟩ : ∃ u1 u2, us = [u1, u2] ∧ RelV v u1 ∧ RelV w u2 := by
    cases r1 with
    | cons p q =>
      cases q with
      | cons p' q' =>
        cases q'
        exact ⟨_, _, rfl, p, p'⟩
  refine wpAny_newObj_type ?_ (by show 2 ≤ sizeLine; decide)
  have I2 : Inv X pins σ H1 { s1 with heap := s1.heap.push { cls := .type "tuple", data := .seq [u1, u2].toArray } } := I1.kept (t' := s1.toks) fun b o e => Heap.get?_push_of_some _ e
  rw [hw]
  refine wpAny_bind (wpAny_pure ?_)
  show wpAny (model X.prog X.w) X.A (do rule "assign.swapped-stores"; let items ← unpackItems (.ref s1.heap.objs.size) 2 none; assignInOrder [fun v => bindName X.env y v, fun v => bindName X.env x v] items.reverse; pure Flow.next) _ _ _
  refine wpAny_bind (wpAny_rule (wpAny_bind (unpackItems_tuple (items := #[u1, u2]) (I.ok.hd hc) (IsTup.new s1.heap _) fun h' hx' => ?_)))
  have I3 := I2.kept (h' := h') (t' := s1.toks) fun b o e => hx' b o (Nat.ne_of_lt (Heap.lt_size e)) e
  show wpAny _ _ (assignInOrder [fun v => bindName X.env y v, fun v => bindName X.env x v] [u2, u1] >>= fun _ => pure Flow.next) _ _ _
  refine wpAny_bind (assignInOrder_cons (wpAny_bindName (store_ok I3 hN hj (.inl hy) rw' (fun s2 I4 => ?_) (.inr hy))))
  refine assignInOrder_cons (wpAny_bindName (store_ok I4 hN hi (.inl hx) rv (fun s3 I5 => assignInOrder_nil (wpAny_pure ?_)) (.inr hx)))
  rw [List.set_comm _ _ (Ne.symm hij)] at I5
  exact ⟨_, H1, I5, q1⟩
/-- name op= e -/
def tAug (i : Nat) (te : TE) (ti : TIp) : TS := fun D σ H => ∃ x, σ[i]? = some (some x) ∧ te σ H fun y H1 => ti x y H1 fun z H2 => D.nx (σ.set i (some z)) H2
theorem ps_aug {i : Nat} {x : Str} {e : Expr} {te : TE} {op : Operator} {ti : TIp} {pos' : Pos} (hN : X.N.Nodup) (hi : X.N[i]? = some x) (hx : Loc X.env.scope x) (he : PE X e te) (ho : PIp X op ti) (hf : X.fn x = true ∨ X.env.scope.names.lookup x = some .local := by first | exact .inl rfl | exact .inr rfl | assumption) :
    PS X (.AugAssign (.Name x pos') op e pos) (tAug i te ti) := by
  intro pins s σ H D I h
  obtain ⟨v, e1, h⟩ := h
  obtain ⟨m, hn, hl⟩ := I.loc
  have vis : Vis X.env.scope x := by rcases hx with k | k; exact .inl k; exact .inr (.inl k)
  obtain ⟨u, r, l⟩ := hl i x v hi e1 vis
  refine wpAny_AugAssign_Name ?_
  have go : wpAny (model X.prog X.w) X.A (eval e X.env) (fun w s₂ => wpAny (model X.prog X.w) X.A (inplaceOp op u w) (fun r s₃ => wpAny (model X.prog X.w) X.A (storeName X.env x r) (fun _ => SP X pins D .next) X.xe s₃) X.xe s₂) X.xe s := by
    refine thn (he pins s σ H _ I h) fun w s1 ⟨y, H1, I1, r1, q1⟩ => ?_
    refine thn (ho pins s1 σ H1 v y u w _ I1 r r1 q1) fun z s2 ⟨zv, H2, I2, r2, q2⟩ => ?_
    exact store_ok I2 hN hi hx r2 (fun s3 I3 => ⟨_, H2, I3, q2⟩) hf
  rcases l with ⟨hk, hm⟩ | ⟨hk, c, hc, hcell⟩
  · exact wpAny_loadName_local I.ok.kind hk hn hm go
  · rcases hk with hk | hk
    · exact wpAny_loadName_cell I.ok.kind hk hc hcell go
    · rcases hx with k | k
      · have : X.env.scope.names.lookup x = some .free := hk
        rw [k] at this; cases this
      · have : X.env.scope.names.lookup x = some .free := hk
        rw [k] at this; cases this
/-- ints -/
def ipI (f : Int → Int → Int) : TIp := fun x y H Q => ∃ i j, x = .int i ∧ y = .int j ∧ Q (.int (f i j)) H
theorem ip_add : PIp X .Add (ipI fun i j => i + j) := by
  intro pins s σ H x y v u Q I r1 r2 h
  obtain ⟨i, j, e1, e2, q⟩ := h
  subst e1; subst e2
  obtain ⟨t, rfl⟩ := r1
  obtain ⟨t', rfl⟩ := r2
  exact iadd_int ⟨.int _, H, I.tok _, ⟨_, rfl⟩, q⟩
end

/-! ### while -/
section
variable {X : Cx} {pos : Pos}
/-- the invariant W with its measure -/
def tWhile (c : TT) (tb : TS) : TS := fun D σ H => ∃ W : Nat → St → Hp → Prop, (∃ m, W m σ H) ∧ ∀ m σ H, W m σ H →
  c σ H fun b H1 => if b = true then ∃ N : St → Hp → Prop, (∀ σ' H', N σ' H' → ∃ m', m' < m ∧ W m' σ' H') ∧ tb { D with nx := N, ct := N, bk := D.nx } σ H1 else D.nx σ H1
theorem ps_while {c : Expr} {body : List Stmt} {tc : TT} {tb : TS} (hp : PassesOwn (model X.prog X.w) X.A X.env X.xe) (hc : PT X c tc) (hb : PSs X body tb) : PS X (.While c body [] pos) (tWhile tc tb) := by
  intro pins s σ H D I h
  obtain ⟨W, ⟨m0, w0⟩, turn⟩ := h
  refine wpAny_While (codeAny_whileLoop (fun n s' => ∃ σ' H', Inv X pins σ' H' s' ∧ W n σ' H') ?_ m0 ⟨σ, H, I, w0⟩)
  rintro n s1 ⟨σ1, H1, I1, w1⟩
  refine wpAny_passesOwn hp (thn (hc pins s1 σ1 H1 _ I1 (turn n σ1 H1 w1)) fun b s2 ⟨H2, I2, q2⟩ => ?_)
  cases b with
  | true =>
    obtain ⟨N, hN, q2⟩ := q2
    rw [if_pos rfl]
    refine wpAny_passesOwn hp (thn (hb pins s2 σ1 H2 _ I2 q2) fun f s3 q3 => ?_)
    cases f with
    | next =>
      obtain ⟨σ3, H3, I3, n3⟩ := q3
      obtain ⟨m', hm, w3⟩ := hN σ3 H3 n3
      exact ⟨m', hm, σ3, H3, I3, w3⟩
    | cont =>
      obtain ⟨σ3, H3, I3, n3⟩ := q3
      obtain ⟨m', hm, w3⟩ := hN σ3 H3 n3
      exact ⟨m', hm, σ3, H3, I3, w3⟩
    | brk => exact q3
    | ret v => exact q3
  | false =>
    rw [if_neg Bool.false_ne_true]
    exact wpAny_execs_nil ⟨σ1, H2, I2, q2⟩
end

/-! ### what a loop or a comprehension walks -/
/-- at turn i: it yields x (the heap may grow), or it stops -/
structure It where
  go : Nat → Hp → Prop
  yld : Nat → Hp → V → Hp → Prop
  stop : Nat → Hp → Prop
/-- the iterator's own objects may turn: they are not the frame's, not pinned, younger than the entry (or a comprehension's own) -/
def FpOk (X : Cx) (pins : List (Addr × Obj)) (H : Hp) (b : Addr) : Prop :=
  H b = none ∧ b ≠ X.env.locals ∧ b ∉ X.fs ∧ (b ∈ X.ex ∨ X.s₀.heap.objs.size ≤ b) ∧ (∀ x c, X.env.cells.lookup x = some c → c ≠ b) ∧ ∀ p ∈ X.pn ++ pins, p.1 ≠ b
theorem Inv.fpOk {X : Cx} {pins : List (Addr × Obj)} {σ : St} {H H' : Hp} {s : Shared} {b : Addr} (I : Inv X pins σ H s) (hb : s.heap.objs.size ≤ b) (hn : H' b = none) : FpOk X pins H' b := by
  refine ⟨hn, Nat.ne_of_gt (Nat.lt_of_lt_of_le I.lt hb), I.nofs hb, .inr (Nat.le_trans I.sz hb), fun x c e z => ?_, fun p hp z => ?_⟩
  · obtain ⟨v, q⟩ := I.cell x c e
    exact absurd (Nat.lt_of_lt_of_le q.lt (by rw [z]; exact hb)) (Nat.lt_irrefl _)
  · exact absurd (Nat.lt_of_lt_of_le (Heap.lt_size (I.pin p hp).1) (by rw [z]; exact hb)) (Nat.lt_irrefl _)
structure Turn (P : Program) (w : World) (K : PySem.W.Frag) (tg : Expr) (J : It) (fp : List Addr) (it : Addr) (tn : Nat → Heap → Prop) : Prop where
  mem : it ∈ fp
  obj : ∀ i h, tn i h → ∀ b ∈ fp, ∃ o, h.get? b = some o ∧ ∀ v, o.data ≠ .cell v
  keep : ∀ i h h', tn i h → (∀ b ∈ fp, ∀ o, h.get? b = some o → h'.get? b = some o) → tn i h'
  item : ∀ (X : Cx), X.prog = P → X.w = w → X.K = K → X.calm = true → ∀ (i : Nat) (pins : List (Addr × Obj)) (s : Shared) (σ : St) (H : Hp) (E : Value → Shared → Prop), Inv X pins σ H s → (∀ b ∈ fp, FpOk X pins H b) → tn i s.heap → J.go i H →
    wpAny (model P w) X.A (pyNext (.ref it)) (fun r s1 => ∃ u, r = some u ∧
      wpAny (model P w) X.A (letOwnedTupleGo tg (.ref it) u) (fun _ s2 => ∃ x H', Inv X pins σ H' s2 ∧ RelV x u ∧ J.yld i H x H' ∧ tn (i + 1) s2.heap ∧ ∀ b ∈ fp, H' b = none) E s1) E s
  done : ∀ (X : Cx), X.prog = P → X.w = w → X.K = K → X.calm = true → ∀ (i : Nat) (pins : List (Addr × Obj)) (s : Shared) (σ : St) (H : Hp) (E : Value → Shared → Prop), Inv X pins σ H s → (∀ b ∈ fp, FpOk X pins H b) → tn i s.heap → J.stop i H →
    wpAny (model P w) X.A (pyNext (.ref it)) (fun r s1 => r = none ∧ Inv X pins σ H s1) E s
  self : ∀ (A : Around) (i : Nat) (s : Shared) (Q : Value → Shared → Prop) (E : Value → Shared → Prop), tn i s.heap → Q (.ref it) s → wpAny (model P w) A (pyIter (.ref it)) Q E s
abbrev TI := St → Hp → (It → Hp → Prop) → Prop
/-- an iterator has come -/
def PIE (X : Cx) (pins : List (Addr × Obj)) (σ : St) (tg : Expr) (R : It → Hp → Prop) (itv : Value) (s2 : Shared) : Prop :=
  ∃ (it : Addr) (fp : List Addr) (tn : Nat → Heap → Prop) (J : It) (H' : Hp), itv = .ref it ∧ Inv X pins σ H' s2 ∧ Turn X.prog X.w X.K tg J fp it tn ∧ tn 0 s2.heap ∧ (∀ b ∈ fp, FpOk X pins H' b) ∧ R J H'
def PI (X : Cx) (tg iter : Expr) (wi : TI) : Prop :=
  ∀ (pins : List (Addr × Obj)) (s : Shared) (σ : St) (H : Hp) (R : It → Hp → Prop), Inv X pins σ H s → wi σ H R →
    wpAny (model X.prog X.w) X.A (eval iter X.env) (fun v s1 => wpAny (model X.prog X.w) X.A (pyIter v) (PIE X pins σ tg R) X.xe s1) X.xe s

/-- the step ahead of the store is nothing for an iterator that keeps no tuple -/
theorem go_of {M : Model} {A : Around} {E : Value → Shared → Prop} {s : Shared} {tg : Expr} {it : Addr} {u : Value} {o : Obj} {n : String} {vs : Array Value} {Q : Unit → Shared → Prop} (ho : s.heap.get? it = some o) (hc : o.cls = .type n) (hd : o.data = .fields vs)
    (hn : ["enumerate", "zip", "dict_itemiterator", "dict_reverseitemiterator", "odict_iterator", "itertools.zip_longest", "itertools.pairwise"].contains n = false) (hQ : Q () s) : wpAny M A (letOwnedTupleGo tg (.ref it) u) Q E s := by
  unfold letOwnedTupleGo
  cases tg <;> first
    | exact wpAny_pure hQ
    | (cases u <;> first
        | exact wpAny_pure hQ
        | (refine wpAny_bind (wpAny_load ho ?_)
           rw [hc, hd]
           show wpAny M A (if (["enumerate", "zip", "dict_itemiterator", "dict_reverseitemiterator", "odict_iterator", "itertools.zip_longest", "itertools.pairwise"].contains n && vs[0]? == some (rawInt _)) = true then _ else _) Q E s
           rw [if_neg (by intro h; rw [hn, Bool.false_and] at h; cases h)]
           exact wpAny_pure hQ))

/-- the list at a, as it stands at each turn (a loop may append to it) -/
def Itl (K : PySem.W.Frag) (a : Addr) : It :=
  ⟨fun i H => ∃ xs x, SqL K H a xs ∧ xs[i]? = some x, fun i H x H' => H' = H ∧ ∀ xs, SqL K H a xs → xs[i]? = some x, fun i H => ∃ xs, SqL K H a xs ∧ xs.length ≤ i⟩
/-- lo, lo + 1, .. (n of them) -/
def Itr (lo : Int) (n : Nat) : It := ⟨fun i _ => i < n, fun i H x H' => H' = H ∧ x = .int (lo + i), fun i _ => n ≤ i⟩
theorem turn_list {P : Program} {w : World} {K : PySem.W.Frag} {tg : Expr} (a it : Addr) : Turn P w K tg (Itl K a) [it] it (fun i h => h.IsListIter it a i) where
  mem := by simp
  obj := fun i h st b hb => by
    have e : b = it := by simpa using hb
    subst e
    obtain ⟨o, e, c, d⟩ := st
    exact ⟨o, e, fun v z => by rw [d] at z; cases z⟩
  keep := fun i h h' st k => st.at fun o e => k it (by simp) o e
  item := by
    intro X hP hw hK hc i pins s σ H E I hf st hg
    subst hP hw hK
    obtain ⟨xs, x, hq, hx⟩ := hg
    obtain ⟨its, rv, p, hz⟩ := I.list hq
    obtain ⟨u, hu, ru⟩ := rv.get hx
    obtain ⟨f0, f1, f2, f3, f4, f5⟩ := hf it (by simp)
    refine wpAny_pyNext_list_item st p.isList (x := u) (by simpa using hu) fun h' st' sb => ?_
    have I1 : Inv X pins σ H { s with heap := h' } := I.turned (t' := s.toks) (fun b o hb e => (sb.2 b hb).trans e) f0 f1 f3 f4 f5
    obtain ⟨o, e, c, d⟩ := id st'
    exact ⟨u, rfl, go_of (s := { s with heap := h' }) e c d (by decide) ⟨x, H, I1, ru, ⟨rfl, fun ys hy => by rw [I.list_inj hy hq]; exact hx⟩, st', fun b hb => (hf b hb).1⟩⟩
  done := by
    intro X hP hw hK hc i pins s σ H E I hf st hg
    subst hP hw hK
    obtain ⟨xs, hq, hx⟩ := hg
    obtain ⟨its, rv, p, hz⟩ := I.list hq
    obtain ⟨f0, f1, f2, f3, f4, f5⟩ := hf it (by simp)
    have hl := rv.length
    exact wpAny_pyNext_list_end (I.ok.hd hc) st p.isList (by simp; omega) fun h' eb => ⟨rfl, I.turned (t' := s.toks) (fun b o hb e => eb b o hb e) f0 f1 f3 f4 f5⟩
  self := fun _ _ _ _ _ st h => wpAny_pyIter_listiter st h
theorem turn_range {P : Program} {w : World} {K : PySem.W.Frag} {tg : Expr} (it : Addr) (lo : Int) (n : Nat) : Turn P w K tg (Itr lo n) [it] it (fun i h => IsRangeIter h it (lo + (i : Nat) * 1) ((n : Int) - (i : Nat)) 1) where
  mem := by simp
  obj := fun i h st b hb => by
    have e : b = it := by simpa using hb
    subst e
    exact ⟨_, st, fun v z => by
      have z' : Data.fields _ = Data.cell v := z
      cases z'⟩
  keep := fun i h h' st k => k it (by simp) _ st
  item := by
    intro X hP hw hK hc i pins s σ H E I hf st hg
    subst hP hw hK
    obtain ⟨f0, f1, f2, f3, f4, f5⟩ := hf it (by simp)
    have W := Walks.range (prog := X.prog) (w := X.w) (I.ok.hd hc) it lo 1 n
    refine W.item i s _ _ hg st fun v h' tk hv st' kk => ?_
    obtain ⟨t, rfl⟩ := hv
    have I1 : Inv X pins σ H { s with heap := h', toks := tk } := I.turned (fun b o hb e => kk b o (by simpa using hb) e) f0 f1 f3 f4 f5
    refine ⟨_, rfl, go_of (s := { s with heap := h', toks := tk }) (n := "range_iterator") st' rfl rfl (by decide) ⟨.int (lo + i), H, I1, ⟨t, ?_⟩, ⟨rfl, rfl⟩, st', fun b hb => (hf b hb).1⟩⟩
    rw [Int.mul_one]
  done := by
    intro X hP hw hK hc i pins s σ H E I hf st hg
    subst hP hw hK
    obtain ⟨f0, f1, f2, f3, f4, f5⟩ := hf it (by simp)
    exact wpAny_pyNext_range_end (I.ok.hd hc) st (by have : n ≤ i := hg; omega) fun h' eb => ⟨rfl, I.turned (t' := s.toks) (fun b o hb e => eb b o hb e) f0 f1 f3 f4 f5⟩
  self := fun _ _ _ _ _ st h => wpAny_pyIter_rangeiter st h
end L2

namespace L2
open PySem PySem.Spec PyProof.Rows
section
variable {X : Cx} {tg : Expr}
def iList (K : PySem.W.Frag) (tl : TE) : TI := fun σ H R => tl σ H fun x H1 => ∃ a, x = .ref a ∧ (∃ xs, SqL K H1 a xs) ∧ R (Itl K a) H1
theorem pi_list {l : Expr} {tl : TE} (hl : PE X l tl) : PI X tg l (iList X.K tl) := by
  intro pins s σ H R I h
  refine thn (hl pins s σ H _ I h) fun v s1 ⟨x, H1, I1, r1, q1⟩ => ?_
  obtain ⟨a, e, ⟨xs, hq⟩, q⟩ := q1
  subst e
  cases r1
  obtain ⟨its, rv, p, hz⟩ := I1.list hq
  refine wpAny_pyIter_list p.isList ?_
  refine ⟨s1.heap.objs.size, [s1.heap.objs.size], _, _, H1, rfl, I1.kept (t' := s1.toks) fun b o e => Heap.get?_push_of_some _ e, turn_list a _, ⟨_, Heap.get?_push_size _ rfl, rfl, rfl⟩, fun b hb => ?_, q⟩
  have e : b = s1.heap.objs.size := by simpa using hb
  subst e
  exact I1.fpOk (Nat.le_refl _) (I1.hok.fresh (Nat.le_refl _))
/-- a range object just made, walked -/
theorem range_it {pins : List (Addr × Obj)} {σ : St} {H : Hp} {s : Shared} {R : It → Hp → Prop} {E : Value → Shared → Prop} {lo hi : Int} {t u v : Tok} {tk : Nat} (I : Inv X pins σ H s) (h1 : -(2 ^ 62) ≤ lo) (h2 : lo < 2 ^ 62) (h3 : -(2 ^ 62) ≤ hi) (h4 : hi < 2 ^ 62)
    (q : R (Itr lo (hi - lo).toNat) H) : wpAny (model X.prog X.w) X.A (pyIter (.ref s.heap.objs.size)) (PIE X pins σ tg R) E { s with heap := s.heap.push { cls := .type "range", data := .fields #[.int lo t, .int hi u, .int 1 v] }, toks := tk } := by
  refine wpAny_pyIter_range (IsRange.new ..) (small_one h1 h2 h3 h4) ?_
  have I1 : Inv X pins σ H { s with heap := s.heap.push { cls := .type "range", data := .fields #[.int lo t, .int hi u, .int 1 v] }, toks := tk } := I.kept fun b o e => Heap.get?_push_of_some _ e
  refine ⟨(s.heap.push { cls := .type "range", data := .fields #[.int lo t, .int hi u, .int 1 v] }).objs.size, [(s.heap.push { cls := .type "range", data := .fields #[.int lo t, .int hi u, .int 1 v] }).objs.size], _, _, H, rfl,
    I1.kept (t' := tk) fun b o e => Heap.get?_push_of_some _ e, turn_range _ lo (hi - lo).toNat, ?_, fun b hb => ?_, q⟩
  · have e1 : lo + ((0 : Nat) : Int) * 1 = lo := by simp
    have e2 : (((hi - lo).toNat : Nat) : Int) - ((0 : Nat) : Int) = Builtin.Range.rangeSize lo hi 1 := by rw [rangeSize_one]; split <;> omega
    show IsRangeIter _ _ (lo + ((0 : Nat) : Int) * 1) ((((hi - lo).toNat : Nat) : Int) - ((0 : Nat) : Int)) 1
    rw [e1, e2]
    exact Heap.get?_push_size _ rfl
  · have e : b = (s.heap.push { cls := .type "range", data := .fields #[.int lo t, .int hi u, .int 1 v] }).objs.size := by simpa using hb
    subst e
    exact I1.fpOk (Nat.le_refl _) (I1.hok.fresh (Nat.le_refl _))
def iRng1 (ta : TA) : TI := fun σ H R => ta σ H fun vs H1 => ∃ j : Int, vs = [.int j] ∧ -(2 ^ 62) ≤ j ∧ j < 2 ^ 62 ∧ R (Itr 0 j.toNat) H1
theorem pi_range1 {a : Expr} {ta : TA} {p pos : Pos} (hg : Gl X "range") (hm : X.mg "range" = none) (ha : PA X [a] ta) (hs : starEach [a] X.env = [(false, eval a X.env)] := by rfl) : PI X tg (.Call (.Name "range" p) [a] [] pos) (iRng1 ta) := by
  intro pins s σ H R I h
  refine Call_ (ld_blt I hg hm boot_range (PyProof.Rows.callWith_type1 (thn (ha pos pins s σ H _ I h) fun us s1 ⟨vs, H1, I1, r1, q1⟩ => ?_) hs rfl))
  obtain ⟨j, e, q1, q2, q⟩ := q1
  subst e
  cases r1 with
  | cons r rr =>
    cases rr
    obtain ⟨t, rfl⟩ := r
    exact call_range_1 (range_it I1 (by omega) (by omega) q1 q2 (by simpa using q))
/-! ### for -/
/-- W: the invariant by the turn and a measure; N: what the body is to reach -/
def tFor (wi : TI) (g : TG) (tb : TS) : TS := fun D σ H => wi σ H fun J H1 => ∃ W : Nat → Nat → St → Hp → Prop, (∃ m, W 0 m σ H1) ∧ ∀ i m σ H, W i m σ H →
  (J.stop i H ∧ D.nx σ H) ∨ (J.go i H ∧ ∃ N : St → Hp → Prop, (∀ σ' H', N σ' H' → ∃ m', m' < m ∧ W (i + 1) m' σ' H') ∧ ∀ x H', J.yld i H x H' → g x σ H' fun σ2 H2 => tb { D with nx := N, ct := N, bk := D.nx } σ2 H2)
/-- the records at fp as they stand -/
def pinsAt (fp : List Addr) (h : Heap) : List (Addr × Obj) := fp.filterMap fun b => (h.get? b).map fun o => (b, o)
theorem mem_pinsAt {fp : List Addr} {h : Heap} {b : Addr} {o : Obj} (hb : b ∈ fp) (e : h.get? b = some o) : (b, o) ∈ pinsAt fp h := List.mem_filterMap.mpr ⟨b, hb, by rw [e]; rfl⟩
theorem of_pinsAt {fp : List Addr} {h : Heap} {p : Addr × Obj} (hp : p ∈ pinsAt fp h) : p.1 ∈ fp ∧ h.get? p.1 = some p.2 := by
  obtain ⟨b, hb, e⟩ := List.mem_filterMap.mp hp
  cases q : h.get? b with
  | none => rw [q] at e; cases e
  | some o =>
    rw [q] at e
    have e' : (b, o) = p := Option.some.inj e
    subst e'
    exact ⟨hb, q⟩
theorem Inv.pinned {pins : List (Addr × Obj)} {σ : St} {H : Hp} {s : Shared} {fp : List Addr} (I : Inv X pins σ H s) (hf : ∀ b ∈ fp, FpOk X pins H b) (ho : ∀ b ∈ fp, ∃ o, s.heap.get? b = some o ∧ ∀ v, o.data ≠ .cell v) : Inv X (pins ++ pinsAt fp s.heap) σ H s :=
  I.pins_of fun p hp => (List.mem_append.mp hp).elim (fun z => I.pin p (List.mem_append_right _ z)) fun z => by
    obtain ⟨hb, e⟩ := of_pinsAt z
    obtain ⟨f0, f1, f2, _⟩ := hf p.1 hb
    obtain ⟨o, e', d⟩ := ho p.1 hb
    rw [e] at e'; cases e'
    exact ⟨e, f0, f1, f2, d⟩
theorem Inv.unpinned {pins pl : List (Addr × Obj)} {σ : St} {H : Hp} {s : Shared} (I : Inv X (pins ++ pl) σ H s) : Inv X pins σ H s := I.pins_of fun p hp => I.pin p (List.mem_append_right _ (List.mem_append_left _ hp))
theorem ps_for {iter : Expr} {body : List Stmt} {wi : TI} {g : TG} {tb : TS} {pos : Pos} (hp : PassesOwn (model X.prog X.w) X.A X.env X.xe) (hc : X.calm = true) (hi : PI X tg iter wi) (hg : PG X tg g) (hb : PSs X body tb)
    (hs : ∀ x, foldedSetIterable iter X.env x = pure x := by intro _; rfl) : PS X (.For tg iter body [] pos) (tFor wi g tb) := by
  intro pins s σ H D I h
  refine wpAny_For (thn (hi pins s σ H _ I h) fun v s1 h1 => thn h1 fun itv s2 h2 => ?_) hs
  obtain ⟨it, fp, tn, J, H2, e, I2, T, st2, f2, W, ⟨m0, w0⟩, turn⟩ := h2
  subst e
  -- what stays true of the iterator's objects through the loop
  have stat : ∀ {H' : Hp}, (∀ b ∈ fp, H' b = none) → ∀ b ∈ fp, FpOk X pins H' b := fun hn b hb => ⟨hn b hb, (f2 b hb).2⟩
  refine codeAny_forLoop_any (fun n s' => ∃ i σ' H', Inv X pins σ' H' s' ∧ tn i s'.heap ∧ (∀ b ∈ fp, H' b = none) ∧ W i n σ' H') ?_ m0 ⟨0, σ, H2, I2, st2, fun b hb => (f2 b hb).1, w0⟩
  rintro n s3 ⟨i, σ3, H3, I3, st3, fr3, w3⟩
  rcases turn i n σ3 H3 w3 with ⟨stop, qn⟩ | ⟨go, N, hN, step⟩
  · refine wpAny_passesOwn hp (thn (T.done X rfl rfl rfl hc i pins s3 σ3 H3 X.xe I3 (stat fr3) st3 stop) fun r s4 ⟨hr, I4⟩ => ?_)
    subst hr
    exact wpAny_execs_nil ⟨σ3, H3, I4, qn⟩
  · refine wpAny_passesOwn hp (thn (T.item X rfl rfl rfl hc i pins s3 σ3 H3 X.xe I3 (stat fr3) st3 go) fun r s4 ⟨u, hr, h4⟩ => ?_)
    subst hr
    refine wpAny_passesOwn hp (thn h4 fun _ s5 ⟨x, H5, I5, r5, y5, st5, fr5⟩ => ?_)
    have I5' := I5.pinned (stat fr5) (T.obj _ _ st5)
    refine wpAny_passesOwn hp (thn (hg _ s5 σ3 H5 x u _ I5' r5 (step x H5 y5)) fun _ s6 ⟨σ6, H6, I6, q6⟩ => ?_)
    refine wpAny_passesOwn hp (thn (hb _ s6 σ6 H6 _ I6 q6) fun f s7 q7 => ?_)
    have again : ∀ {σ7 : St} {H7 : Hp}, Inv X (pins ++ pinsAt fp s5.heap) σ7 H7 s7 → N σ7 H7 → ∃ m, m < n ∧ ∃ i σ' H', Inv X pins σ' H' s7 ∧ tn i s7.heap ∧ (∀ b ∈ fp, H' b = none) ∧ W i m σ' H' := fun {σ7 H7} I7 n7 => by
      obtain ⟨m', hm, w7⟩ := hN σ7 H7 n7
      refine ⟨m', hm, i + 1, σ7, H7, I7.unpinned, T.keep _ _ _ st5 fun b hb o e => (I7.pin (b, o) (List.mem_append_right _ (List.mem_append_right _ (mem_pinsAt hb e)))).1, fun b hb => ?_, w7⟩
      obtain ⟨o, e, d⟩ := T.obj _ _ st5 b hb
      exact (I7.pin (b, o) (List.mem_append_right _ (List.mem_append_right _ (mem_pinsAt hb e)))).2.1
    cases f with
    | next => obtain ⟨σ7, H7, I7, n7⟩ := q7; exact again I7 n7
    | cont => obtain ⟨σ7, H7, I7, n7⟩ := q7; exact again I7 n7
    | brk => obtain ⟨σ7, H7, I7, q7⟩ := q7; exact ⟨σ7, H7, I7.unpinned, q7⟩
    | ret v => obtain ⟨x7, σ7, H7, I7, r7, q7⟩ := q7; exact ⟨x7, σ7, H7, I7.unpinned, r7, q7⟩
end

/-! ### the forms one uses -/
/-- over a list that the body leaves as it is -/
theorem for_list {K : PySem.W.Frag} {a : Addr} {xs : List V} {g : TG} {tb : TS} {D : Ends} {σ : St} {H : Hp} (Pv : Nat → St → Hp → Prop) (h0 : Pv 0 σ H) (hl : ∀ i σ H, i ≤ xs.length → Pv i σ H → SqL K H a xs)
    (hs : ∀ i x σ H, xs[i]? = some x → Pv i σ H → g x σ H fun σ2 H2 => tb { D with nx := Pv (i + 1), ct := Pv (i + 1), bk := D.nx } σ2 H2) (hd : ∀ σ H, Pv xs.length σ H → D.nx σ H) :
    ∃ W : Nat → Nat → St → Hp → Prop, (∃ m, W 0 m σ H) ∧ ∀ i m σ H, W i m σ H →
      ((Itl K a).stop i H ∧ D.nx σ H) ∨ ((Itl K a).go i H ∧ ∃ N : St → Hp → Prop, (∀ σ' H', N σ' H' → ∃ m', m' < m ∧ W (i + 1) m' σ' H') ∧ ∀ x H', (Itl K a).yld i H x H' → g x σ H' fun σ2 H2 => tb { D with nx := N, ct := N, bk := D.nx } σ2 H2) := by
  refine ⟨fun i m σ H => m = xs.length - i ∧ i ≤ xs.length ∧ Pv i σ H, ⟨xs.length, by simp, Nat.zero_le _, h0⟩, ?_⟩
  rintro i m σ H ⟨rfl, hi, p⟩
  have q := hl i σ H hi p
  by_cases hlt : i < xs.length
  · refine .inr ⟨⟨xs, xs[i], q, by simp [hlt]⟩, Pv (i + 1), fun σ' H' p' => ⟨xs.length - (i + 1), by omega, rfl, hlt, p'⟩, fun x H' y => ?_⟩
    obtain ⟨e, y⟩ := y
    subst e
    exact hs i x σ _ (y xs q) p
  · have e : i = xs.length := by omega
    subst e
    exact .inl ⟨⟨xs, q, Nat.le_refl _⟩, hd σ H p⟩
theorem for_range {lo : Int} {n : Nat} {g : TG} {tb : TS} {D : Ends} {σ : St} {H : Hp} (Pv : Nat → St → Hp → Prop) (h0 : Pv 0 σ H)
    (hs : ∀ i σ H, i < n → Pv i σ H → g (.int (lo + i)) σ H fun σ2 H2 => tb { D with nx := Pv (i + 1), ct := Pv (i + 1), bk := D.nx } σ2 H2) (hd : ∀ σ H, Pv n σ H → D.nx σ H) :
    ∃ W : Nat → Nat → St → Hp → Prop, (∃ m, W 0 m σ H) ∧ ∀ i m σ H, W i m σ H →
      ((Itr lo n).stop i H ∧ D.nx σ H) ∨ ((Itr lo n).go i H ∧ ∃ N : St → Hp → Prop, (∀ σ' H', N σ' H' → ∃ m', m' < m ∧ W (i + 1) m' σ' H') ∧ ∀ x H', (Itr lo n).yld i H x H' → g x σ H' fun σ2 H2 => tb { D with nx := N, ct := N, bk := D.nx } σ2 H2) := by
  refine ⟨fun i m σ H => m = n - i ∧ i ≤ n ∧ Pv i σ H, ⟨n, by simp, Nat.zero_le _, h0⟩, ?_⟩
  rintro i m σ H ⟨rfl, hi, p⟩
  by_cases hlt : i < n
  · refine .inr ⟨hlt, Pv (i + 1), fun σ' H' p' => ⟨n - (i + 1), by omega, rfl, hlt, p'⟩, fun x H' y => ?_⟩
    obtain ⟨e, y⟩ := y
    subst e y
    exact hs i σ _ hlt p
  · have e : i = n := by omega
    subst e
    exact .inl ⟨Nat.le_refl _, hd σ H p⟩
/-- while, by a word and a measure of the state -/
theorem while_by {c : TT} {tb : TS} {D : Ends} {σ : St} {H : Hp} (Pv : St → Hp → Prop) (μ : St → Hp → Nat) (h0 : Pv σ H)
    (hs : ∀ σ H, Pv σ H → c σ H fun b H1 => if b = true then tb { D with nx := fun σ' H' => Pv σ' H' ∧ μ σ' H' < μ σ H, ct := fun σ' H' => Pv σ' H' ∧ μ σ' H' < μ σ H, bk := D.nx } σ H1 else D.nx σ H1)
    (mono : ∀ σ H Q Q', (∀ b H1, Q b H1 → Q' b H1) → c σ H Q → c σ H Q') : tWhile c tb D σ H := by
  refine ⟨fun m σ H => m = μ σ H ∧ Pv σ H, ⟨_, rfl, h0⟩, ?_⟩
  rintro m σ H ⟨rfl, p⟩
  refine mono σ H _ _ (fun b H1 q => ?_) (hs σ H p)
  cases b with
  | true => exact ⟨_, fun σ' H' ⟨p', l⟩ => ⟨_, l, rfl, p'⟩, q⟩
  | false => exact q
end L2

namespace L2
open PySem PySem.Spec PyProof.Rows

abbrev R2 := V → V → Hp → VK → Prop
/-- a two-place operation on values: f is binaryOp op, inplaceOp op or compareOp op -/
def OpR (X : Cx) (f : Value → Value → Sem Value) (r : R2) : Prop :=
  ∀ (pins : List (Addr × Obj)) (s : Shared) (σ : St) (H : Hp) (x y : V) (v u : Value) (Q : VK), Inv X pins σ H s → RelV x v → RelV y u → r x y H Q →
    wpAny (model X.prog X.w) X.A (f v u) (EP X pins σ Q) X.xe s
/-- a one-place operation -/
def UnR (X : Cx) (f : Value → Sem Value) (r : V → Hp → VK → Prop) : Prop :=
  ∀ (pins : List (Addr × Obj)) (s : Shared) (σ : St) (H : Hp) (x : V) (v : Value) (Q : VK), Inv X pins σ H s → RelV x v → r x H Q →
    wpAny (model X.prog X.w) X.A (f v) (EP X pins σ Q) X.xe s
/-- a call of a value that is known (a builtin, a type) with values -/
def CallR (X : Cx) (f : Value) (r : List V → Hp → VK → Prop) : Prop :=
  ∀ (pins : List (Addr × Obj)) (s : Shared) (σ : St) (H : Hp) (xs : List V) (us : List Value) (Q : VK), Inv X pins σ H s → Vals xs us → r xs H Q →
    wpAny (model X.prog X.w) X.A (call f us) (EP X pins σ Q) X.xe s
def tOp (r : R2) (ta tb : TE) : TE := fun σ H Q => ta σ H fun x H1 => tb σ H1 fun y H2 => r x y H2 Q
def tUn (r : V → Hp → VK → Prop) (ta : TE) : TE := fun σ H Q => ta σ H fun x H1 => r x H1 Q
/-- ints in, under C, and a value out -/
def rI (C : Int → Int → Prop) (g : Int → Int → V) : R2 := fun x y H Q => ∃ i j, x = .int i ∧ y = .int j ∧ C i j ∧ Q (g i j) H
def rI0 (g : Int → Int → V) : R2 := fun x y H Q => ∃ i j, x = .int i ∧ y = .int j ∧ Q (g i j) H
def rU (g : Int → V) : V → Hp → VK → Prop := fun x H Q => ∃ i, x = .int i ∧ Q (g i) H

section
variable {X : Cx} {a b c : Expr} {ta tb tc : TE} {pos : Pos}

theorem binT (ha : PE X a ta) (hb : PE X b tb) {pins : List (Addr × Obj)} {s : Shared} {σ : St} {H : Hp} {R : V → V → Hp → Prop} (I : Inv X pins σ H s)
    (h : ta σ H fun x H1 => tb σ H1 fun y H2 => R x y H2) {Q : Value → Shared → Prop} {f : Value → Value → Sem Value}
    (hf : ∀ v u s2 x y H2, Inv X pins σ H2 s2 → RelV x v → RelV y u → R x y H2 → wpAny (model X.prog X.w) X.A (f v u) Q X.xe s2) :
    wpAny (model X.prog X.w) X.A (eval a X.env) (fun v s₁ => wpAny (model X.prog X.w) X.A (eval b X.env) (fun u s₂ => wpAny (model X.prog X.w) X.A (f v u) Q X.xe s₂) X.xe s₁) X.xe s := by
  refine thn (ha pins s σ H _ I h) fun v s1 ⟨x, H1, I1, r1, q1⟩ => ?_
  refine thn (hb pins s1 σ H1 _ I1 q1) fun u s2 ⟨y, H2, I2, r2, q2⟩ => ?_
  exact hf v u s2 x y H2 I2 r1 r2 q2

theorem pe_op {op : Operator} {r : R2} (ho : OpR X (binaryOp op) r) (ha : PE X a ta) (hb : PE X b tb) : PE X (.BinOp a op b pos) (tOp r ta tb) := by
  intro pins s σ H Q I h
  exact wpAny_BinOp (binT ha hb I h fun v u s2 x y H2 I2 rx ry q => ho pins s2 σ H2 x y v u Q I2 rx ry q)
theorem pe_un {op : UnaryOp} {r : V → Hp → VK → Prop} (ho : UnR X (unaryOp op) r) (ha : PE X a ta) : PE X (.UnaryOp op a pos) (tUn r ta) := by
  intro pins s σ H Q I h
  exact UnaryOp_ (thn (ha pins s σ H _ I h) fun v s1 ⟨x, H1, I1, r1, q1⟩ => ho pins s1 σ H1 x v Q I1 r1 q1)
/-! ### ints -/
theorem opI {f : Value → Value → Sem Value} {C : Int → Int → Prop} {g : Int → Int → Int}
    (rule : ∀ (i j : Int) (t u : Tok) (s : Shared) (Q : Value → Shared → Prop) (E : Value → Shared → Prop), C i j → Q (.int (g i j) s.toks) { s with toks := s.toks + 1 } → wpAny (model X.prog X.w) X.A (f (.int i t) (.int j u)) Q E s) :
    OpR X f (rI C fun i j => .int (g i j)) := by
  intro pins s σ H x y v u Q I rx ry h
  obtain ⟨i, j, rfl, rfl, hc, q⟩ := h
  obtain ⟨t, rfl⟩ := rx
  obtain ⟨t', rfl⟩ := ry
  exact rule i j t t' s _ _ hc ⟨.int (g i j), H, I.tok _, ⟨_, rfl⟩, q⟩
theorem opI0 {f : Value → Value → Sem Value} {g : Int → Int → Int}
    (rule : ∀ (i j : Int) (t u : Tok) (s : Shared) (Q : Value → Shared → Prop) (E : Value → Shared → Prop), Q (.int (g i j) s.toks) { s with toks := s.toks + 1 } → wpAny (model X.prog X.w) X.A (f (.int i t) (.int j u)) Q E s) :
    OpR X f (rI0 fun i j => .int (g i j)) := by
  intro pins s σ H x y v u Q I rx ry h
  obtain ⟨i, j, rfl, rfl, q⟩ := h
  obtain ⟨t, rfl⟩ := rx
  obtain ⟨t', rfl⟩ := ry
  exact rule i j t t' s _ _ ⟨.int (g i j), H, I.tok _, ⟨_, rfl⟩, q⟩
theorem opB0 {f : Value → Value → Sem Value} {g : Int → Int → Bool}
    (rule : ∀ (i j : Int) (t u : Tok) (s : Shared) (Q : Value → Shared → Prop) (E : Value → Shared → Prop), Q (.bool (g i j)) s → wpAny (model X.prog X.w) X.A (f (.int i t) (.int j u)) Q E s) :
    OpR X f (rI0 fun i j => .bl (g i j)) := by
  intro pins s σ H x y v u Q I rx ry h
  obtain ⟨i, j, rfl, rfl, q⟩ := h
  obtain ⟨t, rfl⟩ := rx
  obtain ⟨t', rfl⟩ := ry
  exact rule i j t t' s _ _ ⟨.bl (g i j), H, I, rfl, q⟩

theorem op_add : OpR X (binaryOp .Add) (rI0 fun i j => .int (i + j)) := opI0 fun _ _ _ _ _ _ _ q => add_int q
theorem op_sub : OpR X (binaryOp .Sub) (rI0 fun i j => .int (i - j)) := opI0 fun _ _ _ _ _ _ _ q => sub_int q
theorem op_modN : OpR X (binaryOp .Mod) (rI (fun _ j => j ≠ 0) fun i j => .int (i.fmod j)) := opI fun _ _ _ _ _ _ _ hc q => mod_int' hc q
theorem unI {f : Value → Sem Value} {g : Int → Int}
    (rule : ∀ (i : Int) (t : Tok) (s : Shared) (Q : Value → Shared → Prop) (E : Value → Shared → Prop), Q (.int (g i) s.toks) { s with toks := s.toks + 1 } → wpAny (model X.prog X.w) X.A (f (.int i t)) Q E s) :
    UnR X f (rU fun i => .int (g i)) := by
  intro pins s σ H x v Q I rx h
  obtain ⟨i, rfl, q⟩ := h
  obtain ⟨t, rfl⟩ := rx
  exact rule i t s _ _ ⟨.int (g i), H, I.tok _, ⟨_, rfl⟩, q⟩
theorem un_neg : UnR X (unaryOp .USub) (rU fun i => .int (-i)) := unI fun _ _ _ _ _ q => neg_int q
/-! ### bools among ints: n += (a < b) -/
end

/-! ### comparisons -/
/-- the scalars that == tells apart as data does -/
def scal : V → V → Bool
  | .non, .non => true | .non, .int _ => true | .int _, .non => true | .non, .bl _ => true | .bl _, .non => true | .non, .str _ => true | .str _, .non => true
  | .int _, .int _ => true | .bl _, .bl _ => true | .str _, .str _ => true | .byt _, .byt _ => true
  | .int _, .str _ => true | .str _, .int _ => true | .bl _, .str _ => true | .str _, .bl _ => true
  | _, _ => false
def rEq : R2 := fun x y H Q => scal x y = true ∧ Q (.bl (decide (x = y))) H
def rNe : R2 := fun x y H Q => scal x y = true ∧ Q (.bl (!decide (x = y))) H

theorem dec_int {i j : Int} : decide (V.int i = V.int j) = (i == j) := by
  rw [Bool.eq_iff_iff]
  simp
theorem dec_bl {i j : Bool} : decide (V.bl i = V.bl j) = (i == j) := by
  rw [Bool.eq_iff_iff]
  simp
theorem dec_str {i j : Str} : decide (V.str i = V.str j) = (i == j) := by
  rw [Bool.eq_iff_iff]
  simp
theorem dec_byt {i j : Array UInt8} : decide (V.byt i = V.byt j) = (i.toList == j.toList) := by
  rw [Bool.eq_iff_iff]
  cases i
  cases j
  simp

section
variable {X : Cx} {a b c : Expr} {ta tb tc : TE} {pos : Pos}
theorem fin_bl {pins : List (Addr × Obj)} {σ : St} {H : Hp} {s : Shared} {Q : VK} {k k' : Bool} (I : Inv X pins σ H s) (q : Q (.bl k) H) (e : k = k') : EP X pins σ Q (.bool k') s := by
  subst e
  exact ⟨.bl k, H, I, rfl, q⟩
theorem op_eq : OpR X (compareOp .Eq) rEq := by
  intro pins s σ H x y v u Q I rx ry h
  obtain ⟨hs, q⟩ := h
  cases x with
  | non =>
    cases rx
    cases y with
    | non => cases ry; exact PySem.EqNone.eq_none_none (fin_bl I q (by simp))
    | bl j => cases ry; exact PySem.EqNone.eq_none_bool (fin_bl I q (by simp))
    | int j => obtain ⟨t', rfl⟩ := ry; exact PySem.EqNone.eq_none_int (fin_bl I q (by simp))
    | str j => obtain ⟨t', rfl⟩ := ry; exact PySem.EqNone.eq_none_str (fin_bl I q (by simp))
    | _ => exact absurd (show false = true from hs) Bool.false_ne_true
  | bl i =>
    cases rx
    cases y with
    | non => cases ry; exact PySem.EqNone.eq_bool_none (fin_bl I q (by simp))
    | bl j => cases ry; exact eq_bool (fin_bl I q dec_bl)
    | str j => obtain ⟨t', rfl⟩ := ry; exact PySem.EqMixed.eq_bool_str (fin_bl I q (by simp))
    | _ => exact absurd (show false = true from hs) Bool.false_ne_true
  | int i =>
    obtain ⟨t, rfl⟩ := rx
    cases y with
    | non => cases ry; exact PySem.EqNone.eq_int_none (fin_bl I q (by simp))
    | int j => obtain ⟨t', rfl⟩ := ry; exact eq_int (fin_bl I q dec_int)
    | str j => obtain ⟨t', rfl⟩ := ry; exact PySem.EqMixed.eq_int_str (fin_bl I q (by simp))
    | _ => exact absurd (show false = true from hs) Bool.false_ne_true
  | str i =>
    obtain ⟨t, rfl⟩ := rx
    cases y with
    | non => cases ry; exact PySem.EqNone.eq_str_none (fin_bl I q (by simp))
    | bl j => cases ry; exact PySem.EqMixed.eq_str_bool (fin_bl I q (by simp))
    | int j => obtain ⟨t', rfl⟩ := ry; exact PySem.EqMixed.eq_str_int (fin_bl I q (by simp))
    | str j => obtain ⟨t', rfl⟩ := ry; exact eq_str (fin_bl I q dec_str)
    | _ => exact absurd (show false = true from hs) Bool.false_ne_true
  | byt i =>
    obtain ⟨t, rfl⟩ := rx
    cases y with
    | byt j => obtain ⟨t', rfl⟩ := ry; exact PySem.W.eq_bytes (fin_bl I q dec_byt)
    | _ => exact absurd (show false = true from hs) Bool.false_ne_true
  | _ => cases y <;> exact absurd (show false = true from hs) Bool.false_ne_true
theorem op_ne : OpR X (compareOp .NotEq) rNe := by
  intro pins s σ H x y v u Q I rx ry h
  obtain ⟨hs, q⟩ := h
  cases x with
  | non =>
    cases rx
    cases y with
    | non => cases ry; exact PySem.EqNone.ne_none_none (fin_bl I q (by simp))
    | bl j => cases ry; exact PySem.EqNone.ne_none_bool (fin_bl I q (by simp))
    | int j => obtain ⟨t', rfl⟩ := ry; exact PySem.EqNone.ne_none_int (fin_bl I q (by simp))
    | str j => obtain ⟨t', rfl⟩ := ry; exact PySem.EqNone.ne_none_str (fin_bl I q (by simp))
    | _ => exact absurd (show false = true from hs) Bool.false_ne_true
  | bl i =>
    cases rx
    cases y with
    | non => cases ry; exact PySem.EqNone.ne_bool_none (fin_bl I q (by simp))
    | bl j => cases ry; exact ne_bool (fin_bl I q (congrArg not dec_bl))
    | str j => obtain ⟨t', rfl⟩ := ry; exact PySem.EqMixed.ne_bool_str (fin_bl I q (by simp))
    | _ => exact absurd (show false = true from hs) Bool.false_ne_true
  | int i =>
    obtain ⟨t, rfl⟩ := rx
    cases y with
    | non => cases ry; exact PySem.EqNone.ne_int_none (fin_bl I q (by simp))
    | int j => obtain ⟨t', rfl⟩ := ry; exact ne_int (fin_bl I q (congrArg not dec_int))
    | str j => obtain ⟨t', rfl⟩ := ry; exact PySem.EqMixed.ne_int_str (fin_bl I q (by simp))
    | _ => exact absurd (show false = true from hs) Bool.false_ne_true
  | str i =>
    obtain ⟨t, rfl⟩ := rx
    cases y with
    | non => cases ry; exact PySem.EqNone.ne_str_none (fin_bl I q (by simp))
    | bl j => cases ry; exact PySem.EqMixed.ne_str_bool (fin_bl I q (by simp))
    | int j => obtain ⟨t', rfl⟩ := ry; exact PySem.EqMixed.ne_str_int (fin_bl I q (by simp))
    | str j => obtain ⟨t', rfl⟩ := ry; exact ne_str (fin_bl I q (congrArg not dec_str))
    | _ => exact absurd (show false = true from hs) Bool.false_ne_true
  | byt i =>
    obtain ⟨t, rfl⟩ := rx
    cases y with
    | byt j => obtain ⟨t', rfl⟩ := ry; exact PySem.W.ne_bytes (fin_bl I q (congrArg not dec_byt))
    | _ => exact absurd (show false = true from hs) Bool.false_ne_true
  | _ => cases y <;> exact absurd (show false = true from hs) Bool.false_ne_true

theorem op_lt : OpR X (compareOp .Lt) (rI0 fun i j => .bl (decide (i < j))) := opB0 fun _ _ _ _ _ _ _ q => lt_int q
theorem op_le : OpR X (compareOp .LtE) (rI0 fun i j => .bl (decide (i ≤ j))) := opB0 fun _ _ _ _ _ _ _ q => le_int q
theorem op_gt : OpR X (compareOp .Gt) (rI0 fun i j => .bl (decide (j < i))) := opB0 fun _ _ _ _ _ _ _ q => gt_int q
theorem nomark (b : Expr) {op : CmpOp} (h : op ≠ .In := by decide) (h2 : op ≠ .NotIn := by decide) : behindInMarks op b = false := by
  have e1 : (op == CmpOp.In) = false := by cases op <;> first | rfl | exact absurd rfl h
  have e2 : (op == CmpOp.NotIn) = false := by cases op <;> first | rfl | exact absurd rfl h2
  cases b <;> simp [behindInMarks, e1, e2]
/-- a comparison as a value; hm: nomark b, or (for in, not in) by with_unfolding_all rfl -/
theorem pe_cmpR {op : CmpOp} {r : R2} (ho : OpR X (compareOp op) r) (ha : PE X a ta) (hb : PE X b tb) (hm : behindInMarks op b = false) : PE X (.Compare a [op] [b] pos) (tOp r ta tb) := by
  intro pins s σ H Q I h
  exact wpAny_Compare1 (binT ha hb I h fun v u s2 x y H2 I2 rx ry q => ho pins s2 σ H2 x y v u Q I2 rx ry q) hm
/-- a reading of a value as a test -/
def tTest (t : TE) : TT := fun σ H Q => t σ H fun x H' => ∃ k, x = .bl k ∧ Q k H'
theorem pt_cmpR {op : CmpOp} {r : R2} (ho : OpR X (compareOp op) r) (ha : PE X a ta) (hb : PE X b tb) (hm : behindInMarks op b = false) : PT X (.Compare a [op] [b] pos) (tTest (tOp r ta tb)) := by
  intro pins s σ H Q I h
  refine wpAny_isTrue_Compare1 (thn (ha pins s σ H _ I h) fun v s1 ⟨x, H1, I1, r1, q1⟩ => thn (hb pins s1 σ H1 _ I1 q1) fun u s2 ⟨y, H2, I2, r2, q2⟩ =>
    thn (ho pins s2 σ H2 x y v u _ I2 r1 r2 q2) fun c s3 ⟨z, H3, I3, r3, k, e, q3⟩ => ?_) hm
  subst e
  cases r3
  exact wpAny_truthy_bool ⟨H3, I3, q3⟩
/-! ### truth -/
theorem line63 : (sizeLine : Nat) < 2 ^ 63 := by rw [sizeLine_eq]; decide
/-! ### strs and bytes -/
theorem op_add_str : OpR X (binaryOp .Add) (fun x y H Q => ∃ i j, x = .str i ∧ y = .str j ∧ i.length + j.length ≤ sizeLine ∧ Q (.str (i ++ j)) H) := by
  intro pins s σ H x y v u Q I rx ry h
  obtain ⟨i, j, rfl, rfl, hz, q⟩ := h
  obtain ⟨t, rfl⟩ := rx
  obtain ⟨t', rfl⟩ := ry
  exact add_str (fun t' tk => ⟨.str (i ++ j), H, I.tok _, ⟨_, rfl⟩, q⟩) hz
/-! ### scalar builtins, by CallR -/
theorem vals1 {x : V} {us : List Value} (r : Vals [x] us) : ∃ u, us = [u] ∧ RelV x u := by
  cases r with
  | cons r1 r2 => cases r2; exact ⟨_, rfl, r1⟩
theorem vals2 {x y : V} {us : List Value} (r : Vals [x, y] us) : ∃ u w', us = [u, w'] ∧ RelV x u ∧ RelV y w' := by
  cases r with
  | cons r1 r2 =>
    cases r2 with
    | cons r3 r4 => cases r4; exact ⟨_, _, rfl, r1, r3⟩
theorem call_abs : CallR X (.builtin "abs") (fun xs H Q => ∃ i, xs = [.int i] ∧ Q (.int (if i < 0 then -i else i)) H) := by
  intro pins s σ H xs us Q I r h
  obtain ⟨i, rfl, q⟩ := h
  obtain ⟨u, rfl, t, rfl⟩ := vals1 r
  exact call_abs_int fun u tk => ⟨.int (if i < 0 then -i else i), H, I.tok _, ⟨_, rfl⟩, q⟩
end
end L2

namespace L2
open PySem PySem.Spec PyProof.Rows

/-! ### an instance, its attributes a map -/
structure ObjM (h : Heap) (x dx C : Addr) (mA : Str → Option Value) : Prop where
  obj : h.get? x = some (PySem.W.instObj C dx)
  ns : h.Ns1 dx mA
  ne : dx ≠ x

theorem lookIn_ns {h : Heap} {dx : Addr} {mA : Str → Option Value} (n : h.Ns1 dx mA) : ∃ od, h.get? dx = some od ∧ ∀ name, PySem.W.lookIn name od = some (mA name) := by
  obtain ⟨o, es, ep, ho, hd, hk, _, hm⟩ := n
  refine ⟨o, ho, fun name => ?_⟩
  have e := hm name
  unfold nsFind findBy at e
  rw [← Array.find?_toList] at e
  unfold PySem.W.lookIn
  rw [hd]
  dsimp only
  split
  · rename_i y q
    rw [q] at e
    exact congrArg some e
  · rename_i q
    rw [q] at e
    have a : es.toList.any (·.refKey) = false := by
      rw [List.any_eq_false]
      intro y hy
      obtain ⟨z, t, hkey⟩ := hk y (Array.mem_toList_iff.mp hy)
      simp [DictEntry.refKey, hkey]
    have a' : ¬ es.toList.any (·.refKey) = true := by rw [a]; exact Bool.false_ne_true
    rw [if_neg a']
    exact congrArg some e

theorem ObjM.look {h : Heap} {x dx C : Addr} {mA : Str → Option Value} (I : ObjM h x dx C mA) : ∃ od, PySem.W.InstAt h x (PySem.W.instObj C dx) C (some od) ∧ ∀ name, PySem.W.lookIn name od = some (mA name) :=
  let ⟨od, ho, hl⟩ := lookIn_ns I.ns
  ⟨od, ⟨I.obj, rfl, rfl, ho⟩, hl⟩

section
variable {prog : Program} {w : World} {A : Around} {E : Value → Shared → Prop} {s : Shared} {K : PySem.W.Frag} {x dx C f : Addr} {mA : Str → Option Value} {name : Str} {v : Value}

end

/-! ### the attributes as a list of pairs -/
theorem RelO.some_of {v : V} {o : Option Value} (r : RelO (some v) o) : ∃ u, o = some u ∧ RelV v u := by
  cases o with
  | none => exact (show False from r).elim
  | some u => exact ⟨u, rfl, r⟩
section
variable {P : Program} {w : World} {H H' : Hp} {h h' : Heap} {a C dx : Addr} {fs fs' : List (Str × V)}
theorem ins_get (hok : HOk P w H h) (e : H a = some (.ins C dx fs)) : ∃ mA, ObjM h a dx C mA ∧ (∀ f, RelO (fs.lookup f) (mA f)) ∧ PySem.Within mA (fs.map (·.1)) ∧ fs.length ≤ 1000 ∧ H dx = some (.own a) := by
  obtain ⟨d, z, ne, ob, mA, n, r, q⟩ := (show ObjOk P w H h a (.ins C dx fs) from hok a _ e)
  exact ⟨mA, ⟨ob, n, ne⟩, r, q, z, d⟩
end

/-! ### what of the text a class must have -/
structure Cls (K : PySem.W.Frag) (C : Addr) : Prop where
  pg : PySem.W.plainGet K C Str.empty = true
  hd : PySem.W.hasDictIn K C = true
  po : PySem.W.plainOver K C = true
  sa : PySem.W.findIn K (.ref C) "__setattr__" = some (some (.builtin "object.__setattr__"))
theorem Cls.get {K : PySem.W.Frag} {C : Addr} (c : Cls K C) (f : Str) : PySem.W.plainGet K C f = true := c.pg
section
variable {X : Cx} {pins : List (Addr × Obj)} {σ : St} {H : Hp} {s : Shared} {a C dx : Addr} {fs : List (Str × V)} {f : Str} {v : V} {A : Around} {E : Value → Shared → Prop}

end

/-! ### readings and rules -/
section
variable {X : Cx} {o e value : Expr} {f : Str} {pos pos' tpos : Pos} {ta tv : TE}
end

/-! ### isinstance -/
section
variable {X : Cx} {pins : List (Addr × Obj)} {σ : St} {H : Hp} {s : Shared} {A : Around} {E : Value → Shared → Prop} {Q : Value → Shared → Prop} {c : Value} {b : Bool}
/-- the type of a value, as the fragment's deciders take it; for an instance its class -/
inductive TyOf (K : PySem.W.Frag) (H : Hp) : V → Value → Prop where
  | non : TyOf K H .non (.type "NoneType")
  | bl (x : Bool) : TyOf K H (.bl x) (.type "bool")
  | int (i : Int) : TyOf K H (.int i) (.type "int")
  | str (x : Str) : TyOf K H (.str x) (.type "str")
  | flt (x : UInt64) : TyOf K H (.flt x) (.type "float")
  | lst {a : Addr} {xs : List V} (e : H a = some (.lst xs)) : TyOf K H (.ref a) (.type "list")
  | frz {a : Addr} {o : Obj} {xs : List V} (e : H a = some (.frz o (.lst xs))) : TyOf K H (.ref a) (.type "list")
  | tup {a : Addr} {xs : List V} (e : H a = some (.tup xs)) : TyOf K H (.ref a) (.type "tuple")
  | dK {a : Addr} {kvs : List (Key × V)} (e : H a = some (.dK kvs)) : TyOf K H (.ref a) (.type "dict")
  | dT {a : Addr} {kvs : List (List Key × V)} (e : H a = some (.dT kvs)) : TyOf K H (.ref a) (.type "dict")
  | ins {a C dx : Addr} {fs : List (Str × V)} (e : H a = some (.ins C dx fs)) (cl : Cls K C) (ha : PySem.W.findIn K (.ref C) "__class__" = some (some (.builtin "object.__class__")))
      (hn : PySem.W.specialIn K (.builtin "object.__class__") "__get__" = some (some (.builtin "getset_descriptor.__get__"))) (htk : PySem.W.takesIn K (.builtin "object.__class__") = some true)
      (hm : PySem.W.mroIn K C (.type "object") = some true) : TyOf K H (.ref a) (.ref C)
/-- isinstance(x, c) for one class c, a built-in or an own one: kitOne's answer -/
theorem isinst_ok {x : V} {u t : Value} (I : Inv X pins σ H s) (rx : RelV x u) (ty : TyOf X.K H x t) (e : PySem.W.kitOne X.K t c = some b) (h : ∀ tk, Q (.bool b) { s with toks := tk }) :
    wpAny (model X.prog X.w) A (call (.builtin "isinstance") [u, c]) Q E s := by
  cases ty with
  | non => cases (show u = Value.none from rx); exact PySem.W.kia_one PySem.W.kitx_none I.kIn True.intro e (fun z => nomatch z) h
  | bl y => cases (show u = Value.bool y from rx); exact PySem.W.kia_one PySem.W.kitx_bool I.kIn True.intro e (fun z => nomatch z) h
  | int i => obtain ⟨t, q⟩ := (show ∃ t, u = Value.int i t from rx); cases q; exact PySem.W.kia_one PySem.W.kitx_int I.kIn True.intro e (fun z => nomatch z) h
  | str y => obtain ⟨t, q⟩ := (show ∃ t, u = Value.str y t from rx); cases q; exact PySem.W.kia_one PySem.W.kitx_str I.kIn True.intro e (fun z => nomatch z) h
  | flt y => obtain ⟨t, q⟩ := (show ∃ t, u = Value.float y t from rx); cases q; exact PySem.W.kia_one PySem.W.kitx_float I.kIn True.intro e (fun z => nomatch z) h
  | @lst a xs ea =>
    cases (show u = Value.ref a from rx)
    obtain ⟨_, _, n, _, h1⟩ := (show ObjOk X.prog X.w H s.heap a (.lst xs) from I.hok a _ ea)
    exact PySem.W.kia_one PySem.W.kitx_list I.kIn ⟨_, h1, rfl⟩ e (fun z => nomatch z) h
  | @frz a ob xs ea =>
    cases (show u = Value.ref a from rx)
    obtain ⟨_, _, _, n, _, h1⟩ := (show ObjOk X.prog X.w H s.heap a (.frz ob (.lst xs)) from I.hok a _ ea)
    exact PySem.W.kia_one PySem.W.kitx_list I.kIn ⟨_, h1, rfl⟩ e (fun z => nomatch z) h
  | @tup a xs ea =>
    cases (show u = Value.ref a from rx)
    obtain ⟨_, _, _, p⟩ := (show ObjOk X.prog X.w H s.heap a (.tup xs) from I.hok a _ ea)
    obtain ⟨o, h1, h2, _⟩ := p
    exact PySem.W.kia_one PySem.W.kitx_tuple I.kIn ⟨o, h1, h2⟩ e (fun z => nomatch z) h
  | @dK a kvs ea =>
    cases (show u = Value.ref a from rx)
    obtain ⟨_, _, vs, _, p⟩ := (show ObjOk X.prog X.w H s.heap a (.dK kvs) from I.hok a _ ea)
    obtain ⟨o, es, ep, h1, h2, _⟩ := p
    exact PySem.W.kia_one PySem.W.kitx_dict I.kIn ⟨o, h1, h2.1⟩ e (fun z => nomatch z) h
  | @dT a kvs ea =>
    cases (show u = Value.ref a from rx)
    obtain ⟨_, _, xs, _, o, es, ep, h1, h2, _⟩ := (show ObjOk X.prog X.w H s.heap a (.dT kvs) from I.hok a _ ea)
    exact PySem.W.kia_one PySem.W.kitx_dict I.kIn ⟨o, h1, h2.1⟩ e (fun z => nomatch z) h
  | @ins a C dx fs ea cl ha hn htk hm =>
    cases (show u = Value.ref a from rx)
    obtain ⟨mA, O, _⟩ := ins_get I.hok ea
    obtain ⟨od, J, _⟩ := O.look
    exact PySem.W.kia_one (PySem.W.kitx_own (cl.get _) cl.hd ha hn htk hm) I.kIn J e (fun z => nomatch z) h
end
end L2

namespace L2
open PySem PySem.Spec PyProof.Rows

/-! ### room -/
structure Room (k : Nat) (A : Around) : Prop where
  hd : A.handled = none
  dp : A.depth + 3 * k + 5 < recursionLimit
  un : A.units + 16 * k + 200 < cLine
theorem Room.mono {j k : Nat} {A : Around} (r : Room k A) (h : j ≤ k) : Room j A := ⟨r.hd, by have := r.dp; omega, by have := r.un; omega⟩
theorem Room.deeper {k : Nat} {A : Around} (r : Room (k + 1) A) (env : Env) : Room k (A.deeper env) :=
  ⟨r.hd, by have := r.dp; show A.depth + 1 + 3 * k + 5 < _; omega, by have := r.un; show A.units + 3 + 16 * k + 200 < _; omega⟩
theorem Room.depth {k : Nat} {A : Around} (r : Room k A) : A.depth < recursionLimit := by have := r.dp; omega
theorem Room.units {k : Nat} {A : Around} (r : Room k A) : A.units + 64 < cLine := by have := r.un; omega
theorem Room.units0 {k : Nat} {A : Around} (r : Room k A) : A.units < cLine := by have := r.un; omega

/-! ### argument lists and displays -/
def tNil : TA := fun _ H Q => Q [] H
def tCons (ta : TE) (tr : TA) : TA := fun σ H Q => ta σ H fun x H1 => tr σ H1 fun xs H2 => Q (x :: xs) H2
section
variable {X : Cx} {e : Expr} {es : List Expr} {te : TE} {t : TA} {pos : Pos}
theorem pa_nil : PA X [] tNil := fun _ _ _ _ H Q I h => Calls.spliced_nil ⟨[], H, I, .nil, h⟩
theorem pa_cons (ha : PE X e te) (hr : PA X es t) (hs : starEach (e :: es) X.env = (false, eval e X.env) :: starEach es X.env := by rfl) : PA X (e :: es) (tCons te t) := by
  intro pos pins s σ H Q I h
  rw [hs]
  show wpAny _ _ (spliced ((false, eval e X.env) :: backTo pos (starEach es X.env))) _ _ s
  refine Calls.spliced_cons (thn (ha pins s σ H _ I h) fun u s1 ⟨x, H1, I1, r1, q1⟩ => ?_)
  exact thn (hr pos pins s1 σ H1 _ I1 q1) fun us s2 ⟨xs, H2, I2, r2, q2⟩ => ⟨x :: xs, H2, I2, .cons r1 r2, q2⟩

/-- a tuple, a list of written items -/
def tTup (t : TA) : TE := fun σ H Q => t σ H fun xs H1 => xs.length ≤ sizeLine ∧ ∀ p, H1 p = none → Q (.ref p) (upd H1 p (.tup xs))
def tLst (t : TA) : TE := fun σ H Q => t σ H fun xs H1 => xs.length ≤ sizeLine ∧ ∀ p, H1 p = none → Q (.ref p) (upd H1 p (.lst xs))
theorem pe_tup {x1} (h : PA X es t) : PE X (.Tuple es x1 pos) (tTup t) := by
  intro pins s σ H Q I hq
  refine wpAny_Tuple_spliced (thn (h pos pins s σ H _ I hq) fun us s1 ⟨xs, H1, I1, r, z, q⟩ => ⟨by rw [← r.length]; exact z, ?_⟩)
  have hf : H1 s1.heap.objs.size = none := I1.hok.fresh (Nat.le_refl _)
  refine ⟨.ref s1.heap.objs.size, upd H1 s1.heap.objs.size (.tup xs), I1.laid (t' := s1.toks) (fun b u e => Heap.get?_push_of_some _ e) (Nat.le_refl _) ?_, rfl, q _ hf⟩
  exact ⟨z, us, r, ⟨_, Heap.get?_push_size _ rfl, rfl, _, rfl⟩⟩
theorem pe_lst (h : PA X es t) : PE X (.List es pos) (tLst t) := by
  intro pins s σ H Q I hq
  refine wpAny_List_spliced (thn (h pos pins s σ H _ I hq) fun us s1 ⟨xs, H1, I1, r, z, q⟩ => ⟨by rw [← r.length]; exact z, ?_⟩)
  have hf : H1 s1.heap.objs.size = none := I1.hok.fresh (Nat.le_refl _)
  refine ⟨.ref s1.heap.objs.size, upd H1 s1.heap.objs.size (.lst xs), I1.laid (t' := s1.toks) (fun b u e => Heap.get?_push_of_some _ e) (Nat.le_refl _) ?_, rfl, q _ hf⟩
  exact ⟨z, us, 0, r, Heap.get?_push_size _ rfl⟩
end

/-! ### what a def promises -/
/-- a def's promise: the bound arguments in the parameters' order, the heap, the wanted end, the wanted exception -/
abbrev Sp := List V → Hp → VK → XK → Prop
/-- how an exception lies behind a call (file 08 gives it): the callers' frames, abstract heap and state ahead of the call, the wish, the exception, the state -/
abbrev CXT := List Env → Hp → Shared → XK → Value → Shared → Prop

/-- the state at a call -/
structure Env0 (P : Program) (w : World) (K : PySem.W.Frag) (mg : Str → Option Value) (base : Heap) (A : Around) (outer : List Env) (s : Shared) (H : Hp) : Prop where
  frames : A.frames = some outer
  mod : Mod K mg base
  bs : ∀ b o, base.get? b = some o → s.heap.get? b = some o ∧ H b = none
  bsz : base.objs.size ≤ s.heap.objs.size
  funs : s.heap.FunFrames base outer
  frf : ∀ b ∈ frs outer, H b = none
  hok : HOk P w H s.heap
  bare : AllBare s.gens
/-- a call's end -/
def CE (outer : List Env) (P : Program) (w : World) (H : Hp) (s : Shared) (Q : VK) (u : Value) (s' : Shared) : Prop :=
  ∃ v H', s'.os = s.os ∧ AllBare s'.gens ∧ Un (frs outer) [] H H' s.heap s'.heap ∧ HOk P w H' s'.heap ∧ RelV v u ∧ Q v H'
def CR (CX : CXT) (outer : List Env) (P : Program) (w : World) (H : Hp) (s : Shared) (Q : VK) (E : XK) (r : Result) (s' : Shared) : Prop :=
  match r with
  | .ok (.ret u) => CE outer P w H s Q u s'
  | .ok _ => False
  | .error e => CX outer H s E e s'
structure FnOk (P : Program) (w : World) (K : PySem.W.Frag) (mg : Str → Option Value) (base : Heap) (CX : CXT) (k : Nat) (f : Addr) (fd : FuncData) (ps : List Str) (sp : Sp) : Prop where
  len : ∀ vs H Q E, sp vs H Q E → vs.length = ps.length
  run : ∀ (A : Around) (outer : List Env) (s : Shared) (H : Hp) (args : Args) (us : List Value) (vs : List V) (Q : VK) (E : XK), Room k A → Env0 P w K mg base A outer s H → BindsTo s fd args (ps.zip us) → Vals vs us → sp vs H Q E →
    codeAny (model P w) A (.call (.ref f) args) (CR CX outer P w H s Q E) s
section
variable {X : Cx} {pins : List (Addr × Obj)} {σ : St} {H : Hp} {s s' : Shared}
/-- from a body: what a callee wants -/
theorem Inv.env0 (I : Inv X pins σ H s) : Env0 X.prog X.w X.K X.mg X.base X.A X.stack s H :=
  ⟨I.ok.frames, I.ok.mod, I.bs, Nat.le_trans I.ok.bsz I.sz, I.stack, I.stkFree, I.hok, I.bare⟩
/-- behind a call -/
theorem Inv.after {Q : VK} {u : Value} (I : Inv X pins σ H s) (h : CE X.stack X.prog X.w H s Q u s') : EP X pins σ Q u s' := by
  obtain ⟨v, H', os, bare, un, hok, r, q⟩ := h
  obtain ⟨hh, g, d, t, os'⟩ := s'
  obtain rfl : os' = s.os := os
  exact ⟨v, H', I.call (h' := hh) (g' := g) (d' := d) (t' := t) (ch := []) un hok bare (fun b z => absurd z (by simp)), r, q⟩
end

/-! ### calls -/
/-- f(..): the written arguments, then the defaults dvs; E: what is wanted of an exception -/
def tCall (sp : Sp) (dvs : List V) (E : XK) (t : TA) : TE := fun σ H Q => t σ H fun vs H1 => sp (vs ++ dvs) H1 Q E
/-- how the parameters are bound: us the positional arguments, kw the keywords' values by name, ds the defaults that fill up -/
def Binds (K : PySem.W.Frag) (fd : FuncData) (ps : List Str) (ds : List Value) : Prop :=
  ∀ (s : Shared) (us : List Value), K.In s.heap → (us ++ ds).length = ps.length → BindsTo s fd ⟨us, []⟩ (ps.zip (us ++ ds))
/-- every parameter is given -/
theorem Binds.all {K : PySem.W.Frag} {fd : FuncData} {ps : List Str} (h : ∀ us : List Value, us.length = ps.length → bindArgs fd ⟨us, []⟩ = pure (ps.zip us)) : Binds K fd ps [] := fun s us _ hl => by
  rw [List.append_nil] at hl ⊢
  exact .of_eq (h us hl)

/-- an exception of a callee reaches what this body wants of exceptions -/
def Passes (CX : CXT) (X : Cx) (E : XK) : Prop := ∀ (pins : List (Addr × Obj)) (σ : St) (H : Hp) (s : Shared) (e : Value) (s' : Shared), Inv X pins σ H s → CX X.stack H s E e s' → X.xe e s'

section
variable {X : Cx} {CX : CXT} {k : Nat} {f C : Addr} {fd : FuncData} {ps : List Str} {sp : Sp} {dvs : List V} {ds : List Value} {E : XK} {x m : Str} {p pos apos : Pos} {e o : Expr} {es : List Expr} {ta : TE} {t : TA}

/-- the callee runs -/
theorem run_fn {pins : List (Addr × Obj)} {σ : St} {H : Hp} {s : Shared} {Q : VK} {us : List Value} {vs : List V} (F : FnOk X.prog X.w X.K X.mg X.base CX k f fd ps sp) (hr : Room k X.A) (hb : Binds X.K fd ps ds) (hd : Vals dvs ds) (hx : Passes CX X E)
    (I : Inv X pins σ H s) (r : Vals vs us) (h : sp (vs ++ dvs) H Q E) : wpAny (model X.prog X.w) X.A (call (.ref f) us) (EP X pins σ Q) X.xe s := by
  have r2 : Vals (vs ++ dvs) (us ++ ds) := r.append hd
  have hl : (us ++ ds).length = ps.length := by rw [← r2.length]; exact F.len _ _ _ _ h
  refine wpAny_call (codeAny_mono (F.run X.A X.stack s H ⟨us, []⟩ (us ++ ds) (vs ++ dvs) Q E hr I.env0 (hb s us I.kIn hl) r2 h) fun r s' hq => ?_)
  cases r with
  | error e => exact hx pins σ H s e s' I hq
  | ok fl =>
    cases fl with
    | ret u => exact I.after hq
    | next => exact False.elim hq
    | brk => exact False.elim hq
    | cont => exact False.elim hq

theorem pe_call (F : FnOk X.prog X.w X.K X.mg X.base CX k f fd ps sp) (hr : Room k X.A) (hg : Gl X x) (hm : X.mg x = some (.ref f)) (hk : PySem.W.keepIn X.K (.ref f) = true) (hb : Binds X.K fd ps ds) (hd : Vals dvs ds) (hx : Passes CX X E)
    (ha : PA X (e :: es) t) (hdb : (x == ("__debug__" : Str)) = false := by decide) (he : starEach (e :: es) X.env = (false, eval e X.env) :: starEach es X.env := by rfl) (hpl : (backTo pos (starEach es X.env)).any (·.1) = false := by rfl) :
    PE X (.Call (.Name x p) (e :: es) [] pos) (tCall sp dvs E t) := by
  intro pins s σ H Q I h
  refine wpAny_Call_Name_kw (ld_glob I hg hm ?_ hdb)
  refine PySem.W.callWith_K (h₀ := X.base) I.ok.mod.kin hk (thn (ha pos pins s σ H _ I h) fun us s1 ⟨vs, H1, I1, r, q⟩ => ⟨I1.kIn, ?_⟩) he hpl
  exact run_fn F hr hb hd hx I1 r q
end

/-! ### keywords -/
section
variable {X : Cx} {CX : CXT} {k : Nat} {f C : Addr} {fd : FuncData} {ps ks : List Str} {sp : Sp} {E : XK} {x m : Str} {p pos apos kpos : Pos} {e o : Expr} {es : List Expr} {kws : List Keyword} {te ta : TE} {t tk : TA} {nm : Option Str}
variable {g : List Value → List Value → List Value} {gV : List V → List V → List V}
end

/-! ### a def's body keeps its promise -/
/-- names: the parameters first -/
structure FnScope (N P : List Str) (sc : Scope) : Prop where
  kind : sc.kind = .function
  co : sc.isCoroutine = false
  gen : sc.isGenerator = false
  nd : N.Nodup
  pre : N.take P.length = P
  par : ∀ x ∈ P, sc.names.lookup x = some .local ∨ sc.names.lookup x = some .cell
  nofree : ∀ y ∈ sc.names, y.2 ≠ .free

theorem bindL_out {kindOf : Str → Option NameKind} {x : Str} : ∀ {binds : List (Str × Value)} {m : Str → Option Value}, (∀ v, (x, v) ∉ binds) → bindL kindOf binds m x = m x
  | [], _, _ => rfl
  | (n, v) :: r, m, h => by
    unfold bindL
    rw [bindL_out fun w hw => h w (List.mem_cons_of_mem _ hw)]
    split
    · have : x ≠ n := by rintro rfl; exact h v List.mem_cons_self
      simp [this]
    · rfl
theorem bindC_out {kindOf : Str → Option NameKind} {x : Str} : ∀ {binds : List (Str × Value)} {m : Str → Option Value}, (∀ v, (x, v) ∉ binds) → bindC kindOf binds m x = m x
  | [], _, _ => rfl
  | (n, v) :: r, m, h => by
    unfold bindC
    rw [bindC_out fun w hw => h w (List.mem_cons_of_mem _ hw)]
    split
    · rfl
    · have : x ≠ n := by rintro rfl; exact h v List.mem_cons_self
      simp [this]
theorem bindL_get {kindOf : Str → Option NameKind} {x : Str} {v : Value} : ∀ {P : List Str} {vs : List Value} {i : Nat} {m : Str → Option Value}, P.Nodup → P[i]? = some x → vs[i]? = some v → kindOf x = some .local →
    bindL kindOf (P.zip vs) m x = some v
  | [], _, _, _, _, h, _, _ => by simp at h
  | _ :: _, [], _, _, _, _, h, _ => by simp at h
  | p :: P, w :: vs, 0, m, nd, h1, h2, hk => by
    simp at h1 h2; subst h1; subst h2
    show bindL kindOf ((p, w) :: P.zip vs) m p = _
    unfold bindL
    rw [bindL_out fun v hv => (List.nodup_cons.mp nd).1 (List.of_mem_zip hv).1, if_pos hk]
    simp
  | p :: P, w :: vs, i + 1, m, nd, h1, h2, hk => by
    show bindL kindOf ((p, w) :: P.zip vs) m x = _
    unfold bindL
    exact bindL_get (i := i) (List.nodup_cons.mp nd).2 (by simpa using h1) (by simpa using h2) hk
theorem bindC_get {kindOf : Str → Option NameKind} {x : Str} {v : Value} : ∀ {P : List Str} {vs : List Value} {i : Nat} {m : Str → Option Value}, P.Nodup → P[i]? = some x → vs[i]? = some v → kindOf x ≠ some .local →
    bindC kindOf (P.zip vs) m x = some v
  | [], _, _, _, _, h, _, _ => by simp at h
  | _ :: _, [], _, _, _, _, h, _ => by simp at h
  | p :: P, w :: vs, 0, m, nd, h1, h2, hk => by
    simp at h1 h2; subst h1; subst h2
    show bindC kindOf ((p, w) :: P.zip vs) m p = _
    unfold bindC
    rw [bindC_out fun v hv => (List.nodup_cons.mp nd).1 (List.of_mem_zip hv).1, if_neg hk]
    simp
  | p :: P, w :: vs, i + 1, m, nd, h1, h2, hk => by
    show bindC kindOf ((p, w) :: P.zip vs) m x = _
    unfold bindC
    exact bindC_get (i := i) (List.nodup_cons.mp nd).2 (by simpa using h1) (by simpa using h2) hk

/-- the names' values at the entry -/
def start (N : List Str) (vs : List V) : St := vs.map some ++ List.replicate (N.length - vs.length) none

/-- the context of a def's body, at its entry; an exception leaves the frame, then lies as CX says -/
def cxOf (CX : CXT) (P : Program) (w : World) (K : PySem.W.Frag) (mg : Str → Option Value) (base : Heap) (N : List Str) (qual : Str) (scope : Scope) (f : Addr) (cd : Value) (A : Around) (outer : List Env) (s : Shared) (H : Hp) (E : XK) : Cx where
  prog := P
  w := w
  K := K
  mg := mg
  base := base
  A := A.deeper (envOfC qual scope s.heap.objs.size f cd)
  N := N
  s₀ := s
  H₀ := H
  env := envOfC qual scope s.heap.objs.size f cd
  outer := outer
  stack := envOfC qual scope s.heap.objs.size f cd :: outer
  ex := []
  calm := true
  fn := fun _ => true
  pn := []
  xe := fun e s' => wpAny (model P w) (A.deeper (envOfC qual scope s.heap.objs.size f cd)) (leaving (envOfC qual scope s.heap.objs.size f cd) e) (fun _ s'' => CX outer H s E e s'') (fun e' s'' => CX outer H s E e' s'') s'

theorem cell_has {sc : Scope} {n : Nat} {x : Str} (h : sc.names.lookup x = some .cell) : ∃ c, (cellsFrom n sc.names []).lookup x = some c := by
  have q := PySem.W.cellsFrom_some sc.names n [] (.inl h)
  exact Option.isSome_iff_exists.mp q

theorem inv_start {CX : CXT} {P : Program} {w : World} {K : PySem.W.Frag} {mg : Str → Option Value} {base : Heap} {N ps : List Str} {qual : Str} {scope : Scope} {f : Addr} {cd : Value} {A : Around} {outer : List Env} {s s1 : Shared} {H : Hp} {E : XK} {us : List Value} {vs : List V}
    (S : FnScope N ps scope) (hd : A.handled = none) (e0 : Env0 P w K mg base A outer s H) (hl : vs.length = ps.length) (r : Vals vs us)
    (x : InCallC s s.heap.objs.size (bindL (envOfC qual scope s.heap.objs.size f cd).kindOf (ps.zip us) fun _ => none) (cellsFrom (s.heap.objs.size + 1) scope.names []) (bindC (envOfC qual scope s.heap.objs.size f cd).kindOf (ps.zip us) fun _ => none) s1) :
    Inv (cxOf CX P w K mg base N qual scope f cd A outer s H E) [] (start N vs) H s1 := by
  have hpl : ps.length ≤ N.length := by have := congrArg List.length S.pre; rw [List.length_take] at this; omega
  obtain ⟨h1, tk, rfl, hk⟩ := x.done
  have noA : ∀ b : Addr, b ∉ (cxOf CX P w K mg base N qual scope f cd A outer s H E).ex := fun b z => absurd (show b ∈ ([] : List Addr) from z) (by simp)
  refine ⟨⟨e0.mod, S.kind, rfl, rfl, Nat.le_refl _, fun y z c h1 h2 => ?_, fun y hy => ?_, fun y c _ h => ?_, fun _ => hd, Around.frames_deeper e0.frames, .inr ⟨rfl, rfl⟩, fun b z => absurd z (noA b), e0.bs, e0.bsz, fun b _ _ => noA b, fun b z => absurd z (noA b), e0.funs, e0.frf⟩,
    rfl, e0.bare, Un.kept hk, ⟨_, x.toInCall.ns, fun i y v h1 h2 h3 => ?_⟩, fun y c h => ⟨_, x.cell y c h⟩, e0.hok.fresh (Nat.le_refl _), fun y c h => ?_, fun p hp => absurd (show p ∈ ([] : List (Addr × Obj)) from hp) (by simp), e0.hok.kept hk, ?_⟩
  · exact name_of_addr x.apart (PySem.mem_of_lookup h1) (PySem.mem_of_lookup h2)
  · have hy : scope.names.lookup y = some .cell ∨ scope.names.lookup y = some .free := hy
    rcases hy with hy | hy
    · exact cell_has hy
    · exact absurd rfl (S.nofree _ (PySem.mem_of_lookup hy))
  · exact Nat.le_of_lt (x.above y c (PySem.mem_of_lookup h))
  · have hi : i < vs.length := by
      unfold start at h2
      by_cases hi : i < vs.length
      · exact hi
      · rw [List.getElem?_append_right (by simpa using hi)] at h2
        rw [List.getElem?_replicate] at h2
        split at h2 <;> cases h2
    have ha : vs[i]? = some v := by
      unfold start at h2
      rw [List.getElem?_append_left (by simpa using hi), List.getElem?_map] at h2
      cases e : vs[i]? with
      | none => rw [e] at h2; cases h2
      | some a => rw [e] at h2; cases h2; rfl
    obtain ⟨u, hu, rv⟩ := r.get ha
    have hp : ps[i]? = some y := by
      rw [← S.pre, List.getElem?_take_of_lt (by omega)]; exact h1
    have ndP : ps.Nodup := by rw [← S.pre]; exact S.nd.sublist (List.take_sublist _ _)
    refine ⟨u, rv, ?_⟩
    rcases S.par y (List.mem_of_getElem? hp) with k | k
    · exact .inl ⟨k, bindL_get ndP hp hu k⟩
    · obtain ⟨c, e⟩ := cell_has (n := s.heap.objs.size + 1) k
      refine .inr ⟨.inl k, c, e, ?_⟩
      have q := x.cell y c e
      rw [bindC_get ndP hp hu (by show scope.names.lookup y ≠ _; rw [k]; decide)] at q
      exact q
  · exact e0.hok.fresh (Nat.le_of_lt (x.above y c (PySem.mem_of_lookup h)))
  · unfold start
    show _ = N.length
    rw [List.length_append, List.length_map, List.length_replicate]
    omega

/-- THE RULE: a def (or a method) of the text, by its body. The body's reading t is chosen for each entry; it is run at the parameters' values -/
theorem fn_of {CX : CXT} {P : Program} {w : World} {K : PySem.W.Frag} {mg : Str → Option Value} {base : Heap} {k : Nat} {f : Addr} {name qual : Str} {params : Arguments} {body : List Stmt} {scope : Scope} {dV kV doc pm cdv ct oc : Value} {an od : Option Addr}
    {osl : Array (Option Value)} {N ps : List Str} {sp : Sp} (lk : K.lookup f = some ⟨oc, od, .func (PySem.W.fnOf name qual params body scope dV kV doc pm an cdv ct), osl⟩) (hcd : PySem.W.codeIn K cdv qual = true) (S : FnScope N ps scope)
    (len : ∀ vs H Q E, sp vs H Q E → vs.length = ps.length)
    (hbody : ∀ (A : Around) (outer : List Env) (s : Shared) (H : Hp) (vs : List V) (Q : VK) (E : XK), Room k (A.deeper (envOfC qual scope s.heap.objs.size f cdv)) → sp vs H Q E →
      ∃ t, PSs (cxOf CX P w K mg base N qual scope f cdv A outer s H E) body t ∧ t { nx := fun _ H' => Q .non H', rt := Q } (start N vs) H) :
    FnOk P w K mg base CX (k + 1) f (PySem.W.fnOf name qual params body scope dV kV doc pm an cdv ct) ps sp := by
  refine ⟨len, fun A outer s H args us vs Q E hr e0 hb r hsp => ?_⟩
  have hl := len _ _ _ _ hsp
  have KX : K.In s.heap := e0.mod.kin.keeps fun b o e => (e0.bs b o e).1
  have lim : s.heap.NoLimit := e0.mod.nolimit.keeps fun b o e => (e0.bs b o e).1
  have hkind : ∀ y ∈ ps.zip us, scope.names.lookup y.1 = some .local ∨ (scope.names.lookup y.1 = some .cell ∧ ((cellsFrom (s.heap.objs.size + 1) scope.names []).lookup y.1).isSome = true) := fun ⟨n, v⟩ hy => by
    rcases S.par n (List.of_mem_zip hy).1 with q | q
    · exact .inl q
    · exact .inr ⟨q, PySem.W.cellsFrom_some _ _ _ (.inl q)⟩
  refine codeAny_call_function hr.depth (KX _ _ lk) rfl S.co S.gen rfl (PySem.W.codeRec_of KX hcd) (hb _ _ _ _ ?_)
  refine wpAny_newFunctionEnv_cells S.kind hkind fun env he s1 x => ?_
  subst he
  refine ⟨lim.keeps x.toInCall.keep, codeAny_func ?_⟩
  obtain ⟨t, ht, hq⟩ := hbody A outer s H vs Q E (hr.deeper _) hsp
  have I : Inv (cxOf CX P w K mg base N qual scope f cdv A outer s H E) [] (start N vs) H s1 := inv_start S hr.hd e0 hl r x
  refine wpAny_mono (ht [] s1 (start N vs) H _ I hq) (fun fl s' hs => ?_) fun e s' hs => hs
  have fin : ∀ {σ' : St} {H' : Hp} {v : V} {u : Value}, Inv (cxOf CX P w K mg base N qual scope f cdv A outer s H E) [] σ' H' s' → RelV v u → Q v H' → CE outer P w H s Q u s' :=
    fun {σ' H' v u} J rv q => ⟨v, H', J.os, J.bare, J.base, J.hok, rv, q⟩
  cases fl with
  | ret u =>
    obtain ⟨v, σ', H', J, rv, q⟩ := hs
    exact fin J rv q
  | next =>
    obtain ⟨σ', H', J, q⟩ := hs
    exact fin (v := V.non) (u := Value.none) J rfl q
  | brk =>
    obtain ⟨_, _, _, q⟩ := hs
    exact False.elim q
  | cont =>
    obtain ⟨_, _, _, q⟩ := hs
    exact False.elim q
end L2

namespace L2
open PySem PySem.Spec PyProof.Rows
section
variable {X : Cx} {x : Str} {p pos : Pos} {e : Expr} {es : List Expr} {t : TA} {id T : String} {r : List V → Hp → VK → Prop}

def tCB (r : List V → Hp → VK → Prop) (t : TA) : TE := fun σ H Q => t σ H fun vs H1 => r vs H1 Q
/-- f(e, ..), f a built-in function -/
theorem pe_callB (hc : CallR X (.builtin id) r) (hg : Gl X x) (hm : X.mg x = none) (hv : bootBuiltins x = some (.builtin id)) (ha : PA X (e :: es) t) (hn : x ≠ "__name__" := by decide) (hdb : (x == ("__debug__" : Str)) = false := by decide)
    (he : starEach (e :: es) X.env = (false, eval e X.env) :: starEach es X.env := by rfl) (hpl : (backTo pos (starEach es X.env)).any (·.1) = false := by rfl) : PE X (.Call (.Name x p) (e :: es) [] pos) (tCB r t) := by
  intro pins s σ H Q I h
  refine wpAny_Call_Name_kw (ld_blt I hg hm hv ?_ hn hdb)
  exact PyProof.Rows.callWith_builtin1 (thn (ha pos pins s σ H _ I h) fun us s1 ⟨vs, H1, I1, r1, q1⟩ => hc pins s1 σ H1 vs us Q I1 r1 q1) he hpl
end
end L2

namespace HT
open PySem PyProof.Rows

section
open PySem.SeqAt
open PySem.AutoSeq1 (wpAny_loadPart')
open PySem.MeetsSeq PySem.MeetsSeq2 PySem.MeetsSeq3

end

section
variable {prog : Program} {w : World} {A : Around} {E : Value → Shared → Prop} {s : Shared}

/-! ### t[a:b], not the whole -/
/-- a slice's bound as a place among n (d where it is left out) -/
def sIx (n d : Nat) : Option Int → Nat
  | none => d
  | some v => if v < 0 then (v + (n : Int)).toNat else min v.toNat n
end
end HT

namespace L2
open PySem PySem.Spec PyProof.Rows

/-! ### the parts of a slice -/
abbrev TO := St → Hp → (Option Int → Hp → Prop) → Prop
/-- a slice's part (left out, or an int) -/
def PO (X : Cx) (e : Option Expr) (t : TO) : Prop :=
  ∀ (pins : List (Addr × Obj)) (s : Shared) (σ : St) (H : Hp) (Q : Option Int → Hp → Prop), Inv X pins σ H s → t σ H Q →
    wpAny (model X.prog X.w) X.A (evalPart e X.env) (fun u s' => ∃ o H', Inv X pins σ H' s' ∧ IsPart u o ∧ Q o H') X.xe s
def tNoPart : TO := fun _ H Q => Q none H
def tPart (t : TE) : TO := fun σ H Q => t σ H fun x H1 => ∃ i, x = .int i ∧ Q (some i) H1

section
variable {X : Cx} {e : Expr} {te : TE} {lo hi : Option Expr} {tl th : TO} {pos p2 : Pos}

theorem po_none : PO X none tNoPart := by
  intro pins s σ H Q I h
  rw [evalPart_none]
  exact wpAny_pure ⟨none, H, I, .none, h⟩
theorem po_some (h : PE X e te) : PO X (some e) (tPart te) := by
  intro pins s σ H Q I hw
  rw [evalPart_some]
  refine thn (h pins s σ H _ I hw) fun u s1 ⟨x, H1, I1, r1, q1⟩ => ?_
  obtain ⟨i, rfl, q⟩ := q1
  obtain ⟨t, rfl⟩ := r1
  exact ⟨some i, H1, I1, .int i t, q⟩

/-- what a slice of a value is, by values: the slice object stands at sl -/
def SlR (X : Cx) (r : V → Option Int → Option Int → Hp → VK → Prop) : Prop :=
  ∀ (pins : List (Addr × Obj)) (s : Shared) (σ : St) (H : Hp) (x : V) (v vl vu : Value) (lo hi : Option Int) (sl : Addr) (Q : VK), Inv X pins σ H s → RelV x v → s.heap.IsSliceOf sl vl vu .none → IsPart vl lo → IsPart vu hi → r x lo hi H Q →
    ∃ T id, typeLookup (.type T) "__getitem__" = pure (some (.builtin id)) ∧ s.TypeIs v T ∧ wpAny (model X.prog X.w) X.A (getItem v (.ref sl)) (EP X pins σ Q) X.xe s
def tSl (r : V → Option Int → Option Int → Hp → VK → Prop) (te : TE) (tl th : TO) : TE := fun σ H Q => te σ H fun x H1 => tl σ H1 fun l H2 => th σ H2 fun u H3 => r x l u H3 Q
/-- a[lo:hi], any a -/
theorem pe_slice {r : V → Option Int → Option Int → Hp → VK → Prop} (hr : SlR X r) (he : PE X e te) (hl : PO X lo tl) (hu : PO X hi th) : PE X (.Subscript e (.Slice lo hi none p2) pos) (tSl r te tl th) := by
  intro pins s σ H Q I h
  refine Subscript_ (thn (he pins s σ H _ I h) fun v s1 ⟨x, H1, I1, r1, q1⟩ => ?_)
  refine wpAny_Slice (thn (hl pins s1 σ H1 _ I1 q1) fun vl s2 ⟨l, H2, I2, pl, q2⟩ => thn (hu pins s2 σ H2 _ I2 q2) fun vu s3 ⟨u, H3, I3, pu, q3⟩ => ?_)
  rw [evalPart_none]
  refine wpAny_pure ?_
  have I4 : Inv X pins σ H3 { s3 with heap := s3.heap.push { cls := .type "slice", data := .fields #[vl, vu, .none] } } := I3.kept (t' := s3.toks) fun b ob q => Heap.get?_push_of_some _ q
  obtain ⟨T, id, hT, ht, hg⟩ := hr pins { s3 with heap := s3.heap.push { cls := .type "slice", data := .fields #[vl, vu, .none] } } σ H3 x v vl vu l u s3.heap.objs.size Q I4 r1 (Heap.IsSliceOf.new ..) pl pu q3
  show wpAny (model X.prog X.w) X.A (subscriptTail e (.Slice lo hi none p2) v (.ref s3.heap.objs.size)) (EP X pins σ Q) X.xe { s3 with heap := s3.heap.push { cls := .type "slice", data := .fields #[vl, vu, .none] } }
  exact tail_any (ops := [.ref s3.heap.objs.size, v]) ht hT hg (by with_unfolding_all rfl)

/-- the items of xs[lo:hi] -/
def cutV (xs : List V) (lo hi : Option Int) : List V := (xs.drop (HT.sIx xs.length 0 lo)).take (HT.sIx xs.length xs.length hi - HT.sIx xs.length 0 lo)
theorem cutV_length (xs : List V) (lo hi : Option Int) : (cutV xs lo hi).length ≤ xs.length := by
  unfold cutV
  rw [List.length_take, List.length_drop]
  omega
/-! ### t < u, t + u -/
end
end L2

namespace L2
open PySem PySem.Spec PyProof.Rows

/-! ### places -/
/-- the place that an index of any sign means -/
def ixN (n : Nat) (i : Int) : Option Nat := if 0 ≤ i then (if i < n then some i.toNat else none) else if -(n : Int) ≤ i then some (i + n).toNat else none
def atI {α : Type} (xs : List α) (i : Int) : Option α := (ixN xs.length i).bind fun j => xs[j]?
theorem ixN_seq {n : Nat} {i : Int} {j : Nat} (h : ixN n i = some j) : seqIndex? i n = some j ∧ j < n ∧ -(n : Int) ≤ i ∧ i < n := by
  unfold ixN at h
  by_cases h0 : 0 ≤ i
  · rw [if_pos h0] at h
    by_cases h1 : i < n
    · rw [if_pos h1] at h
      have e : i.toNat = j := Option.some.inj h
      exact ⟨by rw [seqIndex_of h0 h1, e], by omega, by omega, h1⟩
    · rw [if_neg h1] at h; cases h
  · rw [if_neg h0] at h
    by_cases h1 : -(n : Int) ≤ i
    · rw [if_pos h1] at h
      have e : (i + n).toNat = j := Option.some.inj h
      exact ⟨by rw [seqIndex_neg (by omega) h1, e], by omega, h1, by omega⟩
    · rw [if_neg h1] at h; cases h
theorem atI_get {α : Type} {xs : List α} {i : Int} {v : α} (h : atI xs i = some v) : ∃ j, seqIndex? i xs.length = some j ∧ xs[j]? = some v ∧ j < xs.length ∧ -(xs.length : Int) ≤ i ∧ i < xs.length := by
  unfold atI at h
  cases e : ixN xs.length i with
  | none => rw [e] at h; cases h
  | some j =>
    rw [e] at h
    obtain ⟨h1, h2, h3, h4⟩ := ixN_seq e
    exact ⟨j, h1, h, h2, h3, h4⟩
theorem atI_nat {α : Type} {xs : List α} {j : Nat} {v : α} (h : xs[j]? = some v) : atI xs (j : Int) = some v := by
  have hj : j < xs.length := (List.getElem?_eq_some_iff.mp h).1
  have e : ixN xs.length (j : Int) = some j := by
    unfold ixN
    rw [if_pos (by omega), if_pos (by omega)]; simp
  unfold atI; rw [e]; exact h
theorem atI_last {α : Type} (xs : List α) (v : α) : atI (xs ++ [v]) (-1) = some v := by
  have hl : (xs ++ [v]).length = xs.length + 1 := by simp
  have e : ixN (xs ++ [v]).length (-1) = some xs.length := by
    unfold ixN
    rw [hl, if_neg (by decide), if_pos (by omega)]
    congr 1
    omega
  unfold atI
  rw [e]
  show (xs ++ [v])[xs.length]? = some v
  simp

/-! ### what may be subscripted -/
/-- what stands as an index of a plain subscript -/
def PlainIx (b : Expr) : Prop := ∀ o i, subscripted b false o i = operate [o, i] (getItem o i)
/-- a subscript by values -/
def IxR (X : Cx) (r : R2) : Prop :=
  ∀ (value slice : Expr) (pins : List (Addr × Obj)) (s : Shared) (σ : St) (H : Hp) (x y : V) (v u : Value) (Q : VK), Inv X pins σ H s → RelV x v → RelV y u → r x y H Q →
    subscripted slice false v u = operate [v, u] (getItem v u) → wpAny (model X.prog X.w) X.A (subscriptTail value slice v u) (EP X pins σ Q) X.xe s
/-- a call of a builtin's method by values: the receiver, the arguments -/
def MtR (X : Cx) (id : String) (r : V → List V → Hp → VK → Prop) : Prop :=
  ∀ (pins : List (Addr × Obj)) (s : Shared) (σ : St) (H : Hp) (x : V) (xs : List V) (v : Value) (us : List Value) (Q : VK), Inv X pins σ H s → RelV x v → Vals xs us → r x xs H Q →
    wpAny (model X.prog X.w) X.A (call (.builtin id) (v :: us)) (EP X pins σ Q) X.xe s
section
variable {X : Cx} {a b : Expr} {ta tb : TE} {pos : Pos}
/-- a[b] -/
theorem pe_ix {r : R2} (hr : IxR X r) (ha : PE X a ta) (hb : PE X b tb) (hs : PlainIx b) : PE X (.Subscript a b pos) (tOp r ta tb) := by
  intro pins s σ H Q I h
  exact Subscript_ (binT ha hb I h fun v u s2 x y H2 I2 rx ry q => hr a b pins s2 σ H2 x y v u Q I2 rx ry q (hs _ _))

def rIxL (K : PySem.W.Frag) : R2 := fun x y H Q => ∃ p xs i v, x = .ref p ∧ y = .int i ∧ SqL K H p xs ∧ atI xs i = some v ∧ Q v H
def rIxT (K : PySem.W.Frag) : R2 := fun x y H Q => ∃ p xs i v, x = .ref p ∧ y = .int i ∧ SqT K H p xs ∧ atI xs i = some v ∧ Q v H
def rIxS : R2 := fun x y H Q => ∃ z i c, x = .str z ∧ y = .int i ∧ z.length ≤ sizeLine ∧ atI z.cps.toList i = some c ∧ Q (.str ⟨#[c]⟩) H
theorem ix_list : IxR X (rIxL X.K) := by
  intro value slice pins s σ H x y v u Q I rx ry h hs
  obtain ⟨p, xs, i, z, rfl, rfl, hq, he, q⟩ := h
  cases rx
  obtain ⟨t, rfl⟩ := ry
  obtain ⟨its, r, pl, hz⟩ := I.list hq
  obtain ⟨j, h1, h2, h3, h4, h5⟩ := atI_get he
  obtain ⟨w, ew, rw'⟩ := r.get h2
  have hl := r.length
  have hn := line63
  have fin : EP X pins σ Q w s := ⟨z, H, I, rw', q⟩
  by_cases h0 : 0 ≤ i
  · have hj : i.toNat = j := by
      rw [seqIndex_of h0 h5] at h1
      exact Option.some.inj h1
    exact item_listR pl.isList h0 (by omega) (by rw [hj]; simpa using ew) fin hs
  · have hj : (i + (its.toArray.size : Int)).toNat = j := by
      rw [seqIndex_neg (by omega) h4] at h1
      rw [List.size_toArray, ← hl]
      exact Option.some.inj h1
    exact subscriptTail_builtinR (x := w) pl.isList.typeIs slot_list_getitem.lookup
      (wpAny_getItem_list_neg (Q := fun r s' => r = w ∧ EP X pins σ Q r s') pl.isList (by omega) (by rw [List.size_toArray] <;> omega) (by omega) (by rw [hj]; simpa using ew) ⟨rfl, fin⟩) hs
theorem ix_tup : IxR X (rIxT X.K) := by
  intro value slice pins s σ H x y v u Q I rx ry h hs
  obtain ⟨p, xs, i, z, rfl, rfl, hq, he, q⟩ := h
  cases rx
  obtain ⟨t, rfl⟩ := ry
  obtain ⟨its, r, pl, hz⟩ := I.tuple hq
  obtain ⟨j, h1, h2, h3, h4, h5⟩ := atI_get he
  obtain ⟨w, ew, rw'⟩ := r.get h2
  have hl := r.length
  have hn := line63
  have fin : EP X pins σ Q w s := ⟨z, H, I, rw', q⟩
  exact subscriptTail_builtinR (x := w) pl.typeIs slot_tuple_getitem.lookup
    (getItem_tuple (j := j) (Q := fun r s' => r = w ∧ EP X pins σ Q r s') pl (by omega) (by omega) (by rw [List.size_toArray, ← hl]; exact h1) (by simpa using ew) ⟨rfl, fin⟩) hs
theorem ix_str : IxR X rIxS := by
  intro value slice pins s σ H x y v u Q I rx ry h hs
  obtain ⟨z, i, c, rfl, rfl, hz, he, q⟩ := h
  obtain ⟨t, rfl⟩ := rx
  obtain ⟨t', rfl⟩ := ry
  obtain ⟨j, h1, h2, h3, h4, h5⟩ := atI_get he
  have hl : z.cps.toList.length = z.length := by simp [Str.length]
  rw [hl] at h1 h4 h5
  have hn := line63
  exact tail_any (typeIs_str s z t) slot_str_getitem.lookup (getItem_str (c := c) (by
    have e1 : decide (i < -(2 ^ 63 : Int)) = false := decide_eq_false (by omega)
    have e2 : decide (i ≥ 2 ^ 63) = false := decide_eq_false (by omega)
    rw [e1, e2, Bool.or_false]) (by rw [h1]; simpa using h2) ⟨.str ⟨#[c]⟩, H, I.tok _, ⟨_, rfl⟩, q⟩) hs
/-! ### xs[i] = v, any sign -/
/-! ### slices -/
theorem slice_bounds (lo hi : Option Int) (n : Nat) : (sliceBounds lo hi none n).1 = ((HT.sIx n 0 lo : Nat) : Int) ∧ (sliceBounds lo hi none n).2.1 = ((HT.sIx n n hi : Nat) : Int) ∧ (sliceBounds lo hi none n).2.2 = 1 := by
  refine ⟨?_, ?_, rfl⟩
  · cases lo with
    | none => simp [sliceBounds, HT.sIx]
    | some i =>
      simp only [sliceBounds, HT.sIx, Option.getD_none, show (1 : Int) > 0 by decide, if_true]
      by_cases h : i < 0
      · simp only [h, if_true] <;> omega
      · simp only [h, if_false] <;> omega
  · cases hi with
    | none => simp [sliceBounds, HT.sIx]
    | some i =>
      simp only [sliceBounds, HT.sIx, Option.getD_none, show (1 : Int) > 0 by decide, if_true]
      by_cases h : i < 0
      · simp only [h, if_true] <;> omega
      · simp only [h, if_false] <;> omega
theorem slicePick_cut (its : List Value) (lo hi : Option Int) : slicePick its.toArray lo hi none = ((its.drop (HT.sIx its.length 0 lo)).take (HT.sIx its.length its.length hi - HT.sIx its.length 0 lo)).toArray := by
  obtain ⟨h1, h2, h3⟩ := slice_bounds lo hi its.toArray.size
  unfold slicePick
  rw [h1, h2, h3]
  simp only [sliceRange_one, pick_run, List.size_toArray] <;> rfl
/-- xs[lo:hi] of a list: a new list -/
def rSlL (K : PySem.W.Frag) : V → Option Int → Option Int → Hp → VK → Prop := fun x lo hi H Q => ∃ a xs, x = .ref a ∧ SqL K H a xs ∧ ∀ p, H p = none → Q (.ref p) (upd H p (.lst (cutV xs lo hi)))
theorem sl_list : SlR X (rSlL X.K) := by
  intro pins s σ H x v vl vu lo hi sl Q I rx hs pl pu h
  obtain ⟨a, xs, rfl, hx, q⟩ := h
  cases rx
  obtain ⟨its, r, ht, hz⟩ := I.list hx
  have hlen := r.length
  refine ⟨"list", _, slot_list_getitem.lookup, ht.isList.typeIs, ?_⟩
  refine wpAny_getItem_list_slice ht.isList hs pl pu .none (by simp) ?_ (by rw [List.size_toArray] <;> omega)
  rw [slicePick_cut, ← hlen]
  refine ⟨.ref s.heap.objs.size, _, I.laid (t' := s.toks) (o := .lst (cutV xs lo hi)) (fun b ob q => Heap.get?_push_of_some _ q) (Nat.le_refl _) ?_, rfl, q _ (I.hok.fresh (Nat.le_refl _))⟩
  exact ⟨Nat.le_trans (cutV_length xs lo hi) hz, _, 0, (r.drop (HT.sIx xs.length 0 lo)).take (HT.sIx xs.length xs.length hi - HT.sIx xs.length 0 lo), Heap.get?_push_size _ rfl⟩

/-! ### in, not in: flat items -/
def flatV : V → Bool
  | .non => true
  | .bl _ => true
  | .int _ => true
  | .str _ => true
  | _ => false
/-- == of flat values -/
def eqV : V → V → Bool
  | .non, .non => true
  | .bl a, .bl b => a == b
  | .bl a, .int b => (if a then 1 else 0) == b
  | .int a, .bl b => a == (if b then 1 else 0)
  | .int a, .int b => a == b
  | .str a, .str b => a == b
  | _, _ => false
theorem eqAt_V {A : Around} {s : Shared} {y x : V} {u v : Value} (ry : RelV y u) (rx : RelV x v) (fy : flatV y = true) (fx : flatV x = true) : SeqAt.EqAt A s u v (eqV y x) := by
  cases y with
  | non =>
    cases ry
    cases x with
    | non => cases rx; exact SeqAt.EqAt.same _
    | bl b => cases rx; exact SeqAt.EqAt.none_bool b
    | int b => obtain ⟨t, rfl⟩ := rx; exact SeqAt.EqAt.none_int b t
    | str b => obtain ⟨t, rfl⟩ := rx; exact SeqAt.EqAt.none_str b t
    | _ => exact absurd (show false = true from fx) Bool.false_ne_true
  | bl a =>
    cases ry
    cases x with
    | non => cases rx; exact SeqAt.EqAt.bool_none a
    | bl b => cases rx; exact SeqAt.EqAt.bool_bool a b
    | int b => obtain ⟨t, rfl⟩ := rx; exact SeqAt.EqAt.bool_int a b t
    | str b => obtain ⟨t, rfl⟩ := rx; exact SeqAt.EqAt.bool_str a b t
    | _ => exact absurd (show false = true from fx) Bool.false_ne_true
  | int a =>
    obtain ⟨t', rfl⟩ := ry
    cases x with
    | non => cases rx; exact SeqAt.EqAt.int_none a t'
    | bl b => cases rx; exact SeqAt.EqAt.int_bool a t' b
    | int b => obtain ⟨t, rfl⟩ := rx; exact SeqAt.EqAt.int_int a t' b t
    | str b => obtain ⟨t, rfl⟩ := rx; exact SeqAt.EqAt.int_str a t' b t
    | _ => exact absurd (show false = true from fx) Bool.false_ne_true
  | str a =>
    obtain ⟨t', rfl⟩ := ry
    cases x with
    | non => cases rx; exact SeqAt.EqAt.str_none a t'
    | bl b => cases rx; exact SeqAt.EqAt.str_bool a t' b
    | int b => obtain ⟨t, rfl⟩ := rx; exact SeqAt.EqAt.str_int a t' b t
    | str b => obtain ⟨t, rfl⟩ := rx; exact SeqAt.EqAt.str_str a t' b t
    | _ => exact absurd (show false = true from fx) Bool.false_ne_true
  | _ => exact absurd (show false = true from fy) Bool.false_ne_true
/-- the items' answers, read off the values (a value's own answer does not lean on its token) -/
def eqU (x : V) (u : Value) : Bool := match u with
  | .none => eqV .non x
  | .bool b => eqV (.bl b) x
  | .int i _ => eqV (.int i) x
  | .str z _ => eqV (.str z) x
  | _ => false
theorem eqU_of {x y : V} {u : Value} (r : RelV y u) (f : flatV y = true) : eqU x u = eqV y x := by
  cases y with
  | non => cases r; rfl
  | bl b => cases r; rfl
  | int i => obtain ⟨t, rfl⟩ := r; rfl
  | str z => obtain ⟨t, rfl⟩ := r; rfl
  | _ => exact absurd (show false = true from f) Bool.false_ne_true
theorem any_eqU {x : V} : ∀ {xs : List V} {us : List Value}, Vals xs us → xs.all flatV = true → us.any (eqU x) = xs.any fun y => eqV y x
  | _, _, .nil, _ => rfl
  | y :: xs, u :: us, .cons r t, f => by
    rw [List.all_cons, Bool.and_eq_true] at f
    rw [List.any_cons, List.any_cons, eqU_of r f.1, any_eqU t f.2]
theorem mem_eqAt {A : Around} {s : Shared} {x : V} {v : Value} (rx : RelV x v) (fx : flatV x = true) : ∀ {xs : List V} {us : List Value}, Vals xs us → xs.all flatV = true → ∀ u ∈ us, SeqAt.EqAt A s u v (eqU x u)
  | _, _, .nil, _ => fun u hu => by cases hu
  | y :: xs, u :: us, .cons r t, f => fun u' hu => by
    rw [List.all_cons, Bool.and_eq_true] at f
    rcases List.mem_cons.mp hu with rfl | hu
    · rw [eqU_of r f.1]; exact eqAt_V r rx f.1 fx
    · exact mem_eqAt rx fx t f.2 u' hu
def inV (x : V) (xs : List V) : Bool := xs.any fun y => eqV y x
/-- x in a list or tuple of flat items -/
def rIn (K : PySem.W.Frag) (neg : Bool) : R2 := fun x y H Q => ∃ p xs, y = .ref p ∧ (SqL K H p xs ∨ SqT K H p xs) ∧ flatV x = true ∧ xs.all flatV = true ∧ Q (.bl (if neg then !inV x xs else inV x xs)) H
theorem op_in_seq : OpR X (compareOp .In) (rIn X.K false) := by
  intro pins s σ H x y v u Q I rx ry h
  obtain ⟨p, xs, rfl, hq, fx, fs, q⟩ := h
  cases ry
  rcases hq with hq | hq
  · obtain ⟨its, r, pl, hz⟩ := I.list hq
    refine SeqAt.in_listAt (eqU x) pl.isList (fun w hw => mem_eqAt rx fx r fs w (by simpa using hw)) ⟨.bl _, H, I, rfl, ?_⟩
    rw [show its.toArray.any (eqU x) = its.any (eqU x) by simp, any_eqU r fs]
    exact q
  · obtain ⟨its, r, pl, hz⟩ := I.tuple hq
    refine SeqAt.in_tupleAt (eqU x) pl (fun w hw => mem_eqAt rx fx r fs w (by simpa using hw)) ⟨.bl _, H, I, rfl, ?_⟩
    rw [show its.toArray.any (eqU x) = its.any (eqU x) by simp, any_eqU r fs]
    exact q
/-! ### len, list(x), tuple(x) of any list or tuple that is read -/
theorem call_len_seq : CallR X (.builtin "len") (fun xs H Q => ∃ p ys, xs = [.ref p] ∧ (SqL X.K H p ys ∨ SqT X.K H p ys) ∧ Q (.int ys.length) H) := by
  intro pins s σ H xs us Q I r h
  obtain ⟨p, ys, rfl, hq, q⟩ := h
  obtain ⟨u, rfl, rx⟩ := vals1 r
  cases rx
  have hn := line63
  rcases hq with hq | hq
  · obtain ⟨its, r', pl, hz⟩ := I.list hq
    have hlen := r'.length
    exact Calls.call_len_list pl.isList (by simp only [List.size_toArray] <;> omega) ⟨.int ys.length, H, I.tok _, ⟨s.toks + 1, by rw [List.size_toArray, hlen]⟩, q⟩
  · obtain ⟨its, r', pl, hz⟩ := I.tuple hq
    have hlen := r'.length
    exact len_tuple pl (by simp only [List.size_toArray] <;> omega) ⟨.int ys.length, H, I.tok _, ⟨s.toks + 1, by rw [List.size_toArray, hlen]⟩, q⟩
/-! ### the call of a builtin's method: o.m(..) -/
/-- the value is of that builtin type -/
def tyV (K : PySem.W.Frag) (T : String) (x : V) (H : Hp) : Prop := match x with
  | .str _ => T = "str"
  | .int _ => T = "int"
  | .ref p => (T = "list" ∧ ∃ xs, SqL K H p xs) ∨ (T = "tuple" ∧ ∃ o, K.lookup p = some o ∧ o.cls = .type "tuple" ∧ o.dict = none) ∨
      (T = "dict" ∧ ((∃ kvs, H p = some (.dK kvs)) ∨ ∃ kvs, H p = some (.dT kvs))) ∨ (T = "set" ∧ ∃ S n, H p = some (.set S n))
  | _ => False
theorem tyV_is {pins : List (Addr × Obj)} {σ : St} {H : Hp} {s : Shared} {T : String} {x : V} {v : Value} (I : Inv X pins σ H s) (r : RelV x v) (ty : tyV X.K T x H) :
    s.TypeIs v T ∧ ∀ a, v = .ref a → ∃ ob, s.heap.get? a = some ob ∧ ob.dict = none := by
  cases x with
  | str z =>
    obtain ⟨t, rfl⟩ := r
    cases (show T = "str" from ty)
    exact ⟨typeIs_str s z t, fun _ e => nomatch e⟩
  | int i =>
    obtain ⟨t, rfl⟩ := r
    cases (show T = "int" from ty)
    exact ⟨typeIs_int s i t, fun _ e => nomatch e⟩
  | ref p =>
    cases r
    rcases ty with ⟨rfl, xs, hq⟩ | ⟨rfl, o, hk, hc, hd⟩ | ⟨rfl, hk⟩ | ⟨rfl, S, n, hk⟩
    · obtain ⟨its, _, pl, _⟩ := I.list hq
      refine ⟨pl.isList.typeIs, fun a e => ?_⟩
      cases e
      obtain ⟨o, n, e, c, hd, _⟩ := pl
      exact ⟨o, e, hd⟩
    · refine ⟨⟨o, I.kIn p o hk, hc⟩, fun a e => ?_⟩
      cases e
      exact ⟨o, I.kIn _ o hk, hd⟩
    · have z : ∃ o, s.heap.get? p = some o ∧ o.ExactDict := by
        rcases hk with ⟨kvs, hk⟩ | ⟨kvs, hk⟩
        · obtain ⟨_, _, _, _, o, _, _, e, ex, _⟩ := I.hok p _ hk
          exact ⟨o, e, ex⟩
        · obtain ⟨_, _, _, _, o, _, _, e, ex, _⟩ := I.hok p _ hk
          exact ⟨o, e, ex⟩
      obtain ⟨o, e, ex⟩ := z
      refine ⟨⟨o, e, ex.1⟩, fun a e2 => ?_⟩
      cases e2
      exact ⟨o, e, ex.2.1⟩
    · obtain ⟨o, _, _, _, e, ex, _⟩ := I.hok p _ hk
      refine ⟨⟨o, e, ex.1⟩, fun a e2 => ?_⟩
      cases e2
      exact ⟨o, e, ex.2.1⟩
  | _ => exact False.elim ty
def tBM (K : PySem.W.Frag) (T : String) (r : V → List V → Hp → VK → Prop) (to : TE) (t : TA) : TE := fun σ H Q => to σ H fun x H1 => tyV K T x H1 ∧ t σ H1 fun xs H2 => r x xs H2 Q
variable {o e : Expr} {es : List Expr} {to : TE} {t : TA} {name : Str} {apos cpos : Pos} {T id : String} {r : V → List V → Hp → VK → Prop}
theorem pe_bm (pa : PlainAttrs T) (slot : Slot T name id) (hty : typeOf (.builtin id) = pure (.type "method_descriptor")) (hm : MtR X id r) (ho : PE X o to) (ha : PA X (e :: es) t)
    (hbase : attributeBase o name X.env (eval o X.env) = eval o X.env := by rfl)
    (hfew : ((backTo cpos (starEach (e :: es) X.env)).all (fun x => !x.1) && (backToKw cpos (keywordEach [] X.env)).all (fun x => x.1.isSome)
      && decide ((e :: es).length + ([] : List Keyword).length + (if ([] : List Keyword).isEmpty then 0 else 1) < 30)) = true := by rfl)
    (hline : (apos.endLine == cpos.line) = true := by rfl) (hs : starEach (e :: es) X.env = (false, eval e X.env) :: starEach es X.env := by rfl) (hplain : (backTo cpos (starEach es X.env)).any (·.1) = false := by rfl) :
    PE X (.Call (.Attribute o name apos) (e :: es) [] cpos) (tBM X.K T r to t) := by
  intro pins s σ H Q I h
  refine wpAny_Call_method_late hbase hfew hline rfl (thn (ho pins s σ H _ I h) fun v s1 ⟨x, H1, I1, r1, ty, q1⟩ => ?_)
  obtain ⟨h1, h2⟩ := tyV_is I1 r1 ty
  refine ⟨T, id, pa, slot, hty, h1, h2, ?_⟩
  have hA := ha cpos pins s1 σ H1 _ I1 q1
  rw [hs] at hA ⊢
  refine Calls.callWith_builtin (by show (false || (backTo cpos (starEach es X.env)).any (·.1)) = false; rw [hplain] <;> rfl) (Calls.evalArgs_plain ?_)
  exact thn hA fun us s2 ⟨vs, H2, I2, r2, q2⟩ => hm pins s2 σ H2 x vs v us Q I2 r1 r2 q2
/- xs.append(e), list.index on a module's tuple .. are MtR facts of 06m -/
end
end L2

namespace L2
open PySem PySem.Spec PyProof.Rows

def MtM (X : Cx) (id : String) (r : V → List V → Hp → VK → Prop) : Prop :=
  ∀ (pins : List (Addr × Obj)) (s : Shared) (σ : St) (H : Hp) (x : V) (xs : List V) (v : Value) (us : List Value) (Q : VK), Inv X pins σ H s → RelV x v → Vals xs us → r x xs H Q →
    wpAny (model X.prog X.w) X.A (call (.builtin id) (v :: us)) (EP X pins σ Q) X.xe s

/-! ### lists of values -/
theorem Vals.one : ∀ {x : V} {us : List Value}, Vals [x] us → ∃ u, us = [u] ∧ RelV x u
  | _, _, .cons r .nil => ⟨_, rfl, r⟩
section
variable {X : Cx} {pins : List (Addr × Obj)} {σ : St} {H : Hp} {s : Shared} {l b : Addr} {xs ys zs : List V}

/-! ### the two steps: a tracked list is rewritten, a new list is laid -/
theorem Inv.lset {its its' : List Value} {n : Nat} {f : Array Value → Array Value} {t' : Nat} (I : Inv X pins σ H s) (hH : H l = some (.lst xs))
    (e : s.heap.get? l = some { cls := .type "list", data := .seq its.toArray n }) (hf : f its.toArray = its'.toArray) (hv : Vals ys its') (hz : ys.length ≤ sizeLine) :
    Inv X pins σ (upd H l (.lst ys)) { s with heap := s.heap.update l (Obj.mapSeq f), toks := t' } := by
  have q := PySem.IsL.update e f
  rw [hf] at q
  refine I.write (x := l) (e := l) (by rw [hH]; exact trivial) (.inl rfl) (fun b' u hb hu => (Heap.get?_update_other s.heap (Obj.mapSeq f) (Ne.symm hb)).trans hu) ⟨_, q⟩ ?_
  exact ⟨hz, its', _, hv, q⟩
theorem Inv.lnew {its : List Value} {t' : Nat} (I : Inv X pins σ H s) (hv : Vals ys its) (hz : ys.length ≤ sizeLine) :
    Inv X pins σ (upd H s.heap.objs.size (.lst ys)) { s with heap := s.heap.push { cls := .type "list", data := .seq its.toArray }, toks := t' } :=
  I.laid (fun _ _ q => Heap.get?_push_of_some _ q) (Nat.le_refl _) ⟨hz, its, 0, hv, Heap.get?_push_size _ rfl⟩
theorem Inv.fresh (I : Inv X pins σ H s) : H s.heap.objs.size = none := I.hok.fresh (Nat.le_refl _)
theorem Inv.lstM (I : Inv X pins σ H s) (hH : H l = some (.lst xs)) : xs.length ≤ sizeLine ∧ ∃ (its : List Value) (n : Nat), Vals xs its ∧ xs.length = its.length ∧ s.heap.get? l = some { cls := .type "list", data := .seq its.toArray n } := by
  obtain ⟨z, its, n, r, e⟩ := I.hok l _ hH
  exact ⟨z, its, n, r, r.length, e⟩

end

section
variable {X : Cx}

/-! ### methods -/
def rAppend : V → List V → Hp → VK → Prop := fun x vs H Q => ∃ l xs y, x = .ref l ∧ vs = [y] ∧ H l = some (.lst xs) ∧ xs.length < sizeLine ∧ Q .non (upd H l (.lst (xs ++ [y])))
theorem mt_append : MtM X "list.append" rAppend := by
  intro pins s σ H x vs v us Q I rx rv h
  obtain ⟨l, xs, y, rfl, rfl, hH, hz, q⟩ := h
  cases rx
  obtain ⟨u, rfl, ru⟩ := rv.one
  obtain ⟨z, its, n, r, hl, e⟩ := I.lstM hH
  refine call_meets F.slot_list_append ⟨_, e, rfl⟩ F.entry_list_append (F.args_list_append_2 _ _) (PySem.list_append l its.toArray n u (by rw [List.size_toArray]; omega)) ⟨e, ?_⟩
  refine ⟨.non, _, I.lset (its' := its ++ [u]) hH e (by simp) (r.append (.cons ru .nil)) ?_, rfl, q⟩
  rw [List.length_append, List.length_singleton]
  omega

/-! ### list + list, list += list, list * int -/
def rCat : R2 := fun x y H Q => ∃ l b xs zs, x = .ref l ∧ y = .ref b ∧ H l = some (.lst xs) ∧ H b = some (.lst zs) ∧ xs.length + zs.length ≤ sizeLine ∧ ∀ p, H p = none → Q (.ref p) (upd H p (.lst (xs ++ zs)))
theorem op_cat : OpR X (binaryOp .Add) rCat := by
  intro pins s σ H x y v u Q I rx ry h
  obtain ⟨l, b, xs, zs, rfl, rfl, hH, hB, hz, q⟩ := h
  cases rx
  cases ry
  obtain ⟨z, its, n, r, hl, e⟩ := I.lstM hH
  obtain ⟨z2, its2, n2, r2, hl2, e2⟩ := I.lstM hB
  refine PySem.P.add_list e e2 ?_ (by rw [List.size_toArray, List.size_toArray]; omega)
  have ea : its.toArray ++ its2.toArray = (its ++ its2).toArray := by simp
  rw [ea]
  exact ⟨.ref _, _, I.lnew (t' := s.toks) (r.append r2) (by rw [List.length_append]; omega), rfl, q _ I.fresh⟩
/-! ### del xs[i] -/
end

/-! ### xs[a:b] = ys -/
section
variable {prog : Program} {w : World} {A : Around} {E : Value → Shared → Prop} {s : Shared}
end

section
variable {X : Cx}
end
end L2

namespace L2
open PySem PySem.Spec PyProof.Rows

/-! ### lists of pairs as tables -/
section
variable {κ : Type} [DecidableEq κ]
def valV (kvs : List (κ × V)) (k : κ) : Option V := (kvs.find? fun kv => decide (kv.1 = k)).map (·.2)
/-- in its place, or at the end -/
def putK (kvs : List (κ × V)) (k : κ) (v : V) : List (κ × V) :=
  if (kvs.any fun kv => decide (kv.1 = k)) = true then kvs.map (fun kv => if kv.1 = k then (kv.1, v) else kv) else kvs ++ [(k, v)]
theorem valV_pos {p : κ × V} {r : List (κ × V)} {k : κ} (e : p.1 = k) : valV (p :: r) k = some p.2 := by simp [valV, List.find?_cons, e]
theorem valV_neg {p : κ × V} {r : List (κ × V)} {k : κ} (e : ¬ p.1 = k) : valV (p :: r) k = valV r k := by simp [valV, List.find?_cons, e]
theorem valV_any (k : κ) : ∀ kvs : List (κ × V), (kvs.any fun kv => decide (kv.1 = k)) = (valV kvs k).isSome
  | [] => rfl
  | p :: r => by
    rw [List.any_cons]
    by_cases e : p.1 = k
    · simp only [valV_pos e, decide_eq_true e, Bool.true_or, Option.isSome_some]
    · rw [valV_neg e, decide_eq_false e, Bool.false_or]; exact valV_any k r
theorem valV_map (k j : κ) (y : V) : ∀ kvs : List (κ × V), valV (kvs.map fun kv => if kv.1 = k then (kv.1, y) else kv) j = (valV kvs j).map fun x => if j = k then y else x
  | [] => rfl
  | p :: r => by
    have ih := valV_map k j y r
    rw [List.map_cons]
    by_cases h : p.1 = k
    · rw [if_pos h]
      by_cases e : p.1 = j
      · rw [valV_pos (p := (p.1, y)) e, valV_pos e, Option.map_some, if_pos (e.symm.trans h)]
      · rw [valV_neg (p := (p.1, y)) e, valV_neg e, ih]
    · rw [if_neg h]
      by_cases e : p.1 = j
      · rw [valV_pos (p := p) e, valV_pos e, Option.map_some, if_neg (fun z => h (e.trans z))]
      · rw [valV_neg (p := p) e, valV_neg e, ih]
theorem valV_snoc (k j : κ) (y : V) : ∀ kvs : List (κ × V), valV kvs k = none → valV (kvs ++ [(k, y)]) j = if j = k then some y else valV kvs j
  | [], _ => by
    by_cases e : k = j
    · rw [if_pos e.symm]; exact valV_pos (p := (k, y)) e
    · rw [if_neg (fun z => e z.symm)]; exact valV_neg (p := (k, y)) e
  | p :: r, hn => by
    rw [List.cons_append]
    have hk : ¬ p.1 = k := fun z => by rw [valV_pos z] at hn; cases hn
    rw [valV_neg hk] at hn
    have ih := valV_snoc k j y r hn
    by_cases e : p.1 = j
    · rw [valV_pos e, valV_pos e, if_neg (fun z => hk (e.trans z))]
    · rw [valV_neg e, valV_neg e, ih]
theorem valV_put (kvs : List (κ × V)) (k j : κ) (y : V) : valV (putK kvs k y) j = if j = k then some y else valV kvs j := by
  unfold putK
  by_cases a : (kvs.any fun kv => decide (kv.1 = k)) = true
  · rw [if_pos a, valV_map]
    rw [valV_any] at a
    by_cases e : j = k
    · obtain ⟨x, hx⟩ := Option.isSome_iff_exists.mp a
      rw [if_pos e, e, hx, Option.map_some, if_pos rfl]
    · rw [if_neg e]
      cases valV kvs j with
      | none => rfl
      | some x => rw [Option.map_some, if_neg e]
  · rw [if_neg a]
    refine valV_snoc k j y kvs ?_
    rw [valV_any] at a
    cases q : valV kvs k with
    | none => rfl
    | some x => rw [q] at a; exact (a rfl).elim
theorem length_putK (kvs : List (κ × V)) (k : κ) (v : V) : (putK kvs k v).length ≤ kvs.length + 1 := by
  unfold putK
  split
  · rw [List.length_map]; omega
  · rw [List.length_append, List.length_cons, List.length_nil]; omega
theorem RelO.isSome_eq {o : Option V} {u : Option Value} (r : RelO o u) : o.isSome = u.isSome := by
  cases o with
  | none => cases u with
    | none => rfl
    | some _ => exact (show False from r).elim
  | some _ => cases u with
    | none => exact (show False from r).elim
    | some _ => rfl
theorem RelO.getD {o : Option V} {u : Option Value} {d : V} {d' : Value} (r : RelO o u) (rd : RelV d d') : RelV (o.getD d) (u.getD d') := by
  cases o with
  | none => cases u with
    | none => exact rd
    | some _ => exact (show False from r).elim
  | some _ => cases u with
    | none => exact (show False from r).elim
    | some _ => exact r

/-- raw tables of the same keys -/
theorem KV.val {kvs : List (κ × V)} {vs : List (κ × Value)} (r : KV kvs vs) (k : κ) : RelO (valV kvs k) (valueAt vs k) := by
  unfold KV at r
  induction r with
  | nil => exact True.intro
  | @cons p q ps qs h t ih =>
    obtain ⟨h1, h2⟩ := h
    by_cases e : p.1 = k
    · have e' : q.1 = k := h1.symm.trans e
      have b : valueAt (q :: qs) k = some q.2 := by simp [valueAt, List.find?_cons, e']
      rw [valV_pos e, b]; exact h2
    · have e' : ¬ q.1 = k := fun z => e (h1.trans z)
      have b : valueAt (q :: qs) k = valueAt qs k := by simp [valueAt, List.find?_cons, e']
      rw [valV_neg e, b]; exact ih
theorem KV.any {kvs : List (κ × V)} {vs : List (κ × Value)} (r : KV kvs vs) (k : κ) : (kvs.any fun kv => decide (kv.1 = k)) = vs.any fun kv => decide (kv.1 = k) := by
  unfold KV at r
  induction r with
  | nil => rfl
  | cons h t ih => rw [List.any_cons, List.any_cons, ih, h.1]
theorem KV.repl {kvs : List (κ × V)} {vs : List (κ × Value)} (r : KV kvs vs) (k : κ) {y : V} {u : Value} (ry : RelV y u) :
    KV (kvs.map fun kv => if kv.1 = k then (kv.1, y) else kv) (vs.map fun kv => if kv.1 = k then (kv.1, u) else kv) := by
  unfold KV at r ⊢
  induction r with
  | nil => exact .nil
  | @cons p q ps qs h t ih =>
    rw [List.map_cons, List.map_cons]
    refine .cons ?_ ih
    obtain ⟨h1, h2⟩ := h
    by_cases e : p.1 = k
    · rw [if_pos e, if_pos (h1.symm.trans e)]; exact ⟨h1, ry⟩
    · rw [if_neg e, if_neg (fun z => e (h1.trans z))]; exact ⟨h1, h2⟩
theorem KV.put {kvs : List (κ × V)} {vs : List (κ × Value)} (r : KV kvs vs) (k : κ) {y : V} {u : Value} (ry : RelV y u) : KV (putK kvs k y) (stored vs k u) := by
  unfold putK stored
  rw [r.any k]
  by_cases e : (vs.any fun kv => decide (kv.1 = k)) = true
  · rw [if_pos e, if_pos e]; exact r.repl k ry
  · rw [if_neg e, if_neg e]; exact Paired.snoc r ⟨rfl, ry⟩
theorem KV.length {kvs : List (κ × V)} {vs : List (κ × Value)} (r : KV kvs vs) : kvs.length = vs.length := Paired.length r
end


/-! ### a tracked dict, its keys ints and texts or tuples of these -/
theorem kV_is {P : Program} {w : World} {k : Key} {u : Value} (r : RelV (kV k) u) : (mixKind P w).is k u = true := by
  cases k with
  | inl i => obtain ⟨t, e⟩ := (show ∃ t, u = Value.int i t from r); subst e; exact mixKind_int P w i t
  | inr x => obtain ⟨t, e⟩ := (show ∃ t, u = Value.str x t from r); subst e; exact mixKind_str P w x t
theorem items_are {P : Program} {w : World} : ∀ {ks : List Key} {us : List Value}, Vals (ks.map kV) us → ItemsAre (mixKind P w) ks us
  | [], _, r => by rw [List.map_nil] at r; cases r; exact .nil
  | k :: ks, _, r => by
    rw [List.map_cons] at r
    cases r with
    | cons h t => exact .cons (kV_is h) (items_are t)

/-- raw entries of a dict with tuple keys -/
abbrev KT (H : Hp) : List (List Key × V) → List (List Key × Addr × Value) → Prop := Paired fun p q => p.1 = q.1 ∧ H q.2.1 = some (.tup (p.1.map kV)) ∧ RelV p.2 q.2.2
theorem KT.val {H : Hp} {kvs : List (List Key × V)} {xs : List (List Key × Addr × Value)} (r : KT H kvs xs) (k : List Key) : RelO (valV kvs k) ((atKey xs k).map (·.2)) := by
  induction r with
  | nil => exact True.intro
  | @cons p q ps qs h t ih =>
    obtain ⟨h1, _, h2⟩ := h
    by_cases e : p.1 = k
    · have e' : q.1 = k := h1.symm.trans e
      have b : atKey (q :: qs) k = some q.2 := by simp [atKey, List.find?_cons, e']
      rw [valV_pos e, b]; exact h2
    · have e' : ¬ q.1 = k := fun z => e (h1.trans z)
      have b : atKey (q :: qs) k = atKey qs k := by simp [atKey, List.find?_cons, e']
      rw [valV_neg e, b]; exact ih
theorem KT.repl {H : Hp} {kvs : List (List Key × V)} {xs : List (List Key × Addr × Value)} (r : KT H kvs xs) (k : List Key) {y : V} {u : Value} (ry : RelV y u) :
    KT H (kvs.map fun kv => if kv.1 = k then (kv.1, y) else kv) (xs.map (putAt k u)) := by
  induction r with
  | nil => exact .nil
  | @cons p q ps qs h t ih =>
    rw [List.map_cons, List.map_cons]
    refine .cons ?_ ih
    obtain ⟨h1, h2, h3⟩ := h
    unfold putAt
    by_cases e : p.1 = k
    · rw [if_pos e, if_pos (h1.symm.trans e)]; exact ⟨h1, h2, ry⟩
    · rw [if_neg e, if_neg (fun z => e (h1.trans z))]; exact ⟨h1, h2, h3⟩
theorem KT.put {H : Hp} {kvs : List (List Key × V)} {xs : List (List Key × Addr × Value)} (r : KT H kvs xs) (k : List Key) {b : Addr} {y : V} {u : Value} (hb : H b = some (.tup (k.map kV))) (ry : RelV y u) :
    KT H (putK kvs k y) (storedH xs k b u) := by
  have e : (kvs.any fun kv => decide (kv.1 = k)) = (atKey xs k).isSome := by
    rw [valV_any, (r.val k).isSome_eq, Option.isSome_map]
  unfold putK storedH
  rw [e]
  by_cases q : (atKey xs k).isSome = true
  · rw [if_pos q, if_pos q]; exact r.repl k ry
  · rw [if_neg q, if_neg q]; exact Paired.snoc r ⟨rfl, hb, ry⟩
theorem KT.keeps {H H' : Hp} {kvs : List (List Key × V)} {xs : List (List Key × Addr × Value)} (r : KT H kvs xs) (ht : ∀ b ys, H b = some (.tup ys) → H' b = some (.tup ys)) : KT H' kvs xs :=
  Paired.mapP r fun _ _ z => ⟨z.1, ht _ _ z.2.1, z.2.2⟩

section
variable {P : Program} {w : World} {H : Hp} {h : Heap} {a : Addr}
theorem rd_of {u : HO} (ok : HOk P w H h) (e : Rd H a u) : ObjOk P w H h a u := e.ok ok
theorem dk_rd {kvs : List (Key × V)} (ok : HOk P w H h) (e : Rd H a (.dK kvs)) : kvs.length ≤ sizeLine ∧ (a == sysModules) = false ∧ ∃ vs, KV kvs vs ∧ h.DictOf (mixKind P w) a vs :=
  show ObjOk P w H h a (.dK kvs) from rd_of ok e
theorem dk_of {kvs : List (Key × V)} (ok : HOk P w H h) (e : H a = some (.dK kvs)) : kvs.length ≤ sizeLine ∧ (a == sysModules) = false ∧ ∃ vs, KV kvs vs ∧ h.DictOf (mixKind P w) a vs := dk_rd ok (.inl e)
/-- a tracked tuple of ints and texts is a key -/
theorem key_of {ks : List Key} (ok : HOk P w H h) (e : H a = some (.tup (ks.map kV))) : (tupleKind (mixKind P w)).is h ks a := by
  obtain ⟨_, its, r, o, h1, h2, n, h3⟩ := (show ObjOk P w H h a (.tup (ks.map kV)) from ok a _ e)
  exact ⟨o, its.toArray, n, h1, h2, h3, by simpa using items_are r⟩
theorem dt_rd {kvs : List (List Key × V)} (ok : HOk P w H h) (e : Rd H a (.dT kvs)) : kvs.length ≤ sizeLine ∧ (a == sysModules) = false ∧
    ∃ xs, KT H kvs xs ∧ h.DictOfH (tupleKind (mixKind P w)) a xs := by
  obtain ⟨z, y, xs, r, o, es, ep, h1, h2, h3, h4, h5⟩ := (show ObjOk P w H h a (.dT kvs) from rd_of ok e)
  refine ⟨z, y, xs, r, o, es, ep, h1, h2, h3, h4, fun x hx => ?_, h5⟩
  have all : ∀ {l : List (List Key × V)} {m : List (List Key × Addr × Value)}, KT H l m → ∀ x ∈ m, (tupleKind (mixKind P w)).is h x.1 x.2.1 := by
    intro l m q
    induction q with
    | nil => intro x hx; exact nomatch hx
    | @cons p q ps qs hq t ih =>
      intro x hx
      rcases List.mem_cons.mp hx with e | hx
      · subst e
        exact key_of ok (by rw [← hq.1]; exact hq.2.1)
      · exact ih x hx
  exact all r x hx
theorem dt_of {kvs : List (List Key × V)} (ok : HOk P w H h) (e : H a = some (.dT kvs)) : kvs.length ≤ sizeLine ∧ (a == sysModules) = false ∧
    ∃ xs, KT H kvs xs ∧ h.DictOfH (tupleKind (mixKind P w)) a xs := dt_rd ok (.inl e)
end

/-- what the dict at a holds at the key y -/
def DGet (H : Hp) (a : Addr) (y : V) (r : Option V) : Prop :=
  (∃ kvs k, Rd H a (.dK kvs) ∧ y = kV k ∧ r = valV kvs k) ∨ ∃ kvs k b, Rd H a (.dT kvs) ∧ y = .ref b ∧ H b = some (.tup (k.map kV)) ∧ r = valV kvs k
/-- the heap behind a[y] = v -/
def DPut (H : Hp) (a : Addr) (y v : V) (H' : Hp) : Prop :=
  (∃ kvs k, H a = some (.dK kvs) ∧ y = kV k ∧ kvs.length < sizeLine ∧ H' = upd H a (.dK (putK kvs k v))) ∨
  ∃ kvs k b, H a = some (.dT kvs) ∧ y = .ref b ∧ H b = some (.tup (k.map kV)) ∧ kvs.length < sizeLine ∧ H' = upd H a (.dT (putK kvs k v))
theorem DGet.k {H : Hp} {a : Addr} {kvs : List (Key × V)} {k : Key} (e : H a = some (.dK kvs)) : DGet H a (kV k) (valV kvs k) := .inl ⟨kvs, k, .inl e, rfl, rfl⟩
theorem DGet.t {H : Hp} {a b : Addr} {kvs : List (List Key × V)} {k : List Key} (e : H a = some (.dT kvs)) (eb : H b = some (.tup (k.map kV))) : DGet H a (.ref b) (valV kvs k) := .inr ⟨kvs, k, b, .inl e, rfl, eb, rfl⟩
theorem DPut.k {H : Hp} {a : Addr} {kvs : List (Key × V)} {k : Key} {v : V} (e : H a = some (.dK kvs)) (hl : kvs.length < sizeLine) : DPut H a (kV k) v (upd H a (.dK (putK kvs k v))) := .inl ⟨kvs, k, e, rfl, hl, rfl⟩
theorem DPut.t {H : Hp} {a b : Addr} {kvs : List (List Key × V)} {k : List Key} {v : V} (e : H a = some (.dT kvs)) (eb : H b = some (.tup (k.map kV))) (hl : kvs.length < sizeLine) :
    DPut H a (.ref b) v (upd H a (.dT (putK kvs k v))) := .inr ⟨kvs, k, b, e, rfl, eb, hl, rfl⟩


section
variable {X : Cx} {pins : List (Addr × Obj)} {σ : St} {H : Hp} {s : Shared} {a : Addr} {y v : V} {u r : Value} {o : Option V} {A : Around} {E : Value → Shared → Prop}

theorem Inv.big (I : Inv X pins σ H s) : sysModules < s.heap.objs.size := by
  have h : mainGlobals < s.heap.objs.size := (I.mod.glob.keeps I.bk).lt
  exact Nat.lt_trans (by decide) h

/-- d[y], there -/
theorem d_getItem {Q : Value → Shared → Prop} (hu : A.units + 1 < cLine) (I : Inv X pins σ H s) (g : DGet H a y (some v)) (ry : RelV y u) (h : ∀ w' s', Inv X pins σ H s' → RelV v w' → Q w' s') :
    wpAny (model X.prog X.w) A (getItem (.ref a) u) Q E s := by
  rcases g with ⟨kvs, k, e, ey, l⟩ | ⟨kvs, k, b, e, ey, eb, l⟩
  · subst ey
    obtain ⟨z, hd, vs, rel, dd⟩ := dk_rd I.hok e
    obtain ⟨w', hw, rw'⟩ := RelO.some_of (v := v) (o := valueAt vs k) (by rw [l]; exact rel.val k)
    exact wpAny_getItem_of (kV_is ry) dd.mapOf hw (h w' _ (I.tok _) rw')
  · subst ey
    cases (show u = Value.ref b from ry)
    obtain ⟨z, hd, xs, rel, dd⟩ := dt_rd I.hok e
    obtain ⟨w', hw, rw'⟩ := RelO.some_of (v := v) (o := (atKey xs k).map (·.2)) (by rw [l]; exact rel.val k)
    obtain ⟨p, hp, hp2⟩ := Option.map_eq_some_iff.mp hw
    refine wpAny_getItem_heap (tupleKind_room_in1 hu) (key_of I.hok eb) dd hp ?_
    rw [hp2]
    exact h w' _ (I.tok _) rw'
theorem d_notIn {Q : Value → Shared → Prop} (hu : A.units + 1 < cLine) (I : Inv X pins σ H s) (g : DGet H a y o) (ry : RelV y u) (h : ∀ s', Inv X pins σ H s' → Q (.bool (!o.isSome)) s') :
    wpAny (model X.prog X.w) A (compareOp .NotIn u (.ref a)) Q E s := by
  rcases g with ⟨kvs, k, e, ey, l⟩ | ⟨kvs, k, b, e, ey, eb, l⟩
  · subst ey
    obtain ⟨z, hd, vs, rel, dd⟩ := dk_rd I.hok e
    refine wpAny_notIn_of (kV_is ry) hd dd.mapOf ?_
    rw [← (rel.val k).isSome_eq, ← l]
    exact h _ (I.tok _)
  · subst ey
    cases (show u = Value.ref b from ry)
    obtain ⟨z, hd, xs, rel, dd⟩ := dt_rd I.hok e
    refine wpAny_notIn_heap (tupleKind_room_in1 hu) (key_of I.hok eb) hd dd ?_
    have q := (rel.val k).isSome_eq
    rw [Option.isSome_map] at q
    rw [← q, ← l]
    exact h _ (I.tok _)
/-- a dict's object is replaced -/
theorem d_write {h' : Heap} {t' : Nat} {ob : HO} (I : Inv X pins σ H s) (mu : Mut (H a)) (hs : Heap.SameBut a s.heap h') (he : ∃ q, h'.get? a = some q) (new : ObjOk X.prog X.w (upd H a ob) h' a ob) :
    Inv X pins σ (upd H a ob) { s with heap := h', toks := t' } :=
  I.write (x := a) (e := a) mu (.inl rfl) (fun b q hb z => (hs.2 b hb).trans z) he new
theorem dk_new {P : Program} {w : World} {H' : Hp} {h' : Heap} {kvs : List (Key × V)} {vs : List (Key × Value)} (z : kvs.length ≤ sizeLine) (hd : (a == sysModules) = false) (rel : KV kvs vs) (dd : h'.DictOf (mixKind P w) a vs) :
    ObjOk P w H' h' a (.dK kvs) := ⟨z, hd, vs, rel, dd⟩
/-- d[y] = v -/
theorem d_setItem {H' : Hp} {Q : Unit → Shared → Prop} (hu : A.units + 1 < cLine) (I : Inv X pins σ H s) (g : DPut H a y v H') (ry : RelV y u) (rv : RelV v r) (h : ∀ s', Inv X pins σ H' s' → Q () s') :
    wpAny (model X.prog X.w) A (setItem (.ref a) u r) Q E s := by
  rcases g with ⟨kvs, k, e, ey, l, eH⟩ | ⟨kvs, k, b, e, ey, eb, l, eH⟩
  · subst ey eH
    obtain ⟨z, hd, vs, rel, dd⟩ := dk_of I.hok e
    have hz : vs.length ≤ sizeLine := by rw [← rel.length]; exact z
    have hl : (putK kvs k v).length ≤ sizeLine := by have := length_putK kvs k v; omega
    refine wpAny_setItem_pairs (hsz := hz) (kV_is ry) dd fun h' dd' hs => h _ ?_
    have he : ∃ q, h'.get? a = some q := let ⟨q, _, _, hq, _⟩ := dd'; ⟨q, hq⟩
    exact d_write I (by rw [e]; exact True.intro) hs he (dk_new hl hd (rel.put k rv) dd')
  · subst ey eH
    cases (show u = Value.ref b from ry)
    obtain ⟨z, hd, xs, rel, dd⟩ := dt_of I.hok e
    have hz : xs.length ≤ sizeLine := by rw [← Paired.length rel]; exact z
    have hl : (putK kvs k v).length ≤ sizeLine := by have := length_putK kvs k v; omega
    refine wpAny_setItem_heap (hsz := hz) (tupleKind_room_in1 hu) (key_of I.hok eb) dd fun h' dd' hs => h _ ?_
    obtain ⟨q, es, ep, hq, h2, h3, h4, _, h5⟩ := dd'
    refine d_write I (by rw [e]; exact True.intro) hs ⟨q, hq⟩ ⟨hl, hd, _, (rel.put k eb rv).keeps fun c ys ec => ?_, q, es, ep, hq, h2, h3, h4, h5⟩
    rw [upd_ne (ne_of ec e (fun z => nomatch z))]
    exact ec
end

section
variable {X : Cx} {pins : List (Addr × Obj)} {σ : St} {H : Hp} {s : Shared} {a : Addr} {kvs : List (Key × V)} {k : Key} {u : Value} {A : Around} {E : Value → Shared → Prop}
/-- len(d) -/
theorem d_len {Q : Value → Shared → Prop} (I : Inv X pins σ H s) (e : Rd H a (.dK kvs)) (h : ∀ t s', Inv X pins σ H s' → Q (.int kvs.length t) s') : wpAny (model X.prog X.w) A (call (.builtin "len") [.ref a]) Q E s := by
  obtain ⟨z, hd, vs, rel, dd⟩ := dk_rd I.hok e
  refine call_len_dict hd dd (by rw [← rel.length]; rw [sizeLine_eq] at z; omega) ?_
  rw [← rel.length]
  exact h _ _ (I.tok _)
end


/-! ### readings and rules -/
/-- the element of a subscription, not a slice -/
def NoSl (i : Expr) : Prop := ∀ ov iv, subscripted i false ov iv = operate [ov, iv] (getItem ov iv)
theorem subD_of {prog : Program} {w : World} {A : Around} {E : Value → Shared → Prop} {s : Shared} {env : Env} {value slice : Expr} {pos : Pos} {T id : String} {Q : Value → Shared → Prop}
    (hl : typeLookup (.type T) "__getitem__" = pure (some (.builtin id))) (hs : NoSl slice)
    (h : wpAny (model prog w) A (eval value env) (fun o s₁ => wpAny (model prog w) A (eval slice env) (fun i s₂ => s₂.TypeIs o T ∧ wpAny (model prog w) A (getItem o i) Q E s₂) E s₁) E s) :
    wpAny (model prog w) A (eval (.Subscript value slice pos) env) Q E s := by
  refine Subscript_ (wpAny_mono h (fun o s₁ h₁ => wpAny_mono h₁ (fun i s₂ h₂ => ?_) fun _ _ x => x) fun _ _ x => x)
  obtain ⟨hT, h₂⟩ := h₂
  unfold subscriptTail
  refine wpAny_bind ?_
  rw [getitemInPython_of_ne hT.not_modules]
  refine wpAny_bind (wpAny_specialOf hT hl ?_)
  have fin : wpAny (model prog w) A (subscripted slice false o i) (fun r s₃ => wpAny (model prog w) A (letTemporaryGo value o r >>= fun _ => pure r) Q E s₃) E s₂ := by
    rw [hs o i]
    exact wpAny_operating (wpAny_mono h₂ (fun r s₃ h₃ => wpAny_bind (wpAny_letTemporaryGo (wpAny_pure h₃))) fun _ _ x => x)
  first
    | exact wpAny_pure (wpAny_bind fin)
    | exact wpAny_bind (wpAny_pure (wpAny_bind fin))
    | exact wpAny_bind fin

theorem dict_typeIs {X : Cx} {pins : List (Addr × Obj)} {σ : St} {H : Hp} {s : Shared} {a : Addr} {y : V} {o : Option V} (I : Inv X pins σ H s) (g : DGet H a y o) : s.TypeIs (.ref a) "dict" := by
  rcases g with ⟨kvs, k, e, _, _⟩ | ⟨kvs, k, b, e, _, _, _⟩
  · obtain ⟨_, _, vs, _, dd⟩ := dk_rd I.hok e
    exact dd.typeIs
  · obtain ⟨_, _, xs, _, dd⟩ := dt_rd I.hok e
    exact dd.typeIs
/-- d[y] -/
def tDGet (td ty : TE) : TE := fun σ H Q => td σ H fun x H1 => ty σ H1 fun y H2 => ∃ a v, x = .ref a ∧ DGet H2 a y (some v) ∧ Q v H2
def tDNotIn (ty td : TE) : TE := fun σ H Q => ty σ H fun y H1 => td σ H1 fun x H2 => ∃ a o, x = .ref a ∧ DGet H2 a y o ∧ Q (.bl (!o.isSome)) H2
/-- d[y] = v -/
def sDPut (td ty tv : TE) : TS := fun D σ H => tv σ H fun v H1 => td σ H1 fun x H2 => ty σ H2 fun y H3 => ∃ a H4, x = .ref a ∧ DPut H3 a y v H4 ∧ D.nx σ H4
section
variable {X : Cx} {o i e value : Expr} {pos pos' tpos : Pos} {td ty tv : TE}
theorem pe_dget (hu : X.A.units + 1 < cLine) (ho : PE X o td) (hi : PE X i ty) (hs : NoSl i) : PE X (.Subscript o i pos) (tDGet td ty) := by
  intro pins s σ H Q I h
  refine subD_of PySem.F.slot_dict_getitem.lookup hs (thn (ho pins s σ H _ I h) fun u s1 ⟨x, H1, I1, rx, q1⟩ => thn (hi pins s1 σ H1 _ I1 q1) fun iv s2 ⟨y, H2, I2, ry, a, v, ex, g, q2⟩ => ?_)
  subst ex
  obtain rfl : u = Value.ref a := rx
  exact ⟨dict_typeIs I2 g, d_getItem hu I2 g ry fun w' s3 I3 rw' => ⟨v, H2, I3, rw', q2⟩⟩
theorem pc_dnotin (hu : X.A.units + 1 < cLine) (hi : PE X i ty) (ho : PE X o td) : PC X .NotIn i o (tDNotIn ty td) := by
  intro pins s σ H Q I h
  refine thn (hi pins s σ H _ I h) fun iv s1 ⟨y, H1, I1, ry, q1⟩ => thn (ho pins s1 σ H1 _ I1 q1) fun u s2 ⟨x, H2, I2, rx, a, ov, ex, g, q2⟩ => ?_
  subst ex
  obtain rfl : u = Value.ref a := rx
  exact d_notIn hu I2 g ry fun s3 I3 => ⟨.bl (!ov.isSome), H2, I3, rfl, q2⟩
theorem ps_dput (hu : X.A.units + 1 < cLine) (ho : PE X o td) (hi : PE X i ty) (hv : PE X value tv) (hs : swapsWith value (some (.Subscript o i pos')) pos.line X.env = pure false) :
    PS X (.Assign [.Subscript o i pos'] value pos) (sDPut td ty tv) := by
  intro pins s σ H D I h
  refine wpAny_Assign_Subscript (thn (hv pins s σ H _ I h) fun r s1 ⟨v, H1, I1, rv, q1⟩ => thn (ho pins s1 σ H1 _ I1 q1) fun u s2 ⟨x, H2, I2, rx, q2⟩ => thn (hi pins s2 σ H2 _ I2 q2) fun iv s3 ⟨y, H3, I3, ry, a, H4, ex, g, q3⟩ => ?_) hs
  subst ex
  obtain rfl : u = Value.ref a := rx
  exact d_setItem hu I3 g ry rv fun s4 I4 => ⟨σ, H4, I4, q3⟩
end


/-! ### displays -/
theorem dk_empty {P : Program} {w : World} {H : Hp} (h : Heap) (hb : sysModules < h.objs.size) : ObjOk P w H (h.push { cls := .type "dict", data := .dict #[] }) h.objs.size (.dK []) :=
  ⟨Nat.zero_le _, beq_eq_false_iff_ne.mpr (Ne.symm (Nat.ne_of_lt hb)), [], .nil, Heap.DictOf.new h⟩
theorem dt_empty {P : Program} {w : World} {H : Hp} (h : Heap) (hb : sysModules < h.objs.size) : ObjOk P w H (h.push { cls := .type "dict", data := .dict #[] }) h.objs.size (.dT []) :=
  ⟨Nat.zero_le _, beq_eq_false_iff_ne.mpr (Ne.symm (Nat.ne_of_lt hb)), [], .nil, _, #[], 0, Heap.get?_push_size _ rfl, ⟨rfl, rfl, rfl⟩, rfl, rfl, List.nodup_nil⟩
/-- {}, to be a dict of the kind that is wanted -/
def tDNewK : TE := fun _ H Q => ∀ p, H p = none → Q (.ref p) (upd H p (.dK []))
def tDNewT : TE := fun _ H Q => ∀ p, H p = none → Q (.ref p) (upd H p (.dT []))
section
variable {X : Cx} {pos : Pos}
theorem pe_dnewK : PE X (.Dict [] [] pos) tDNewK := fun pins s σ H Q I h =>
  wpAny_Dict_empty ⟨.ref s.heap.objs.size, _, I.laid (a := s.heap.objs.size) (o := .dK []) (t' := s.toks) (fun _ _ q => Heap.get?_push_of_some _ q) (Nat.le_refl _) (dk_empty s.heap I.big), rfl, h _ (I.hok.fresh (Nat.le_refl _))⟩
theorem pe_dnewT : PE X (.Dict [] [] pos) tDNewT := fun pins s σ H Q I h =>
  wpAny_Dict_empty ⟨.ref s.heap.objs.size, _, I.laid (a := s.heap.objs.size) (o := .dT []) (t' := s.toks) (fun _ _ q => Heap.get?_push_of_some _ q) (Nat.le_refl _) (dt_empty s.heap I.big), rfl, h _ (I.hok.fresh (Nat.le_refl _))⟩
end

/-- the pairs of a display, from the left -/
def tPairs : List (TE × TE) → St → Hp → (List (V × V) → Hp → Prop) → Prop
  | [], _, H, Q => Q [] H
  | (tk, tv) :: r, σ, H, Q => tk σ H fun x H1 => tv σ H1 fun y H2 => tPairs r σ H2 fun ps H3 => Q ((x, y) :: ps) H3
abbrev VV : List (V × V) → List (Value × Value) → Prop := Paired fun p q => RelV p.1 q.1 ∧ RelV p.2 q.2
def PPs (X : Cx) (pos : Pos) (keys : List (Option Expr)) (values : List Expr) (trs : List (TE × TE)) : Prop :=
  ∀ (pins : List (Addr × Obj)) (s : Shared) (σ : St) (H : Hp) (Q : List (V × V) → Hp → Prop), Inv X pins σ H s → tPairs trs σ H Q →
    wpAny (model X.prog X.w) X.A (evalPairs (pairTrees keys values X.env pos)) (fun vs s' => ∃ ps H', Inv X pins σ H' s' ∧ VV ps vs ∧ Q ps H') X.xe s
theorem pps_nil {X : Cx} {pos : Pos} : PPs X pos [] [] [] := fun pins s σ H Q I h => pairTrees_nil_walk ⟨[], H, I, .nil, h⟩
theorem pps_cons {X : Cx} {pos : Pos} {k v : Expr} {ks : List (Option Expr)} {vs : List Expr} {tk tv : TE} {trs : List (TE × TE)} (hk : PE X k tk) (hv : PE X v tv) (hr : PPs X pos ks vs trs) :
    PPs X pos (some k :: ks) (v :: vs) ((tk, tv) :: trs) := fun pins s σ H Q I h =>
  pairTrees_cons_walk (thn (hk pins s σ H _ I h) fun u s1 ⟨x, H1, I1, rx, q1⟩ => thn (hv pins s1 σ H1 _ I1 q1) fun w2 s2 ⟨y, H2, I2, ry, q2⟩ =>
    thn (hr pins s2 σ H2 _ I2 q2) fun ws s3 ⟨ps, H3, I3, rel, q3⟩ => ⟨(x, y) :: ps, H3, I3, .cons ⟨rx, ry⟩ rel, q3⟩)

def mergeK (kvs more : List (Key × V)) : List (Key × V) := more.foldl (fun acc kv => putK acc kv.1 kv.2) kvs
theorem KV.merge : ∀ {more : List (Key × V)} {rs : List (Key × Value)} {kvs : List (Key × V)} {vs : List (Key × Value)}, KV more rs → KV kvs vs → KV (mergeK kvs more) (merged vs rs) := by
  intro more rs kvs vs r
  unfold KV at r
  induction r generalizing kvs vs with
  | nil => intro q; exact q
  | @cons p q ps qs h t ih =>
    intro r0
    have e : KV (putK kvs p.1 p.2) (stored vs q.1 q.2) := by
      have := r0.put p.1 h.2
      rw [← h.1]; exact this
    exact ih e
theorem length_mergeK : ∀ (more kvs : List (Key × V)), (mergeK kvs more).length ≤ kvs.length + more.length
  | [], kvs => by show kvs.length ≤ kvs.length + 0; omega
  | p :: r, kvs => by
    have h1 := length_mergeK r (putK kvs p.1 p.2)
    have h2 := length_putK kvs p.1 p.2
    show (mergeK (putK kvs p.1 p.2) r).length ≤ _
    rw [List.length_cons]; omega
theorem carries_of {P : Program} {w : World} : ∀ {kvs : List (Key × V)} {ws : List (Value × Value)}, VV (kvs.map fun kv => (kV kv.1, kv.2)) ws → ∃ rs, Carries (mixKind P w) ws rs ∧ KV kvs rs
  | [], _, r => by rw [List.map_nil] at r; cases r; exact ⟨[], True.intro, .nil⟩
  | p :: kvs, _, r => by
    rw [List.map_cons] at r
    cases r with
    | @cons a b as bs h t =>
      obtain ⟨rs, c, q⟩ := carries_of (P := P) (w := w) t
      obtain ⟨b1, b2⟩ := b
      exact ⟨(p.1, b2) :: rs, ⟨kV_is h.1, rfl, c⟩, .cons ⟨rfl, h.2⟩ q⟩
/-- {k: v, ..} with keys ints and texts; the new dict stands empty while the pairs are made -/
def tDisp (trs : List (TE × TE)) : TE := fun σ H Q => ∀ p, H p = none → tPairs trs σ (upd H p (.dK [])) fun ps H2 => H2 p = some (.dK []) ∧ ∃ kvs : List (Key × V), ps = kvs.map (fun kv => (kV kv.1, kv.2)) ∧ kvs.length ≤ 15 ∧ Q (.ref p) (upd H2 p (.dK (mergeK [] kvs)))
theorem pe_disp {X : Cx} {pos : Pos} {keys : List (Option Expr)} {values : List Expr} {trs : List (TE × TE)} (h : PPs X pos keys values trs) (hall : keys.all (·.isSome) = true) (hl : keys.length = values.length) (h0 : keys ≠ [])
    (h15 : keys.length ≤ 15) : PE X (.Dict keys values pos) (tDisp trs) := by
  intro pins s σ H Q I q
  have hn := I.hok.fresh (Nat.le_refl s.heap.objs.size)
  have I1 := I.laid (a := s.heap.objs.size) (o := .dK []) (h' := s.heap.push { cls := .type "dict", data := .dict #[] }) (t' := s.toks) (fun _ _ q => Heap.get?_push_of_some _ q) (Nat.le_refl _) (dk_empty s.heap I.big)
  refine wpAny_Dict_walk (knd := mixKind X.prog X.w) hall hl h0 h15 (thn (h pins _ σ _ _ I1 (q _ hn)) fun ws s2 ⟨ps, H2, I2, rel, e, kvs, ep, lk, q2⟩ => ?_)
  subst ep
  obtain ⟨rs, c, rk⟩ := carries_of (P := X.prog) (w := X.w) rel
  obtain ⟨z, hd, vs0, r0, dd⟩ := dk_of I2.hok e
  cases r0
  refine ⟨rs, c, dd, fun h' dd' hs => ⟨.ref s.heap.objs.size, _, ?_, rfl, q2⟩⟩
  have hz : (mergeK [] kvs).length ≤ sizeLine := by
    have h1 := length_mergeK kvs []
    rw [List.length_nil] at h1
    rw [sizeLine_eq]; omega
  have he : ∃ q, h'.get? s.heap.objs.size = some q := let ⟨q, _, _, hq, _⟩ := dd'; ⟨q, hq⟩
  exact d_write I2 (by rw [e]; exact True.intro) hs he (dk_new hz hd (rk.merge .nil) dd')


/-! ### methods -/
structure M2 (X : Cx) (o : Expr) (m : Str) (apos : Pos) (e f : Expr) (cpos : Pos) : Prop where
  base : attributeBase o m X.env (eval o X.env) = eval o X.env
  few : ((backTo cpos (starEach [e, f] X.env)).all (fun x => !x.1) && (backToKw cpos (keywordEach [] X.env)).all (fun x => x.1.isSome)
    && decide (([e, f] : List Expr).length + ([] : List Keyword).length + (if ([] : List Keyword).isEmpty then 0 else 1) < 30)) = true
  line : (apos.endLine == cpos.line) = true
  trees : backTo cpos (starEach [e, f] X.env) = [(false, eval e X.env), (false, eval f X.env)]

/-- a is a dict, whatever its keys -/
def IsD (H : Hp) (a : Addr) : Prop := (∃ kvs, Rd H a (.dK kvs)) ∨ ∃ kvs, Rd H a (.dT kvs)
theorem isD_at {X : Cx} {pins : List (Addr × Obj)} {σ : St} {H : Hp} {s : Shared} {a : Addr} (I : Inv X pins σ H s) (d : IsD H a) :
    s.TypeIs (.ref a) "dict" ∧ (∀ b, Value.ref a = .ref b → ∃ ob, s.heap.get? b = some ob ∧ ob.dict = none) ∧ (a == sysModules) = false := by
  rcases d with ⟨kvs, e⟩ | ⟨kvs, e⟩
  · obtain ⟨_, hd, vs, _, dd⟩ := dk_rd I.hok e
    refine ⟨dd.typeIs, fun b q => ?_, hd⟩
    cases q
    obtain ⟨ob, _, _, h1, h2, _⟩ := dd
    exact ⟨ob, h1, h2.2.1⟩
  · obtain ⟨_, hd, xs, _, dd⟩ := dt_rd I.hok e
    refine ⟨dd.typeIs, fun b q => ?_, hd⟩
    cases q
    obtain ⟨ob, _, _, h1, h2, _⟩ := dd
    exact ⟨ob, h1, h2.2.1⟩

section
variable {X : Cx} {pins : List (Addr × Obj)} {σ : St} {H : Hp} {s : Shared} {a : Addr} {y d : V} {u r : Value} {o : Option V} {A : Around} {E : Value → Shared → Prop}
/-- d.get(y, x) -/
theorem d_get2 {Q : Value → Shared → Prop} (hu : A.units + 1 < cLine) (I : Inv X pins σ H s) (g : DGet H a y o) (ry : RelV y u) (rd : RelV d r) (h : ∀ w' s', Inv X pins σ H s' → RelV (o.getD d) w' → Q w' s') :
    wpAny (model X.prog X.w) A (call (.builtin "dict.get") [.ref a, u, r]) Q E s := by
  rcases g with ⟨kvs, k, e, ey, l⟩ | ⟨kvs, k, b, e, ey, eb, l⟩
  · subst ey
    obtain ⟨z, hd, vs, rel, dd⟩ := dk_rd I.hok e
    refine call_meetsIn PySem.F.slot_dict_get dd.typeIs PySem.F.entry_dict_get (PySem.F.args_dict_get_3 _ _ _) (meets_dict_get_default (mixKind X.prog X.w) a (kV_is ry) hd r) ⟨_, dd.mapOf, h _ _ (I.tok _) ?_⟩
    rw [l]
    exact (rel.val k).getD rd
  · subst ey
    cases (show u = Value.ref b from ry)
    obtain ⟨z, hd, xs, rel, dd⟩ := dt_rd I.hok e
    refine call_meetsIn PySem.F.slot_dict_get dd.typeIs PySem.F.entry_dict_get (PySem.F.args_dict_get_3 _ _ _) (meetsH_dict_get_default (tupleKind (mixKind X.prog X.w)) a b hd r) ⟨tupleKind_room_in1 hu, k, xs, key_of I.hok eb, dd, h _ _ (I.tok _) ?_⟩
    rw [l]
    exact (rel.val k).getD rd
end

def tDGet2 (td ty tx : TE) : TE := fun σ H Q => td σ H fun x H1 => ∃ a, x = .ref a ∧ IsD H1 a ∧ ty σ H1 fun y H2 => tx σ H2 fun z H3 => ∃ o, DGet H3 a y o ∧ Q (o.getD z) H3
section
variable {X : Cx} {o e f : Expr} {apos cpos : Pos} {td ty tx : TE}
theorem pe_dget2 (hu : X.A.units + 1 < cLine) (ho : PE X o td) (he : PE X e ty) (hf : PE X f tx) (m : M2 X o "get" apos e f cpos) : PE X (.Call (.Attribute o "get" apos) [e, f] [] cpos) (tDGet2 td ty tx) := by
  intro pins s σ H Q I h
  refine wpAny_Call_method m.base m.few m.line PySem.F.plainAttrs_dict PySem.F.slot_dict_get PySem.F.type_dict_get (thn (ho pins s σ H _ I h) fun u s1 ⟨x, H1, I1, rx, a, ex, d, q1⟩ => ?_)
  subst ex
  obtain rfl : u = Value.ref a := rx
  obtain ⟨t1, t2, _⟩ := isD_at I1 d
  refine ⟨t1, t2, ?_⟩
  rw [m.trees]
  refine Calls.callWith_builtin rfl (Calls.evalArgs_plain (Calls.spliced_cons (thn (he pins s1 σ H1 _ I1 q1) fun iv s2 ⟨y, H2, I2, ry, q2⟩ =>
    Calls.spliced_cons (thn (hf pins s2 σ H2 _ I2 q2) fun fv s3 ⟨z, H3, I3, rz, ov, g, q3⟩ => Calls.spliced_nil ?_))))
  exact d_get2 hu I3 g ry rz fun w' s4 I4 rw' => ⟨_, H3, I4, rw', q3⟩
end

/-! ### dict(d): a copy -/
section
variable {X : Cx} {pins : List (Addr × Obj)} {σ : St} {H : Hp} {s : Shared} {a : Addr} {kvs : List (Key × V)} {A : Around} {E : Value → Shared → Prop}
end


section
variable {X : Cx} {pins : List (Addr × Obj)} {σ : St} {H : Hp} {s : Shared} {a : Addr} {y : V} {u : Value} {A : Around} {E : Value → Shared → Prop}
end
end L2

namespace Att
open PySem PySem.W PySem.Calls PyProof.Rows

/-! ### the script -/
theorem ints_of_wellAll {P : Params} {h : Heap} : ∀ (ns : List Int) (vs : List Value), WellAll P h vs (ns.map WData.int) → IntsAre vs ns := by
  intro ns
  induction ns with
  | nil =>
    intro vs w
    rw [List.map_nil] at w
    cases w
    exact .nil
  | cons n ns ih =>
    intro vs w
    rw [List.map_cons] at w
    cases w with
    | cons a b =>
      cases a
      exact .cons _ _ (ih _ b)

theorem script_of {l : OpenLaw} {n : Nat} (hn : l.most = some n) {P : Params} {h : Heap} {args : List WData} {vals : List Value}
    (hpre : l.row.toRowW.claim.pre args = true) (hwl : WellAll P h vals args) :
    ∃ a vs ns, vals = [Value.ref a] ∧ args = [WData.list (ns.map WData.int)] ∧ h.get? a = some { cls := .type "list", data := .seq vs.toArray } ∧ IntsAre vs ns ∧ ns.length ≤ n := by
  have hsh : WShape.hasAll [] args [.list .int] = true := (pre_splitW hpre).1
  have hc : l.pre.holds [] { args := args } = true := (pre_splitW hpre).2
  obtain ⟨d, r, rfl, h1, h2⟩ := hasAllW_cons hsh
  obtain rfl := hasAllW_nil h2
  obtain ⟨xs, rfl, h3⟩ := hasW_list h1
  obtain ⟨ns, rfl⟩ := items_int h3
  have hlen : ns.length ≤ n := by
    unfold OpenLaw.pre at hc
    have h4 : (WTm.not (.lt (.lit (.int (n : Int))) (.len (.arg 0)))).holds [] { args := [.list (ns.map .int)] } = true := by
      have h4 := (holds_andW hc).1
      rw [hn] at h4
      exact h4
    have h5 := condW_of h4 (w_not (w_lt w_lit (w_len_list (w_arg rfl))))
    rw [List.length_map] at h5
    refine Nat.le_of_not_lt fun q => ?_
    have q' : (n : Int) < ((ns.length : Nat) : Int) := by omega
    first
      | (rw [decide_eq_true q'] at h5; exact absurd h5 (by decide))
      | (simp at h5; omega)
  cases hwl with
  | cons w1 w2 =>
    cases w2
    cases w1 with
    | list ho hall => exact ⟨_, _, ns, rfl, rfl, ho, ints_of_wellAll ns _ hall, hlen⟩

theorem post_true (l : OpenLaw) (args : List WData) : l.row.toRowW.claim.post args (.bool true) args = true :=
  postW_of (r := l.row.toRowW) (X := (true == true))
    (show WShape.has [] (.bool true) .bool = true by first | rfl | decide | simp [WShape.has, WShape.arms, WShape.armsAll])
    (show (WTm.eq .res (.lit (.bool true))).value [] { args := args, res := some (.bool true), after := args } = some (.bool (true == true)) from w_eq_bool (w_res rfl) w_lit) rfl

/-! ### the attachment: holds_open's last premise (the goal 'hc' behind k_head) from a wpAny of the law's body -/
/-- the same from a codeAny of the CALL (for a layer whose function contracts speak of calls) -/
theorem attach_call {l : OpenLaw} {n : Nat} {q : Program} {loose : List Str} {XP : (Str → Option Value) → Heap → Prop} {YP : World → Heap → Prop} {d : DefRec}
    (hn : l.most = some n) (hdf : d.params.defaults = [])
    (call : ∀ (w : World) (s₀ s₁ : Shared) (mg mb : Str → Option Value) (fa : Addr) (o : Obj) (pm cd doc : Value) (a : Addr) (vs : List Value) (ns : List Int),
      Ground q loose [] XP w s₀ mg mb s₁.heap → YP w s₁.heap →
      s₁.heap.get? fa = some o → o.data = .func (docDef d.name d.params d.body d.scope pm cd doc) → s₁.heap.CodeRec cd d.name → mg d.name = some (.ref fa) →
      s₁.heap.get? a = some { cls := .type "list", data := .seq vs.toArray } → IntsAre vs ns → ns.length ≤ n → s₁.gens = #[] →
      codeAny (model l.prog w) callerA (.call (.ref fa) ⟨[.ref a], []⟩) (fun r s' => r = .ok (.ret (.bool true)) ∧ OldK s₁.heap s'.heap ∧ s'.os = s₁.os ∧ AllBare s'.gens) s₁) :
    WalkO q loose XP YP l.row.toRowW d [] (fun f vs => PySem.call f vs) := by
  intro w s₀ s₁ mg mb G Y fa o pm cd doc dV kV ho hd hcd hD hmg hg args vals as hpre hlay hrd hwl hlo
  obtain rfl : dV = .none := Dflts.none hD hdf
  obtain rfl : kV = .none := Dflts.noKw hD
  obtain ⟨a, vs, ns, rfl, rfl, hobj, hints, hlen⟩ := script_of hn hpre hwl
  refine enter_call (codeAny_mono (call w s₀ s₁ mg mb fa o pm cd doc a vs ns G Y ho (fd_plain hd) hcd hmg hobj hints hlen hg) fun r s' hq => ?_)
  obtain ⟨rfl, h2, h3, h4⟩ := hq
  exact ⟨.inl ⟨.bool true, .bool true, [], rfl, fun _ => rfl, .bool true, post_true l _, fun _ => ⟨List.Pairwise.nil, fun _ hm => (nomatch hm)⟩⟩, h2, h3, h4⟩

/-! ### rules over ANY heap (no ledger) from facts about the written part K: the library's own take a ledger (News) for what they write -/
section
variable {prog : Program} {w : World} {A : Around} {E : Value → Shared → Prop} {s : Shared} {K : Frag}

/-! the whole heap as the ledger: makes every rule that writes through a ledger a rule over any heap -/
end
end Att

namespace L2
open PySem PySem.Spec PyProof.Rows

theorem vals_ints : ∀ {vs : List Value} {ns : List Int}, IntsAre vs ns → Vals (ns.map V.int) vs
  | _, _, .nil => .nil
  | _, _, .cons n t h => .cons ⟨t, rfl⟩ (vals_ints h)

/-- nothing is tracked but the script, known to the object (or it is an object of the module) -/
def Only (H : Hp) : Prop := ∀ b, H b = none ∨ ∃ o xs, H b = some (.frz o (.lst xs))

/-- THE HEAD: the law's promise, at the heap behind the top. F, the promise of the law's def, may use that base is part of the heap (so K.In base, base.Ns mainGlobals mg stand in Mod) -/
theorem law_call {P : Program} {w : World} {K : PySem.W.Frag} {mg mb : Str → Option Value} {CX : CXT} {k : Nat} {fa a : Addr} {fd : FuncData} {x : Str} {sp : Sp} {s₁ : Shared} {vs : List Value} {ns : List Int}
    (KX : K.In s₁.heap) (hns : s₁.heap.Ns mainGlobals mg) (hb : s₁.heap.Ns builtinsNs mb) (hbb : ∀ x : Str, x ≠ "__name__" → mb x = bootBuiltins x) (hlim : s₁.heap.NoLimit) (hg : s₁.gens = #[])
    (ha : s₁.heap.get? a = some { cls := .type "list", data := .seq vs.toArray }) (hi : IntsAre vs ns) (hl : ns.length ≤ sizeLine) (hr : Room k callerA)
    (F : ∀ base : Heap, K.In base → base.Ns mainGlobals mg → FnOk P w K mg base CX k fa fd [x] sp) (hbind : ∀ (s : Shared) (u : Value), BindsTo s fd ⟨[u], []⟩ [(x, u)])
    (hsp : ∀ H : Hp, Only H → SqL K H a (ns.map V.int) → sp [.ref a] H (fun v _ => v = .bl true) fun _ _ _ => False)
    (hCX : ∀ H e s', CX [] H s₁ (fun _ _ _ => False) e s' → False) :
    codeAny (model P w) callerA (.call (.ref fa) ⟨[.ref a], []⟩) (fun r s' => r = .ok (.ret (.bool true)) ∧ OldK s₁.heap s'.heap ∧ s'.os = s₁.os ∧ AllBare s'.gens) s₁ := by
  have rv := vals_ints hi
  have lenV := hi.length
  -- from an abstract heap in which nothing but the script may be tracked
  have core : ∀ H : Hp, Only H → SqL K H a (ns.map V.int) → HOk P w H s₁.heap → (∀ b, H b ≠ none → b = a) → (H a ≠ none → K.lookup a = none) →
      codeAny (model P w) callerA (.call (.ref fa) ⟨[.ref a], []⟩) (fun r s' => r = .ok (.ret (.bool true)) ∧ OldK s₁.heap s'.heap ∧ s'.os = s₁.os ∧ AllBare s'.gens) s₁ := by
    intro H hO hS hok hA hK
    have base_of : ∀ {b : Addr} {o : Obj}, s₁.heap.get? b = some o → H b = none → (hidT s₁.heap H).get? b = some o := fun e n => hidT_get e n
    have noA : ∀ {b : Addr} {o : Obj} {es : Array DictEntry} {ep : Nat}, s₁.heap.get? b = some o → o.data = .dict es ep → H b = none := fun {b o es ep} e d => by
      cases q : H b with
      | none => rfl
      | some u =>
        have e' : b = a := hA b (by rw [q]; simp)
        subst e'
        rw [ha] at e; cases e
        have d' : Data.seq vs.toArray _ = Data.dict es ep := d
        cases d'
    have nsK : ∀ {b : Addr} {m : Str → Option Value}, s₁.heap.Ns b m → (hidT s₁.heap H).Ns b m := fun {b m} ⟨o, es, ep, e, d, r⟩ => ⟨o, es, ep, base_of e (noA e d), d, r⟩
    have hKb : K.In (hidT s₁.heap H) := fun b o e => base_of (KX b o e) (by
      cases q : H b with
      | none => rfl
      | some u =>
        have e' : b = a := hA b (by rw [q]; simp)
        subst e'
        rw [hK (by rw [q]; simp)] at e; cases e)
    have hM : Mod K mg (hidT s₁.heap H) := ⟨hKb, nsK hns, ⟨mb, nsK hb, hbb⟩, let ⟨mc, h1, h2⟩ := hlim; ⟨mc, nsK h1, h2⟩⟩
    have e0 : Env0 P w K mg (hidT s₁.heap H) callerA [] s₁ H := ⟨rfl, hM, fun b o e => of_hidT e, Nat.le_of_eq (hidT_size _ _), trivial, fun b hb => absurd (show b ∈ ([] : List Addr) from hb) (by simp), hok, .of_eq hg⟩
    refine codeAny_mono ((F _ hKb (nsK hns)).run callerA [] s₁ H ⟨[.ref a], []⟩ [.ref a] [.ref a] _ _ hr e0 (hbind s₁ (.ref a)) (.cons rfl .nil) (hsp H hO hS)) fun r s' h => ?_
    cases r with
    | error e => exact (hCX H e s' h).elim
    | ok fl =>
      cases fl with
      | next => exact False.elim h
      | brk => exact False.elim h
      | cont => exact False.elim h
      | ret u =>
        obtain ⟨v, H', os, bare, un, hok', r', q⟩ := h
        have q' : v = .bl true := q
        subst q'
        obtain rfl : u = Value.bool true := r'
        refine ⟨rfl, OldK.of_keep fun b o e => ?_, os, bare⟩
        cases q : H b with
        | none => exact un.keep b o e q (by intro z; exact absurd (show b ∈ ([] : List Addr) from z) (by simp)) (by simp)
        | some u =>
          rcases hO b with z | ⟨ob, xs, z⟩
          · rw [q] at z; cases z
          · have z2 := un.frzs b ob _ z
            obtain ⟨e1, _⟩ := hok b _ z
            obtain ⟨e2, _⟩ := hok' b _ z2
            rw [e] at e1; cases e1
            exact e2
  cases hk : K.lookup a with
  | some o =>
    -- the script is one of the module's own objects
    have e := KX a o hk
    rw [ha] at e
    cases e
    refine core (fun _ => none) (fun _ => .inl rfl) (.inr ⟨_, vs.toArray, _, hk, rfl, rfl, rfl, by rw [List.size_toArray, lenV]; exact hl, by simpa using rv⟩) (fun b u z => by have z' : (none : Option HO) = some u := z; cases z') (fun b z => absurd rfl z) fun z => absurd rfl z
  | none =>
    refine core (fun b => if b = a then some (.frz { cls := .type "list", data := .seq vs.toArray } (.lst (ns.map V.int))) else none) (fun b => ?_) (.inl (.inr ⟨{ cls := .type "list", data := .seq vs.toArray }, if_pos rfl⟩)) (fun b u z => ?_) (fun b z => ?_) fun _ => hk
    · by_cases hb : b = a
      · exact .inr ⟨_, _, if_pos hb⟩
      · exact .inl (if_neg hb)
    · by_cases hb : b = a
      · have z' := (if_pos hb).symm.trans z
        cases z'
        subst hb
        exact ⟨ha, by rw [List.length_map]; exact hl, vs, _, rv, ha⟩
      · have z' := (if_neg hb).symm.trans z
        cases z'
    · by_cases hb : b = a
      · exact hb
      · exact absurd (if_neg hb) z
end L2

namespace L2
open PySem PySem.Spec PyProof.Rows

/-- the goal that k_head leaves (case hc), from the law's promise. F gives the function object fd (K's own) once, then the promise over every base -/
theorem walk_of {l : PySem.W.OpenLaw} {n k : Nat} {q : Program} {loose : List Str} {XP : (Str → Option Value) → Heap → Prop} {YP : World → Heap → Prop} {d : DefRec} {K : Params → PySem.W.Frag} {CX : World → CXT} {sp : World → Sp} {x : Str}
    (hn : l.most = some n) (hn2 : n ≤ sizeLine) (hdf : d.params.defaults = []) (hr : Room k callerA)
    (hY : ∀ (w : World) (h : Heap), YP w h → (K w.params).In h)
    (F : ∀ (w : World) (mg : Str → Option Value) (fa : Addr) (h : Heap), (K w.params).In h → h.Ns mainGlobals mg → mg d.name = some (.ref fa) →
      ∃ fd : FuncData, (∀ (s : Shared) (u : Value), BindsTo s fd ⟨[u], []⟩ [(x, u)]) ∧
        ∀ base : Heap, (K w.params).In base → base.Ns mainGlobals mg → FnOk l.prog w (K w.params) mg base (CX w) k fa fd [x] (sp w))
    (hsp : ∀ (w : World) (H : Hp) (a : Addr) (ns : List Int), ns.length ≤ n → Only H → SqL (K w.params) H a (ns.map V.int) → sp w [.ref a] H (fun v _ => v = .bl true) fun _ _ _ => False)
    (hCX : ∀ (w : World) (H : Hp) (s : Shared) (e : Value) (s' : Shared), CX w [] H s (fun _ _ _ => False) e s' → False) :
    PySem.W.WalkO q loose XP YP l.row.toRowW d [] (fun f vs => PySem.call f vs) := by
  refine Att.attach_call hn hdf fun w s₀ s₁ mg mb fa o pm cd doc a vs ns G Y ho hd hcd hmg hobj hints hlen hg => ?_
  have KX := hY w _ Y
  obtain ⟨fd, hb, hF⟩ := F w mg fa _ KX G.T.g hmg
  exact law_call KX G.T.g G.T.b G.T.builtins G.T.nolimit hg hobj hints (Nat.le_trans hlen hn2) hr hF hb (fun H hO hS => hsp w H a ns hlen hO hS) fun H e s' => hCX w H s₁ e s'
end L2

/- THE LAST THEOREM (shape; LID, My.* are yours):
   My.Adr: a structure of the addresses that your layer names (classes, functions); My.Txt K t: a structure (Prop) of the equations over K;
   My.txt_mk : {K} {implicit addresses ..} (e1 : nsIn K mainGlobals "law" = some (some (.ref f))) (e2 : K.lookup f = some ⟨oc, od, .func (fnOf "law" "law" params body scope dV kV doc pm an cdv ct), sl⟩) (e3 : codeIn K cdv "law" = true) .. : ∃ t, My.Txt K t

set_option maxRecDepth 100000 in
set_option maxHeartbeats 0 in
theorem PySem.Challenge.cw_LID_holds : PySem.Challenge.rw_LID.Holds := by
  w_on; o_law; k_head; (case hw => w_witness2)
  k_fill
  refine L2.walk_of (l := PySem.Challenge.rw_LID) (n := 63) (k := 40) (x := "script") (CX := fun w => ..) (sp := fun _ => My.sp_law) rfl (by decide) rfl ⟨rfl, by decide, by decide⟩ (fun w h Y => PySem.W.kIn_of Y) ?F ?S ?C
  case F =>
    intro w mg fa h KX G hmg
    have T : ∃ t, My.Txt (L2.KOf KX) t := by
      dsimp only [L2.KOf]                          -- K must stand as «<heap const> w.params» for k_is
      refine' My.txt_mk ?e1 ?e2 ?e3 ..
      (case e1 => PySem.W.k_is)                    -- in the order: a name -> its address -> its object -> its parts
      (case e2 => PySem.W.k_is)
      ..
    obtain ⟨t, T⟩ := T
    have e0 := hmg.symm.trans (PySem.W.mg_of KX G T.law)
    cases e0                                       -- fa is the law's own address
    exact ⟨_, fun s u => .of_eq rfl, fun base kb nb => My.law_fn T kb nb⟩     -- if «.of_eq rfl» comes too early: refine' ⟨_, ?b, fun base kb nb => My.law_fn T kb nb⟩; exact fun s u => .of_eq rfl
  case S => exact fun w H a ns hl hO hS => ..
  case C => exact ..
(the tactic k_is has no namespace: write k_is) -/

/-! SHORT WORDS over the layer: a def of the text, its body, what a loop and a test want. -/
namespace L2
open PySem PySem.Spec PyProof.Rows

/-! ### the text by places -/
def defArgs (s : Stmt) : Arguments := match s with
  | .FunctionDef _ a _ _ _ _ _ _ _ _ => a
  | _ => { posonlyargs := [], args := [], vararg := none, kwonlyargs := [], kw_defaults := [], kwarg := none, defaults := [] }
def defBody (s : Stmt) : List Stmt := match s with
  | .FunctionDef _ _ b _ _ _ _ _ _ _ => b
  | _ => []
def defScope (s : Stmt) : Scope := match s with
  | .FunctionDef _ _ _ _ _ _ sc _ _ _ => sc
  | _ => { kind := .function, names := [], isGenerator := false, isCoroutine := false }

/-! ### no exception leaves a def -/
abbrev CX0 : CXT := fun _ _ _ _ _ _ => False
abbrev E0 : XK := fun _ _ _ => False
theorem pass0 {X : Cx} : Passes CX0 X E0 := fun _ _ _ _ _ _ _ h => h.elim

/-! ### a def (or method) of the text as it stands behind the top -/
section
variable {P : Program} {w : World} {K : PySem.W.Frag} {mg : Str → Option Value} {base : Heap}
end
theorem hu_of {A : Around} {k : Nat} (hr : Room k A) : A.units + 1 < cLine := Nat.lt_of_le_of_lt (Nat.add_le_add_left (by decide : 1 ≤ 64) _) hr.units
/-! ### expressions in short: the name that stands in the i-th slot -/
section
variable {X : Cx}
theorem pv (i : Nat) {x : Str} {pos : Pos} (hN : X.N[i]? = some x := by rfl) (hv : Vis X.env.scope x := by first | exact Or.inl rfl | exact Or.inr (Or.inl rfl) | exact Or.inr (Or.inr rfl)) (hd : (x == ("__debug__" : Str)) = false := by decide)
    (hcd : (x == ("__classdict__" : Str)) = false := by decide) : PE X (.Name x pos) (tVar i) := pe_var hN hv hd hcd
end

/-! ### tests -/
theorem iteF {A B : Prop} (h : B) : if false = true then A else B := by
  rw [if_neg Bool.false_ne_true]
  exact h
theorem iteT {A B : Prop} (h : A) : if true = true then A else B := by
  rw [if_pos rfl]
  exact h
/-! ### heaps -/
/-- all that was tracked is as it was -/
def Same (H H' : Hp) : Prop := ∀ b o, H b = some o → H' b = some o
theorem Same.refl (H : Hp) : Same H H := fun _ _ h => h
theorem Same.trans {H H1 H2 : Hp} (a : Same H H1) (b : Same H1 H2) : Same H H2 := fun c o h => b c o (a c o h)
theorem Same.free {H H' : Hp} (e : Same H H') {l : Addr} (h : H' l = Option.none) : H l = Option.none := by
  cases q : H l with
  | none => rfl
  | some o =>
    rw [e l o q] at h
    cases h
theorem Same.seq {K : PySem.W.Frag} {H H' : Hp} {a : Addr} {xs : List V} (e : Same H H') (h : SqL K H a xs) : SqL K H' a xs := by
  rcases h with (h | ⟨o, h⟩) | h
  · exact .inl (.inl (e _ _ h))
  · exact .inl (.inr ⟨o, e _ _ h⟩)
  · exact .inr h

end L2
set_option Elab.async false
set_option linter.all false
set_option maxRecDepth 100000
namespace L2
open PySem PySem.Spec PyProof.Rows
section
variable {X : Cx}
theorem op_mulB : OpR X (binaryOp .Mult) (rI (fun i j => IntMulOk i j) fun i j => .int (i * j)) := opI fun _ _ _ _ _ _ _ hc q => mul_int q hc
theorem op_fdivB : OpR X (binaryOp .FloorDiv) (rI (fun i j => j ≠ 0 ∧ Builtin.divisionGoesByPylong i j = false) fun i j => .int (i.fdiv j)) := opI fun _ _ _ _ _ _ _ hc q => floordiv_int hc.1 q (.inl hc.2)
theorem op_powB : OpR X (binaryOp .Pow) (rI (fun i j => 0 ≤ j ∧ (Builtin.Int.intBits i : Int) * j ≤ 2 ^ 27) fun i j => .int (i ^ j.toNat)) := opI fun _ _ _ _ _ _ _ hc q => pow_int hc.1 hc.2 q
theorem isi_int_int : CallR X (.builtin "isinstance") (fun xs H Q => ∃ i, xs = [.int i, .ty "int"] ∧ Q (.bl true) H) := by
  intro pins s σ H xs us Q I r h
  obtain ⟨i, rfl, q⟩ := h
  obtain ⟨u, w', rfl, ⟨t, rfl⟩, e2⟩ := vals2 r
  cases e2
  exact PySem.call_isinstance (PySem.isinstance_true (Tx := "int") PySem.F.isi_meta_int PySem.F.isi_self_int) ⟨rfl, ⟨.bl true, H, I, rfl, q⟩⟩
theorem isi_int_bool : CallR X (.builtin "isinstance") (fun xs H Q => ∃ i, xs = [.int i, .ty "bool"] ∧ Q (.bl false) H) := by
  intro pins s σ H xs us Q I r h
  obtain ⟨i, rfl, q⟩ := h
  obtain ⟨u, w', rfl, ⟨t, rfl⟩, e2⟩ := vals2 r
  cases e2
  exact PySem.call_isinstance (PySem.isinstance_false_int (T := "bool") (by decide) PySem.F.isi_meta_bool PySem.F.sub_int_bool) ⟨.bl false, H, I.tok _, rfl, q⟩
theorem isi_bl_bool : CallR X (.builtin "isinstance") (fun xs H Q => ∃ i, xs = [.bl i, .ty "bool"] ∧ Q (.bl true) H) := by
  intro pins s σ H xs us Q I r h
  obtain ⟨i, rfl, q⟩ := h
  obtain ⟨u, w', rfl, e1, e2⟩ := vals2 r
  cases e1
  cases e2
  exact PySem.call_isinstance (PySem.isinstance_true (Tx := "bool") PySem.F.isi_meta_bool PySem.F.isi_self_bool) ⟨rfl, ⟨.bl true, H, I, rfl, q⟩⟩
theorem isi_tup_tup : CallR X (.builtin "isinstance") (fun xs H Q => ∃ a ys, xs = [.ref a, .ty "tuple"] ∧ SqT X.K H a ys ∧ Q (.bl true) H) := by
  intro pins s σ H xs us Q I r h
  obtain ⟨a, ys, rfl, hs, q⟩ := h
  obtain ⟨u, w', rfl, e1, e2⟩ := vals2 r
  cases e1
  cases e2
  obtain ⟨its, _, p1, _⟩ := I.tuple hs
  exact PySem.call_isinstance (PySem.isinstance_true (Tx := "tuple") PySem.F.isi_meta_tuple PySem.F.isi_self_tuple) ⟨p1.typeIs, ⟨.bl true, H, I, rfl, q⟩⟩
end
end L2
set_option Elab.async false
set_option linter.all false
set_option maxRecDepth 100000
namespace Sw
open PySem
/-! ### sizes -/
def Bd (n : Nat) (x : Int) : Prop := x.natAbs < 2 ^ n
theorem Bd.mono {m n : Nat} {x : Int} (h : Bd m x) (e : m ≤ n) : Bd n x := Nat.lt_of_lt_of_le h (Nat.pow_le_pow_right (by decide) e)
theorem Bd.of_le {n : Nat} {x y : Int} (h : Bd n y) (e : x.natAbs ≤ y.natAbs) : Bd n x := Nat.lt_of_le_of_lt e h
theorem Bd.mul {m n : Nat} {x y : Int} (h : Bd m x) (g : Bd n y) : Bd (m + n) (x * y) := by
  unfold Bd at *
  rw [Int.natAbs_mul, Nat.pow_add]
  exact Nat.mul_lt_mul_of_lt_of_le h (Nat.le_of_lt g) (Nat.lt_of_le_of_lt (Nat.zero_le _) g)
theorem Bd.add {k : Nat} {x y : Int} (h : Bd k x) (g : Bd k y) : Bd (k + 1) (x + y) := by
  unfold Bd at *
  rw [Nat.pow_succ]
  generalize 2 ^ k = p at h g ⊢
  omega
theorem Bd.ok {m n : Nat} {x y : Int} (h : Bd m x) (g : Bd n y) (e : m + n ≤ 134217728 := by decide) : IntMulOk x y :=
  IntMulOk.of_le (intBits_le_iff.mpr h) (intBits_le_iff.mpr g) e
theorem Bd.div {n : Nat} {x y : Int} (h : Bd n y) (y0 : y ≠ 0) (e : n ≤ 9000 := by decide) : Builtin.divisionGoesByPylong x y = false := by
  refine PyProof.noPylong_of_log2 ((Nat.log2_lt (by omega)).mpr ?_)
  exact Nat.lt_of_lt_of_le h (Nat.pow_le_pow_right (by decide) e)
/-! ### divisors -/
def gcdI (a b : Int) : Int := ((Int.gcd a b : Nat) : Int)
theorem gcdI_nn (a b : Int) : 0 ≤ gcdI a b := Int.natCast_nonneg _
theorem gcdI_neg_l (a b : Int) : gcdI (-a) b = gcdI a b := by unfold gcdI; rw [Int.neg_gcd]
theorem gcdI_neg_r (a b : Int) : gcdI a (-b) = gcdI a b := by unfold gcdI; rw [Int.gcd_neg]
theorem gcdI_fmod {g l : Int} (hl : 0 < l) : gcdI l (g.fmod l) = gcdI g l := by
  unfold gcdI
  have e : g.fmod l = g - (g.fdiv l) * l := by rw [Int.fmod_def, Int.mul_comm]
  rw [e, Int.gcd_comm l, Int.gcd_sub_mul_right_left]
def absI (i : Int) : Int := if i < 0 then -i else i
theorem absI_nn (i : Int) : 0 ≤ absI i := by unfold absI; split <;> omega
theorem gcdI_abs (a b : Int) : gcdI (absI a) (absI b) = gcdI a b := by
  unfold absI
  split <;> split <;> simp only [gcdI_neg_l, gcdI_neg_r]
theorem gcdI_zero {g : Int} (h : 0 ≤ g) : gcdI g 0 = g := by
  unfold gcdI; rw [Int.gcd_zero_right]; omega
theorem gcdI_eq_zero {a b : Int} (h : gcdI a b = 0) : a = 0 ∧ b = 0 := by
  unfold gcdI at h
  exact Int.gcd_eq_zero_iff.mp (by omega)
theorem gcdI_dvd_l (a b : Int) : gcdI a b ∣ a := Int.gcd_dvd_left ..
theorem gcdI_dvd_r (a b : Int) : gcdI a b ∣ b := Int.gcd_dvd_right ..
/-! ### fractions -/
structure Fr (p q a b : Int) : Prop where
  pos : 0 < q
  low : gcdI p q = 1
  same : p * b = a * q
  bt : p.natAbs ≤ a.natAbs
  bb : q.natAbs ≤ b.natAbs
structure Low (p q : Int) : Prop where
  pos : 0 < q
  low : gcdI p q = 1
theorem coprime_dvd {p q k : Int} (h : gcdI p q = 1) (d : q ∣ p * k) : q ∣ k := by
  have c : Int.gcd q p = 1 := by unfold gcdI at h; rw [Int.gcd_comm]; omega
  have d' : q.natAbs ∣ p.natAbs * k.natAbs := by rw [← Int.natAbs_mul]; exact Int.natAbs_dvd_natAbs.mpr d
  exact Int.natAbs_dvd_natAbs.mp (Nat.Coprime.dvd_of_dvd_mul_left (show Nat.Coprime q.natAbs p.natAbs from c) d')
theorem low_unique {p q p' q' : Int} (h : Low p q) (h' : Low p' q') (e : p * q' = p' * q) : p = p' ∧ q = q' := by
  have d1 : q ∣ q' := coprime_dvd h.low (by rw [e]; exact Int.dvd_mul_left ..)
  have d2 : q' ∣ q := coprime_dvd h'.low (by rw [← e]; exact Int.dvd_mul_left ..)
  have eq : q = q' := by
    have n1 := Int.le_of_dvd h'.pos d1
    have n2 := Int.le_of_dvd h.pos d2
    omega
  subst eq
  exact ⟨Int.eq_of_mul_eq_mul_right (by have := h.pos; omega) e, rfl⟩
def frC (a b : Int) : Int := if b < 0 then -gcdI a b else gcdI a b
theorem frC_ne {a b : Int} (h : b ≠ 0) : frC a b ≠ 0 := by
  have g : gcdI a b ≠ 0 := fun z => h (gcdI_eq_zero z).2
  unfold frC; split <;> omega
theorem fr_of {a b : Int} (h : b ≠ 0) : Fr (a.fdiv (frC a b)) (b.fdiv (frC a b)) a b := by
  have g : gcdI a b ≠ 0 := fun z => h (gcdI_eq_zero z).2
  have p : 0 < gcdI a b := by have := gcdI_nn a b; omega
  have c0 := frC_ne (a := a) h
  have da : frC a b ∣ a := by
    unfold frC; split
    · exact Int.neg_dvd.mpr (gcdI_dvd_l a b)
    · exact gcdI_dvd_l a b
  have db : frC a b ∣ b := by
    unfold frC; split
    · exact Int.neg_dvd.mpr (gcdI_dvd_r a b)
    · exact gcdI_dvd_r a b
  obtain ⟨x, hx⟩ := da
  obtain ⟨y, hy⟩ := db
  have ex : a.fdiv (frC a b) = x := by
    conv => lhs; arg 1; rw [hx]
    exact Int.mul_fdiv_cancel_left x c0
  have ey : b.fdiv (frC a b) = y := by
    conv => lhs; arg 1; rw [hy]
    exact Int.mul_fdiv_cancel_left y c0
  rw [ex, ey]
  have yp : 0 < y := by
    have e := hy
    unfold frC at e
    rcases (by omega : y < 0 ∨ y = 0 ∨ 0 < y) with q | q | q
    · exfalso
      split at e
      · rename_i hb
        have := Int.mul_neg_of_pos_of_neg p q
        rw [Int.neg_mul] at e
        omega
      · have := Int.mul_neg_of_pos_of_neg p q
        omega
    · rw [q] at hy; omega
    · exact q
  have lowx : gcdI x y = 1 := by
    have m : gcdI (frC a b * x) (frC a b * y) = gcdI a b * gcdI x y := by
      show ((Int.gcd _ _ : Nat) : Int) = _ * ((Int.gcd x y : Nat) : Int)
      rw [Int.gcd_mul_left, Int.natCast_mul]
      congr 1
      unfold frC; split <;> omega
    rw [← hx, ← hy] at m
    exact Int.eq_one_of_mul_eq_self_right g m.symm
  refine ⟨yp, lowx, ?_, ?_, ?_⟩
  · conv => lhs; rw [hy]
    conv => rhs; rw [hx]
    rw [← Int.mul_assoc, Int.mul_comm x]
  · have : a.natAbs = (frC a b).natAbs * x.natAbs := by conv => lhs; rw [hx]; rw [Int.natAbs_mul]
    rw [this]
    exact Nat.le_mul_of_pos_left _ (by omega)
  · have : b.natAbs = (frC a b).natAbs * y.natAbs := by conv => lhs; rw [hy]; rw [Int.natAbs_mul]
    rw [this]
    exact Nat.le_mul_of_pos_left _ (by omega)
end Sw
set_option Elab.async false
set_option linter.all false
set_option maxRecDepth 100000
namespace L2
open PySem
inductive Isi (K : PySem.W.Frag) (H : Hp) : V → String → Bool → Prop where
  | ii (i : Int) : Isi K H (.int i) "int" true
  | ib (i : Int) : Isi K H (.int i) "bool" false
  | bb (b : Bool) : Isi K H (.bl b) "bool" true
  | tt (a : Addr) (ys : List V) (h : SqT K H a ys) : Isi K H (.ref a) "tuple" true
theorem call_isi {X : Cx} : CallR X (.builtin "isinstance") (fun xs H Q => ∃ x T b, xs = [x, .ty T] ∧ Isi X.K H x T b ∧ Q (.bl b) H) := by
  intro pins s σ H xs us Q I r h
  obtain ⟨x, T, b, rfl, i, q⟩ := h
  cases i with
  | ii i => exact isi_int_int pins s σ H _ us Q I r ⟨i, rfl, q⟩
  | ib i => exact isi_int_bool pins s σ H _ us Q I r ⟨i, rfl, q⟩
  | bb i => exact isi_bl_bool pins s σ H _ us Q I r ⟨i, rfl, q⟩
  | tt a ys h => exact isi_tup_tup pins s σ H _ us Q I r ⟨a, ys, rfl, h, q⟩
end L2
namespace Sw
open PySem L2
theorem dT {p A B : Prop} [Decidable p] (h : p) (a : A) : if decide p = true then A else B := by rw [if_pos (decide_eq_true h)]; exact a
theorem dF {p A B : Prop} [Decidable p] (h : ¬ p) (b : B) : if decide p = true then A else B := by rw [if_neg (by simp [h])]; exact b
theorem d2 {p A B : Prop} [Decidable p] (h1 : p → A) (h2 : ¬ p → B) : if decide p = true then A else B := by
  by_cases h : p
  · exact dT h (h1 h)
  · exact dF h (h2 h)
theorem nT {p A B : Prop} [Decidable p] (h : ¬ p) (a : A) : if (!decide p) = true then A else B := by rw [if_pos (by simp [h])]; exact a
theorem nF {p A B : Prop} [Decidable p] (h : p) (b : B) : if (!decide p) = true then A else B := by rw [if_neg (by simp [h])]; exact b
theorem vi {a b : Int} (h : a = b) : V.int a = V.int b := by rw [h]
theorem vj {a b : Int} (h : V.int a = V.int b) : a = b := by cases h; rfl
theorem d2I {a b : Int} {A B : Prop} (h1 : a = b → A) (h2 : a ≠ b → B) : if decide (V.int a = V.int b) = true then A else B := d2 (fun h => h1 (vj h)) fun h => h2 fun e => h (vi e)
theorem n2I {a b : Int} {A B : Prop} (h1 : a ≠ b → A) (h2 : a = b → B) : if (!decide (V.int a = V.int b)) = true then A else B := by
  by_cases h : a = b
  · exact nF (vi h) (h2 h)
  · exact nT (fun e => h (vj e)) (h1 h)
theorem nFI {a b : Int} {A B : Prop} (h : a = b) (x : B) : if (!decide (V.int a = V.int b)) = true then A else B := nF (vi h) x
section
variable {X : Cx} {k j : Nat} {x : Str} {ps : List Str} {sp : Sp} {p pos : Pos} {e : Expr} {es : List Expr} {t : TA}
end
/-! ### promises -/
def spDiv : Sp := fun vs H Q _ => ∃ a b : Int, vs = [.int a, .int b] ∧ Q (.int (gcdI a b)) H
def spCell (K : PySem.W.Frag) : Sp := fun vs H Q _ => ∃ (a : Addr) (ns : List Int) (k : Int), vs = [.ref a, .int k] ∧ SqL K H a (ns.map V.int) ∧ 0 ≤ k ∧ ∀ v : Int, Q (.int v) H
def spWhole : Sp := fun vs H Q _ => ∃ v : Int, vs = [.int v] ∧ Q (.bl true) H
def spLaw (K : PySem.W.Frag) : Sp := fun vs H Q _ => ∃ (a : Addr) (ns : List Int), vs = [.ref a] ∧ SqL K H a (ns.map V.int) ∧ ns.length ≤ 63 ∧ ∀ H', Q (.bl true) H'
theorem cell_ok {ns : List Int} {k : Int} (h0 : 0 ≤ k) (h : k < (((ns.map V.int).length : Nat) : Int)) : ∃ v : Int, atI (ns.map V.int) k = some (.int v) := by
  rw [List.length_map] at h
  have hk : k.toNat < ns.length := by omega
  have ek : k = ((k.toNat : Nat) : Int) := by omega
  have q : atI (ns.map V.int) ((k.toNat : Nat) : Int) = some (.int ns[k.toNat]) := atI_nat (by rw [List.getElem?_map, List.getElem?_eq_getElem hk] <;> rfl)
  rw [← ek] at q
  exact ⟨_, q⟩
end Sw
set_option Elab.async false
set_option linter.all false
set_option maxRecDepth 100000
namespace Sw
open PySem L2
theorem cut {t u : TS} {D : Ends} {σ : L2.St} {H : Hp} (I : L2.St → Hp → Prop) (h1 : ∀ N : L2.St → Hp → Prop, (∀ σ H, I σ H → N σ H) → t { D with nx := N } σ H) (h2 : ∀ σ H, I σ H → u D σ H) : tSeq t u D σ H := h1 _ h2
theorem sameT {K : PySem.W.Frag} {H H' : Hp} {a : Addr} {xs : List V} (e : Same H H') (h : SqT K H a xs) : SqT K H' a xs := by
  rcases h with (h | ⟨o, h⟩) | h
  · exact .inl (.inl (e _ _ h))
  · exact .inl (.inr ⟨o, e _ _ h⟩)
  · exact .inr h
theorem same_new {H : Hp} {p : Addr} (h : H p = none) (o : HO) : Same H (upd H p o) := fun b u q => by rw [upd_ne (ne_of_none q h)]; exact q
theorem frC_pos {a b : Int} (h : 0 < b) : frC a b = gcdI a b := by unfold frC; rw [if_neg (by omega)]
theorem frC_bd {n : Nat} {a b : Int} (b0 : b ≠ 0) (h : Bd n b) : Bd n (frC a b) := by
  have d : gcdI a b ∣ b := gcdI_dvd_r a b
  have k := Nat.le_of_dvd (by omega) (Int.natAbs_dvd_natAbs.mpr d)
  refine h.of_le ?_
  unfold frC
  split <;> omega
/-- a new pair -/
def Pair (H : Hp) (Q : VK) (p q : Int) : Prop := ∀ (t : Addr) (H' : Hp), Same H H' → H' t = some (.tup [.int p, .int q]) → Q (.ref t) H'
def spFr : Sp := fun vs H Q _ => ∃ a b : Int, vs = [.int a, .int b] ∧ b ≠ 0 ∧ Bd 8500 b ∧ ∀ p q : Int, Fr p q a b → Pair H Q p q
structure FrIn (K : PySem.W.Frag) (n : Nat) (H : Hp) (t : Addr) (p q : Int) : Prop where
  at_ : SqT K H t [.int p, .int q]
  pos : 0 < q
  bp : Bd n p
  bq : Bd n q
theorem FrIn.same {K : PySem.W.Frag} {n : Nat} {H H' : Hp} {t : Addr} {p q : Int} (h : FrIn K n H t p q) (e : Same H H') : FrIn K n H' t p q := ⟨sameT e h.at_, h.pos, h.bp, h.bq⟩
theorem FrIn.mono {K : PySem.W.Frag} {m n : Nat} {H : Hp} {t : Addr} {p q : Int} (h : FrIn K m H t p q) (e : m ≤ n) : FrIn K n H t p q := ⟨h.at_, h.pos, h.bp.mono e, h.bq.mono e⟩
end Sw
set_option Elab.async false
set_option linter.all false
set_option maxRecDepth 100000
namespace Sw
open PySem L2
structure FunD (K : PySem.W.Frag) (x qual : Str) (st : Stmt) (dV : Value) (f : Addr) (fd : FuncData) : Prop where
  ex : ∃ (oc : Value) (od : Option Addr) (kV doc pm : Value) (an : Option Addr) (cdv ct : Value) (osl : Array (Option Value)),
    fd = PySem.W.fnOf x qual (defArgs st) (defBody st) (defScope st) dV kV doc pm an cdv ct ∧ K.lookup f = some ⟨oc, od, .func fd, osl⟩ ∧ PySem.W.codeIn K cdv qual = true
  kp : PySem.W.keepIn K (.ref f) = true
section
variable {P : Program} {w : World} {K : PySem.W.Frag} {mg : Str → Option Value} {base : Heap}
theorem FunD.ok {x qual : Str} {st : Stmt} {dV : Value} {f : Addr} {fd : FuncData} {N ps : List Str} {k : Nat} {sp : Sp} (F : FunD K x qual st dV f fd) (S : FnScope N ps (defScope st)) (len : ∀ vs H Q E, sp vs H Q E → vs.length = ps.length)
    (hbody : ∀ (cdv : Value) (A : Around) (outer : List Env) (s : Shared) (H : Hp) (vs : List V) (Q : VK) (E : XK), Room k (A.deeper (PyProof.Rows.envOfC qual (defScope st) s.heap.objs.size f cdv)) → sp vs H Q E →
      ∃ t, PSs (cxOf CX0 P w K mg base N qual (defScope st) f cdv A outer s H E).nox (defBody st) t ∧ t { nx := fun _ H' => Q .non H', rt := Q } (start N vs) H) : FnOk P w K mg base CX0 (k + 1) f fd ps sp := by
  obtain ⟨oc, od, kV, doc, pm, an, cdv, ct, osl, rfl, lk, hcd⟩ := F.ex
  refine fn_of lk hcd S len fun A outer s H vs Q E hr hsp => ?_
  obtain ⟨t, h, q⟩ := hbody cdv A outer s H vs Q E hr hsp
  exact ⟨t, h.nox, q⟩
theorem FunD.binds {x qual : Str} {st : Stmt} {T : Addr} {f : Addr} {fd : FuncData} {ps : List Str} {o : Obj} {items : Array Value} {n : Nat} {ds : List Value} (F : FunD K x qual st (.ref T) f fd) (ho : K.lookup T = some o) (hs : o.data = .seq items n)
    (h : ∀ (kV doc pm : Value) (an : Option Addr) (cdv ct : Value) (us : List Value), (us ++ ds).length = ps.length → ∃ k : Option (Array Value) → Sem (List (Str × Value)), bindArgs (PySem.W.fnOf x qual (defArgs st) (defBody st) (defScope st) (.ref T) kV doc pm an cdv ct) ⟨us, []⟩ = seqItems? (.ref T) >>= k ∧ k (some items) = pure (ps.zip (us ++ ds))) : Binds K fd ps ds := by
  obtain ⟨oc, od, kV, doc, pm, an, cdv, ct, osl, rfl, lk, hcd⟩ := F.ex
  intro s us KX hl
  obtain ⟨k, h1, h2⟩ := h kV doc pm an cdv ct us hl
  exact PySem.W.binds_K KX rfl ho hs h1 h2
theorem FunD.binds0 {x qual : Str} {st : Stmt} {dV : Value} {f : Addr} {fd : FuncData} {ps : List Str} (F : FunD K x qual st dV f fd)
    (h : ∀ (kV doc pm : Value) (an : Option Addr) (cdv ct : Value) (us : List Value), us.length = ps.length → bindArgs (PySem.W.fnOf x qual (defArgs st) (defBody st) (defScope st) dV kV doc pm an cdv ct) ⟨us, []⟩ = pure (ps.zip us)) : Binds K fd ps [] := by
  obtain ⟨oc, od, kV, doc, pm, an, cdv, ct, osl, rfl, lk, hcd⟩ := F.ex
  exact .all (h kV doc pm an cdv ct)
theorem funD_mk {x qual : Str} {st : Stmt} {f : Addr} {oc dV : Value} {od an : Option Addr} {osl : Array (Option Value)} {kV doc pm cdv ct : Value} (l : K.lookup f = some ⟨oc, od, .func (PySem.W.fnOf x qual (defArgs st) (defBody st) (defScope st) dV kV doc pm an cdv ct), osl⟩)
    (c : PySem.W.codeIn K cdv qual = true) (k : PySem.W.keepIn K (.ref f) = true) : FunD K x qual st dV f (PySem.W.fnOf x qual (defArgs st) (defBody st) (defScope st) dV kV doc pm an cdv ct) := ⟨⟨oc, od, kV, doc, pm, an, cdv, ct, osl, rfl, l, c⟩, k⟩
end
section
variable {X : Cx} {k j : Nat} {x : Str} {ps : List Str} {sp : Sp} {p pos : Pos} {e : Expr} {es : List Expr} {t : TA} {dvs : List V}
end
def spProd (K : PySem.W.Frag) : Sp := fun vs H Q _ => ∃ (t t' : Addr) (p q p' q' : Int), vs = [.ref t, .ref t'] ∧ FrIn K 4000 H t p q ∧ FrIn K 4000 H t' p' q' ∧ ∀ r s : Int, Fr r s (p * p') (q * q') → Pair H Q r s
/-! ### the mathematics of sums -/
theorem cancel {x y k : Int} (h : x * k = y * k) (k0 : k ≠ 0) : x = y := Int.eq_of_mul_eq_mul_right k0 h
theorem mul_ne {x y : Int} (h : 0 < x) (g : 0 < y) : x * y ≠ 0 := by have := Int.mul_pos h g; omega
end Sw
set_option Elab.async false
set_option linter.all false
set_option maxRecDepth 100000
namespace XH
open PySem
/-! ### what a frame's note and the flight of an exception change -/
structure Mv (fs ch : List Addr) (h h' : Heap) : Prop where
  keep : ∀ b o, b ∉ fs → b ∉ ch → h.get? b = some o → h'.get? b = some o
  slot : ∀ b o, b ∈ fs → b ∉ ch → h.get? b = some o → ∃ sl, h'.get? b = some { o with slots := sl }
  there : ∀ b o, h.get? b = some o → ∃ o', h'.get? b = some o'
theorem Mv.refl (fs ch : List Addr) (h : Heap) : Mv fs ch h h := ⟨fun _ _ _ _ q => q, fun _ o _ _ q => ⟨o.slots, q⟩, fun _ o q => ⟨o, q⟩⟩
theorem Mv.trans {fs c1 c2 ch : List Addr} {h h1 h2 : Heap} (x : Mv fs c1 h h1) (y : Mv fs c2 h1 h2) (k1 : ∀ b, b ∈ c1 → b ∈ ch) (k2 : ∀ b, b ∈ c2 → b ∈ ch) : Mv fs ch h h2 where
  keep := fun b o hf hc q => y.keep b o hf (fun z => hc (k2 b z)) (x.keep b o hf (fun z => hc (k1 b z)) q)
  slot := fun b o hf hc q => by
    obtain ⟨sl, q1⟩ := x.slot b o hf (fun z => hc (k1 b z)) q
    obtain ⟨sl2, q2⟩ := y.slot b _ hf (fun z => hc (k2 b z)) q1
    exact ⟨sl2, q2⟩
  there := fun b o q => by
    obtain ⟨o1, q1⟩ := x.there b o q
    exact y.there b o1 q1
/-- the note in an exception's traceback: none yet, or an entry in such a flight -/
inductive XSt where
  | new
  | fl (v : Value)
def XSt.Is (F : Addr → Prop) (h : Heap) (e : Addr) (vs : Array Value) : XSt → Prop
  | .new => vs[1]? = some .none
  | .fl v => ∃ T oT ts, vs[1]? = some (.ref T) ∧ F T ∧ T ≠ e ∧ h.get? T = some oT ∧ oT.data = .fields ts ∧ ts[3]? = some v
/-- room for its entries, and it came with no other one handled -/
def Fz (vs : Array Value) : Prop := 1 < vs.size ∧ vs[2]? = some .none
theorem Fz.set {vs : Array Value} (h : Fz vs) (v : Value) : Fz (vs.setIfInBounds 1 v) := ⟨by simpa using h.1, by rw [Array.getElem?_setIfInBounds]; simp [h.2]⟩
structure XO (F : Addr → Prop) (h : Heap) (e : Addr) (cls : Value) (dx : Option Addr) (st : XSt) : Prop where
  ex : ∃ oe vs, h.get? e = some oe ∧ oe.cls = cls ∧ oe.dict = dx ∧ oe.data = .fields vs ∧ Fz vs ∧ st.Is F h e vs
  fr : F e
theorem XO.mono {F G : Addr → Prop} {h : Heap} {e : Addr} {cls : Value} {dx : Option Addr} {st : XSt} (x : XO F h e cls dx st) (k : ∀ b, F b → G b) : XO G h e cls dx st := by
  obtain ⟨⟨oe, vs, a, b, c, d, f, g⟩, fr⟩ := x
  refine ⟨⟨oe, vs, a, b, c, d, f, ?_⟩, k _ fr⟩
  cases st with
  | new => exact g
  | fl v =>
    obtain ⟨T, oT, ts, g1, g2, g3⟩ := g
    exact ⟨T, oT, ts, g1, k _ g2, g3⟩
theorem mapf_dict (o : Obj) (f : Array Value → Array Value) : (o.mapFields f).dict = o.dict := by
  obtain ⟨c, d, dt, sl⟩ := o
  cases dt <;> rfl
section
variable {M : Model} {A : Around} {E : Value → Shared → Prop} {s : Shared}
theorem entry_ok {base : Heap} {env : Env} {outer : List Env} {L e : Addr} {oe : Obj} {vs : Array Value} {head : Value} {had : Bool} {Q : Unit → Shared → Prop}
    (hfr : A.frames = some (env :: outer)) (hl : s.heap.FunFrames base (env :: outer)) (hf : env.frame = some L) (he : s.heap.get? e = some oe) (hd : oe.data = .fields vs) (hsz : 1 < vs.size)
    (h : ∀ h' T, Mv ((env :: outer).filterMap (·.frame)) [e] s.heap h' → s.heap.get? T = none → T ≠ e → h'.get? e = some (oe.mapFields (·.setIfInBounds 1 (.ref T))) →
      (∃ oT ts, h'.get? T = some oT ∧ oT.data = .fields ts ∧ ts[3]? = some (rawInt L)) → Q () { s with heap := h' }) :
    wpAny M A (do let a ← frameOf env; let pl ← entryPlaceOf L had; let b ← EntryCells.newEntry head a .none (rawInt L) .none pl; setField (.ref e) 1 b) Q E s := by
  have hne : e ∉ (env :: outer).filterMap (·.frame) := by
    intro hm
    obtain ⟨_, o, ho, hnf⟩ := hl.mem hm
    rw [he] at ho
    cases ho
    exact hnf vs hd
  apply wpAny_bind
  apply wpAny_frameOf_fun hfr hl hf
  intro h1 hs
  apply wpAny_bind
  apply wpAny_entryPlaceOf
  intro pl hpl
  unfold EntryCells.newEntry newFields
  apply wpAny_bind
  refine wpAny_newObj_type ?_ (hpl.sizeOk5 ..)
  have e1 : h1.get? e = some oe := (hs.2.1 e hne).trans he
  generalize hob : ({ cls := .type "traceback", dict := none, data := .fields ([head, .ref L, .none, rawInt L, .none] ++ (if pl.isEmpty then List.replicate 6 Value.none else pl)).toArray } : Obj) = ob
  have e2 := Heap.get?_push_of_some (h := h1) ob e1
  refine wpAny_setField e2 hd hsz ?_
  have hTe : h1.objs.size ≠ e := Nat.ne_of_gt (Heap.lt_size e1)
  have d3 := Obj.data_mapFields hd (·.setIfInBounds 1 (Value.ref h1.objs.size))
  have e3 := Heap.get?_update_self (Obj.mapFields (·.setIfInBounds 1 (Value.ref h1.objs.size))) e2 (Obj.isFreed_of_fields d3)
  have kp : ∀ b o, b ≠ e → h1.get? b = some o → ((h1.push ob).update e (Obj.mapFields (·.setIfInBounds 1 (Value.ref h1.objs.size)))).get? b = some o := by
    intro b o hb q
    rw [Heap.get?_update_other _ _ (Ne.symm hb)]
    exact Heap.get?_push_of_some _ q
  have t3 : ((h1.push ob).update e (Obj.mapFields (·.setIfInBounds 1 (Value.ref h1.objs.size)))).get? h1.objs.size = some ob := by
    rw [Heap.get?_update_other _ _ (Ne.symm hTe)]
    exact Heap.get?_push_size h1 (by rw [← hob]; rfl)
  refine h _ h1.objs.size ⟨?_, ?_, ?_⟩ ?_ hTe e3 ?_
  · intro b o hb hc q
    exact kp b o (fun z => hc (by rw [z]; exact List.mem_singleton.mpr rfl)) ((hs.2.1 b hb).trans q)
  · intro b o hb hc q
    obtain ⟨sl, q1⟩ := hs.2.2 b o q
    exact ⟨sl, kp b _ (fun z => hc (by rw [z]; exact List.mem_singleton.mpr rfl)) q1⟩
  · intro b o q
    by_cases hb : b = e
    · subst hb
      exact ⟨_, e3⟩
    · obtain ⟨sl, q1⟩ := hs.2.2 b o q
      exact ⟨_, kp b _ hb q1⟩
  · exact Heap.get?_none_of_le (by rw [hs.1]; exact Nat.le_refl _)
  · subst hob
    refine ⟨_, _, t3, rfl, ?_⟩
    rcases hpl with rfl | ⟨_, _, _, _, _, _, _, rfl⟩ <;> simp
theorem flight_ok {F : Addr → Prop} {e : Addr} {cls v : Value} {dx fl : Option Addr} {Q : Unit → Shared → Prop} (x : XO F s.heap e cls dx (.fl v))
    (h : ∀ h' T, F T → Mv [] [T] s.heap h' → XO F h' e cls dx (.fl (fl.elim .none fun f => rawInt f)) → Q () { s with heap := h' }) : wpAny M A (setFlight (.ref e) fl) Q E s := by
  obtain ⟨⟨oe, vs, he, hc, hdx, hd, hsz, T, oT, ts, h1, hF, hTe, hT, hdT, h3⟩, fr⟩ := x
  have z3 : 3 < ts.size := (Array.getElem?_eq_some_iff.mp h3).1
  have oth : ∀ b, b ≠ T → (s.heap.update T (Obj.mapFields (·.setIfInBounds 3 (fl.elim Value.none fun f => rawInt f)))).get? b = s.heap.get? b := fun b hb => Heap.get?_update_other _ _ (Ne.symm hb)
  have t4 := Heap.get?_update_self (Obj.mapFields (·.setIfInBounds 3 (fl.elim Value.none fun f => rawInt f))) hT (Obj.isFreed_of_fields (Obj.data_mapFields hdT _))
  unfold setFlight
  apply wpAny_bind
  apply wpAny_field he hd h1
  rw [if_pos (by simp)]
  apply wpAny_setField hT hdT z3
  refine h _ T hF ⟨?_, fun b o hb => absurd hb (by simp), ?_⟩ ⟨⟨oe, vs, (oth e (Ne.symm hTe)).trans he, hc, hdx, hd, hsz, T, _, _, h1, hF, hTe, t4, Obj.data_mapFields hdT _, by simp [z3]⟩, fr⟩
  · intro b o _ hb q
    exact (oth b (fun z => hb (by rw [z]; exact List.mem_singleton.mpr rfl))).trans q
  · intro b o q
    by_cases hb : b = T
    · subst hb
      exact ⟨_, t4⟩
    · exact ⟨o, (oth b hb).trans q⟩
theorem note_ok {F : Addr → Prop} {base : Heap} {env : Env} {outer : List Env} {L e : Addr} {cls : Value} {dx : Option Addr} {st : XSt} {Q : Unit → Shared → Prop}
    (hfr : A.frames = some (env :: outer)) (hl : s.heap.FunFrames base (env :: outer)) (hf : env.frame = some L) (x : XO F s.heap e cls dx st)
    (h : ∀ h' ch, (∀ b ∈ ch, F b) → Mv ((env :: outer).filterMap (·.frame)) ch s.heap h' → XO (fun b => F b ∨ s.heap.get? b = none) h' e cls dx (.fl (rawInt L)) → Q () { s with heap := h' }) : wpAny M A (noteFrame (.ref e) env) Q E s := by
  obtain ⟨⟨oe, vs, he, hc, hdx, hd, hsz, hst⟩, fr⟩ := x
  unfold noteFrame
  simp only [hf]
  cases st with
  | new =>
    apply wpAny_bind
    apply wpAny_field he hd hst
    rw [if_neg (by decide)]
    refine entry_ok hfr hl hf he hd hsz.1 fun h' T mv tn tne he' ⟨oT, ts, hT, hdT, h3⟩ => ?_
    refine h h' [e] (fun b hb => by rw [List.mem_singleton.mp hb]; exact fr) mv ⟨⟨_, _, he', ?_, ?_, Obj.data_mapFields hd _, hsz.set _, T, oT, ts, by simp [hsz.1], .inr tn, tne, hT, hdT, h3⟩, .inl fr⟩
    · rw [Obj.cls_mapFields]; exact hc
    · rw [mapf_dict]; exact hdx
  | fl v =>
    obtain ⟨T, oT, ts, h1, hF, hTe, hT, hdT, h3⟩ := hst
    have z3 : 3 < ts.size := (Array.getElem?_eq_some_iff.mp h3).1
    apply wpAny_bind
    apply wpAny_field he hd h1
    rw [if_pos (by simp)]
    apply wpAny_bind
    apply wpAny_field hT hdT h3
    by_cases hv : (v == rawInt L) = true
    · rw [if_pos hv]
      have ev : v = rawInt L := beq_iff_eq.mp hv
      subst ev
      refine wpAny_pure (h s.heap [] (fun b hb => absurd hb (by simp)) (.refl ..) ⟨⟨oe, vs, he, hc, hdx, hd, hsz, T, oT, ts, h1, .inl hF, hTe, hT, hdT, h3⟩, .inl fr⟩)
    · rw [if_neg hv]
      apply wpAny_bind
      apply wpAny_setField hT hdT z3
      have oth : ∀ b, b ≠ T → (s.heap.update T (Obj.mapFields (·.setIfInBounds 3 Value.none))).get? b = s.heap.get? b := fun b hb => Heap.get?_update_other _ _ (Ne.symm hb)
      have t4 := Heap.get?_update_self (Obj.mapFields (·.setIfInBounds 3 Value.none)) hT (Obj.isFreed_of_fields (Obj.data_mapFields hdT _))
      have nrec : ∀ b o, s.heap.get? b = some o → (∀ vs, o.data ≠ .fields vs) → b ≠ T := by
        intro b o hb hn z
        rw [z, hT] at hb
        cases hb
        exact hn ts hdT
      have mv1 : Mv ((env :: outer).filterMap (·.frame)) [T] s.heap (s.heap.update T (Obj.mapFields (·.setIfInBounds 3 Value.none))) := by
        refine ⟨fun b o _ hb q => (oth b (fun z => hb (by rw [z]; exact List.mem_singleton.mpr rfl))).trans q, fun b o _ hb q => ⟨o.slots, (oth b (fun z => hb (by rw [z]; exact List.mem_singleton.mpr rfl))).trans q⟩, fun b o q => ?_⟩
        by_cases hb : b = T
        · subst hb
          exact ⟨_, t4⟩
        · exact ⟨o, (oth b hb).trans q⟩
      refine entry_ok (s := { s with heap := s.heap.update T (Obj.mapFields (·.setIfInBounds 3 Value.none)) }) hfr (hl.of_keeps fun b o hb hn => ⟨o, (oth b (nrec b o hb hn)).trans hb, rfl⟩) hf ((oth e (Ne.symm hTe)).trans he) hd hsz.1 fun h' T2 mv tn tne he' ⟨oT2, ts2, hT2, hdT2, h32⟩ => ?_
      refine h h' [T, e] ?_ (mv1.trans mv (fun b hb => by simp at hb; simp [hb]) (fun b hb => by simp at hb; simp [hb])) ⟨⟨_, _, he', ?_, ?_, Obj.data_mapFields hd _, hsz.set _, T2, oT2, ts2, by simp [hsz.1], .inr ?_, tne, hT2, hdT2, h32⟩, .inl fr⟩
      · intro b hb
        simp at hb
        rcases hb with rfl | rfl
        · exact hF
        · exact fr
      · rw [Obj.cls_mapFields]; exact hc
      · rw [mapf_dict]; exact hdx
      · cases q : s.heap.get? T2 with
        | none => rfl
        | some o =>
          obtain ⟨o', q'⟩ := mv1.there T2 o q
          rw [q'] at tn
          cases tn
end
end XH
set_option Elab.async false
set_option linter.all false
set_option maxRecDepth 100000
namespace L2
open PySem PySem.Spec PyProof.Rows XH
/-! ### an exception behind a call, in flight: it and its notes are untracked, and were not there ahead of the call -/
structure CXat (P : Program) (w : World) (outer : List Env) (H : Hp) (s : Shared) (a : Addr) (H' : Hp) (cls : Value) (dx : Option Addr) (st : XSt) (s' : Shared) : Prop where
  os : s'.os = s.os
  bare : AllBare s'.gens
  un : Un (frs outer) [] H H' s.heap s'.heap
  hok : HOk P w H' s'.heap
  xo : XO (fun b => s.heap.get? b = none ∧ H' b = none) s'.heap a cls dx st
def CX1 (P : Program) (w : World) : CXT := fun outer H s E e s' => ∃ a H' cls dx st, e = .ref a ∧ CXat P w outer H s a H' cls dx st s' ∧ E cls dx H'
section
variable {P : Program} {w : World} {H H' : Hp} {h h' h0 : Heap} {fs ch : List Addr} {a : Addr} {o : HO}
theorem ObjOk.there (x : ObjOk P w H h a o) : ∃ u, h.get? a = some u := by
  cases o with
  | lst xs => obtain ⟨_, _, _, _, e⟩ := x; exact ⟨_, e⟩
  | tup xs => obtain ⟨_, _, _, _, e, _⟩ := x; exact ⟨_, e⟩
  | dK kvs => obtain ⟨_, _, _, _, _, _, _, e, _⟩ := x; exact ⟨_, e⟩
  | dT kvs => obtain ⟨_, _, _, _, _, _, _, e, _⟩ := x; exact ⟨_, e⟩
  | set S n => obtain ⟨_, _, _, _, e, _⟩ := x; exact ⟨_, e⟩
  | ins C dx fs => obtain ⟨_, _, _, e, _⟩ := x; exact ⟨_, e⟩
  | own y => exact x
  | xd fs => obtain ⟨_, ⟨_, _, _, e, _⟩, _⟩ := x; exact ⟨_, e⟩
  | rng lo hi => obtain ⟨_, _, _, e⟩ := x; exact ⟨_, e⟩
  | frz ob u => obtain ⟨e, _⟩ := x; exact ⟨_, e⟩
  | tbl ps => exact ⟨_, show h.get? a = some _ from x⟩
  | met f y => exact ⟨_, show h.get? a = some _ from x⟩
  | ext φ => obtain ⟨_, ⟨_, e⟩, _⟩ := x; exact ⟨_, e⟩
theorem HOk.none_of (k : HOk P w H h) (q : h.get? a = none) : H a = none := by
  cases r : H a with
  | none => rfl
  | some o =>
    obtain ⟨u, e⟩ := (k a o r).there
    rw [q] at e
    cases e
theorem un_mv (u : Un fs [] H H' h0 h) (m : Mv fs ch h h') (hc : ∀ b ∈ ch, h0.get? b = none) : Un fs [] H H' h0 h' where
  keep := fun b o q n hb hx => m.keep b o hb (fun z => by rw [hc b z] at q; cases q) (u.keep b o q n hb hx)
  slot := fun b o q n hb hx => by
    obtain ⟨sl, q1⟩ := u.slot b o q n hb hx
    obtain ⟨sl2, q2⟩ := m.slot b _ hb (fun z => by rw [hc b z] at q; cases q) q1
    exact ⟨sl2, q2⟩
  free := u.free
  there := fun b o q hx => by
    obtain ⟨o1, q1⟩ := u.there b o q hx
    exact m.there b o1 q1
  tups := u.tups
  frzs := u.frzs
  tbls := u.tbls
theorem hok_mv (k : HOk P w H h) (m : Mv fs ch h h') (hc : ∀ b ∈ ch, H b = none) (hf : ∀ b ∈ fs, H b = none) : HOk P w H h' := fun a o e =>
  (k a o e).stay (fun b u hb q => by
    have t : H b ≠ none := by
      rcases hb with z | z
      · rw [z, e]; exact fun y => nomatch y
      · rw [z]; exact fun y => nomatch y
    exact m.keep b u (fun z => t (hf b z)) (fun z => t (hc b z)) q) (fun _ q => q) fun _ _ q => q
theorem _root_.XH.Mv.wider (m : Mv [] ch h h') : Mv fs ch h h' := ⟨fun b o _ hc q => m.keep b o (by simp) hc q, fun b o _ hc q => ⟨o.slots, m.keep b o (by simp) hc q⟩, m.there⟩
theorem funs_un {base : Heap} (u : Un fs [] H H' h h') : ∀ {l : List Env}, h.FunFrames base l → (∀ b ∈ frs l, b ∈ fs ∧ H b = none) → h'.FunFrames base l
  | [], _, _ => trivial
  | env :: r, ⟨hk, ⟨L, o, hf, hn, ho, hd⟩, hr⟩, hs => by
    have hL : L ∈ frs (env :: r) := by unfold frs; rw [List.filterMap_cons, hf]; exact List.mem_cons_self
    obtain ⟨sl, e⟩ := u.slot L o ho (hs L hL).2 (hs L hL).1 (by simp)
    exact ⟨hk, ⟨L, _, hf, hn, e, hd⟩, funs_un u hr fun b hb => hs b (by unfold frs; rw [List.filterMap_cons, hf]; exact List.mem_cons_of_mem _ hb)⟩
end
section
variable {P : Program} {w : World} {H H' : Hp} {s s' : Shared} {a L : Addr} {cls v : Value} {dx : Option Addr} {st : XSt} {env : Env} {outer : List Env} {base : Heap} {M : Model} {A : Around} {Z : Value → Shared → Prop} {Q : Unit → Shared → Prop}
theorem CXat.frees (c : CXat P w outer H s a H' cls dx st s') (hl : s.heap.FunFrames base outer) (hH : ∀ b ∈ frs outer, H b = none) : ∀ b ∈ frs outer, H' b = none := fun b hb => by
  obtain ⟨_, o, ho, _⟩ := hl.mem hb
  exact c.un.free b o ho (hH b hb) (by simp)
theorem CXat.note (c : CXat P w (env :: outer) H s a H' cls dx st s') (hfr : A.frames = some (env :: outer)) (hf : env.frame = some L) (hl : s.heap.FunFrames base (env :: outer)) (hH : ∀ b ∈ frs (env :: outer), H b = none)
    (h : ∀ s'', CXat P w (env :: outer) H s a H' cls dx (.fl (rawInt L)) s'' → Q () s'') : wpAny M A (noteFrame (.ref a) env) Q Z s' := by
  refine note_ok hfr (funs_un c.un hl fun b hb => ⟨hb, hH b hb⟩) hf c.xo fun h' ch hch mv x => h _ ?_
  refine ⟨c.os, c.bare, un_mv c.un mv fun b hb => (hch b hb).1, hok_mv c.hok mv (fun b hb => (hch b hb).2) (c.frees hl hH), x.mono ?_⟩
  rintro b (q | q)
  · exact q
  · refine ⟨?_, c.hok.none_of q⟩
    cases r : s.heap.get? b with
    | none => rfl
    | some o =>
      obtain ⟨o', r'⟩ := c.un.there b o r (by simp)
      rw [r'] at q
      cases q
theorem CXat.flight {fl : Option Addr} (c : CXat P w outer H s a H' cls dx (.fl v) s') (hl : s.heap.FunFrames base outer) (hH : ∀ b ∈ frs outer, H b = none)
    (h : ∀ s'', CXat P w outer H s a H' cls dx (.fl (fl.elim .none fun f => rawInt f)) s'' → Q () s'') : wpAny M A (setFlight (.ref a) fl) Q Z s' := by
  refine flight_ok c.xo fun h' T hT mv x => h _ ⟨c.os, c.bare, un_mv c.un mv.wider fun b hb => ?_, hok_mv c.hok (mv.wider (fs := frs outer)) (fun b hb => ?_) (c.frees hl hH), x⟩
  · rw [List.mem_singleton.mp hb]; exact hT.1
  · rw [List.mem_singleton.mp hb]; exact hT.2
end
/-- what is wanted of an exception in a body: E speaks of the names, its class, its dict, the heap -/
def XS (X : Cx) (E : St → XK) : Value → Shared → Prop := fun e s' => ∃ σ H0 s0, Inv X [] σ H0 s0 ∧ CX1 X.prog X.w X.stack H0 s0 (E σ) e s'
def PassX (X : Cx) (E : St → XK) : Prop := ∀ (pins : List (Addr × Obj)) (σ : St) (H : Hp) (s : Shared) (e : Value) (s' : Shared), Inv X pins σ H s → CX1 X.prog X.w X.stack H s (E σ) e s' → X.xe e s'
theorem passX {X : Cx} {E : St → XK} : PassX (X.wish (XS X E)) E := fun pins σ H s e s' I c => ⟨σ, H, s, I.unwish.pins_of (fun p hp => absurd hp (by simp)), c⟩
section
variable {X : Cx} {k : Nat} {f C : Addr} {fd : FuncData} {ps : List Str} {sp : Sp} {dvs : List V} {ds : List Value} {E : St → XK} {x m : Str} {p pos apos : Pos} {e o : Expr} {es : List Expr} {ta : TE} {t : TA}
end
theorem PSs.toX {X : Cx} {E' : Value → Shared → Prop} {st : List Stmt} {t : TS} (h : PSs (X.wish E') st t) (k : ∀ e s, E' e s → X.xe e s) : PSs X st t := fun pins s σ H D I hw =>
  wpAny_mono (h pins s σ H D (I.wish _) hw) (fun _ _ q => q.unwish) fun e s z => k e s z
section
variable {P : Program} {w : World} {K : PySem.W.Frag} {mg : Str → Option Value} {base : Heap}
theorem leave_ok {N : List Str} {qual : Str} {scope : Scope} {f : Addr} {cd : Value} {A : Around} {outer : List Env} {s : Shared} {H : Hp} {E : XK} {e : Value} {s' : Shared}
    (h : XS (cxOf (CX1 P w) P w K mg base N qual scope f cd A outer s H E) (fun _ => E) e s') : (cxOf (CX1 P w) P w K mg base N qual scope f cd A outer s H E).xe e s' := by
  obtain ⟨σ, H0, s0, I, a, H', cls, dx, st, rfl, c, hE⟩ := h
  show wpAny (model P w) (A.deeper (envOfC qual scope s.heap.objs.size f cd)) (leaving (envOfC qual scope s.heap.objs.size f cd) (.ref a)) (fun _ s'' => CX1 P w outer H s E (.ref a) s'') (fun e' s'' => CX1 P w outer H s E e' s'') s'
  unfold leaving
  apply wpAny_bind
  refine c.note (L := s.heap.objs.size) I.ok.frames rfl I.stack I.stkFree fun s1 c1 => ?_
  refine c1.flight I.stack I.stkFree fun s2 c2 => ?_
  have J := I.call' c2.os c2.un c2.hok c2.bare (fun b z => absurd z (by simp))
  refine ⟨a, H', cls, dx, _, rfl, ⟨J.os, c2.bare, J.base, c2.hok, c2.xo.mono fun b q => ⟨?_, q.2⟩⟩, hE⟩
  cases r : s.heap.get? b with
  | none => rfl
  | some o =>
    obtain ⟨o', r'⟩ := I.base.there b o r (fun z => absurd (show b ∈ ([] : List Addr) from z) (by simp))
    rw [q.1] at r'
    cases r'
/-- THE RULE for a def that may refuse -/
theorem fn_ofX {k : Nat} {f : Addr} {name qual : Str} {params : Arguments} {body : List Stmt} {scope : Scope} {dV kV doc pm cdv ct oc : Value} {an od : Option Addr}
    {osl : Array (Option Value)} {N ps : List Str} {sp : Sp} (lk : K.lookup f = some ⟨oc, od, .func (PySem.W.fnOf name qual params body scope dV kV doc pm an cdv ct), osl⟩) (hcd : PySem.W.codeIn K cdv qual = true) (S : FnScope N ps scope)
    (len : ∀ vs H Q E, sp vs H Q E → vs.length = ps.length)
    (hbody : ∀ (A : Around) (outer : List Env) (s : Shared) (H : Hp) (vs : List V) (Q : VK) (E : XK), Room k (A.deeper (envOfC qual scope s.heap.objs.size f cdv)) → sp vs H Q E →
      ∃ t, PSs ((cxOf (CX1 P w) P w K mg base N qual scope f cdv A outer s H E).wish (XS (cxOf (CX1 P w) P w K mg base N qual scope f cdv A outer s H E) fun _ => E)) body t ∧ t { nx := fun _ H' => Q .non H', rt := Q } (start N vs) H) :
    FnOk P w K mg base (CX1 P w) (k + 1) f (PySem.W.fnOf name qual params body scope dV kV doc pm an cdv ct) ps sp := by
  refine fn_of lk hcd S len fun A outer s H vs Q E hr hsp => ?_
  obtain ⟨t, h, q⟩ := hbody A outer s H vs Q E hr hsp
  exact ⟨t, h.toX fun e s' z => leave_ok z, q⟩
/-- a promise under which it refuses nothing -/
theorem FnOk.noraise {k : Nat} {f : Addr} {fd : FuncData} {ps : List Str} {sp sp0 : Sp} (F : FnOk P w K mg base (CX1 P w) k f fd ps sp) (h : ∀ vs H Q E, sp0 vs H Q E → sp vs H Q E0) : FnOk P w K mg base CX0 k f fd ps sp0 :=
  ⟨fun vs H Q E q => F.len vs H Q E0 (h _ _ _ _ q), fun A outer s H args us vs Q E hr he hb hv hs => codeAny_mono (F.run A outer s H args us vs Q E0 hr he hb hv (h _ _ _ _ hs)) fun r s' hq => by
    cases r with
    | error e => obtain ⟨_, _, _, _, _, _, _, z⟩ := hq; exact z.elim
    | ok fl => cases fl <;> exact hq⟩
end
/-! ### try -/
section
variable {X : Cx} {pins : List (Addr × Obj)} {σ : St} {H H' : Hp} {s s' : Shared}
end
section
variable {X : Cx} {body : List Stmt} {h₀ : ExceptHandler} {hs : List ExceptHandler} {pos : Pos} {th : TH}
end
end L2
set_option Elab.async false
set_option linter.all false
set_option maxRecDepth 100000
namespace L2
open PySem PySem.Spec PyProof.Rows XH
structure XG (K : PySem.W.Frag) (C : Addr) : Prop where
  ga : PySem.W.findIn K (.ref C) "__getattribute__" = some (some (.builtin "BaseException.__getattribute__"))
  gt : PySem.W.findIn K (.ref C) "__getattr__" = some none
  be : PySem.W.mroIn K C (.type "BaseException") = some true
section
variable {prog : Program} {w : World} {A : Around} {E : Value → Shared → Prop} {K : PySem.W.Frag} {h : Heap} {g : Array GenState} {d : Drawn} {t : Nat} {os : OsState} {x C : Addr} {ox : Obj} {od : Option Obj} {name : Str}
end
end L2
set_option Elab.async false
set_option linter.all false
set_option maxRecDepth 100000
namespace L2
open PySem PySem.Spec PyProof.Rows XH
section
variable {prog : Program} {w : World} {A : Around} {E : Value → Shared → Prop} {K : PySem.W.Frag}
end
section
variable {X : Cx} {x n : Str} {np pos : Pos} {b0 : Stmt} {suite : List Stmt} {rest : List ExceptHandler} {i : Nat} {C' : Addr} {t : TS} {th : TH}
end
/-! ### raise -/
def bmV : List Value := [.type "ValueError", .type "Exception", .type "BaseException", .type "object"]
theorem exc_of {K : PySem.W.Frag} {h : Heap} {C : Addr} {bmB : List Value} {nw : String} (X : K.In h) (q : PySem.W.excIn K C bmB nw = true) :
    ∃ bm N nm qn bs hdct sn sub ab col dd k0 k1 k2 k3 k5 mN, h.get? C = some (excClassObj nm qn C N bs bm hdct sn sub ab col dd k0 k1 k2 k3 k5 nw) ∧ h.Ns N mN ∧ mN "__init__" = none ∧ OwnTail h bmB bm := by
  unfold PySem.W.excIn at q
  split at q
  · rename_i dd cd sl ho
    split at q
    · rename_i C' bm k0 k1 k2 k3 n k5 hm hs
      simp only [Bool.and_eq_true, beq_iff_eq, Bool.not_eq_true'] at q
      obtain ⟨⟨⟨⟨⟨e1, e2⟩, hdel⟩, ht⟩, hok⟩, hni⟩ := q
      subst e1 e2
      obtain ⟨nm, bs, mro, ns, qn, hd, sn, sub, ab, col, del⟩ := cd
      dsimp only at hm hdel hok hni
      subst hm hdel
      obtain ⟨l⟩ := sl
      have hl : l = [k0, k1, k2, k3, some (.builtin n), k5] := hs
      subst hl
      exact ⟨bm, ns, nm, qn, bs, hd, sn, sub, ab, col, dd, k0, k1, k2, k3, k5, _, X _ _ ho, .of_isNs (PySem.W.isNs_of_in X hok), PySem.W.nsMap_none_of_in X hok hni, PySem.W.tail_of_in X ht⟩
    · cases q
  · cases q
def tRaise (C : Addr) (E : St → XK) (t : TA) : TS := fun _ σ H => t σ H fun vs H1 => vs.length ≤ sizeLine ∧ E σ (.ref C) none H1
section
variable {X : Cx} {x : Str} {np cpos pos : Pos} {e₀ : Expr} {rest : List Expr} {C : Addr} {t : TA} {E : St → XK}
theorem made_cx {pins : List (Addr × Obj)} {σ : St} {H : Hp} {s : Shared} {h' : Heap} {e : Addr} {us : List Value} (I : Inv X pins σ H s) (mk : Heap.MadeExcOf s.heap h' e (.ref C) us) : CXat X.prog X.w X.stack H s e H (.ref C) none .new { s with heap := h' } := by
  obtain ⟨t, ht, _, _⟩ := mk.there
  exact ⟨rfl, I.bare, Un.kept mk.keeps, I.hok.kept mk.keeps, ⟨⟨_, _, ht, rfl, rfl, rfl, ⟨by show 1 < 6; decide, rfl⟩, rfl⟩, mk.new, I.hok.none_of mk.new⟩⟩
theorem ps_raise (q : PySem.W.excIn X.K C bmV "ValueError.__new__" = true) (hg : Gl X x) (hm : X.mg x = some (.ref C)) (hc : X.calm = true) (hp : PassX X E) (ha : PA X (e₀ :: rest) t) (hd : (x == ("__debug__" : Str)) = false := by decide)
    (he : starEach (e₀ :: rest) X.env = (false, eval e₀ X.env) :: starEach rest X.env := by rfl) (hpl : (backTo cpos (starEach rest X.env)).any (·.1) = false := by rfl) :
    PS X (.Raise (some (.Call (.Name x np) (e₀ :: rest) [] cpos)) none pos) (tRaise C E t) := by
  intro pins s σ H D I h
  obtain ⟨bm, N, nm, qn, bs, hdct, sn, sub, ab, col, dd, k0, k1, k2, k3, k5, mN, hC, hN, hni, TL⟩ := exc_of I.ok.mod.kin q
  have F := PySem.F.excBase_ValueError
  have W := ha cpos pins s σ H _ I h
  refine wpAny_Raise_call_subT (C := C) (nm := nm) (q := qn) (N := N) (bs := bs) (bm := bm) (hdct := hdct) (sn := sn) (sub := sub) (ab := ab) (col := col) (dd := dd) (k0 := k0) (k1 := k1) (k2 := k2) (k3 := k3) (k5 := k5) (mN := mN)
    F (TL.hasType F.hasBase) (I.ok.hd hc) (by rw [he]; exact hpl) hni (ld_glob I hg hm ⟨rfl, ?_⟩ hd)
  rw [he] at W ⊢
  refine Calls.evalArgs_plain (thn W fun us s2 ⟨vs, H1, I1, r, hl, z⟩ => ⟨rfl, by rw [← r.length]; exact hl, I1.bk _ _ hC, hN.keeps I1.bk, TL.keeps I1.bk, fun h' e mk => ?_⟩)
  exact hp pins σ H1 s2 _ _ I1 ⟨e, H1, .ref C, none, .new, rfl, made_cx I1 mk, z⟩
end
/-! ### isinstance of an exception -/
structure XI (K : PySem.W.Frag) (C : Addr) : Prop where
  gg : XG K C
  cl : (PySem.W.clsIn K C).isSome = true
  at_ : PySem.W.findIn K (.ref C) "__class__" = some (some (.builtin "object.__class__"))
  gt : PySem.W.specialIn K (.builtin "object.__class__") "__get__" = some (some (.builtin "getset_descriptor.__get__"))
  tk : PySem.W.takesIn K (.builtin "object.__class__") = some true
  ob : PySem.W.mroIn K C (.type "object") = some true
end L2
set_option Elab.async false
set_option linter.all false
set_option maxRecDepth 100000
namespace L2
open PySem PySem.Spec PyProof.Rows XH
/-! ### list comprehensions -/
section
variable {prog : Program} {w : World} {A : Around} {R : Result → Shared → Prop} {s : Shared}
end
section
variable {X : Cx} {scope : Scope} {cl : List (Str × Addr)} {own : Str} {ys : List Str} {js : List Nat} {fp : List Addr} {pins : List (Addr × Obj)} {σ : St} {H : Hp} {s s4 : Shared}
end
section
variable {X : Cx} {scope : Scope} {cl : List (Str × Addr)} {own : Str} {ys : List Str} {js : List Nat} {elt iter : Expr} {px pos : Pos} {wi : TI} {te : TE}
end
end L2
set_option Elab.async false
set_option linter.all false
set_option maxRecDepth 100000
namespace L2
open PySem PySem.Spec PyProof.Rows XH PySem.Builtin PySem.Builtin.ObjectAttr
/-! ### an own refusal's __init__: its field -/
section
variable {prog : Program} {w : World} {A : Around} {E : Value → Shared → Prop} {s : Shared} {K : PySem.W.Frag} {x C S : Addr} {ox : Obj} {od : Option Obj} {name : Str} {v : Value}
end
section
variable {X : Cx} {o value : Expr} {f : Str} {pos pos' : Pos} {ta tv : TE}
end
end L2
set_option Elab.async false
set_option linter.all false
set_option maxRecDepth 100000
namespace L2
open PySem PySem.Spec PyProof.Rows XH
section
variable {X : Cx} {o e value : Expr} {f : Str} {pos pos' : Pos} {ta tv : TE}
end
/-! ### a refusal with an __init__ is made -/
section
variable {prog : Program} {w : World} {A : Around} {E : Value → Shared → Prop} {h : Heap} {g : Array GenState} {d : Drawn} {t : Nat} {os : OsState}
variable {nm q : Str} {C N : Addr} {bs bm : List Value} {hdct : Bool} {sn : List Str} {sub : List Value} {ab : Bool} {col : Option Bool} {dd : Option Addr} {k0 k1 k2 k3 k5 : Option Value}
end
section
variable {X : Cx} {x : Str} {p pos : Pos} {e : Expr} {es : List Expr} {C fI : Addr} {t : TA} {k : Nat} {fd : FuncData} {ps : List Str} {sp : Sp}
end
end L2
set_option Elab.async false
set_option linter.all false
set_option maxRecDepth 100000
namespace L2
open PySem PySem.Spec PyProof.Rows XH
section
variable {M : Model} {A : Around} {E : Value → Shared → Prop} {env : Env}
variable {nm q : Str} {C N : Addr} {bs bm : List Value} {hdct : Bool} {sn : List Str} {sub : List Value} {ab : Bool} {col : Option Bool} {dd : Option Addr} {k0 k1 k2 k3 k5 : Option Value} {nw : String}
end
section
variable {X : Cx} {x : Str} {np cpos pos : Pos} {e₀ : Expr} {rest : List Expr} {C fI : Addr} {t : TA} {k : Nat} {fd : FuncData} {ps : List Str} {sp : Sp} {E : St → XK}
end
end L2
set_option Elab.async false
set_option linter.all false
set_option maxRecDepth 100000
namespace L2
open PySem PySem.Spec PyProof.Rows XH
/-! ### within an except suite, and in what is called there -/
section
variable {prog : Program} {w : World} {A : Around} {E : Value → Shared → Prop} {s : Shared}
end
/-! ### iterators under a handled exception -/
section
variable {X : Cx} {tg : Expr} {hd : Option Value}
end
section
variable {X : Cx} {scope : Scope} {cl : List (Str × Addr)} {own : Str} {ys : List Str} {js : List Nat} {elt iter : Expr} {px pos : Pos} {wi : TI} {te : TE} {hd : Option Value}
end
/-! ### an except suite whose reading knows the exception -/
section
variable {X : Cx} {x n : Str} {np pos : Pos} {b0 : Stmt} {suite : List Stmt} {rest : List ExceptHandler} {i : Nat} {C' : Addr} {tA : Addr → TS} {th : TH}
end
/-! ### calls, whatever is handled -/
section
variable {P : Program} {w : World} {K : PySem.W.Frag} {mg : Str → Option Value} {base : Heap} {hd : Option Value}
end
section
variable {X : Cx} {k : Nat} {f : Addr} {fd : FuncData} {ps : List Str} {sp : Sp} {dvs : List V} {ds : List Value} {x : Str} {p pos : Pos} {e : Expr} {es : List Expr} {t : TA} {hd : Option Value}
end
end L2
set_option Elab.async false
set_option linter.all false
set_option maxRecDepth 100000
namespace Sw
open PySem L2 XH
/-- a def as its callers see it -/
structure Dx (P : Program) (w : World) (K : PySem.W.Frag) (mg : Str → Option Value) (base : Heap) (CX : CXT) (k : Nat) (x : Str) (ps : List Str) (dvs : List V) (sp : Sp) where
  f : Addr
  fd : FuncData
  ok : FnOk P w K mg base CX k f fd ps sp
  m : mg x = some (.ref f)
  q : PySem.W.keepIn K (.ref f) = true
  b : Binds K fd ps []
  bd : ∃ ds, Binds K fd ps ds ∧ Vals dvs ds
def Dx.calm {P : Program} {w : World} {K : PySem.W.Frag} {mg : Str → Option Value} {base : Heap} {k : Nat} {x : Str} {ps : List Str} {dvs : List V} {sp sp0 : Sp} (D : Dx P w K mg base (CX1 P w) k x ps dvs sp) (h : ∀ vs H Q E, sp0 vs H Q E → sp vs H Q E0) : Dx P w K mg base CX0 k x ps dvs sp0 :=
  ⟨D.f, D.fd, D.ok.noraise h, D.m, D.q, D.b, D.bd⟩
section
variable {X : Cx} {k j : Nat} {x : Str} {ps : List Str} {sp : Sp} {p pos : Pos} {e : Expr} {es : List Expr} {t : TA} {dvs : List V} {E : St → XK}
theorem pcall0 (D : Dx X.prog X.w X.K X.mg X.base CX0 k x ps dvs sp) (hr : Room j X.A) (hk : k ≤ j) (hg : Gl X x) (ha : PA X (e :: es) t) (hdb : (x == ("__debug__" : Str)) = false := by decide)
    (he : starEach (e :: es) X.env = (false, eval e X.env) :: starEach es X.env := by rfl) (hpl : (backTo pos (starEach es X.env)).any (·.1) = false := by rfl) :
    PE X (.Call (.Name x p) (e :: es) [] pos) (tCall sp [] E0 t) :=
  pe_call D.ok (hr.mono hk) hg D.m D.q D.b .nil pass0 ha hdb he hpl
theorem pcall0d (D : Dx X.prog X.w X.K X.mg X.base CX0 k x ps dvs sp) (hr : Room j X.A) (hk : k ≤ j) (hg : Gl X x) (ha : PA X (e :: es) t) (hdb : (x == ("__debug__" : Str)) = false := by decide)
    (he : starEach (e :: es) X.env = (false, eval e X.env) :: starEach es X.env := by rfl) (hpl : (backTo pos (starEach es X.env)).any (·.1) = false := by rfl) :
    PE X (.Call (.Name x p) (e :: es) [] pos) (tCall sp dvs E0 t) := by
  obtain ⟨ds, hb, hv⟩ := D.bd
  exact pe_call D.ok (hr.mono hk) hg D.m D.q hb hv pass0 ha hdb he hpl
end
theorem FunD.okX {P : Program} {w : World} {K : PySem.W.Frag} {mg : Str → Option Value} {base : Heap} {x qual : Str} {st : Stmt} {dV : Value} {f : Addr} {fd : FuncData} {N ps : List Str} {k : Nat} {sp : Sp} (F : FunD K x qual st dV f fd) (S : FnScope N ps (defScope st)) (len : ∀ vs H Q E, sp vs H Q E → vs.length = ps.length)
    (hbody : ∀ (cdv : Value) (A : Around) (outer : List Env) (s : Shared) (H : Hp) (vs : List V) (Q : VK) (E : XK), Room k (A.deeper (PyProof.Rows.envOfC qual (defScope st) s.heap.objs.size f cdv)) → sp vs H Q E →
      ∃ t, PSs ((cxOf (CX1 P w) P w K mg base N qual (defScope st) f cdv A outer s H E).wish (XS (cxOf (CX1 P w) P w K mg base N qual (defScope st) f cdv A outer s H E) fun _ => E)) (defBody st) t ∧ t { nx := fun _ H' => Q .non H', rt := Q } (start N vs) H) : FnOk P w K mg base (CX1 P w) (k + 1) f fd ps sp := by
  obtain ⟨oc, od, kV, doc, pm, an, cdv, ct, osl, rfl, lk, hcd⟩ := F.ex
  exact fn_ofX lk hcd S len fun A outer s H vs Q E hr hsp => hbody cdv A outer s H vs Q E hr hsp
end Sw
set_option Elab.async false
set_option linter.all false
set_option maxRecDepth 100000
namespace Sw
open PySem L2 XH
def spFrZ (c : Addr) : Sp := fun vs H Q E => ∃ a b : Int, vs = [.int a, .int b] ∧ Bd 8500 b ∧ (b ≠ 0 → ∀ p q : Int, Fr p q a b → Pair H Q p q) ∧ (b = 0 → E (.ref c) none H)
theorem frZ_of {c : Addr} : ∀ vs H Q E, spFr vs H Q E → spFrZ c vs H Q E0 := fun vs H Q E ⟨a, b, e, b0, hb, q⟩ => ⟨a, b, e, hb, fun _ => q, fun z => absurd z b0⟩
end Sw
set_option Elab.async false
set_option linter.all false
set_option maxRecDepth 100000
namespace L2
open PySem PySem.Spec PyProof.Rows XH
theorem call_isiT {X : Cx} {K : PySem.W.Frag} (hK : X.K = K) : CallR X (.builtin "isinstance") (fun xs H Q => ∃ x t T b, xs = [x, .ty T] ∧ TyOf K H x t ∧ PySem.W.kitOne K t (.type T) = some b ∧ Q (.bl b) H) := by
  subst hK
  intro pins s σ H xs us Q I r h
  obtain ⟨x, t, T, b, rfl, ty, e, q⟩ := h
  obtain ⟨u, w', rfl, e1, e2⟩ := vals2 r
  cases e2
  exact isinst_ok I e1 ty e fun tk => ⟨.bl b, H, I.tok tk, rfl, q⟩
end L2
namespace Sw
open PySem L2 XH
/-! ### whatever is handed in: is it a whole number, is it a fraction -/
section
variable {K : PySem.W.Frag} {H : Hp}
end
end Sw
set_option Elab.async false
set_option linter.all false
set_option maxRecDepth 100000
namespace L2
open PySem PySem.Spec PyProof.Rows XH
/-- a truth, a number, a text -/
def Smp : V → Prop
  | .bl _ => True
  | .int _ => True
  | .str _ => True
  | _ => False
theorem eqat_smp {A : Around} {s : Shared} {v : V} {u w : Value} (h : Smp v) (r1 : RelV v u) (r2 : RelV v w) : SeqAt.EqAt A s u w true := by
  cases v with
  | bl b =>
    cases r1
    cases r2
    have z := SeqAt.EqAt.bool_bool (A := A) (s := s) b b
    rw [beq_self_eq_true] at z
    exact z
  | int i =>
    obtain ⟨t, rfl⟩ := r1
    obtain ⟨t', rfl⟩ := r2
    have z := SeqAt.EqAt.int_int (A := A) (s := s) i t i t'
    rw [beq_self_eq_true] at z
    exact z
  | str i =>
    obtain ⟨t, rfl⟩ := r1
    obtain ⟨t', rfl⟩ := r2
    have z := SeqAt.EqAt.str_str (A := A) (s := s) i t i t'
    rw [beq_self_eq_true] at z
    exact z
  | _ => exact absurd h (fun z => z)
theorem vals_eqat {A : Around} {s : Shared} : ∀ {zs : List V} {us ws : List Value}, (∀ z ∈ zs, Smp z) → Vals zs us → Vals zs ws → ∀ j (h1 : j < us.length) (h2 : j < ws.length), SeqAt.EqAt A s us[j] ws[j] true
  | _, _, _, _, .nil, .nil, j, h1, _ => absurd h1 (by simp)
  | _, _, _, hs, .cons r1 _, .cons r2 _, 0, _, _ => eqat_smp (hs _ (List.mem_cons_self)) r1 r2
  | _, _, _, hs, .cons _ t1, .cons _ t2, j + 1, h1, h2 => vals_eqat (fun z hz => hs z (List.mem_cons_of_mem _ hz)) t1 t2 j (by simpa using h1) (by simpa using h2)
end L2
set_option Elab.async false
set_option linter.all false
set_option maxRecDepth 100000
namespace L2
open PySem PySem.Spec PyProof.Rows XH
/-! ### a text, walked sign by sign -/
section
variable {X : Cx} {tg : Expr}
end
/-! ### x[lo:hi] of a text -/
def cutS (x : Str) (lo hi : Option Int) : Str := ⟨((x.cps.toList.drop (HT.sIx x.length 0 lo)).take (HT.sIx x.length x.length hi - HT.sIx x.length 0 lo)).toArray⟩
theorem sIdx (lo hi : Option Int) (n : Nat) : Builtin.Str.strSliceIndices lo hi 1 n = (List.range (HT.sIx n n hi - HT.sIx n 0 lo)).map (HT.sIx n 0 lo + ·) := by
  have h1 : (match lo with | none => (0 : Int) | some i => max 0 (min (if i < 0 then i + (n : Int) else i) n)) = ((HT.sIx n 0 lo : Nat) : Int) := by
    cases lo with
    | none => simp [HT.sIx]
    | some i =>
      simp only [HT.sIx]
      by_cases h : i < 0
      · simp only [h, if_true] <;> omega
      · simp only [h, if_false] <;> omega
  have h2 : (match hi with | none => (n : Int) | some i => max 0 (min (if i < 0 then i + (n : Int) else i) n)) = ((HT.sIx n n hi : Nat) : Int) := by
    cases hi with
    | none => simp [HT.sIx]
    | some i =>
      simp only [HT.sIx]
      by_cases h : i < 0
      · simp only [h, if_true] <;> omega
      · simp only [h, if_false] <;> omega
  rw [← sliceRange_one, ← h1, ← h2]
  cases lo <;> cases hi <;> rfl
theorem cutS_picked (x : Str) (l u : Option (Int × Tok)) : (⟨((slicePicked x l u none).filterMap (x.cps[·]?)).toArray⟩ : Str) = cutS x (l.map (·.1)) (u.map (·.1)) := by
  show (⟨((Builtin.Str.strSliceIndices (l.map (·.1)) (u.map (·.1)) 1 x.length).filterMap (x.cps[·]?)).toArray⟩ : Str) = _
  rw [sIdx, pick_run]
  rfl
theorem cutS_length (x : Str) (lo hi : Option Int) : (cutS x lo hi).length ≤ x.length := by
  show ((x.cps.toList.drop _).take _).toArray.size ≤ x.cps.size
  rw [List.size_toArray, List.length_take, List.length_drop]
  simp only [Array.length_toList]
  omega
theorem cutS_whole (x : Str) (l u : Option (Int × Tok)) (h : (slicePicked x l u none).length = x.length) : cutS x (l.map (·.1)) (u.map (·.1)) = x := by
  have h' : (Builtin.Str.strSliceIndices (l.map (·.1)) (u.map (·.1)) 1 x.length).length = x.length := h
  rw [sIdx, List.length_map, List.length_range] at h'
  have hs : HT.sIx x.length x.length (u.map (·.1)) ≤ x.length ∨ x.length < HT.sIx x.length x.length (u.map (·.1)) := by omega
  have hu : HT.sIx x.length x.length (u.map (·.1)) ≤ x.length := by
    cases u with
    | none => exact Nat.le_refl _
    | some p =>
      show (if p.1 < 0 then (p.1 + (x.length : Int)).toNat else min p.1.toNat x.length) ≤ x.length
      by_cases hp : p.1 < 0
      · rw [if_pos hp]; omega
      · rw [if_neg hp]; omega
  unfold cutS
  by_cases hx : x.length = 0
  · have e : x.cps.toList = [] := by
      have : x.cps.toList.length = 0 := by rw [Array.length_toList]; exact hx
      exact List.eq_nil_of_length_eq_zero this
    rw [e, List.drop_nil, List.take_nil]
    obtain ⟨c⟩ := x
    have e' : c = #[] := Array.toList_inj.mp (by simpa using e)
    rw [e']
  · have h0 : HT.sIx x.length 0 (l.map (·.1)) = 0 := by omega
    rw [h0, List.drop_zero, List.take_of_length_le (by rw [Array.length_toList]; show x.length ≤ _; omega)]
theorem part_of {v : Value} {o : Option Int} (p : IsPart v o) : ∃ l : Option (Int × Tok), partValue l = v ∧ l.map (·.1) = o := by
  cases p with
  | none => exact ⟨none, rfl, rfl⟩
  | int i t => exact ⟨some (i, t), rfl, rfl⟩
theorem sl_str {X : Cx} : SlR X (fun x lo hi H Q => ∃ z, x = .str z ∧ z.length ≤ sizeLine ∧ Q (.str (cutS z lo hi)) H) := by
  intro pins s σ H x v vl vu lo hi sl Q I rx hs pl pu h
  obtain ⟨z, rfl, hz, q⟩ := h
  obtain ⟨t, rfl⟩ := rx
  obtain ⟨l, rfl, rfl⟩ := part_of pl
  obtain ⟨u, rfl, rfl⟩ := part_of pu
  refine ⟨"str", _, slot_str_getitem.lookup, typeIs_str s z t, ?_⟩
  refine wpAny_getItem_str_slice (l := l) (u := u) (st := none) hs rfl ?_
  unfold sliceMade
  by_cases hw : (slicePicked z l u none).length = z.length
  · rw [if_pos (by simp [hw])]
    refine ⟨.str (cutS z (l.map (·.1)) (u.map (·.1))), H, I, ⟨t, by rw [cutS_whole z l u hw]⟩, q⟩
  · rw [if_neg (by simp [hw])]
    rw [cutS_picked]
    exact ⟨Nat.le_trans (cutS_length _ _ _) hz, .str (cutS z (l.map (·.1)) (u.map (·.1))), H, I.tok _, ⟨_, rfl⟩, q⟩
/-! ### methods of texts -/
end L2
set_option Elab.async false
set_option linter.all false
set_option maxRecDepth 100000
namespace Sw
open PySem L2 XH PyProof.Rows
/-! ### defs that are called from a handler too, and refusals' __init__ -/
section
variable {X : Cx} {k j : Nat} {x : Str} {ps : List Str} {sp : Sp} {p np pos cpos : Pos} {e : Expr} {es : List Expr} {t : TA} {hd : Option Value} {C : Addr} {E : L2.St → XK}
end
theorem sUpd {H H' : Hp} {p : Addr} (g : Same H H') (h : H p = none) (o : HO) : Same H (upd H' p o) := fun b u q => by
  rw [upd_ne (ne_of_none q h)]
  exact g b u q
/-! ### the sixteen refusals -/
section
variable {K : PySem.W.Frag} {cs : List Addr} {S C D : Addr} {i j : Nat}
end
end Sw
set_option Elab.async false
set_option linter.all false
set_option maxRecDepth 100000
namespace Sw
open PySem PySem.NumText
/-! ### the figures of a number -/
/-! ### a number of a text -/
/-! ### a text cut at a sign -/
/-! ### what is read -/
end Sw
set_option Elab.async false
set_option linter.all false
set_option maxRecDepth 100000
namespace L2
open PySem PySem.Spec PyProof.Rows XH
section
variable {X : Cx} {a b e o : Expr} {es : List Expr} {t te to : TE} {ta : TA} {pos apos cpos : Pos} {x y : Str}
/-! ### a text with numbers and texts put in -/
/-! ### int(text), max(list), values of the file's top -/
/-! ### tuples of numbers that are alike -/
theorem op_eqT (hu : X.A.units < cLine) : OpR X (compareOp .Eq) (fun x y H Q => ∃ a b zs, x = .ref a ∧ y = .ref b ∧ SqT X.K H a zs ∧ SqT X.K H b zs ∧ (∀ z ∈ zs, Smp z) ∧ Q (.bl true) H) := by
  intro pins s σ H x y v u Q I rx ry h
  obtain ⟨a, b, zs, rfl, rfl, h1, h2, hs, hq⟩ := h
  cases rx
  cases ry
  obtain ⟨i1, r1, p1, _⟩ := I.tuple h1
  obtain ⟨i2, r2, p2, _⟩ := I.tuple h2
  refine SeqAt.eq_tupleAt (e := fun _ => true) p1 p2 hu (fun j g1 g2 => ?_) ?_
  · exact vals_eqat (A := X.A.in1) (s := s) hs r1 r2 j (by simpa using g1) (by simpa using g2)
  · exact ⟨.bl true, H, I, by show Value.bool _ = Value.bool _; simp [← r1.length, ← r2.length], hq⟩
/-! ### a list walked in a comprehension -/
/-! ### split -/
/-! ### replace: the two texts must be made behind something else -/
end
end L2
set_option Elab.async false
set_option linter.all false
set_option maxRecDepth 100000
namespace Sw
open PySem L2 XH PySem.NumText
/-! ### texts and their signs -/
/-! ### a text split at a sign -/
/-! ### promises -/
end Sw
namespace Sw
open PySem L2 XH PySem.NumText
end Sw
namespace Sw
open PySem L2 XH PySem.NumText
end Sw
namespace Sw
open PySem L2 XH PySem.NumText
end Sw
namespace Sw
open PySem L2 XH PySem.NumText
theorem atI_in {xs : List V} {i : Int} (h0 : 0 ≤ i) (h : i < (xs.length : Int)) : ∃ v ∈ xs, atI xs i = some v := by
  have hk : i.toNat < xs.length := by omega
  have ek : i = ((i.toNat : Nat) : Int) := by omega
  refine ⟨xs[i.toNat], List.getElem_mem hk, ?_⟩
  have q : atI xs ((i.toNat : Nat) : Int) = some xs[i.toNat] := atI_nat (List.getElem?_eq_getElem hk)
  rw [← ek] at q
  exact q
theorem atI_inN {xs : List Nat} {i : Int} (h0 : 0 ≤ i) (h : i < (xs.length : Int)) : ∃ v, atI xs i = some v := by
  have hk : i.toNat < xs.length := by omega
  have ek : i = ((i.toNat : Nat) : Int) := by omega
  refine ⟨xs[i.toNat], ?_⟩
  have q : atI xs ((i.toNat : Nat) : Int) = some xs[i.toNat] := atI_nat (List.getElem?_eq_getElem hk)
  rw [← ek] at q
  exact q
end Sw
namespace Sw
open PySem L2 XH PySem.NumText
end Sw
set_option Elab.async false
set_option linter.all false
set_option maxRecDepth 100000
namespace L2
open PySem PySem.Spec PyProof.Rows XH
/-! ### a dict, walked key by key; while it is walked it is known to the object -/
theorem is_kV {P : Program} {w : World} {k : Key} {u : Value} (h : (mixKind P w).is k u = true) : RelV (kV k) u := by
  rcases keyIs_shape h with ⟨i, t, rfl, rfl⟩ | ⟨x, t, rfl, rfl⟩
  · exact ⟨t, rfl⟩
  · exact ⟨t, rfl⟩
/-- nothing of the kind was known there at the entry -/
def NF (X : Cx) (a : Addr) : Prop := ∀ o u, X.H₀ a ≠ some (.frz o u)
section
variable {X : Cx} {tg : Expr}
end
end L2
set_option Elab.async false
set_option linter.all false
set_option maxRecDepth 100000
namespace L2
open PySem PySem.Spec PyProof.Rows XH
/-! ### list comprehensions with one test -/
section
variable {prog : Program} {w : World} {A : Around} {R : Result → Shared → Prop} {s : Shared}
end
section
variable {X : Cx} {scope : Scope} {cl : List (Str × Addr)} {own : Str} {ys : List Str} {js : List Nat} {elt iter cond : Expr} {px pos : Pos} {wi : TI} {te : TE} {tc : TT}
end
end L2
set_option Elab.async false
set_option linter.all false
set_option maxRecDepth 100000
namespace L2
open PySem PySem.Spec PyProof.Rows XH
/-! ### setdefault -/
section
variable {X : Cx}
theorem mt_setdef : MtR X "dict.setdefault" (fun x vs H Q => ∃ a kvs k v, x = .ref a ∧ vs = [kV k, v] ∧ H a = some (.dK kvs) ∧ kvs.length < sizeLine ∧ (∀ w, valV kvs k = some w → Q w H) ∧ (valV kvs k = none → Q v (upd H a (.dK (putK kvs k v))))) := by
  intro pins s σ H x vs v us Q I rx rv h
  obtain ⟨a, kvs, k, y, rfl, rfl, hk, hz, q1, q2⟩ := h
  cases rx
  obtain ⟨u, w', rfl, ru, rw'⟩ := vals2 rv
  obtain ⟨z, hS, ws, rel, D⟩ := dk_of I.hok hk
  refine call_meetsIn F.slot_dict_setdefault D.typeIs F.entry_dict_setdefault (F.args_dict_setdefault_3 _ _ _) (kt_meets_setdefault (mixKind X.prog X.w) a (kV_is ru) hS w') ⟨ws, D, by rw [← rel.length]; exact z, fun v' hv => ?_, fun hn h' D' hs' => ?_⟩
  · have r := rel.val k
    rw [hv] at r
    cases e : valV kvs k with
    | none => rw [e] at r; exact r.elim
    | some y' =>
      rw [e] at r
      exact ⟨y', H, I.tok _, r, q1 y' e⟩
  · have r := rel.val k
    rw [hn] at r
    have e : valV kvs k = none := by
      cases e : valV kvs k with
      | none => rfl
      | some y' => rw [e] at r; exact r.elim
    obtain ⟨od, _, _, ho, _⟩ := id D'
    refine ⟨y, _, d_write I (by rw [hk]; trivial) hs' ⟨od, ho⟩ (dk_new (by have := length_putK kvs k y; omega) hS (rel.put k rw') D'), rw', q2 e⟩
end
/-! ### dicts that are alike -/
section
variable {prog : Program} {w : World} {κ : Type} [DecidableEq κ] {knd : KeyKind prog w κ} {A : Around} {E : Value → Shared → Prop} {s : Shared}
def LEq (prog : Program) (w : World) (A : Around) (s : Shared) (v y : Value) : Prop := ∀ (E : Value → Shared → Prop) (Q : Bool → Shared → Prop), Q true s → wpAny (model prog w) A (eqBool v y) Q E s
theorem same_all {nm : String} {a b : Addr} {ka kb : List (κ × Value)} {Q : Bool → Shared → Prop} (na : (a == sysModules) = false) (nb : (b == sysModules) = false)
    (da : s.heap.DictOf knd a ka) (db : s.heap.DictOf knd b kb) (hl : ka.length = kb.length) (hits : ∀ (i : Nat) (k : κ) (v : Value), ka[i]? = some (k, v) → ∃ y, valueAt kb k = some y ∧ LEq prog w A s v y) (q : Q true s) :
    wpAny (model prog w) A (Builtin.Dict.samePairs nm a b) Q E s := by
  obtain ⟨o1, t1, e1, g1, _, d1, k1, p1, _⟩ := da
  obtain ⟨o2, t2, e2, g2, _, d2, k2, p2, _⟩ := db
  have n1 : ka.length = t1.size := p1.length.symm.trans Array.length_toList
  have n2 : kb.length = t2.size := p2.length.symm.trans Array.length_toList
  have look : ∀ k, findBy knd.is t2 k = valueAt kb k := by
    intro k
    rw [← p2.find k]
    clear n2 p2 k2 d2 g2
    rcases t2 with ⟨l⟩
    simp [findBy]
  have sz : t1.size = t2.size := by rw [← n1, ← n2, hl]
  simp only [Builtin.Dict.samePairs, Builtin.Dict.showsAll, na, nb, Bool.false_eq_true, if_false]
  apply wpAny_bind
  apply wpAny_pure
  apply wpAny_bind
  apply wpAny_pure
  apply wpAny_bind
  apply wpAny_dictEntries g1 d1
  apply wpAny_bind
  apply wpAny_dictEntries g2 d2
  have ns : (t1.size != t2.size) = false := by simp [sz]
  rw [ns]
  apply wpAny_bind
  apply wpAny_dictEpoch g1 d1
  apply wpAny_bind
  rewrite [Std.Legacy.Range.forIn_eq_forIn_range']
  simp only [Nat.sub_zero, Nat.div_one, Nat.add_sub_cancel, Std.Legacy.Range.size]
  apply wpAny_forIn_list _ (fun rest r s' => s' = s ∧ r = (none, ()) ∧ ∃ i, rest = List.range' i (t1.size - i) ∧ i ≤ t1.size)
  case h => exact ⟨rfl, rfl, 0, by simp, Nat.zero_le _⟩
  case fin =>
    rintro r s' ⟨rfl, rfl, _⟩
    exact wpAny_pure q
  case turn =>
    rintro x rest r s' ⟨rfl, rfl, i, er, hi⟩
    have hlt : i < t1.size := by
      apply Nat.lt_of_not_le
      intro c
      rw [Nat.sub_eq_zero_of_le c] at er
      simp at er
    have one : t1.size - i = (t1.size - (i + 1)) + 1 := by omega
    rw [one, List.range'_succ] at er
    injection er with ex erest
    subst ex
    apply wpAny_bind
    apply wpAny_dictEntries g1 d1
    rw [Array.getElem?_eq_getElem hlt]
    have hlk : x < ka.length := by rw [n1]; exact hlt
    have hat : ka[x]? = some (ka[x].1, ka[x].2) := List.getElem?_eq_getElem hlk
    obtain ⟨y, hy, le⟩ := hits x _ _ hat
    obtain ⟨ky, vy⟩ := p1.get? (i := x) (e := t1[x]) (by rw [Array.getElem?_toList]; exact Array.getElem?_eq_getElem hlt) hat
    obtain ⟨k', hk', hh⟩ := k1 t1[x] (Array.getElem_mem hlt)
    rw [knd.inj _ _ _ hk' ky] at hh
    show wpAny _ _ (holding [t1[x].key, t1[x].val] _ >>= _) _ _ _
    rw [hh]
    apply wpAny_bind
    apply wpAny_holding
    apply wpAny_bind
    apply wpAny_dictFind_of ky g2 d2 k2
    have fnd := look ka[x].1
    rw [hy, findBy_of_findIdx?] at fnd
    cases hj : t2.findIdx? fun e => knd.is ka[x].1 e.key with
    | none => rw [hj] at fnd; cases fnd
    | some j =>
      obtain ⟨jlt, _⟩ := Array.findIdx?_eq_some_iff_getElem.mp hj
      rw [hj] at fnd
      have ev : t2[j].val = y := by simpa [Array.getElem?_eq_getElem jlt] using fnd
      apply wpAny_bind
      apply wpAny_dictEntries g2 d2
      rw [Array.getElem?_eq_getElem jlt]
      apply wpAny_holding
      rw [ev, vy]
      apply le
      apply wpAny_bind
      apply wpAny_dictEpoch g1 d1
      rw [if_neg (by simp)]
      exact wpAny_pure ⟨rfl, rfl, x + 1, erest, hlt⟩
theorem dict_eq {c d : Addr} {ka kb : List (κ × Value)} {Q : Value → Shared → Prop} (na : (c == sysModules) = false) (nb : (d == sysModules) = false) (da : s.heap.DictOf knd c ka) (db : s.heap.DictOf knd d kb) (hu : A.units < cLine)
    (hl : ka.length = kb.length) (hits : ∀ (i : Nat) (k : κ) (v : Value), ka[i]? = some (k, v) → ∃ y, valueAt kb k = some y ∧ LEq prog w A.in1 s v y) (q : Q (.bool true) s) : wpAny (model prog w) A (compareOp .Eq (.ref c) (.ref d)) Q E s := by
  apply wpAny_richCompare_same_room (op := .Eq) da.typeIs db.typeIs PySem.F.slot_dict_eq ?_ hu
  apply wpAny_call_entry PySem.F.slot_dict_eq da.typeIs PySem.F.entry_dict_eq ?_ (PySem.F.args_dict_eq_2 _ _)
  show wpAny _ _ (Builtin.Dict.dictSlotArgs "__eq__" ⟨[.ref c, .ref d], []⟩ >>= _) _ _ s
  apply wpAny_bind
  unfold Builtin.Dict.dictSlotArgs
  apply wpAny_bind
  apply wpAny_notOrdered_dict da.typeIs
  show wpAny _ _ (pure (Value.ref c, Value.ref d)) _ _ s
  apply wpAny_pure
  apply wpAny_bind
  apply wpAny_isInstance (T := "dict") db.typeIs PySem.F.sub_dict_dict
  simp only [if_false, Bool.not_true, Bool.false_eq_true]
  apply wpAny_bind
  apply wpAny_pure
  apply wpAny_bind
  apply wpAny_pure
  apply wpAny_bind
  apply same_all na nb da db hl hits
  exact wpAny_pure ⟨_, rfl, (fun z => nomatch z), q⟩
theorem dict_ne {c d : Addr} {ka kb : List (κ × Value)} {Q : Value → Shared → Prop} (na : (c == sysModules) = false) (nb : (d == sysModules) = false) (da : s.heap.DictOf knd c ka) (db : s.heap.DictOf knd d kb) (hu : A.units < cLine)
    (hl : ka.length = kb.length) (hits : ∀ (i : Nat) (k : κ) (v : Value), ka[i]? = some (k, v) → ∃ y, valueAt kb k = some y ∧ LEq prog w A.in1 s v y) (q : Q (.bool false) s) : wpAny (model prog w) A (compareOp .NotEq (.ref c) (.ref d)) Q E s := by
  apply wpAny_richCompare_same_room (op := .NotEq) da.typeIs db.typeIs PySem.F.slot_dict_ne ?_ hu
  apply wpAny_call_entry PySem.F.slot_dict_ne da.typeIs PySem.F.entry_dict_ne ?_ (PySem.F.args_dict_ne_2 _ _)
  show wpAny _ _ (Builtin.Dict.dictSlotArgs "__ne__" ⟨[.ref c, .ref d], []⟩ >>= _) _ _ s
  apply wpAny_bind
  unfold Builtin.Dict.dictSlotArgs
  apply wpAny_bind
  apply wpAny_notOrdered_dict da.typeIs
  show wpAny _ _ (pure (Value.ref c, Value.ref d)) _ _ s
  apply wpAny_pure
  apply wpAny_bind
  apply wpAny_isInstance (T := "dict") db.typeIs PySem.F.sub_dict_dict
  simp only [if_false, Bool.not_true, Bool.false_eq_true]
  apply wpAny_bind
  apply wpAny_pure
  apply wpAny_bind
  apply wpAny_pure
  apply wpAny_bind
  apply same_all na nb da db hl hits
  exact wpAny_pure ⟨_, rfl, (fun z => nomatch z), q⟩
end
end L2
set_option Elab.async false
set_option linter.all false
set_option maxRecDepth 100000
namespace L2
open PySem PySem.Spec PyProof.Rows XH
/-! ### list(reversed(xs)) -/
section
variable {prog : Program} {w : World} {A : Around} {R : Result → Shared → Prop} {s : Shared} {I l S : Addr} {items : Array Value}
end
section
variable {X : Cx} {e : Expr} {te : TE} {p1 p2 pos pos2 : Pos}
end
end L2
set_option Elab.async false
set_option linter.all false
set_option maxRecDepth 100000
namespace L2
open PySem PySem.Spec PyProof.Rows XH
/-! ### set(xs) of texts and numbers that are all unlike -/
def upTo (ks : Nat → Key) (i : Nat) : Key → Bool := fun k => (List.range i).any fun j => decide (ks j = k)
theorem upTo_succ (ks : Nat → Key) (i : Nat) : (fun k => upTo ks i k || decide (k = ks i)) = upTo ks (i + 1) := by
  funext k
  unfold upTo
  rw [List.range_succ, List.any_append]
  simp [eq_comm]
section
variable {prog : Program} {w : World} {A : Around} {R : Result → Shared → Prop} {I : Addr} {fp wr : List Addr} {G : Array GenState → Array GenState → Prop} {n : Nat} {P : Nat → Value → Prop} {St : Nat → Shared → Prop}
theorem set_loop (W : WalksS prog w A.in1 I fp wr G n P St) (S : Addr) (out : S ∉ fp) (ks : Nat → Key) (hv : ∀ i v, P i v → (mixKind prog w).is (ks i) v = true ∧ v.scannable = true)
    (inj : ∀ i, i < n → upTo ks i (ks i) = false) (hb : n + 1 < scanBound) : ∀ (m i : Nat) (s : Shared), n - i = m → i ≤ n → St i s → s.heap.SetOf (mixKind prog w) S (upTo ks i) i →
      (∀ s', Moved (S :: wr) G s s' → s'.heap.SetOf (mixKind prog w) S (upTo ks n) n → R (.ok (.ret .none)) s') → codeAny (model prog w) A (.builtin "set.update.loop" ⟨[.ref S, .ref I], []⟩) R s := by
  have nw : S ∉ wr := fun h => out (W.sub _ h)
  have up : ∀ b ∈ wr, b ∈ S :: wr := fun b hb => .tail _ hb
  have stay : ∀ {s1 s2 : Shared} {f : Key → Bool} {c : Nat}, s1.heap.SetOf (mixKind prog w) S f c → Moved wr G s1 s2 → s2.heap.SetOf (mixKind prog w) S f c := by
    rintro s1 s2 f c ⟨o, es, ep, t, ho, z⟩ mv
    exact ⟨o, es, ep, t, mv.heap S _ nw ho, z⟩
  intro m
  induction m with
  | zero =>
    intro i s hm hi st hS fin
    have e : i = n := by omega
    subst e
    apply codeAny_builtin F.entry_set_update_loop
    rw [Around.under_plainId F.plain_set_update_loop _]
    show wpAny _ _ (pyNext (.ref I) >>= _) _ _ s
    apply wpAny_bind
    refine W.done s _ _ st fun s' mv => ?_
    exact wpAny_pure (fin s' (mv.mono up) (stay hS mv))
  | succ m ih =>
    intro i s hm hi st hS fin
    have lt : i < n := by omega
    apply codeAny_builtin F.entry_set_update_loop
    rw [Around.under_plainId F.plain_set_update_loop _]
    show wpAny _ _ (pyNext (.ref I) >>= _) _ _ s
    apply wpAny_bind
    refine W.item i s _ _ lt st fun v s' pv st' mv => ?_
    obtain ⟨kv, sc⟩ := hv i v pv
    show wpAny _ _ (holding [v] (setAdd S v) >>= _) _ _ s'
    apply wpAny_bind
    apply wpAny_holding
    unfold setAdd
    apply wpAny_holding
    apply wpAny_bind
    refine (mixKind prog w).pyHash (k := ks i) kv ?_
    refine wpAny_setAddHashed_of (knd := mixKind prog w) (s := { s' with toks := s'.toks + 1 }) kv sc (show Heap.SetOf (mixKind prog w) s'.heap S (upTo ks i) i from stay hS mv) (by omega) fun h' same S2 => ?_
    have S3 : h'.SetOf (mixKind prog w) S (upTo ks (i + 1)) (i + 1) := by
      rw [upTo_succ, inj i lt] at S2
      exact S2
    apply wpAny_pure
    refine ⟨plainId_quiet F.plain_set_update_loop _, ih (i + 1) _ (by omega) lt (W.frame _ s' _ _ st' (Nat.le_succ _) fun b hb o e => ?_) S3 fun s'' mv2 S4 => ?_⟩
    · exact (same.2 b fun z => out (z ▸ hb)).trans e
    · exact fin s'' (Moved.trans W.gtrans ((mv.mono up).then_heap (Nat.le_succ _) fun b o hb e => (same.2 b fun z => hb (z ▸ List.mem_cons_self)).trans e) mv2) S4
end
section
variable {prog : Program} {w : World} {A : Around} {E : Value → Shared → Prop} {s : Shared}
set_option maxHeartbeats 3200000 in
theorem set_list_ {l : Addr} {items : Array Value} {ks : Nat → Key} {Q : Value → Shared → Prop} (hh : A.handled = none) (hl : s.heap.IsList l items) (hv : ∀ i v, items[i]? = some v → (mixKind prog w).is (ks i) v = true ∧ v.scannable = true)
    (inj : ∀ i, i < items.size → upTo ks i (ks i) = false) (hb : items.size + 1 < scanBound)
    (fin : ∀ (h' : Heap) (tk : Nat), h'.SetOf (mixKind prog w) s.heap.objs.size (upTo ks items.size) items.size → (∀ b o, b < s.heap.objs.size → s.heap.get? b = some o → h'.get? b = some o) → Q (.ref s.heap.objs.size) { s with heap := h', toks := tk }) :
    wpAny (model prog w) A (call (.type "set") [.ref l]) Q E s := by
  obtain ⟨c0, tl0, mro⟩ := F.called_set.mro
  have made := F.called_set.made
  have subt := F.called_set.sub
  apply wpAny_call
  apply codeAny_of_tree
  show wpAny _ _ (callAny (.type "set") _) _ _ _
  apply wpAny_pure
  refine ⟨Code.quiet_builtin _ (by decide +kernel), codeAny_builtin F.entry_type_call ?_⟩
  rw [Around.under_plain (weight_type_call_type "set" [.ref l] []) rfl]
  have nt := F.called_set.notType
  have cc := F.called_set.canCreate
  have tc := F.typeCall_set_1 (.ref l)
  repeat any_goals first | assumption | wp_step
  refine codeAny_mono (code_set_new_1 (.ref l) (E := E) (Q₁ := fun v s1 => ∃ led : Bool, v = .ref s.heap.objs.size ∧ s1 = { s with heap := s.heap.push { cls := .type "set", dict := none, data := .set #[] 0 (.fresh 0 0 led) } }) fun led => ⟨led, rfl, rfl⟩) fun r s1 hr => ?_
  cases r with
  | error e => exact hr
  | ok fl =>
    cases fl with
    | ret v =>
      obtain ⟨led, rfl, rfl⟩ := hr
      have e0 : (s.heap.push { cls := .type "set", dict := none, data := .set #[] 0 (.fresh 0 0 led) }).get? s.heap.objs.size = some { cls := .type "set", dict := none, data := .set #[] 0 (.fresh 0 0 led) } := Heap.get?_push_size _ rfl
      have tS : Shared.TypeIs { s with heap := s.heap.push { cls := .type "set", dict := none, data := .set #[] 0 (.fresh 0 0 led) } } (.ref s.heap.objs.size) "set" := ⟨_, e0, rfl⟩
      have lk := F.called_set.init.lookup
      have bd := F.called_set.init.bind (.ref s.heap.objs.size)
      repeat any_goals first | assumption | wp_step
      refine codeAny_mono (codeAny_call_builtin (R := wants (fun r s2 => r = .none ∧ ∃ h' tk, s2 = { s with heap := h', toks := tk } ∧ h'.SetOf (mixKind prog w) s.heap.objs.size (upTo ks items.size) items.size ∧ ∀ b o, b < s.heap.objs.size → s.heap.get? b = some o → h'.get? b = some o) E) F.called_set.init.plain F.entry_set_init (check_set_init_1 tS ?_)) fun r2 s2 hr2 => ?_
      · obtain ⟨⟨lc, ld, lx, ls⟩, hol, hcl, nl, hdl⟩ := hl
        simp only at hcl hdl
        subst hcl hdl
        have el : (s.heap.push { cls := .type "set", dict := none, data := .set #[] 0 (.fresh 0 0 led) }).get? l = some { cls := .type "list", dict := ld, data := .seq items nl, slots := ls } := Heap.get?_push_of_some _ hol
        have n1 := F.sub_list_set
        have n2 := F.sub_list_frozenset
        have n3 : (Value.type "list" == Value.type "dict") = false := by decide
        have il : (s.heap.push { cls := .type "set", dict := none, data := .set #[] 0 (.fresh 0 0 led) }).IsList l items := ⟨_, el, rfl, nl, rfl⟩
        unfold Builtin.«set.__init__» noKeywords Builtin.Frozenset.updateFrom
        generalize hit : pyIter = PI
        wp_walk
        subst hit
        apply wpAny_pyIter_list il
        apply wpAny_bind
        apply wpAny_runValue
        have ll : l < s.heap.objs.size := Heap.lt_size hol
        have h3 : A.in1.in1.in1.handled = none := by simpa using hh
        have nI : l ≠ (s.heap.push { cls := .type "set", dict := none, data := .set #[] 0 (.fresh 0 0 led) }).objs.size := by
          rw [Heap.size_push]
          exact Nat.ne_of_lt (Nat.lt_succ_of_lt ll)
        have out : s.heap.objs.size ∉ [(s.heap.push { cls := .type "set", dict := none, data := .set #[] 0 (.fresh 0 0 led) }).objs.size, l] := by
          rw [Heap.size_push]
          simp only [List.mem_cons, not_or]
          exact ⟨Nat.ne_of_lt (Nat.lt_succ_self _), Nat.ne_of_gt ll, List.not_mem_nil⟩
        refine set_loop ((Walks.list h3 _ l nI items).toS) s.heap.objs.size out ks hv inj hb items.size 0 _ rfl (Nat.zero_le _) ⟨⟨_, Heap.get?_push_size _ rfl, rfl, rfl⟩, il.push _⟩ ?_ ?_
        · have e1 : ((s.heap.push { cls := .type "set", dict := none, data := .set #[] 0 (.fresh 0 0 led) }).push { cls := .type "list_iterator", data := .fields #[.ref l, .int 0 0] }).get? s.heap.objs.size = some { cls := .type "set", dict := none, data := .set #[] 0 (.fresh 0 0 led) } :=
            Heap.get?_push_of_some _ e0
          refine ⟨_, #[], 0, _, e1, ⟨rfl, rfl, rfl⟩, rfl, (fun e he => by simp at he), (fun k => by simp [upTo]), by decide, rfl, rfl⟩
        · intro s' mv S2
          obtain ⟨h', g', d', tk', os'⟩ := s'
          have eg : g' = s.gens := mv.gens
          have ed : d' = s.drawn := mv.drawn
          have eo : os' = s.os := mv.os
          subst eg ed eo
          show wpAny _ _ _ _ _ _
          apply wpAny_pure
          show wpAny _ _ (ret Value.none) _ _ _
          apply wpAny_pure
          refine ⟨rfl, h', tk', rfl, S2, fun b o hb' e => ?_⟩
          refine mv.heap b o ?_ (Heap.get?_push_of_some _ (Heap.get?_push_of_some _ e))
          rw [Heap.size_push]
          simp only [List.mem_cons, not_or]
          exact ⟨Nat.ne_of_lt hb', Nat.ne_of_lt (Nat.lt_succ_of_lt hb'), List.not_mem_nil⟩
      · cases r2 with
        | error e => exact hr2
        | ok fl2 =>
          cases fl2 with
          | ret r =>
            obtain ⟨rfl, h', tk, rfl, S2, kp⟩ := hr2
            repeat any_goals first | assumption | wp_step
            exact fin _ _ S2 kp
          | _ => exact hr2.elim
    | _ => exact hr.elim
end
end L2
namespace L2
open PySem PySem.Spec PyProof.Rows XH
/-! ### len(set(xs)) -/
def tLenSet (K : PySem.W.Frag) (te : TE) : TE := fun σ H Q => te σ H fun x H1 => ∃ (a : Addr) (ks : List Key), x = .ref a ∧ SqL K H1 a (ks.map kV) ∧ ks.Nodup ∧ ks.length < 4000 ∧ Q (.int ks.length) H1
theorem upTo_nodup {ks : List Key} (nd : ks.Nodup) (i : Nat) (hi : i < ks.length) : upTo (fun j => ks.getD j (.inl 0)) i (ks.getD i (.inl 0)) = false := by
  unfold upTo
  rw [List.any_eq_false]
  intro j hj
  have lj : j < i := List.mem_range.mp hj
  simp only [List.getD_eq_getElem?_getD, List.getElem?_eq_getElem hi, List.getElem?_eq_getElem (Nat.lt_trans lj hi), Option.getD_some, decide_eq_true_eq]
  intro e
  have := (List.getElem_inj nd).mp e
  omega
theorem vals_key : ∀ {ks : List Key} {us : List Value}, Vals (ks.map kV) us → ∀ (P : Program) (w : World) (i : Nat) (v : Value), us[i]? = some v → (mixKind P w).is (ks.getD i (.inl 0)) v = true ∧ v.scannable = true
  | [], _, .nil, P, w, i, v, h => by simp at h
  | k :: ks, _, .cons r t, P, w, 0, v, h => by
    simp at h
    subst h
    refine ⟨kV_is r, ?_⟩
    cases k with
    | inl z => obtain ⟨_, rfl⟩ := r; rfl
    | inr z => obtain ⟨_, rfl⟩ := r; rfl
  | k :: ks, _, .cons r t, P, w, i + 1, v, h => vals_key t P w i v (by simpa using h)
section
variable {X : Cx} {e : Expr} {te : TE} {p1 p2 pos pos2 : Pos}
theorem pe_lenSet (hc : X.calm = true) (g1 : Gl X "len") (m1 : X.mg "len" = none) (g2 : Gl X "set") (m2 : X.mg "set" = none) (b1 : bootBuiltins "len" = some (.builtin "len")) (b2 : bootBuiltins "set" = some (.type "set")) (he : PE X e te)
    (hs : starEach [e] X.env = [(false, eval e X.env)] := by rfl) :
    PE X (.Call (.Name "len" p1) [.Call (.Name "set" p2) [e] [] pos2] [] pos) (tLenSet X.K te) := by
  intro pins s σ H Q I h
  apply wpAny_Call_Name_kw
  refine ld_blt I g1 m1 b1 ?_ (by decide) (by decide)
  refine Calls.callWith_builtin rfl (Calls.evalArgs_plain ?_)
  refine Calls.spliced_cons (x := eval (.Call (.Name "set" p2) [e] [] pos2) X.env) (rest := []) ?_
  apply wpAny_Call_Name_kw
  refine ld_blt I g2 m2 b2 ?_ (by decide) (by decide)
  refine PyProof.Rows.callWith_type1 ?_ hs rfl
  rw [hs]
  refine Calls.spliced_cons (x := eval e X.env) (rest := []) (thn (he pins s σ H _ I h) fun v s1 ⟨x, H1, I1, r1, a, ks, ex, hq, nd, few, q⟩ => ?_)
  subst ex
  cases r1
  apply Calls.spliced_nil
  obtain ⟨its, rv, pl, hz⟩ := I1.list hq
  have sz : its.toArray.size = ks.length := by rw [List.size_toArray, ← rv.length, List.length_map]
  have hli : s1.heap.IsList a its.toArray := pl.isList
  refine set_list_ (ks := fun j => ks.getD j (.inl 0)) (I.ok.hd hc) hli (fun i v hv => vals_key rv X.prog X.w i v (by simpa using hv)) (fun i hi => upTo_nodup nd i (by rw [← sz]; exact hi)) (by rw [sz]; show ks.length + 1 < 4096; omega) fun h' tk S2 kp => ?_
  apply Calls.spliced_nil
  obtain ⟨o, es, ep, t, ho, hx, hd, _, _, hb, hf, hn⟩ := S2
  refine call_len_set ho hx hd hf (by rw [hn, sz]; have : ks.length < 4000 := few; omega) ?_
  refine ⟨.int ks.length, H1, I1.kept (fun b o e => kp b o (Heap.lt_size e) e), ⟨_, by rw [hn, sz]⟩, q⟩
end
end L2
set_option Elab.async false
set_option linter.all false
set_option maxRecDepth 100000
namespace L2
open PySem PySem.Spec PyProof.Rows XH
theorem call_lenK {X : Cx} : CallR X (.builtin "len") (fun xs H Q => ∃ a kvs, xs = [.ref a] ∧ Rd H a (.dK kvs) ∧ Q (.int kvs.length) H) := by
  intro pins s σ H xs us Q I r h
  obtain ⟨a, kvs, rfl, e, q⟩ := h
  obtain ⟨u, rfl, r1⟩ := vals1 r
  cases r1
  exact d_len I e fun t s' I' => ⟨.int kvs.length, H, I', ⟨t, rfl⟩, q⟩
end L2
namespace Sw
open PySem L2
/-! ### what parts lead to -/
/-! ### dicts with one value for all keys -/
def mapK (ks : List Str) (v : V) : List (Key × V) := ks.map fun y => (.inr y, v)
def addS (ks : List Str) (y : Str) : List Str := if y ∈ ks then ks else ks ++ [y]
theorem mapK_len (ks : List Str) (v : V) : (mapK ks v).length = ks.length := List.length_map _
theorem mapK_any (ks : List Str) (v : V) (y : Str) : ((mapK ks v).any fun kv => decide (kv.1 = (.inr y : Key))) = decide (y ∈ ks) := by
  unfold mapK
  rw [Bool.eq_iff_iff]
  simp
theorem mapK_val (ks : List Str) (v : V) (y : Str) : valV (mapK ks v) (.inr y) = if y ∈ ks then some v else none := by
  induction ks with
  | nil => rfl
  | cons k ks ih =>
    by_cases e : k = y
    · subst e
      rw [if_pos (by simp)]
      exact valV_pos rfl
    · have n : ¬ ((.inr k : Key) = .inr y) := fun z => e (Sum.inr.inj z)
      have h : valV (mapK (k :: ks) v) (.inr y) = valV (mapK ks v) (.inr y) := valV_neg n
      rw [h, ih]
      simp [Ne.symm e, show ¬ y = k from fun z => e z.symm]
theorem mapK_put (ks : List Str) (v : V) (y : Str) : putK (mapK ks v) (.inr y) v = mapK (addS ks y) v := by
  unfold putK addS
  rw [mapK_any]
  by_cases h : y ∈ ks
  · rw [if_pos (decide_eq_true h), if_pos h]
    unfold mapK
    rw [List.map_map]
    refine List.map_congr_left fun z hz => ?_
    show (if (.inr z : Key) = .inr y then ((.inr z : Key), v) else (.inr z, v)) = _
    split <;> rfl
  · rw [if_neg (by simpa using h), if_neg h]
    unfold mapK
    simp
theorem mem_addS {ks : List Str} {y z : Str} : z ∈ addS ks y ↔ z ∈ ks ∨ z = y := by
  unfold addS
  split
  · rename_i h
    constructor
    · exact .inl
    · rintro (k | rfl)
      · exact k
      · exact h
  · simp
theorem addS_len (ks : List Str) (y : Str) : ks.length ≤ (addS ks y).length ∧ ((addS ks y).length = ks.length → y ∈ ks) ∧ (addS ks y).length ≤ ks.length + 1 := by
  unfold addS
  split
  · rename_i h
    exact ⟨Nat.le_refl _, fun _ => h, Nat.le_succ _⟩
  · simp
/-! ### how many of a list are not yet there -/
/-! ### a list of pairs -/
end Sw
namespace Sw
open PySem L2
def lettT : Str := "abcdefghijklmnopqrstuvwxyz"
theorem lett_at {i : Int} (h0 : 0 ≤ i) (h : i < 26) : ∃ c, atI lettT.cps.toList i = some c := by
  refine atI_inN h0 ?_
  have e : lettT.cps.toList.length = 26 := by decide
  rw [e]
  exact h
def spNames0 : Sp := fun vs H Q _ => ∃ n m : Int, vs = [.int n, .int m] ∧ 0 ≤ m ∧ m ≤ 90 ∧ ∀ (l : Addr) (H' : Hp) (zs : List Str), Same H H' → H' l = some (.lst (zs.map V.str)) → (zs.length : Int) = m → Q (.ref l) H'
end Sw
set_option Elab.async false
set_option linter.all false
set_option maxRecDepth 100000
namespace Sw
open PySem L2
/-! ### parts as a dict of dicts -/
/-! ### as it lies in the heap -/
end Sw
set_option Elab.async false
set_option linter.all false
set_option maxRecDepth 100000
namespace Sw
open PySem L2
/-! ### all that is in a good, each with the one ahead of it -/
end Sw
set_option Elab.async false
set_option linter.all false
set_option maxRecDepth 100000
namespace Sw
open PySem L2
/-! ### a way down, kept from its end -/
end Sw
set_option Elab.async false
set_option linter.all false
set_option maxRecDepth 100000
namespace L2
open PySem PySem.Spec PyProof.Rows XH
section
variable {X : Cx} {scope : Scope} {cl : List (Str × Addr)} {own : Str} {ys : List Str} {js : List Nat} {elt iter cond : Expr} {px pos : Pos} {wi : TI} {te : TE} {tc : TT}
end
end L2
set_option Elab.async false
set_option linter.all false
set_option maxRecDepth 100000
namespace L2
open PySem PySem.Spec PyProof.Rows XH
theorem op_inK {X : Cx} {K : PySem.W.Frag} (h : X.K = K) : OpR X (compareOp .In) (rIn K false) := by
  subst h
  exact op_in_seq
/-! ### x == [] -/
theorem op_eqNil {X : Cx} (hu : X.A.units < cLine) : OpR X (compareOp .Eq) (fun x y H Q => ∃ a b zs, x = .ref a ∧ y = .ref b ∧ SqL X.K H a zs ∧ SqL X.K H b [] ∧ Q (.bl zs.isEmpty) H) := by
  intro pins s σ H x y v u Q I rx ry h
  obtain ⟨a, b, zs, rfl, rfl, h1, h2, hq⟩ := h
  cases rx
  cases ry
  obtain ⟨i1, r1, p1, _⟩ := I.list h1
  obtain ⟨i2, r2, p2, _⟩ := I.list h2
  cases r2
  cases zs with
  | nil =>
    cases r1
    refine SeqAt.eq_listAt (e := fun _ => true) p1.isList p2.isList rfl hu (fun j g1 g2 => absurd g1 (by simp)) ?_
    exact ⟨.bl true, H, I, by show Value.bool _ = Value.bool _; simp, hq⟩
  | cons z zs =>
    cases r1 with
    | cons r rr =>
      refine SeqAt.eq_list_lengthsAt p1.isList p2.isList (by simp) hu ?_
      exact ⟨.bl false, H, I, rfl, hq⟩
/-! ### comprehensions with a test that changes nothing -/
end L2
namespace Sw
open PySem L2 PyProof.Rows
/-! ### dicts of dicts that are alike -/
theorem paired_at {α β : Type} {F : α → β → Prop} : ∀ {l : List α} {m : List β}, Paired F l m → ∀ {i : Nat} {b : β}, m[i]? = some b → ∃ a, l[i]? = some a ∧ F a b
  | _, _, .nil, i, b, h => by simp at h
  | _, _, .cons r t, 0, b, h => by simp at h; subst h; exact ⟨_, rfl, r⟩
  | _, _, .cons r t, i + 1, b, h => by
    obtain ⟨a, h1, h2⟩ := paired_at t (i := i) (by simpa using h)
    exact ⟨a, by simpa using h1, h2⟩
theorem leq_same {prog : Program} {w : World} {A : Around} {s : Shared} (v : Value) : LEq prog w A s v v := fun E Q q => SeqAt.EqAt.same v prog w E Q q
theorem leq_refs {prog : Program} {w : World} {A : Around} {s : Shared} {a b : Addr} (h : a ≠ b → ∀ (E : Value → Shared → Prop) (Q : Value → Shared → Prop), Q (.bool true) s → wpAny (model prog w) A (compareOp .Eq (.ref a) (.ref b)) Q E s) : LEq prog w A s (.ref a) (.ref b) := fun E Q q => by
  by_cases e : a = b
  · subst e
    exact leq_same _ E Q q
  · unfold eqBool
    refine wpAny_holding ?_
    refine wpAny_ite_split (fun hab => absurd (by have := eq_of_beq hab; injection this) e) (fun _ => ?_)
    exact wpAny_bind (h e E _ (wpAny_truthy_bool q))
/-! ### a way down to one of the goals -/
theorem inV_str (x : Str) (gs : List Str) : inV (.str x) (gs.map V.str) = decide (x ∈ gs) := by
  unfold inV
  rw [Bool.eq_iff_iff]
  simp [eqV]
end Sw
set_option Elab.async false
set_option linter.all false
set_option maxRecDepth 100000
namespace Sw
open PySem L2 PyProof.Rows
theorem inF {x : Str} {gs : List Str} {A B : Prop} (h1 : x ∈ gs → A) (h2 : x ∉ gs → B) : if (if false = true then !inV (.str x) (gs.map V.str) else inV (.str x) (gs.map V.str)) = true then A else B := by
  rw [if_neg (by decide : ¬ false = true), inV_str]
  exact d2 h1 h2
end Sw
set_option Elab.async false
set_option linter.all false
set_option maxRecDepth 100000
namespace L2
open PySem PySem.Spec PyProof.Rows XH Sw So
theorem strs_of : ∀ {acc : List Value} {ks : List Str}, acc.length = ks.length → (∀ (j : Nat) (v : Value), acc[j]? = some v → ∃ y t, ks[j]? = some y ∧ v = .str y t) → StrsAre acc ks
  | [], [], _, _ => .nil
  | v :: acc, k :: ks, hl, h => by
    obtain ⟨y, t, e, rfl⟩ := h 0 v rfl
    simp at e
    subst e
    exact .cons _ _ (strs_of (by simpa using hl) fun j u hu => h (j + 1) u (by simpa using hu))
  | [], _ :: _, hl, _ => by simp at hl
  | _ :: _, [], hl, _ => by simp at hl
theorem vals_of_strs : ∀ {us : List Value} {ks : List Str}, StrsAre us ks → Vals (ks.map V.str) us
  | _, _, .nil => .nil
  | _, _, .cons y t h => .cons ⟨t, rfl⟩ (vals_of_strs h)
theorem strs_dist : ∀ {vs : List Value} {ks : List Str}, StrsAre vs ks → ks.Nodup → (pairsOf vs).toList.Pairwise (fun p q => kk strKind p ≠ kk strKind q) := by
  intro vs ks h nd
  rw [pairsOf_toList]
  have key : ∀ {vs : List Value} {ks : List Str}, StrsAre vs ks → ks.Nodup → (vs.zip vs).Pairwise (fun p q => kk strKind p ≠ kk strKind q) ∧ ∀ p ∈ vs.zip vs, ∃ y ∈ ks, kk strKind p = y.cps.toList := by
    intro vs ks h
    induction h with
    | nil => exact fun _ => ⟨by simp, by simp⟩
    | cons y t h ih =>
      intro nd
      have nd' := List.nodup_cons.mp nd
      obtain ⟨i1, i2⟩ := ih nd'.2
      refine ⟨List.pairwise_cons.mpr ⟨fun q hq e => ?_, i1⟩, fun p hp => ?_⟩
      · obtain ⟨z, hz, ez⟩ := i2 q hq
        have e' : y.cps.toList = z.cps.toList := e.trans ez
        have : y = z := by
          cases y; cases z
          congr 1
          exact Array.toList_inj.mp e'
        exact nd'.1 (this ▸ hz)
      · rcases List.mem_cons.mp hp with e | e
        · subst e
          exact ⟨y, by simp, rfl⟩
        · obtain ⟨z, hz, ez⟩ := i2 p e
          exact ⟨z, by simp [hz], ez⟩
  exact (key h nd).1
/-- what a source gives, collected into a list that is laid anew -/
theorem collect_src {prog : Program} {w : World} {A : Around} {E : Value → Shared → Prop} {s : Shared} {T : String} {r d : Addr} {n : Nat} {P : Nat → Value → Prop} {OK : Heap → Prop} {R : List Value → Shared → Prop} (K : PySem.W.KdlSrc prog w T r d n P OK) (hh : A.handled = none) (hok : OK s.heap) (hn : n ≤ sizeLine)
    (h : ∀ (h' : Heap) (tk : Nat) (acc : Array Value), s.heap.objs.size < h'.objs.size → (∀ b o, s.heap.get? b = some o → h'.get? b = some o) → PySem.ItemsOf P acc n → R acc.toList { s with heap := h', toks := tk }) :
    wpAny (model prog w) A (collect (.ref r)) R E s := by
  have hlt := K.there _ hok
  unfold collect
  refine wpAny_bind (wpAny_runValue (codeAny_builtin entry_proto_collect' ?_))
  rw [Around.under_plainId PySem.F.plain_proto_collect _]
  show wpAny _ A.in1 (newList [] >>= fun l => again (.builtin "list.__iadd__" ⟨[l, .ref r], []⟩)) _ _ s
  refine wpAny_bind (wpAny_newObj_type (wpAny_pure ⟨plainId_quiet PySem.F.plain_list_iadd _, codeAny_builtin entry_list_iadd' ?_⟩))
  rw [Around.under_plainId PySem.F.plain_list_iadd _]
  have fresh : (s.heap.push { cls := .type "list", data := .seq ([] : List Value).toArray }).get? s.heap.objs.size = some { cls := .type "list", data := .seq #[] } := Heap.get?_push_size _ rfl
  show wpAny _ A.in1 (Builtin.List.listExtendWith (.ref s.heap.objs.size) (.ref r) (.ref s.heap.objs.size)) _ _ _
  have key := PySem.W.kdl_extend (A := A) (s := { s with heap := s.heap.push { cls := .type "list", data := .seq ([] : List Value).toArray } })
    (R := fun (q : Result) (s' : Shared) => ∃ (h' : Heap) (tk : Nat) (acc : Array Value) (c : Nat), q = .ok (.ret (.ref s.heap.objs.size)) ∧ s' = { s with heap := h', toks := tk } ∧ (∀ b o, s.heap.get? b = some o → h'.get? b = some o) ∧ h'.get? s.heap.objs.size = some { cls := .type "list", dict := none, data := .seq acc c, slots := #[] } ∧ PySem.ItemsOf P acc n)
    K hh (K.keep _ _ hok fun b _ o e => Heap.get?_push_of_some _ e) s.heap.objs.size (Nat.ne_of_gt hlt.1) (Nat.ne_of_gt hlt.2) (.ref s.heap.objs.size) 0 fresh
    (fun h' tk acc c hk hS ha => ⟨h', tk, acc, c, rfl, rfl, fun b o e => hk b o (Nat.ne_of_lt (Heap.lt_size e)) (Heap.get?_push_of_some _ e), hS, ha⟩) hn
  have fin : ∀ {h' : Heap} {tk c : Nat} {acc : Array Value}, (∀ b o, s.heap.get? b = some o → h'.get? b = some o) → h'.get? s.heap.objs.size = some { cls := .type "list", dict := none, data := .seq acc c, slots := #[] } → PySem.ItemsOf P acc n → R acc.toList { s with heap := h', toks := tk } :=
    fun {h' tk c acc} hk hS ha => h h' tk acc (Heap.lt_size hS) hk ha
  refine wpAny_mono key (fun f s' x => ?_) fun e s' x => ?_
  · cases f with
    | done f =>
      obtain ⟨h', tk, acc, c, e, rfl, hk, hS, ha⟩ := x
      cases e
      show wpAny _ A (load s.heap.objs.size >>= _) _ _ _
      exact wpAny_bind (wpAny_load hS (wpAny_pure (fin hk hS ha)))
    | again c₁ =>
      refine ⟨x.1, codeAny_mono x.2 fun q s₂ y => ?_⟩
      obtain ⟨h', tk, acc, c, rfl, rfl, hk, hS, ha⟩ := y
      show wpAny _ A (load s.heap.objs.size >>= _) _ _ _
      exact wpAny_bind (wpAny_load hS (wpAny_pure (fin hk hS ha)))
  · obtain ⟨_, _, _, _, e', _⟩ := x
    cases e'
/-- sorted(d): the texts that are a dict's keys -/
theorem call_sortD {X : Cx} (hc : X.calm = true) : CallR X (.builtin "sorted") (fun xs H Q => ∃ d ks kvs, xs = [.ref d] ∧ H d = some (.dK kvs) ∧ kvs.map (·.1) = ks.map (fun y => (.inr y : Key)) ∧ ks.Nodup ∧
    ∀ p ys, H p = none → ys.Perm ks → sortedS ys = true → Q (.ref p) (upd H p (.lst (ys.map V.str)))) := by
  intro pins s σ H xs us Q I r h
  obtain ⟨d, ks, kvs, rfl, hk, ek, nd, q⟩ := h
  obtain ⟨u, rfl, ru⟩ := vals1 r
  cases ru
  obtain ⟨z, hS, ws, rel, D⟩ := dk_of I.hok hk
  obtain ⟨ep, hat⟩ := D.dictAt
  have lw : ws.length = ks.length := by
    rw [← rel.length]
    have := congrArg List.length ek
    simpa using this
  refine Calls.call_function_entry kind_sorted plain_sorted entry_sorted (args_sorted1 _) ?_
  unfold Builtin.«sorted»
  refine wpAny_bind (m := checkCount "sorted" 1 1 _) (wpAny_pure ?_)
  refine wpAny_bind (collect_src (A := X.A.in1) (PySem.W.kdl_dict (knd := mixKind X.prog X.w) (kvs := ws) (ep := ep) hS) (I.ok.hd hc) hat (by rw [← rel.length]; exact z) fun h' tk acc hlt hkp hacc => ?_)
  have la : acc.toList.length = ks.length := by rw [Array.length_toList, hacc.1, lw]
  have SA : StrsAre acc.toList ks := strs_of la fun j v hv => by
    obtain ⟨k, x, e1, e2⟩ := hacc.2 j v (by rw [← Array.getElem?_toList]; exact hv)
    obtain ⟨⟨k', v'⟩, e3, rfl, _⟩ := paired_at rel e1
    have e4 : (kvs.map (·.1))[j]? = some k' := by rw [List.getElem?_map, e3]; rfl
    rw [ek, List.getElem?_map] at e4
    cases e5 : ks[j]? with
    | none => rw [e5] at e4; cases e4
    | some y =>
      rw [e5] at e4
      cases e4
      obtain ⟨t, ht⟩ := is_kV e2
      exact ⟨y, t, rfl, ht⟩
  refine wpAny_bind (wpAny_newList ?_ (by rw [la, ← lw, ← rel.length]; exact z))
  have hoL : (h'.push (seqObj "list" acc.toList.toArray 0)).get? h'.objs.size = some (seqObj "list" acc.toList.toArray 0) := Heap.get?_push_size _ rfl
  refine wpAny_bind (wpAny_holding (wpAny_call_entry slot_list_sort ⟨_, hoL, rfl⟩ entry_list_sort (sort_any strKind_oneLt hoL SA.keysOf (strs_dist SA nd) (fun v₁ v₂ rest e => keyKind_strs (by rw [← e]; exact SA)) (by rw [la, ← lw, ← rel.length]; exact z) fun st' hp hs => ⟨_, rfl, ?_⟩) (args_list_sort _)))
  obtain ⟨ys, h1, h2, h3⟩ := sorted_out_str SA hp hs
  have sl : s.heap.objs.size ≤ h'.objs.size := Nat.le_of_lt hlt
  refine wpAny_pure ⟨_, rfl, .ref h'.objs.size, _, I.laid (a := h'.objs.size) (o := .lst (ys.map V.str)) (h' := sortedHeap (h'.push (seqObj "list" acc.toList.toArray 0)) h'.objs.size acc.toList ((arrOf st').map (·.2))) (t' := tk) (fun b o eo => ?_) sl ?_, rfl, q _ ys (I.hok.fresh sl) h2 h3⟩
  · have eo' := hkp b o eo
    have bl := Heap.lt_size eo'
    rw [sortedHeap_old (Nat.ne_of_lt bl) (by rw [size_push']; exact Nat.lt_succ_of_lt bl)]
    exact Heap.get?_push_of_some _ eo'
  · obtain ⟨e, he⟩ := sortedHeap_at (out := (arrOf st').map (·.2)) hoL
    refine ⟨by rw [List.length_map, h2.length_eq, ← lw, ← rel.length]; exact z, ((arrOf st').map (·.2)).toList, e, vals_of_strs h1, ?_⟩
    rw [Array.toArray_toList]
    exact he
end L2
set_option Elab.async false
set_option linter.all false
set_option maxRecDepth 100000
namespace So
open PySem PySem.Spec PyProof.Rows
/-- not behind, of texts -/
def leS (x y : Str) : Prop := ¬ (y.cps.toList < x.cps.toList)
theorem leS_trans {x y z : Str} (h1 : leS x y) (h2 : leS y z) : leS x z := fun h => by
  unfold leS at h1 h2
  exact h1 (List.lt_of_le_of_lt (List.not_lt.mp h2) h)
theorem leS_anti {x y : Str} (h1 : leS x y) (h2 : leS y x) : x = y := by
  have e := List.le_antisymm (List.not_lt.mp h1) (List.not_lt.mp h2)
  cases x; cases y
  congr 1
  exact Array.toList_inj.mp e
theorem rising_pw : ∀ (r : List Str) (x : Str), risingS x r = true → (x :: r).Pairwise leS
  | [], x, _ => by simp
  | y :: r, x, h => by
    unfold risingS at h
    have h' : ltCps y.cps.toList x.cps.toList = false ∧ risingS y r = true := by
      simpa [Bool.and_eq_true] using h
    have ih := rising_pw r y h'.2
    have xy : leS x y := by
      have := h'.1
      rw [ltCps_eq] at this
      exact of_decide_eq_false this
    refine List.pairwise_cons.mpr ⟨fun z hz => ?_, ih⟩
    rcases List.mem_cons.mp hz with e | e
    · rw [e]; exact xy
    · exact leS_trans xy ((List.pairwise_cons.mp ih).1 z e)
theorem sorted_pw {l : List Str} (h : sortedS l = true) : l.Pairwise leS := by
  cases l with
  | nil => simp
  | cons x r => exact rising_pw r x h
end So
set_option Elab.async false
set_option linter.all false
namespace Hm
/-! ### things of a heap, by their numbers; the order of them -/
/-! ### the heap -/
end Hm
set_option Elab.async false
set_option linter.all false
set_option maxRecDepth 100000
namespace Hm
open PySem PySem.SeqAt PySem.MeetsSeq
/-! ### less than, of tuples of whole numbers -/
section
variable {prog : Program} {w : World} {A : Around} {E : Value → Shared → Prop} {s : Shared}
end
end Hm
set_option Elab.async false
set_option linter.all false
set_option maxRecDepth 100000
namespace Hm
open PySem PySem.SeqAt PySem.MeetsSeq PySem.MeetsSeq3
/-! ### less than, of lists of texts -/
def ltL : List Str → List Str → Bool
  | _, [] => false
  | [], _ :: _ => true
  | x :: xs, y :: ys => if x = y then ltL xs ys else decide (x.cps.toList < y.cps.toList)
section
variable {prog : Program} {w : World} {A : Around} {E : Value → Shared → Prop} {s : Shared}
end
end Hm
set_option Elab.async false
set_option linter.all false
set_option maxRecDepth 100000
namespace Wo
open PySem Hm So
/-! ### the order of chains -/
def ltS (x y : Str) : Prop := x.cps.toList < y.cps.toList
instance (x y : Str) : Decidable (ltS x y) := inferInstanceAs (Decidable (x.cps.toList < y.cps.toList))
theorem ltS_irr {x : Str} : ¬ ltS x x := List.lt_irrefl _
theorem ltS_trans {x y z : Str} (h1 : ltS x y) (h2 : ltS y z) : ltS x z := List.lt_trans h1 h2
theorem le_lt {x y : Str} (h : leS x y) (n : x ≠ y) : ltS x y := by
  refine Classical.byContradiction fun c => n (leS_anti h ?_)
  exact c
theorem ltL_cons (x y : Str) (xs ys : List Str) : ltL (x :: xs) (y :: ys) = if x = y then ltL xs ys else decide (ltS x y) := rfl
theorem ltL_irr : ∀ (c : List Str), ltL c c = false
  | [] => rfl
  | x :: c => by rw [ltL_cons, if_pos rfl]; exact ltL_irr c
theorem ltL_trans : ∀ {a b c : List Str}, ltL a b = true → ltL b c = true → ltL a c = true
  | [], [], c, h, _ => by cases h
  | [], _ :: _, [], _, h => by cases h
  | [], _ :: _, _ :: _, _, _ => rfl
  | _ :: _, [], _, h, _ => by cases h
  | _ :: _, _ :: _, [], _, h => by cases h
  | x :: a, y :: b, z :: c, h1, h2 => by
    rw [ltL_cons] at h1 h2 ⊢
    by_cases e1 : x = y
    · subst e1
      rw [if_pos rfl] at h1
      by_cases e2 : x = z
      · subst e2
        rw [if_pos rfl] at h2 ⊢
        exact ltL_trans h1 h2
      · rw [if_neg e2] at h2 ⊢
        exact h2
    · rw [if_neg e1] at h1
      have h1 := of_decide_eq_true h1
      by_cases e2 : y = z
      · subst e2
        rw [if_neg e1]
        exact decide_eq_true h1
      · rw [if_neg e2] at h2
        have h2 := of_decide_eq_true h2
        have h3 := ltS_trans h1 h2
        rw [if_neg (fun e => by subst e; exact ltS_irr h3)]
        exact decide_eq_true h3
theorem ltL_app : ∀ {a b : List Str}, a.length = b.length → ltL a b = true → ∀ x y, ltL (a ++ [x]) (b ++ [y]) = true
  | [], [], _, h, _, _ => by cases h
  | [], _ :: _, e, _, _, _ => by simp at e
  | _ :: _, [], e, _, _, _ => by simp at e
  | u :: a, v :: b, e, h, x, y => by
    rw [List.cons_append, List.cons_append, ltL_cons]
    rw [ltL_cons] at h
    by_cases c : u = v
    · rw [if_pos c] at h ⊢
      exact ltL_app (by simpa using e) h x y
    · rw [if_neg c] at h ⊢
      exact h
theorem ltL_last : ∀ (c : List Str) {x y : Str}, ltS x y → ltL (c ++ [x]) (c ++ [y]) = true
  | [], x, y, h => by
    rw [List.nil_append, List.nil_append, ltL_cons, if_neg (fun e => by subst e; exact ltS_irr h)]
    exact decide_eq_true h
  | u :: c, x, y, h => by
    rw [List.cons_append, List.cons_append, ltL_cons, if_pos rfl]
    exact ltL_last c h
/-- the one is told ahead of the other -/
def aheadB (c d : List Str) : Bool := if c.length ≠ d.length then decide (c.length < d.length) else ltL c d
def Ahead (c d : List Str) : Prop := aheadB c d = true
theorem ahead_len {c d : List Str} (h : c.length < d.length) : Ahead c d := by
  unfold Ahead aheadB
  rw [if_pos (by omega)]
  exact decide_eq_true h
theorem ahead_same {c d : List Str} (e : c.length = d.length) (h : ltL c d = true) : Ahead c d := by
  unfold Ahead aheadB
  rw [if_neg (by omega)]
  exact h
theorem ahead_or {c d : List Str} (h : Ahead c d) : c.length < d.length ∨ c.length = d.length ∧ ltL c d = true := by
  unfold Ahead aheadB at h
  by_cases e : c.length = d.length
  · rw [if_neg (by omega)] at h
    exact .inr ⟨e, h⟩
  · rw [if_pos e] at h
    exact .inl (of_decide_eq_true h)
theorem Ahead.le {c d : List Str} (h : Ahead c d) : c.length ≤ d.length := by rcases ahead_or h with z | z <;> omega
theorem Ahead.trans {a b c : List Str} (h1 : Ahead a b) (h2 : Ahead b c) : Ahead a c := by
  rcases ahead_or h1 with z | ⟨e, z⟩
  · exact ahead_len (by have := h2.le; omega)
  · rcases ahead_or h2 with y | ⟨f, y⟩
    · exact ahead_len (by omega)
    · exact ahead_same (by omega) (ltL_trans z y)
theorem Ahead.irr {a : List Str} (h : Ahead a a) : False := by
  rcases ahead_or h with z | ⟨e, z⟩
  · omega
  · rw [ltL_irr] at z
    cases z
theorem Ahead.app {c d : List Str} (h : Ahead c d) (x y : Str) : Ahead (c ++ [x]) (d ++ [y]) := by
  rcases ahead_or h with z | ⟨e, z⟩
  · exact ahead_len (by rw [List.length_append, List.length_append]; simp; exact z)
  · exact ahead_same (by rw [List.length_append, List.length_append, e]; rfl) (ltL_app e z x y)
theorem ahead_last (c : List Str) {x y : Str} (h : ltS x y) : Ahead (c ++ [x]) (c ++ [y]) := ahead_same (by rw [List.length_append, List.length_append]; rfl) (ltL_last c h)
/-! ### chains found round by round -/
def lastS (c : List Str) : Str := c.getLastD ""
theorem lastS_app (c : List Str) (x : Str) : lastS (c ++ [x]) = x := by unfold lastS; rw [List.getLastD_concat]
/-- up to place i all of them were gone through; of the chain at place i the stand-ins were, as far as S tells -/
structure Bfs (R : Str → Str → Prop) (good : Str) (cs : List (List Str)) (i : Nat) (S : Str → Prop) : Prop where
  first : cs[0]? = some [good]
  from_ : ∀ (k : Nat) (d : List Str), 0 < k → cs[k]? = some d → ∃ (j : Nat) (c : List Str) (x : Str), j < k ∧ j ≤ i ∧ cs[j]? = some c ∧ d = c ++ [x] ∧ R (lastS c) x ∧ (j = i → S x)
  nd : (cs.map lastS).Nodup
  rise : ∀ (k : Nat) (c d : List Str), cs[k]? = some c → cs[k + 1]? = some d → Ahead c d
  shut : ∀ (j : Nat) (c : List Str) (x : Str), j < i → cs[j]? = some c → R (lastS c) x → ∃ (k : Nat) (d : List Str), cs[k]? = some d ∧ lastS d = x ∧ ¬ Ahead (c ++ [x]) d
  now : ∀ (c : List Str) (x : Str), cs[i]? = some c → S x → ∃ (k : Nat) (d : List Str), cs[k]? = some d ∧ lastS d = x ∧ ¬ Ahead (c ++ [x]) d
theorem Bfs.pair {R : Str → Str → Prop} {good : Str} {cs : List (List Str)} {i : Nat} {S : Str → Prop} (h : Bfs R good cs i S) : ∀ (n k : Nat) (c d : List Str), cs[k]? = some c → cs[k + 1 + n]? = some d → Ahead c d
  | 0, k, c, d, h1, h2 => h.rise k c d h1 h2
  | n + 1, k, c, d, h1, h2 => by
    have l := (List.getElem?_eq_some_iff.mp h2).1
    have e := List.getElem?_eq_getElem (show k + 1 + n < cs.length by omega)
    exact (h.pair n k c _ h1 e).trans (h.rise _ _ d e h2)
theorem Bfs.lt {R : Str → Str → Prop} {good : Str} {cs : List (List Str)} {i : Nat} {S : Str → Prop} (h : Bfs R good cs i S) {j k : Nat} {c d : List Str} (hj : cs[j]? = some c) (hk : cs[k]? = some d) (l : j < k) : Ahead c d := by
  obtain ⟨n, rfl⟩ : ∃ n, k = j + 1 + n := ⟨k - j - 1, by omega⟩
  exact h.pair n j c d hj hk
theorem Bfs.ne {R : Str → Str → Prop} {good : Str} {cs : List (List Str)} {i : Nat} {S : Str → Prop} (h : Bfs R good cs i S) {k : Nat} {d : List Str} (hk : cs[k]? = some d) : d ≠ [] := by
  rcases Nat.eq_zero_or_pos k with e | e
  · subst e
    rw [h.first] at hk
    cases hk
    exact nofun
  · obtain ⟨j, c, x, _, _, _, rfl, _⟩ := h.from_ k d e hk
    simp
theorem Bfs.long {R : Str → Str → Prop} {good : Str} {cs : List (List Str)} {i : Nat} {S : Str → Prop} (h : Bfs R good cs i S) : ∀ (k : Nat) (d : List Str), cs[k]? = some d → d.length ≤ k + 1 := by
  intro k
  induction k using Nat.strongRecOn with
  | ind k ih =>
    intro d hk
    rcases Nat.eq_zero_or_pos k with e | e
    · subst e
      rw [h.first] at hk
      cases hk
      exact Nat.le_refl _
    · obtain ⟨j, c, x, l, _, hj, rfl, _⟩ := h.from_ k d e hk
      have := ih j l c hj
      rw [List.length_append, List.length_singleton]
      omega
theorem Bfs.start {R : Str → Str → Prop} {good : Str} : Bfs R good [[good]] 0 (fun _ => False) where
  first := rfl
  from_ := fun k d k0 hk => by
    rw [List.getElem?_eq_none (by simp; omega)] at hk
    cases hk
  nd := by simp
  rise := fun k c d _ h => by
    rw [List.getElem?_eq_none (by simp)] at h
    cases h
  shut := fun j c x hj => absurd hj (Nat.not_lt_zero _)
  now := fun c x _ h => h.elim
/-- a name that is reached by now -/
theorem Bfs.seen {R : Str → Str → Prop} {good : Str} {cs : List (List Str)} {i : Nat} {S : Str → Prop} (h : Bfs R good cs i S) {x : Str} {c : List Str} (hi : cs[i]? = some c) (hx : x ∈ cs.map lastS) : Bfs R good cs i (fun y => S y ∨ y = x) where
  first := h.first
  from_ := fun k d k0 hk => by
    obtain ⟨j, c, y, a1, a2, a3, a4, a5, a6⟩ := h.from_ k d k0 hk
    exact ⟨j, c, y, a1, a2, a3, a4, a5, fun e => .inl (a6 e)⟩
  nd := h.nd
  rise := h.rise
  shut := h.shut
  now := fun c' y hc hy => by
    rcases hy with hy | rfl
    · exact h.now c' y hc hy
    · rw [hi] at hc
      cases hc
      obtain ⟨d, hd, e⟩ := List.mem_map.mp hx
      obtain ⟨k, hk⟩ := List.mem_iff_getElem?.mp hd
      refine ⟨k, d, hk, e, fun a => ?_⟩
      have c1 := List.length_pos_iff.mpr (h.ne hi)
      rcases Nat.eq_zero_or_pos k with z | z
      · subst z
        rw [h.first] at hk
        cases hk
        have := a.le
        rw [List.length_append, List.length_singleton, List.length_singleton] at this
        omega
      · obtain ⟨j, b, u, _, ji, hj, rfl, _⟩ := h.from_ k d z hk
        rw [lastS_app] at e
        subst e
        rcases Nat.lt_or_eq_of_le ji with l | rfl
        · exact (a.trans ((h.lt hj hi l).app u u)).irr
        · rw [hi] at hj
          cases hj
          exact a.irr
/-- one more is reached -/
theorem Bfs.more {R : Str → Str → Prop} {good : Str} {cs : List (List Str)} {i : Nat} {S : Str → Prop} (h : Bfs R good cs i S) {x : Str} {c : List Str} (hi : cs[i]? = some c) (hx : x ∉ cs.map lastS) (r : R (lastS c) x) (hS : ∀ y, S y → y ≠ x → ltS y x) : Bfs R good (cs ++ [c ++ [x]]) i (fun y => S y ∨ y = x) := by
  have il := (List.getElem?_eq_some_iff.mp hi).1
  have at_ : ∀ {k : Nat} {d : List Str}, cs[k]? = some d → (cs ++ [c ++ [x]])[k]? = some d := fun {k d} e => by
    rw [List.getElem?_append_left (List.getElem?_eq_some_iff.mp e).1]
    exact e
  have or_ : ∀ {k : Nat} {d : List Str}, (cs ++ [c ++ [x]])[k]? = some d → cs[k]? = some d ∨ (k = cs.length ∧ d = c ++ [x]) := fun {k d} e => by
    rcases Nat.lt_or_ge k cs.length with l | l
    · rw [List.getElem?_append_left l] at e
      exact .inl e
    · have kl := (List.getElem?_eq_some_iff.mp e).1
      rw [List.length_append, List.length_singleton] at kl
      have : k = cs.length := by omega
      subst this
      rw [List.getElem?_append_right (Nat.le_refl _), Nat.sub_self] at e
      cases e
      exact .inr ⟨rfl, rfl⟩
  have c1 := List.length_pos_iff.mpr (h.ne hi)
  refine ⟨at_ h.first, fun k d k0 hk => ?_, ?_, fun k b d h1 h2 => ?_, fun j b y hj hb hr => ?_, fun b y hb hy => ?_⟩
  · rcases or_ hk with hk | ⟨rfl, rfl⟩
    · obtain ⟨j, b, y, a1, a2, a3, a4, a5, a6⟩ := h.from_ k d k0 hk
      exact ⟨j, b, y, a1, a2, at_ a3, a4, a5, fun e => .inl (a6 e)⟩
    · exact ⟨i, c, x, il, Nat.le_refl _, at_ hi, rfl, r, fun _ => .inr rfl⟩
  · rw [List.map_append, List.map_singleton, lastS_app, List.nodup_append]
    refine ⟨h.nd, by simp, fun a ha b hb => ?_⟩
    rw [List.mem_singleton.mp hb]
    intro z
    subst z
    exact hx ha
  · rcases or_ h2 with h2' | ⟨e, rfl⟩
    · have kl := (List.getElem?_eq_some_iff.mp h2').1
      rw [List.getElem?_append_left (by omega)] at h1
      exact h.rise k b d h1 h2'
    · rw [List.getElem?_append_left (by omega)] at h1
      rcases Nat.eq_zero_or_pos k with z | z
      · subst z
        rw [h.first] at h1
        cases h1
        refine ahead_len ?_
        rw [List.length_append, List.length_singleton, List.length_singleton]
        omega
      · obtain ⟨j, b', u, _, ji, hj, rfl, _, hu⟩ := h.from_ k b z h1
        rcases Nat.lt_or_eq_of_le ji with l | rfl
        · exact (h.lt hj hi l).app u x
        · rw [hi] at hj
          cases hj
          refine ahead_last c (hS u (hu rfl) fun z => hx ?_)
          subst z
          exact List.mem_map.mpr ⟨_, List.mem_of_getElem? h1, lastS_app _ _⟩
  · have bl : j < cs.length := by omega
    rw [List.getElem?_append_left bl] at hb
    obtain ⟨k, d, a1, a2⟩ := h.shut j b y hj hb hr
    exact ⟨k, d, at_ a1, a2⟩
  · rw [List.getElem?_append_left il, hi] at hb
    cases hb
    rcases hy with hy | rfl
    · obtain ⟨k, d, a1, a2⟩ := h.now c y hi hy
      exact ⟨k, d, at_ a1, a2⟩
    · refine ⟨cs.length, c ++ [y], ?_, lastS_app _ _, fun a => a.irr⟩
      rw [List.getElem?_append_right (Nat.le_refl _), Nat.sub_self]
      rfl
/-- the next place -/
theorem Bfs.next {R : Str → Str → Prop} {good : Str} {cs : List (List Str)} {i : Nat} {S : Str → Prop} (h : Bfs R good cs i S) {c : List Str} (hi : cs[i]? = some c) (all : ∀ y, R (lastS c) y → S y) : Bfs R good cs (i + 1) (fun _ => False) where
  first := h.first
  from_ := fun k d k0 hk => by
    obtain ⟨j, b, y, a1, a2, a3, a4, a5, _⟩ := h.from_ k d k0 hk
    exact ⟨j, b, y, a1, by omega, a3, a4, a5, fun e => absurd e (by omega)⟩
  nd := h.nd
  rise := h.rise
  shut := fun j b x hj hb hr => by
    rcases Nat.lt_succ_iff_lt_or_eq.mp hj with l | rfl
    · exact h.shut j b x l hb hr
    · rw [hi] at hb
      cases hb
      exact h.now _ x hi (all x hr)
  now := fun _ _ _ z => z.elim
theorem nodup_le : ∀ {l m : List Str}, l.Nodup → (∀ x ∈ l, x ∈ m) → l.length ≤ m.length
  | [], m, _, _ => Nat.zero_le _
  | x :: l, m, nd, sub => by
    have hx := sub x List.mem_cons_self
    have nd' := List.nodup_cons.mp nd
    have := nodup_le (m := m.erase x) nd'.2 fun y hy => (List.mem_erase_of_ne (a := y) (b := x) (fun e => nd'.1 (by rw [← e]; exact hy))).mpr (sub y (List.mem_cons_of_mem _ hy))
    rw [List.length_erase_of_mem hx] at this
    have p := List.length_pos_of_mem hx
    rw [List.length_cons]
    omega
theorem Bfs.few {R : Str → Str → Prop} {good : Str} {cs : List (List Str)} {i : Nat} {S : Str → Prop} (h : Bfs R good cs i S) {U : List Str} (hU : ∀ x y, R x y → y ∈ U) : cs.length ≤ U.length + 1 := by
  have := nodup_le (m := good :: U) h.nd fun x hx => by
    obtain ⟨d, hd, e⟩ := List.mem_map.mp hx
    obtain ⟨k, hk⟩ := List.mem_iff_getElem?.mp hd
    rcases Nat.eq_zero_or_pos k with z | z
    · subst z
      rw [h.first] at hk
      cases hk
      rw [← e]
      exact List.mem_cons_self
    · obtain ⟨j, c, y, _, _, _, rfl, r, _⟩ := h.from_ k d z hk
      rw [lastS_app] at e
      subst e
      exact List.mem_cons_of_mem _ (hU _ _ r)
  rw [List.length_map] at this
  exact this
end Wo
set_option Elab.async false
set_option linter.all false
set_option maxRecDepth 100000
namespace L2
open PySem PySem.Spec PyProof.Rows XH
/-! ### a dict whose keys are tuples, walked key by key -/
section
variable {prog : Program} {w : World} {A : Around} {E : Value → Shared → Prop} {s : Shared}
/-- a dict by its bare rows -/
def RawD (h : Heap) (d : Addr) (es : Array DictEntry) (ep : Nat) : Prop := ∃ o, h.get? d = some o ∧ o.ExactDict ∧ o.data = .dict es ep
theorem raw_iter {d : Addr} {es : Array DictEntry} {ep : Nat} {Q : Value → Shared → Prop} (hd : (d == sysModules) = false) (hm : RawD s.heap d es ep)
    (hQ : Q (.ref s.heap.objs.size) { s with heap := s.heap.push { cls := .type "dict_keyiterator", data := .fields #[.ref d, .int 0 0, .int es.size 0, .int ep 0] } }) :
    wpAny (model prog w) A (pyIter (.ref d)) Q E s := by
  obtain ⟨o, ho, hc, hdat⟩ := hm
  have hT : s.TypeIs (.ref d) "dict" := ⟨o, ho, hc.1⟩
  refine wpAny_pyIter_slot hT F.slot_dict_iter (wpAny_call_entry F.slot_dict_iter hT F.entry_dict_iter (wpAny_bind (wpAny_bind (wpAny_notOrdered_dict hT (wpAny_pure ?_)))) (F.args_dict_iter_1 _))
  refine (show wpAny _ _ (Builtin.Dict.showsAll d >>= _) _ _ s from ?_)
  have sh : Builtin.Dict.showsAll d = pure () := by unfold Builtin.Dict.showsAll; rw [hd]; rfl
  rw [sh]
  refine wpAny_bind (wpAny_pure (wpAny_bind (wpAny_dictEntries ho hdat (wpAny_bind (wpAny_dictEpoch ho hdat (wpAny_bind (wpAny_newObj_type (wpAny_pure ⟨_, rfl, "dict_keyiterator", _, ⟨_, Heap.get?_push_size _ rfl, rfl⟩, F.slot_dict_keyiterator_next.lookup, ?_⟩))))))))
  simpa [rawInt] using hQ
theorem raw_next {it d : Addr} {i ep : Nat} {es : Array DictEntry} {Q : Option Value → Shared → Prop} (hi : i < es.size) (hit : s.heap.IsKeyIter it d i es.size ep) (hm : RawD s.heap d es ep)
    (hQ : ∀ h', h'.IsKeyIter it d (i + 1) es.size ep → Heap.SameBut it s.heap h' → Q (some es[i].key) { s with heap := h' }) : wpAny (model prog w) A (pyNext (.ref it)) Q E s := by
  obtain ⟨o, ho, hc, hd⟩ := id hit
  obtain ⟨od, hod, hcd, hdd⟩ := hm
  have ty := hit.typeIs
  unfold pyNext
  refine wpAny_bind (wpAny_attempt (wpAny_callSpecial?_slot (name := Str.ofString "__next__") ty F.slot_dict_keyiterator_next (wpAny_call_entry F.slot_dict_keyiterator_next ty F.entry_dict_keyiterator_next ?_ (F.args_dict_keyiterator_next_1 _))))
  refine wpAny_bind (wpAny_pure (wpAny_bind (wpAny_bind ?_)))
  refine wpAny_bind (wpAny_typeNameOfWhole_keyiter ty (wpAny_pure (wpAny_bind (wpAny_fieldsOf ho hd ?_))))
  have own : Builtin.Dict_items.ownsTuple "dict_keyiterator" = false := by decide
  rw [own]
  refine (show wpAny _ _ (if (Value.ref d == Value.none) = true then _ else _) _ _ s from ?_)
  rw [if_neg (Bool.false_ne_true : ¬ ((Value.ref d == Value.none) = true))]
  refine wpAny_bind (wpAny_pure (wpAny_bind (wpAny_dictEntries hod hdd ?_)))
  rw [if_neg (by simp)]
  refine wpAny_bind (wpAny_pure (wpAny_bind (wpAny_dictEpoch hod hdd ?_)))
  rw [if_neg (by simp)]
  refine wpAny_pure ?_
  have n0 : ¬ ((i : Int) < 0) := by omega
  simp only [n0, if_false, Int.toNat_natCast, Array.getElem?_eq_getElem hi]
  refine wpAny_bind (wpAny_bind (wpAny_typeNameOfWhole_keyiter ty (wpAny_pure (wpAny_bind (wpAny_isOneOf_keyiter ty ?_)))))
  refine (show wpAny _ _ (setField (.ref it) 1 (rawInt ((i : Int) + 1)) >>= _) _ _ s from wpAny_bind (wpAny_setField ho hd (by simp) ?_))
  have hit' : (s.heap.update it (Obj.mapFields (·.setIfInBounds 1 (rawInt ((i : Int) + 1))))).IsKeyIter it d (i + 1) es.size ep := ⟨_, Heap.get?_update_self _ ho (Obj.isFreed_of_fields (Obj.data_mapFields hd _)), (Obj.cls_mapFields ..).trans hc, by rw [Obj.data_mapFields hd]; simp [rawInt]⟩
  refine wpAny_bind (wpAny_holding (wpAny_bind (wpAny_isOneOf_keyiter (s := { s with heap := s.heap.update it _ }) hit'.typeIs ?_)))
  exact (show wpAny _ _ (pure es[i].key) _ _ _ from wpAny_pure (wpAny_pure ⟨_, rfl, wpAny_pure (hQ _ hit' (Heap.SameBut.update ..))⟩))
theorem raw_end {it d : Addr} {ep : Nat} {es : Array DictEntry} {Q : Option Value → Shared → Prop} (hh : A.handled = none) (hit : s.heap.IsKeyIter it d es.size es.size ep) (hm : RawD s.heap d es ep)
    (hQ : ∀ h', Heap.ExtBut it s.heap h' → Q none { s with heap := h' }) : wpAny (model prog w) A (pyNext (.ref it)) Q E s := by
  obtain ⟨o, ho, hc, hd⟩ := id hit
  obtain ⟨od, hod, hcd, hdd⟩ := hm
  have ty := hit.typeIs
  unfold pyNext
  refine wpAny_bind (wpAny_attempt (wpAny_callSpecial?_slot (name := Str.ofString "__next__") ty F.slot_dict_keyiterator_next (wpAny_call_entry F.slot_dict_keyiterator_next ty F.entry_dict_keyiterator_next ?_ (F.args_dict_keyiterator_next_1 _))))
  refine wpAny_bind (wpAny_pure (wpAny_bind (wpAny_bind ?_)))
  refine wpAny_bind (wpAny_typeNameOfWhole_keyiter ty (wpAny_pure (wpAny_bind (wpAny_fieldsOf ho hd ?_))))
  have own : Builtin.Dict_items.ownsTuple "dict_keyiterator" = false := by decide
  rw [own]
  refine (show wpAny _ _ (if (Value.ref d == Value.none) = true then _ else _) _ _ s from ?_)
  rw [if_neg (Bool.false_ne_true : ¬ ((Value.ref d == Value.none) = true))]
  refine wpAny_bind (wpAny_pure (wpAny_bind (wpAny_dictEntries hod hdd ?_)))
  rw [if_neg (by simp)]
  refine wpAny_bind (wpAny_pure (wpAny_bind (wpAny_dictEpoch hod hdd ?_)))
  rw [if_neg (by simp)]
  refine wpAny_pure ?_
  have n0 : ¬ ((es.size : Int) < 0) := by omega
  simp only [n0, if_false, Int.toNat_natCast, Array.getElem?_eq_none (Nat.le_refl _)]
  refine wpAny_bind (wpAny_bind (wpAny_typeNameOfWhole_keyiter ty (wpAny_pure ?_)))
  refine (show wpAny _ _ (setField (.ref it) 0 .none >>= _) _ _ s from wpAny_bind (wpAny_setField ho hd (by simp) ?_))
  refine (show wpAny _ _ (newExc (.type "StopIteration") [] >>= _) _ _ _ from wpAny_bind ?_)
  simp only [newExc, newTuple]
  refine wpAny_bind (wpAny_newObj_type ?_ (by size_fits))
  refine wpAny_bind (m := firstArgMember _ _) (wpAny_of_eq (a := Value.none) (by first | rfl | (simp only [firstArgMember]; rfl)) ?_)
  refine wpAny_newObj_type ?_ (by size_fits)
  simp only [raiseNew]
  refine wpAny_bind (wpAny_handled ?_)
  have hn : A.in1.handled = none := hh
  rw [hn]
  refine wpAny_bind (wpAny_pure (wpAny_throw ?_))
  refine wpAny_bind (wpAny_isInstance (T := "StopIteration") (b := true) ⟨_, Heap.get?_push_size _ rfl, rfl⟩ isSubtype_stop ?_)
  exact wpAny_pure (hQ _ (((Heap.SameBut.update ..).extBut.push _).push _))
end
end L2
namespace L2
open PySem PySem.Spec PyProof.Rows XH
def ItdT (a : Addr) (o : Obj) (kvs : List (List Key × V)) : It :=
  ⟨fun i H => H a = some (.frz o (.dT kvs)) ∧ i < kvs.length, fun i H v H' => H' = H ∧ ∃ k x b, kvs[i]? = some (k, x) ∧ v = .ref b ∧ H b = some (.tup (k.map kV)), fun i H => H a = some (.frz o (.dT kvs)) ∧ i = kvs.length⟩
theorem paired_at {α β : Type} {R : α → β → Prop} : ∀ {xs : List α} {ys : List β}, Paired R xs ys → ∀ (i : Nat) {x : α}, xs[i]? = some x → ∃ y, ys[i]? = some y ∧ R x y
  | _, _, .nil, i, x, h => nomatch h
  | _, _, .cons r t, 0, x, h => by cases h; exact ⟨_, rfl, r⟩
  | _, _, .cons r t, i + 1, x, h => paired_at t i (by simpa using h)
theorem frz_dictT {X : Cx} {pins : List (Addr × Obj)} {σ : St} {H : Hp} {s : Shared} {a : Addr} {o : Obj} {kvs : List (List Key × V)} {es : Array DictEntry} {ep : Nat} (I : Inv X pins σ H s) (h : H a = some (.frz o (.dT kvs))) (hd : o.data = .dict es ep) :
    RawD s.heap a es ep ∧ es.size = kvs.length ∧ ∀ (i : Nat) (k : List Key) (x : V), kvs[i]? = some (k, x) → ∃ (b : Addr) (e : DictEntry), es[i]? = some e ∧ e.key = Value.ref b ∧ H b = some (.tup (k.map kV)) := by
  obtain ⟨ho, z, y, xs, rel, ob, es', ep', e, c, d, l, _⟩ := (show ObjOk X.prog X.w H s.heap a (.frz o (.dT kvs)) from I.hok a _ h)
  rw [ho] at e
  cases e
  rw [hd] at d
  cases d
  refine ⟨⟨o, ho, c, hd⟩, ?_, fun i k x hk => ?_⟩
  · rw [← Array.length_toList, l, List.length_map, rel.length]
  · obtain ⟨q, hq, q1, q2, _⟩ := paired_at rel i hk
    refine ⟨q.2.1, entryOfKey (tupleKind (mixKind X.prog X.w)) q, ?_, rfl, q2⟩
    rw [← Array.getElem?_toList, l, List.getElem?_map, hq]
    rfl
theorem turn_dictT {P : Program} {w : World} {K : PySem.W.Frag} {tg : Expr} (it a : Addr) (o : Obj) (kvs : List (List Key × V)) {es0 : Array DictEntry} {ep : Nat} (hd : o.data = .dict es0 ep) : Turn P w K tg (ItdT a o kvs) [it] it (fun i h => h.IsKeyIter it a i kvs.length ep) where
  mem := by simp
  obj := fun i h st b hb => by
    have e : b = it := by simpa using hb
    subst e
    obtain ⟨o, e, c, d⟩ := st
    exact ⟨o, e, fun v z => by rw [d] at z; cases z⟩
  keep := fun i h h' st k => by
    obtain ⟨o, e, c, d⟩ := st
    exact ⟨o, k it (by simp) o e, c, d⟩
  item := by
    intro X hP hw hK hc i pins s σ H E I hf st hg
    subst hP hw hK
    obtain ⟨f0, f1, f2, f3, f4, f5⟩ := hf it (by simp)
    obtain ⟨hz, hlt⟩ := hg
    obtain ⟨D, sz, at_⟩ := frz_dictT I hz hd
    obtain ⟨⟨k, x⟩, hx⟩ : ∃ p, kvs[i]? = some p := ⟨kvs[i], List.getElem?_eq_getElem hlt⟩
    obtain ⟨b, e, he, ek, hb⟩ := at_ i k x hx
    rw [← sz] at st
    have il : i < es0.size := by omega
    refine raw_next il st D fun h' hit' hs' => ?_
    rw [sz] at hit'
    have I1 : Inv X pins σ H { s with heap := h', toks := s.toks } := I.turned (fun b ob hb e => hs'.extBut b ob hb e) f0 f1 f3 f4 f5
    obtain ⟨oi, ei, ci, di⟩ := id hit'
    have ee : es0[i].key = .ref b := by
      rw [Array.getElem?_eq_getElem il] at he
      cases he
      exact ek
    rw [ee]
    exact ⟨_, rfl, go_of (s := { s with heap := h' }) (n := "dict_keyiterator") ei ci di (by decide) ⟨.ref b, H, I1, rfl, ⟨rfl, k, x, b, hx, rfl, hb⟩, hit', fun b hb => (hf b hb).1⟩⟩
  done := by
    intro X hP hw hK hc i pins s σ H E I hf st hg
    subst hP hw hK
    obtain ⟨f0, f1, f2, f3, f4, f5⟩ := hf it (by simp)
    obtain ⟨hz, rfl⟩ := hg
    obtain ⟨D, sz, _⟩ := frz_dictT I hz hd
    rw [← sz] at st
    refine raw_end (I.ok.hd hc) st D fun h' he' => ⟨rfl, I.turned (t' := s.toks) (fun b ob hb e => he' b ob hb e) f0 f1 f3 f4 f5⟩
  self := fun _ _ _ _ _ st h => wpAny_pyIter_keyiter st h
theorem Inv.nfT {X : Cx} {pins : List (Addr × Obj)} {σ : St} {H : Hp} {s : Shared} {a : Addr} {kvs : List (List Key × V)} (I : Inv X pins σ H s) (h : H a = some (.dT kvs)) : NF X a := fun o u e => by
  have := I.base.frzs a o u e
  rw [h] at this
  cases this
theorem Inv.freezeT {X : Cx} {pins : List (Addr × Obj)} {σ : St} {H : Hp} {s : Shared} {a : Addr} {kvs : List (List Key × V)} {o : Obj} (I : Inv X pins σ H s) (h : H a = some (.dT kvs)) (ho : s.heap.get? a = some o) : Inv X pins σ (upd H a (.frz o (.dT kvs))) s := by
  have ne : ∀ {b : Addr} {u : HO}, H b = some u → (∀ v, u ≠ .dT v) → b ≠ a := fun {b u} q n z => by subst z; rw [h] at q; cases q; exact n _ rfl
  have nn : ∀ {b : Addr}, H b = none → b ≠ a := fun {b} q z => by subst z; rw [h] at q; cases q
  refine I.un (H' := upd H a (.frz o (.dT kvs))) (h' := s.heap) (t' := s.toks) ⟨fun b ob q n _ _ => q, fun b ob q n _ _ => ⟨ob.slots, q⟩, fun b ob q n _ => ?_, fun b ob q _ => ⟨ob, q⟩, fun b xs q => ?_, fun b ob u q => ?_, fun b ps q => ⟨#[], ?_⟩⟩ ?_
  · rw [upd_ne (nn n)]; exact n
  · rw [upd_ne (ne q fun _ z => nomatch z)]; exact q
  · rw [upd_ne (ne q fun _ z => nomatch z)]; exact q
  · rw [upd_ne (ne q fun _ z => nomatch z), q]; simp
  · intro b u q
    by_cases hb : b = a
    · subst hb
      rw [upd_same] at q
      cases q
      exact ⟨ho, (I.hok b _ h).stay (fun _ _ _ q => q) (fun c q => by rw [upd_ne (ne q fun _ z => nomatch z)]; exact q) fun c xs q => by rw [upd_ne (ne q fun _ z => nomatch z)]; exact q⟩
    · rw [upd_ne hb] at q
      exact (I.hok b _ q).stay (fun _ _ _ q => q) (fun c q => by rw [upd_ne (ne q fun _ z => nomatch z)]; exact q) fun c xs q => by rw [upd_ne (ne q fun _ z => nomatch z)]; exact q
theorem Inv.thawT {X : Cx} {pins : List (Addr × Obj)} {σ : St} {H : Hp} {s : Shared} {a : Addr} {kvs : List (List Key × V)} {o : Obj} (I : Inv X pins σ H s) (h : H a = some (.frz o (.dT kvs))) (nf : NF X a) : Inv X pins σ (upd H a (.dT kvs)) s := by
  have hn : ∀ {b : Addr} {u : HO}, H b = some u → (∀ o' v, u ≠ .frz o' v) → upd H a (.dT kvs) b = some u := fun {b u} q n => by
    rw [upd_ne (fun z => by subst z; rw [h] at q; cases q; exact n _ _ rfl)]; exact q
  have hf : ∀ {b : Addr}, H b = none → upd H a (.dT kvs) b = none := fun {b} n => by
    rw [upd_ne (fun z => by subst z; rw [h] at n; cases n)]; exact n
  refine ⟨I.ok, I.os, I.bare, ⟨I.base.keep, I.base.slot, fun b ob q n hx => hf (I.base.free b ob q n hx), I.base.there, fun b xs q => hn (I.base.tups b xs q) (fun _ _ z => nomatch z), fun b ob u q => ?_, fun b ps q => ?_⟩, I.loc, I.cell, hf I.free, fun y c e => hf (I.freeC y c e), fun p hp => ?_, ?_, I.len⟩
  · have q' := I.base.frzs b ob u q
    rw [upd_ne (fun z => by subst z; exact nf _ _ q)]
    exact q'
  · obtain ⟨more, q'⟩ := I.base.tbls b ps q
    exact ⟨more, hn q' (fun _ _ z => nomatch z)⟩
  · obtain ⟨p1, p2, p3⟩ := I.pin p hp
    exact ⟨p1, hf p2, p3⟩
  · intro b u q
    by_cases hb : b = a
    · subst hb
      rw [upd_same] at q
      cases q
      obtain ⟨_, q2⟩ := (show ObjOk X.prog X.w H s.heap b (.frz o (.dT kvs)) from I.hok b _ h)
      exact ObjOk.stay (o := .dT kvs) q2 (fun _ _ _ q => q) (fun c q => hn q (fun _ _ z => nomatch z)) fun c xs q => hn q (fun _ _ z => nomatch z)
    · rw [upd_ne hb] at q
      exact (I.hok b _ q).stay (fun _ _ _ q => q) (fun c q => hn q (fun _ _ z => nomatch z)) fun c xs q => hn q (fun _ _ z => nomatch z)
def iDictT (X : Cx) (tl : TE) : TI := fun σ H R => tl σ H fun x H1 => ∃ a kvs, x = .ref a ∧ H1 a = some (.dT kvs) ∧ ∀ o, NF X a → R (ItdT a o kvs) (upd H1 a (.frz o (.dT kvs)))
section
variable {X : Cx} {tg : Expr}
theorem pi_dictT {l : Expr} {tl : TE} (hl : PE X l tl) : PI X tg l (iDictT X tl) := by
  intro pins s σ H R I h
  refine thn (hl pins s σ H _ I h) fun v s1 ⟨x, H1, I1, r1, q1⟩ => ?_
  obtain ⟨a, kvs, rfl, hk, q⟩ := q1
  cases r1
  obtain ⟨z, y, xs, rel, ob, es, ep, e, c, d, l, _⟩ := (show ObjOk X.prog X.w H1 s1.heap a (.dT kvs) from I1.hok a _ hk)
  have I2 := I1.freezeT hk e
  have sz : es.size = kvs.length := by rw [← Array.length_toList, l, List.length_map, rel.length]
  refine raw_iter y ⟨ob, e, c, d⟩ ?_
  refine ⟨s1.heap.objs.size, [s1.heap.objs.size], _, _, _, rfl, I2.kept (t' := s1.toks) fun b o e => Heap.get?_push_of_some _ e, turn_dictT _ a ob kvs d, ⟨_, Heap.get?_push_size _ rfl, rfl, by rw [sz]; rfl⟩, fun b hb => ?_, q ob (I1.nfT hk)⟩
  have e : b = s1.heap.objs.size := by simpa using hb
  subst e
  exact I2.fpOk (Nat.le_refl _) (I2.hok.fresh (Nat.le_refl _))
end
def unfT (X : Cx) (P : Hp → Prop) (H : Hp) : Prop := ∃ a o kvs, H a = some (.frz o (.dT kvs)) ∧ NF X a ∧ P (upd H a (.dT kvs))
def unfDT (X : Cx) (D : Ends) : Ends := { nx := fun σ => unfT X (D.nx σ), bk := fun σ => unfT X (D.bk σ), ct := fun σ => unfT X (D.ct σ), rt := fun v => unfT X (D.rt v) }
/-- a loop over such a dict -/
theorem ps_unfT {X : Cx} {st : Stmt} {t : TS} (h : PS X st t) : PS X st (fun D σ H => t (unfDT X D) σ H) := by
  intro pins s σ H D I q
  refine thn (h pins s σ H _ I q) fun f s1 q1 => ?_
  cases f with
  | next =>
    obtain ⟨σ', H', I', a, o, kvs, e, nf, p⟩ := q1
    exact ⟨σ', _, I'.thawT e nf, p⟩
  | brk =>
    obtain ⟨σ', H', I', a, o, kvs, e, nf, p⟩ := q1
    exact ⟨σ', _, I'.thawT e nf, p⟩
  | cont =>
    obtain ⟨σ', H', I', a, o, kvs, e, nf, p⟩ := q1
    exact ⟨σ', _, I'.thawT e nf, p⟩
  | ret u =>
    obtain ⟨v, σ', H', I', r, a, o, kvs, e, nf, p⟩ := q1
    exact ⟨v, σ', _, I'.thawT e nf, r, p⟩
/-- for, over such a dict -/
theorem for_dictT {a : Addr} {o : Obj} {kvs : List (List Key × V)} {g : TG} {tb : TS} {D : Ends} {σ : St} {H : Hp} (Pv : Nat → St → Hp → Prop) (h0 : Pv 0 σ H) (hz : ∀ i σ H, i ≤ kvs.length → Pv i σ H → H a = some (.frz o (.dT kvs)))
    (hs : ∀ i k x b σ H, kvs[i]? = some (k, x) → H b = some (.tup (k.map kV)) → Pv i σ H → g (.ref b) σ H fun σ2 H2 => tb { D with nx := Pv (i + 1), ct := Pv (i + 1), bk := D.nx } σ2 H2) (hd : ∀ σ H, Pv kvs.length σ H → D.nx σ H) :
    ∃ W : Nat → Nat → St → Hp → Prop, (∃ m, W 0 m σ H) ∧ ∀ i m σ H, W i m σ H →
      ((ItdT a o kvs).stop i H ∧ D.nx σ H) ∨ ((ItdT a o kvs).go i H ∧ ∃ N : St → Hp → Prop, (∀ σ' H', N σ' H' → ∃ m', m' < m ∧ W (i + 1) m' σ' H') ∧ ∀ x H', (ItdT a o kvs).yld i H x H' → g x σ H' fun σ2 H2 => tb { D with nx := N, ct := N, bk := D.nx } σ2 H2) := by
  refine ⟨fun i m σ H => m = kvs.length - i ∧ i ≤ kvs.length ∧ Pv i σ H, ⟨kvs.length, by simp, Nat.zero_le _, h0⟩, ?_⟩
  rintro i m σ H ⟨rfl, hi, p⟩
  by_cases hlt : i < kvs.length
  · refine .inr ⟨⟨hz i σ H hi p, hlt⟩, Pv (i + 1), fun σ' H' p' => ⟨kvs.length - (i + 1), by omega, rfl, hlt, p'⟩, fun x H' y => ?_⟩
    obtain ⟨e, k, v, b, hk, rfl, hb⟩ := y
    subst e
    exact hs i k v b σ _ hk hb p
  · have e : i = kvs.length := by omega
    subst e
    exact .inl ⟨⟨hz _ σ H hi p, rfl⟩, hd σ H p⟩
end L2
set_option Elab.async false
set_option linter.all false
set_option maxRecDepth 100000
namespace Sw
open PySem L2 XH
/-! ### packs -/
end Sw
namespace L2
open PySem PySem.Spec PyProof.Rows
end L2
namespace Sw
open PySem L2 XH
theorem top_pos {p q c d : Int} (h : p * d = c * q) (d0 : 0 < d) (q0 : 0 < q) (z : 0 < c) : 0 < p := by
  have k := Int.mul_pos z q0
  rw [← h] at k
  exact Int.pos_of_mul_pos_left k d0
end Sw
set_option Elab.async false
set_option linter.all false
set_option maxRecDepth 100000
namespace Sw
open PySem L2 XH
/-! ### many needs: tops, bottoms, and how many figures of two a bottom has -/
end Sw
set_option Elab.async false
set_option linter.all false
set_option maxRecDepth 100000
namespace Sw
open PySem L2 XH
theorem cut_int {ns : List Int} {lo hi : Option Int} {i : Nat} {v : V} (h : (cutV (ns.map V.int) lo hi)[i]? = some v) : ∃ c : Int, v = V.int c := by
  have m := List.mem_of_getElem? h
  unfold cutV at m
  have m := List.mem_of_mem_drop (List.mem_of_mem_take m)
  obtain ⟨c, _, e⟩ := List.mem_map.mp m
  exact ⟨c, e.symm⟩
end Sw
namespace L2
open PySem PySem.Spec PyProof.Rows
end L2
set_option Elab.async false
set_option linter.all false
set_option maxRecDepth 100000
namespace L2
open PySem PySem.Spec PyProof.Rows XH Hm
theorem thawS {H H' : Hp} {l : Addr} {u v : HO} (h : H l = some u) (g : Same (upd H l v) H') : Same H (upd H' l u) := fun b o q => by
  by_cases e : b = l
  · subst e
    rw [h] at q
    cases q
    exact upd_same
  · rw [upd_ne e]
    exact g b o (by rw [upd_ne e]; exact q)
end L2
namespace Sw
open PySem L2 XH Hm Wo So PyProof.Rows
/-! ### stand-ins, as dicts -/
def rowK (row : List (Str × Addr)) : List (Key × V) := row.map fun p => ((.inr p.1 : Key), V.ref p.2)
theorem rowK_keys (row : List (Str × Addr)) : (rowK row).map (·.1) = (row.map (·.1)).map fun y => (.inr y : Key) := by
  unfold rowK
  rw [List.map_map, List.map_map]
  rfl
theorem rowK_val : ∀ {row : List (Str × Addr)}, (row.map (·.1)).Nodup → ∀ {y : Str} {t : Addr}, (y, t) ∈ row → valV (rowK row) (.inr y) = some (.ref t)
  | [], _, _, _, h => nomatch h
  | p :: row, nd, y, t, h => by
    rw [List.map_cons, List.nodup_cons] at nd
    show valV (((.inr p.1 : Key), V.ref p.2) :: rowK row) _ = _
    rcases List.mem_cons.mp h with e | e
    · subst e
      exact valV_pos rfl
    · rw [valV_neg (by
        show ¬ (Sum.inr p.1 : Key) = Sum.inr y
        intro z
        injection z with z
        exact nd.1 (z ▸ List.mem_map.mpr ⟨_, e, rfl⟩))]
      exact rowK_val nd.2 e
structure SDok (K : PySem.W.Frag) (b : Nat) (vw : Str → Str → Int × Int) (H : Hp) (d : Addr) (g : Str → Str → Option Addr) : Prop where
  ex : ∃ kvs : List (Key × V), H d = some (.dK kvs) ∧ ∀ x : Str, (valV kvs (.inr x) = none ∧ ∀ y, g x y = none) ∨
    ∃ (a : Addr) (row : List (Str × Addr)), valV kvs (.inr x) = some (.ref a) ∧ H a = some (.dK (rowK row)) ∧ (row.map (·.1)).Nodup ∧ row.length ≤ 200 ∧ ∀ y t, g x y = some t ↔ (y, t) ∈ row
  fr : ∀ x y t, g x y = some t → FrIn K b H t (vw x y).1 (vw x y).2
theorem SDok.same {K : PySem.W.Frag} {b : Nat} {vw : Str → Str → Int × Int} {H H' : Hp} {d : Addr} {g : Str → Str → Option Addr} (h : SDok K b vw H d g) (e : Same H H') : SDok K b vw H' d g := by
  obtain ⟨⟨kvs, h1, h2⟩, h3⟩ := h
  refine ⟨⟨kvs, e _ _ h1, fun x => ?_⟩, fun x y t z => ?_⟩
  · rcases h2 x with z | ⟨a, row, q1, q2, q3⟩
    · exact .inl z
    · exact .inr ⟨a, row, q1, e _ _ q2, q3⟩
  · exact (h3 x y t z).same e
/-- the pairs told: chains and their ratios -/
structure WoA (K : PySem.W.Frag) (b : Nat) (Rt : List Str → Int → Int → Prop) (F : Addr → Prop) (H : Hp) (l : Addr) (cs : List (List Str)) : Prop where
  ex : ∃ ts : List Addr, H l = some (.lst (ts.map V.ref)) ∧ ts.length = cs.length ∧ ∀ (i : Nat) (t : Addr) (c : List Str), ts[i]? = some t → cs[i]? = some c →
    ∃ (cl rl : Addr) (p q : Int), H t = some (.tup [.ref cl, .ref rl]) ∧ H cl = some (.lst (c.map V.str)) ∧ FrIn K (b * c.length) H rl p q ∧ Rt c p q ∧ F cl ∧ H rl = some (.tup [.int p, .int q])
/-! ### all but two stay -/
def SameB (l r : Addr) (H H' : Hp) : Prop := ∀ b o, b ≠ l → b ≠ r → H b = some o → H' b = some o
theorem SameB.refl (l r : Addr) (H : Hp) : SameB l r H H := fun _ _ _ _ h => h
theorem SameB.thenS {l r : Addr} {H H1 H2 : Hp} (a : SameB l r H H1) (b : Same H1 H2) : SameB l r H H2 := fun c o h1 h2 h => b c o (a c o h1 h2 h)
theorem SameB.putL {l r : Addr} {H H1 : Hp} (a : SameB l r H H1) (u : HO) : SameB l r H (upd H1 l u) := fun c o h1 h2 h => by rw [upd_ne h1]; exact a c o h1 h2 h
theorem SameB.putR {l r : Addr} {H H1 : Hp} (a : SameB l r H H1) (u : HO) : SameB l r H (upd H1 r u) := fun c o h1 h2 h => by rw [upd_ne h2]; exact a c o h1 h2 h
theorem SameB.sqT {K : PySem.W.Frag} {l r : Addr} {H H' : Hp} {ls : List V} {rs : List (Key × V)} (g : SameB l r H H') (el : H l = some (.lst ls)) (er : H r = some (.dK rs)) {t : Addr} {xs : List V} (h : SqT K H t xs) : SqT K H' t xs := by
  rcases h with (w | ⟨o, w⟩) | w
  · exact .inl (.inl (g _ _ (ne_of w el (fun z => nomatch z)) (ne_of w er (fun z => nomatch z)) w))
  · exact .inl (.inr ⟨o, g _ _ (ne_of w el (fun z => nomatch z)) (ne_of w er (fun z => nomatch z)) w⟩)
  · exact .inr w
theorem SameB.fr {K : PySem.W.Frag} {n : Nat} {l r : Addr} {H H' : Hp} {ls : List V} {rs : List (Key × V)} (g : SameB l r H H') (el : H l = some (.lst ls)) (er : H r = some (.dK rs)) {t : Addr} {p q : Int} (h : FrIn K n H t p q) : FrIn K n H' t p q := ⟨g.sqT el er h.at_, h.pos, h.bp, h.bq⟩
theorem refs_strs {ts : List Addr} {c : List Str} (n : c ≠ []) : (c.map V.str) ≠ ts.map V.ref := by
  cases c with
  | nil => exact absurd rfl n
  | cons x c =>
    cases ts with
    | nil => exact nofun
    | cons t ts => intro z; injection z with z; cases z
/-- the pairs, by their addresses -/
def WoT (K : PySem.W.Frag) (b : Nat) (Rt : List Str → Int → Int → Prop) (F : Addr → Prop) (H : Hp) (ts : List Addr) (cs : List (List Str)) : Prop := ts.length = cs.length ∧ ∀ (i : Nat) (t : Addr) (c : List Str), ts[i]? = some t → cs[i]? = some c →
    ∃ (cl rl : Addr) (p q : Int), H t = some (.tup [.ref cl, .ref rl]) ∧ H cl = some (.lst (c.map V.str)) ∧ FrIn K (b * c.length) H rl p q ∧ Rt c p q ∧ F cl ∧ H rl = some (.tup [.int p, .int q])
theorem WoT.same {K : PySem.W.Frag} {b : Nat} {Rt : List Str → Int → Int → Prop} {F : Addr → Prop} {H H' : Hp} {ts : List Addr} {cs : List (List Str)} (h : WoT K b Rt F H ts cs) (g : Same H H') : WoT K b Rt F H' ts cs := ⟨h.1, fun i t c h1 h2 => by
  obtain ⟨cl, rl, p, q, a1, a2, a3, a4, a5, a6⟩ := h.2 i t c h1 h2
  exact ⟨cl, rl, p, q, g _ _ a1, g _ _ a2, a3.same g, a4, a5, g _ _ a6⟩⟩
theorem WoT.keep {K : PySem.W.Frag} {b : Nat} {Rt : List Str → Int → Int → Prop} {F : Addr → Prop} {l r : Addr} {H H' : Hp} {ts ts0 : List Addr} {cs : List (List Str)} {rs : List (Key × V)} (h : WoT K b Rt F H ts cs) (nz : ∀ c ∈ cs, c ≠ []) (g : SameB l r H H') (el : H l = some (.lst (ts0.map V.ref))) (er : H r = some (.dK rs)) : WoT K b Rt F H' ts cs := ⟨h.1, fun i t c h1 h2 => by
  obtain ⟨cl, rl, p, q, a1, a2, a3, a4, a5, a6⟩ := h.2 i t c h1 h2
  have cn := nz c (List.mem_of_getElem? h2)
  exact ⟨cl, rl, p, q, g _ _ (ne_of a1 el (fun z => nomatch z)) (ne_of a1 er (fun z => nomatch z)) a1, g _ _ (ne_of a2 el (fun z => by injection z with z; exact refs_strs cn z)) (ne_of a2 er (fun z => nomatch z)) a2, g.fr el er a3, a4, a5, g _ _ (ne_of a6 el (fun z => nomatch z)) (ne_of a6 er (fun z => nomatch z)) a6⟩⟩
theorem WoT.snoc {K : PySem.W.Frag} {b : Nat} {Rt : List Str → Int → Int → Prop} {F : Addr → Prop} {H : Hp} {ts : List Addr} {cs : List (List Str)} {t cl rl : Addr} {c : List Str} {p q : Int} (h : WoT K b Rt F H ts cs) (a1 : H t = some (.tup [.ref cl, .ref rl])) (a2 : H cl = some (.lst (c.map V.str))) (a3 : FrIn K (b * c.length) H rl p q) (a4 : Rt c p q) (a5 : F cl) (a6 : H rl = some (.tup [.int p, .int q])) : WoT K b Rt F H (ts ++ [t]) (cs ++ [c]) := by
  refine ⟨by rw [List.length_append, List.length_append, h.1]; rfl, fun i t' c' h1 h2 => ?_⟩
  rcases Nat.lt_or_ge i ts.length with l | l
  · rw [List.getElem?_append_left l] at h1
    rw [List.getElem?_append_left (by rw [← h.1]; exact l)] at h2
    exact h.2 i t' c' h1 h2
  · have il := (List.getElem?_eq_some_iff.mp h1).1
    rw [List.length_append, List.length_singleton] at il
    have e : i = ts.length := by omega
    subst e
    rw [List.getElem?_append_right (Nat.le_refl _), Nat.sub_self] at h1
    rw [h.1, List.getElem?_append_right (Nat.le_refl _), Nat.sub_self] at h2
    cases h1
    cases h2
    exact ⟨cl, rl, p, q, a1, a2, a3, a4, a5, a6⟩
theorem rowK_ne {row : List (Str × Addr)} {ks : List Str} (h : ks ≠ []) : rowK row ≠ mapK ks (.bl true) := by
  cases ks with
  | nil => exact absurd rfl h
  | cons k ks =>
    cases row with
    | nil => exact nofun
    | cons p row => intro z; injection z with z; injection z with _ z; cases z
theorem atI_lastS {c : List Str} (n : c ≠ []) : atI (c.map V.str) (-1) = some (.str (lastS c)) := by
  obtain ⟨a, x, rfl⟩ : ∃ a x, c = a ++ [x] := ⟨c.dropLast, c.getLast n, (List.dropLast_concat_getLast n).symm⟩
  rw [List.map_append, lastS_app]
  exact atI_last _ _
theorem fr_one {p q : Int} (f : Fr p q 1 1) : p = 1 ∧ q = 1 := by
  have h1 := f.pos
  have h2 := f.same
  have h3 := f.bb
  omega
def StE (g : Str → Str → Option Addr) (x y : Str) : Prop := ∃ t, g x y = some t
def spWo (K : PySem.W.Frag) : Sp := fun vs H Q _ => ∃ (d : Addr) (good : Str) (b m : Nat) (vw : Str → Str → Int × Int) (g : Str → Str → Option Addr) (U : List Str) (Rt : List Str → Int → Int → Prop), vs = [.ref d, .str good] ∧ SDok K b vw H d g ∧
  (∀ x y, StE g x y → y ∈ U) ∧ U.length ≤ m ∧ m ≤ 100 ∧ 1 ≤ b ∧ b * (m + 2) ≤ 4000 ∧ Rt [good] 1 1 ∧ (∀ c p q x t r s, Rt c p q → g (lastS c) x = some t → Fr r s (p * (vw (lastS c) x).1) (q * (vw (lastS c) x).2) → Rt (c ++ [x]) r s) ∧
  ∀ (l : Addr) (cs : List (List Str)) (H' : Hp), Same H H' → H l = none → WoA K b Rt (fun c => H c = none) H' l cs → Bfs (StE g) good cs cs.length (fun _ => False) → Q (.ref l) H'
/-! ### pairs, as a dict of tuples -/
def gT (kvs : List (List Key × V)) (x y : Str) : Option Addr := match valV kvs [.inr x, .inr y] with
  | some (.ref t) => some t
  | _ => none
structure PT (K : PySem.W.Frag) (b : Nat) (zs : List Str) (H : Hp) (kvs : List (List Key × V)) : Prop where
  at_ : ∀ k v, (k, v) ∈ kvs → ∃ (x y : Str) (t : Addr) (p q : Int), k = [.inr x, .inr y] ∧ v = .ref t ∧ FrIn K b H t p q ∧ 0 < p ∧ x ∈ zs ∧ y ∈ zs
/-- with values chosen -/
theorem val_mem {κ : Type} [DecidableEq κ] : ∀ {kvs : List (κ × V)} {k : κ} {v : V}, valV kvs k = some v → (k, v) ∈ kvs
  | [], _, _, h => by cases h
  | p :: r, k, v, h => by
    by_cases e : p.1 = k
    · rw [valV_pos e] at h
      cases h
      subst e
      exact List.mem_cons_self
    · rw [valV_neg e] at h
      exact List.mem_cons_of_mem _ (val_mem h)
theorem mem_val {κ : Type} [DecidableEq κ] : ∀ {kvs : List (κ × V)} {k : κ} {v : V}, (k, v) ∈ kvs → ∃ w, valV kvs k = some w
  | p :: r, k, v, h => by
    by_cases e : p.1 = k
    · exact ⟨_, valV_pos e⟩
    · rw [valV_neg e]
      rcases List.mem_cons.mp h with z | z
      · subst z
        exact absurd rfl e
      · exact mem_val z
theorem gT_some {kvs : List (List Key × V)} {x y : Str} {t : Addr} (h : gT kvs x y = some t) : valV kvs [.inr x, .inr y] = some (.ref t) := by
  unfold gT at h
  split at h
  · rename_i e
    cases h
    exact e
  · cases h
structure PTv (K : PySem.W.Frag) (b : Nat) (vw : Str → Str → Int × Int) (zs : List Str) (H : Hp) (kvs : List (List Key × V)) : Prop where
  at_ : ∀ k v, (k, v) ∈ kvs → ∃ (x y : Str) (t : Addr), k = [.inr x, .inr y] ∧ v = .ref t ∧ x ∈ zs ∧ y ∈ zs
  fr : ∀ x y t, gT kvs x y = some t → FrIn K b H t (vw x y).1 (vw x y).2 ∧ 0 < (vw x y).1
theorem PTv.same {K : PySem.W.Frag} {b : Nat} {vw : Str → Str → Int × Int} {zs : List Str} {H H' : Hp} {kvs : List (List Key × V)} (h : PTv K b vw zs H kvs) (e : Same H H') : PTv K b vw zs H' kvs := ⟨h.at_, fun x y t z => ⟨(h.fr x y t z).1.same e, (h.fr x y t z).2⟩⟩
theorem PT.choose {K : PySem.W.Frag} {b : Nat} {zs : List Str} {H : Hp} {kvs : List (List Key × V)} (h : PT K b zs H kvs) : ∃ vw : Str → Str → Int × Int, PTv K b vw zs H kvs := by
  have ex : ∀ z : Str × Str, ∃ u : Int × Int, ∀ t, gT kvs z.1 z.2 = some t → FrIn K b H t u.1 u.2 ∧ 0 < u.1 := fun z => by
    cases e : gT kvs z.1 z.2 with
    | none => exact ⟨(0, 0), fun t q => nomatch q⟩
    | some t =>
      obtain ⟨x, y, t', p, q, h1, h2, h3, h4, _⟩ := h.at_ _ _ (val_mem (gT_some e))
      cases h2
      exact ⟨(p, q), fun t q => by cases q; exact ⟨h3, h4⟩⟩
  obtain ⟨vw, hvw⟩ := Classical.axiomOfChoice ex
  refine ⟨fun x y => vw (x, y), ⟨fun k v z => ?_, fun x y t e => hvw (x, y) t e⟩⟩
  obtain ⟨x, y, t, p, q, h1, h2, h3, h4, h5⟩ := h.at_ k v z
  exact ⟨x, y, t, h1, h2, h5⟩
theorem PTv.val {K : PySem.W.Frag} {b : Nat} {vw : Str → Str → Int × Int} {zs : List Str} {H : Hp} {kvs : List (List Key × V)} (h : PTv K b vw zs H kvs) {k : List Key} {v : V} (m : (k, v) ∈ kvs) : ∃ (x y : Str) (t : Addr), k = [.inr x, .inr y] ∧ valV kvs k = some (.ref t) ∧ gT kvs x y = some t ∧ FrIn K b H t (vw x y).1 (vw x y).2 ∧ 0 < (vw x y).1 ∧ x ∈ zs ∧ y ∈ zs := by
  obtain ⟨w, hw⟩ := mem_val m
  obtain ⟨x, y, t, rfl, rfl, xz, yz⟩ := h.at_ k w (val_mem hw)
  have e : gT kvs x y = some t := by
    unfold gT
    rw [hw]
  exact ⟨x, y, t, rfl, hw, e, (h.fr x y t e).1, (h.fr x y t e).2, xz, yz⟩
theorem strs_atI {zs : List Str} {i : Int} (h0 : 0 ≤ i) (h : i < (zs.length : Int)) : ∃ v, atI (zs.map V.str) i = some (.str v) ∧ v ∈ zs := by
  obtain ⟨j, rfl⟩ : ∃ j : Nat, i = (j : Int) := ⟨i.toNat, by omega⟩
  exact ⟨zs[j]'(by omega), atI_nat (by rw [List.getElem?_map, List.getElem?_eq_getElem (by omega)]; rfl), List.getElem_mem _⟩
theorem PT.put {K : PySem.W.Frag} {b : Nat} {zs : List Str} {H : Hp} {kvs : List (List Key × V)} (h : PT K b zs H kvs) {x y : Str} {t : Addr} {p q : Int} (f : FrIn K b H t p q) (p0 : 0 < p) (xz : x ∈ zs) (yz : y ∈ zs) : PT K b zs H (putK kvs [.inr x, .inr y] (.ref t)) := ⟨fun k v m => by
  unfold putK at m
  split at m
  · obtain ⟨⟨k', v'⟩, hm, e⟩ := List.mem_map.mp m
    by_cases c : k' = [.inr x, .inr y]
    · rw [if_pos c] at e
      cases e
      exact ⟨x, y, t, p, q, c, rfl, f, p0, xz, yz⟩
    · rw [if_neg c] at e
      cases e
      exact h.at_ _ _ hm
  · rcases List.mem_append.mp m with m | m
    · exact h.at_ _ _ m
    · cases List.mem_singleton.mp m
      exact ⟨x, y, t, p, q, rfl, rfl, f, p0, xz, yz⟩⟩
/-! ### the dict of the pairs -/
def putRow (row : List (Str × Addr)) (y : Str) (t : Addr) : List (Str × Addr) := if (row.any fun p => decide (p.1 = y)) = true then row.map (fun p => if p.1 = y then (p.1, t) else p) else row ++ [(y, t)]
theorem rowK_put (row : List (Str × Addr)) (y : Str) (t : Addr) : putK (rowK row) (.inr y) (.ref t) = rowK (putRow row y t) := by
  have e : ((rowK row).any fun kv => decide (kv.1 = (.inr y : Key))) = row.any fun p => decide (p.1 = y) := by
    unfold rowK
    rw [List.any_map]
    congr 1
    funext p
    simp
  unfold putK putRow
  rw [e]
  split
  · unfold rowK
    rw [List.map_map, List.map_map]
    congr 1
    funext p
    show (if (Sum.inr p.1 : Key) = Sum.inr y then ((Sum.inr p.1 : Key), V.ref t) else (Sum.inr p.1, V.ref p.2)) = ((Sum.inr (if p.1 = y then (p.1, t) else p).1 : Key), V.ref (if p.1 = y then (p.1, t) else p).2)
    by_cases c : p.1 = y
    · rw [if_pos c, if_pos (by rw [c])]
    · rw [if_neg c, if_neg (fun z => c (by injection z))]
  · unfold rowK
    rw [List.map_append]
    rfl
theorem putRow_names (row : List (Str × Addr)) (y : Str) (t : Addr) (nd : (row.map (·.1)).Nodup) : ((putRow row y t).map (·.1)).Nodup ∧ (putRow row y t).length ≤ row.length + 1 ∧ ∀ z s, (z, s) ∈ putRow row y t ↔ if z = y then s = t else (z, s) ∈ row := by
  unfold putRow
  by_cases c : (row.any fun p => decide (p.1 = y)) = true
  · rw [if_pos c]
    obtain ⟨p, hp, hy⟩ := List.any_eq_true.mp c
    have hy := of_decide_eq_true hy
    have e : (row.map fun p => if p.1 = y then (p.1, t) else p).map (·.1) = row.map (·.1) := by
      rw [List.map_map]
      congr 1
      funext p
      show (if p.1 = y then (p.1, t) else p).1 = p.1
      split <;> rfl
    refine ⟨by rw [e]; exact nd, by rw [List.length_map]; omega, fun z s => ⟨fun h => ?_, fun h => ?_⟩⟩
    · obtain ⟨q, hq, e⟩ := List.mem_map.mp h
      by_cases d : q.1 = y
      · rw [if_pos d] at e
        cases e
        rw [if_pos d]
      · rw [if_neg d] at e
        subst e
        rw [if_neg d]
        exact hq
    · by_cases d : z = y
      · rw [if_pos d] at h
        subst h d
        exact List.mem_map.mpr ⟨p, hp, by rw [if_pos hy, hy]⟩
      · rw [if_neg d] at h
        exact List.mem_map.mpr ⟨_, h, by rw [if_neg d]⟩
  · rw [if_neg c]
    have no : ∀ q ∈ row, q.1 ≠ y := fun q hq e => c (List.any_eq_true.mpr ⟨q, hq, decide_eq_true e⟩)
    refine ⟨?_, by rw [List.length_append]; exact Nat.le_refl _, fun z s => ⟨fun h => ?_, fun h => ?_⟩⟩
    · rw [List.map_append, List.nodup_append]
      refine ⟨nd, by simp, fun a ha b hb => ?_⟩
      obtain ⟨q, hq, rfl⟩ := List.mem_map.mp ha
      cases List.mem_singleton.mp hb
      exact no q hq
    · rcases List.mem_append.mp h with h | h
      · rw [if_neg (no _ h)]
        exact h
      · cases List.mem_singleton.mp h
        rw [if_pos rfl]
    · by_cases d : z = y
      · rw [if_pos d] at h
        subst h d
        exact List.mem_append_right _ (List.mem_singleton.mpr rfl)
      · rw [if_neg d] at h
        exact List.mem_append_left _ h
structure BD (H H' : Hp) (d : Addr) (n : Nat) (dk : List (Key × V)) (g : Str → Str → Option Addr) : Prop where
  at_ : H' d = some (.dK dk)
  few : dk.length ≤ n
  inj : ∀ x x' a, valV dk (.inr x) = some (.ref a) → valV dk (.inr x') = some (.ref a) → x = x'
  ex : ∀ x : Str, (valV dk (.inr x) = none ∧ ∀ y, g x y = none) ∨
    ∃ (a : Addr) (row : List (Str × Addr)), valV dk (.inr x) = some (.ref a) ∧ H' a = some (.dK (rowK row)) ∧ H a = none ∧ a ≠ d ∧ (row.map (·.1)).Nodup ∧ row.length ≤ n ∧ ∀ y t, g x y = some t ↔ (y, t) ∈ row
theorem BD.same {H H1 H2 : Hp} {d : Addr} {n : Nat} {dk : List (Key × V)} {g : Str → Str → Option Addr} (h : BD H H1 d n dk g) (e : Same H1 H2) : BD H H2 d n dk g := by
  refine ⟨e _ _ h.at_, h.few, h.inj, fun x => ?_⟩
  rcases h.ex x with z | ⟨a, row, q1, q2, q3⟩
  · exact .inl z
  · exact .inr ⟨a, row, q1, e _ _ q2, q3⟩
/-- an empty row more -/
theorem BD.open {H H1 : Hp} {d pn : Addr} {n : Nat} {dk : List (Key × V)} {g : Str → Str → Option Addr} {x0 : Str} (h : BD H H1 d n dk g) (hv : valV dk (.inr x0) = none) (hp : H1 pn = some (.dK (rowK []))) (hn : H pn = none) (nd : pn ≠ d) (new : ∀ x, valV dk (.inr x) ≠ some (.ref pn)) : BD H (upd H1 d (.dK (putK dk (.inr x0) (.ref pn)))) d (n + 1) (putK dk (.inr x0) (.ref pn)) g := by
  refine ⟨upd_same, Nat.le_trans (length_putK _ _ _) (by have := h.few; omega), fun x x' a e1 e2 => ?_, fun x => ?_⟩
  · rw [valV_put] at e1 e2
    split at e1
    · rename_i c1
      injection c1 with c1
      cases e1
      split at e2
      · rename_i c2
        injection c2 with c2
        rw [c1, c2]
      · exact absurd e2 (new _)
    · split at e2
      · cases e2
        exact absurd e1 (new _)
      · exact h.inj x x' a e1 e2
  · rw [valV_put]
    by_cases c : x = x0
    · subst c
      rw [if_pos rfl]
      rcases h.ex x with ⟨z1, z2⟩ | ⟨a, row, q1, _⟩
      · refine .inr ⟨pn, [], rfl, by rw [upd_ne nd]; exact hp, hn, nd, by simp, Nat.zero_le _, fun y t => ?_⟩
        rw [z2]
        simp
      · rw [hv] at q1
        cases q1
    · rw [if_neg (fun z => c (by injection z))]
      rcases h.ex x with z | ⟨a, row, q1, q2, q3, q4, q5, q6, q7⟩
      · exact .inl z
      · exact .inr ⟨a, row, q1, by rw [upd_ne q4]; exact q2, q3, q4, q5, by omega, q7⟩
theorem BD.put {H H1 : Hp} {d a : Addr} {n : Nat} {dk : List (Key × V)} {g g' : Str → Str → Option Addr} {x0 y0 : Str} {t0 : Addr} {row : List (Str × Addr)} (h : BD H H1 d n dk g) (hv : valV dk (.inr x0) = some (.ref a)) (hr : H1 a = some (.dK (rowK row)))
    (hg : ∀ x y, g' x y = if x = x0 ∧ y = y0 then some t0 else g x y) : BD H (upd H1 a (.dK (putK (rowK row) (.inr y0) (.ref t0)))) d (n + 1) dk g' := by
  obtain ⟨na, hx⟩ : a ≠ d ∧ H a = none ∧ (row.map (·.1)).Nodup ∧ row.length ≤ n ∧ ∀ y t, g x0 y = some t ↔ (y, t) ∈ row := by
    rcases h.ex x0 with ⟨z, _⟩ | ⟨a', row', q1, q2, q3, q4, q5, q6, q7⟩
    · rw [hv] at z
      cases z
    · rw [hv] at q1
      cases q1
      rw [hr] at q2
      have e : rowK row = rowK row' := by injection q2 with q2; injection q2
      have e' : row = row' := by
        unfold rowK at e
        refine (List.map_inj_right ?_).mp e
        rintro ⟨u1, u2⟩ ⟨w1, w2⟩ z
        injection z with z1 z2
        injection z1 with z1
        injection z2 with z2
        exact Prod.ext z1 z2
      subst e'
      exact ⟨q4, q3, q5, q6, q7⟩
  obtain ⟨hn, nd, ln, mem⟩ := hx
  obtain ⟨p1, p2, p3⟩ := putRow_names row y0 t0 nd
  refine ⟨by rw [upd_ne (Ne.symm na)]; exact h.at_, by have := h.few; omega, h.inj, fun x => ?_⟩
  by_cases c : x = x0
  · subst c
    refine .inr ⟨a, putRow row y0 t0, hv, by rw [upd_same, rowK_put], hn, na, p1, by omega, fun y t => ?_⟩
    rw [hg, p3]
    by_cases e : y = y0
    · rw [if_pos ⟨rfl, e⟩, if_pos e]
      exact ⟨fun z => by injection z with z; exact z.symm, fun z => by rw [z]⟩
    · rw [if_neg (fun z => e z.2), if_neg e]
      exact mem y t
  · rcases h.ex x with ⟨z1, z2⟩ | ⟨b, row', q1, q2, q3, q4, q5, q6, q7⟩
    · refine .inl ⟨z1, fun y => ?_⟩
      rw [hg, if_neg (fun z => c z.1)]
      exact z2 y
    · have ba : b ≠ a := fun e => c (h.inj x x0 a (e ▸ q1) hv)
      refine .inr ⟨b, row', q1, by rw [upd_ne ba]; exact q2, q3, q4, q5, by omega, fun y t => ?_⟩
      rw [hg, if_neg (fun z => c z.1)]
      exact q7 y t
theorem BD.done {K : PySem.W.Frag} {b : Nat} {vw : Str → Str → Int × Int} {H H' : Hp} {d : Addr} {n : Nat} {dk : List (Key × V)} {g : Str → Str → Option Addr} (h : BD H H' d n dk g) (h2 : n ≤ 200) (f : ∀ x y t, g x y = some t → FrIn K b H' t (vw x y).1 (vw x y).2) : SDok K b vw H' d g := by
  refine ⟨⟨dk, h.at_, fun x => ?_⟩, f⟩
  rcases h.ex x with z | ⟨a, row, q1, q2, q3, q4, q5, q6, q7⟩
  · exact .inl z
  · exact .inr ⟨a, row, q1, q2, q5, by omega, q7⟩
open Classical in
noncomputable def gI (kvs : List (List Key × V)) (i : Nat) (x y : Str) : Option Addr := if ([.inr x, .inr y] : List Key) ∈ (kvs.take i).map (fun p : List Key × V => p.1) then gT kvs x y else none
theorem gI_succ {kvs : List (List Key × V)} {i : Nat} {x0 y0 : Str} {v : V} {t0 : Addr} (h : kvs[i]? = some ([.inr x0, .inr y0], v)) (h0 : gT kvs x0 y0 = some t0) (x y : Str) : gI kvs (i + 1) x y = if x = x0 ∧ y = y0 then some t0 else gI kvs i x y := by
  unfold gI
  rw [List.take_add_one, h, List.map_append]
  by_cases c : x = x0 ∧ y = y0
  · obtain ⟨rfl, rfl⟩ := c
    have m : ([.inr x, .inr y] : List Key) ∈ (kvs.take i).map (fun p : List Key × V => p.1) ++ (some (([.inr x, .inr y] : List Key), v)).toList.map (fun p : List Key × V => p.1) := List.mem_append_right _ (List.mem_singleton.mpr rfl)
    rw [if_pos m, if_pos ⟨rfl, rfl⟩, h0]
  · rw [if_neg c]
    have e : ([.inr x, .inr y] : List Key) ∈ (kvs.take i).map (·.1) ++ (some (([.inr x0, .inr y0] : List Key), v)).toList.map (·.1) ↔ ([.inr x, .inr y] : List Key) ∈ (kvs.take i).map (·.1) := by
      rw [List.mem_append]
      refine ⟨fun z => z.resolve_right fun w => c ?_, .inl⟩
      have w : ([.inr x, .inr y] : List Key) = [.inr x0, .inr y0] := List.mem_singleton.mp w
      injection w with w1 w2
      injection w1 with w1
      injection w2 with w2
      injection w2 with w2
      exact ⟨w1, w2⟩
    by_cases q : ([.inr x, .inr y] : List Key) ∈ (kvs.take i).map (·.1)
    · rw [if_pos q, if_pos (e.mpr q)]
    · rw [if_neg q, if_neg (fun z => q (e.mp z))]
theorem gI_all (kvs : List (List Key × V)) (x y : Str) : gI kvs kvs.length x y = gT kvs x y := by
  unfold gI
  rw [List.take_length]
  split
  · rfl
  · rename_i c
    unfold gT
    cases e : valV kvs [.inr x, .inr y] with
    | none => rfl
    | some v => exact absurd (List.mem_map.mpr ⟨_, val_mem e, rfl⟩) c
/-! ### what the law tells of the chains -/
end Sw
set_option Elab.async false
set_option linter.all false
set_option maxRecDepth 100000
namespace L2
open PySem PySem.Spec PyProof.Rows
section
variable {X : Cx} {pins : List (Addr × Obj)} {σ : St} {H : Hp} {s : Shared} {h' : Heap}
end
end L2
set_option Elab.async false
set_option linter.all false
set_option maxRecDepth 100000
namespace L2
open PySem PySem.Spec PyProof.Rows
end L2
set_option Elab.async false
set_option linter.all false
set_option maxRecDepth 100000
namespace L2
open PySem PySem.Spec PyProof.Rows XH
section
variable {X : Cx} {a b c d : Expr} {ta tb tc td : TE} {pos : Pos}
end
end L2
set_option Elab.async false
set_option linter.all false
set_option maxRecDepth 100000
namespace So
open PySem PyProof.Rows
section
variable {prog : Program} {w : World} {A : Around} {E : Value → Shared → Prop} {s : Shared} {κ : KeyKind} {kd : SortKind}
end
end So
set_option Elab.async false
set_option linter.all false
set_option maxRecDepth 100000
namespace L2
open PySem PySem.Spec PyProof.Rows XH Sw So
section
variable {prog : Program} {w : World} {A : Around} {E : Value → Shared → Prop} {s : Shared}
end
end L2
set_option Elab.async false
set_option linter.all false
set_option maxRecDepth 100000
namespace L2
open PySem PySem.Spec PyProof.Rows XH Sw So
end L2
set_option Elab.async false
set_option linter.all false
set_option maxRecDepth 100000
namespace L2
open PySem PySem.Spec PyProof.Rows XH Sw So Hm
/-! ### things: whole numbers, or tuples of such -/
section
variable {prog : Program} {w : World} {A : Around} {E : Value → Shared → Prop} {s : Shared}
end
end L2
set_option Elab.async false
set_option linter.all false
set_option maxRecDepth 100000
namespace Sw
open PySem L2 XH
/-! ### own classes: their defs as callers see them -/
section
variable {X : Cx} {k j : Nat} {f C : Addr} {ps : List Str} {sp : Sp} {dvs : List V} {x m : Str} {p pos apos : Pos} {e o : Expr} {es : List Expr} {ta tb : TE} {t : TA}
end
end Sw
set_option Elab.async false
set_option linter.all false
set_option maxRecDepth 100000
namespace Sw
open PySem L2 XH
/-! ### defs of own classes that may refuse -/
section
variable {X : Cx} {k j : Nat} {f C : Addr} {ps : List Str} {sp : Sp} {dvs : List V} {x m : Str} {p pos apos : Pos} {e o : Expr} {es : List Expr} {ta tb : TE} {t : TA} {E : L2.St → XK}
end
end Sw
set_option Elab.async false
set_option linter.all false
set_option maxRecDepth 100000
namespace L2
open PySem PySem.Spec PyProof.Rows XH
section
variable {X : Cx} {scope : Scope} {cl : List (Str × Addr)} {own : Str} {ys : List Str} {js : List Nat} {elt iter : Expr} {px pos : Pos} {wi : TI} {te : TE}
end
end L2
set_option Elab.async false
set_option linter.all false
set_option maxRecDepth 100000
namespace L2
open PySem PySem.Spec PyProof.Rows XH
section
variable {X : Cx}
end
end L2
namespace Sw
open PySem L2 XH PySem.NumText
/-! ### a row's words, sign by sign -/
theorem dQt {v : V} {Q : V → Prop} (q : Q (.bl true)) : Q (.bl (decide (v = v))) := by rw [decide_eq_true rfl]; exact q
end Sw
set_option Elab.async false
set_option linter.all false
set_option maxRecDepth 100000
namespace L2
open PySem PySem.Spec PyProof.Rows XH Sw So Hm
/-- x != [] -/
theorem op_neNil {X : Cx} (hu : X.A.units < cLine) : OpR X (compareOp .NotEq) (fun x y H Q => ∃ a b zs, x = .ref a ∧ y = .ref b ∧ SqL X.K H a zs ∧ SqL X.K H b [] ∧ Q (.bl (!zs.isEmpty)) H) := by
  intro pins s σ H x y v u Q I rx ry h
  obtain ⟨a, b, zs, rfl, rfl, h1, h2, hq⟩ := h
  cases rx
  cases ry
  obtain ⟨i1, r1, p1, _⟩ := I.list h1
  obtain ⟨i2, r2, p2, _⟩ := I.list h2
  cases r2
  cases zs with
  | nil =>
    cases r1
    refine SeqAt.RcNeAt.lists (e := fun _ => true) p1.isList p2.isList rfl hu (fun j g1 g2 => absurd g1 (by simp)) _ _ _ _ ?_
    exact ⟨.bl false, H, I, by show Value.bool _ = Value.bool _; simp, hq⟩
  | cons z zs =>
    cases r1 with
    | cons r rr =>
      refine SeqAt.RcNeAt.lists_lengths p1.isList p2.isList (by simp) hu _ _ _ _ ?_
      exact ⟨.bl true, H, I, rfl, hq⟩
end L2
namespace Sw
open PySem L2 XH Hm
section
variable {X : Cx} {k j : Nat} {f C : Addr} {ps : List Str} {sp : Sp} {dvs : List V} {x m : Str} {p pos apos : Pos} {e o : Expr} {es : List Expr} {ta tb : TE} {t : TA} {E : L2.St → XK}
end
/-! ### a heap that is kept in a list -/
end Sw
set_option Elab.async false
set_option linter.all false
set_option maxRecDepth 100000
namespace L2
open PySem PySem.Spec PyProof.Rows XH Sw Hm
end L2
namespace Sw
open PySem L2 XH Hm
/-! ### nets and plans: what lies at the addresses -/
end Sw
set_option Elab.async false
set_option linter.all false
set_option maxRecDepth 100000
namespace L2
open PySem PySem.Spec PyProof.Rows XH
end L2
namespace Sw
open PySem L2 XH Hm
end Sw
set_option Elab.async false
set_option linter.all false
set_option maxRecDepth 100000
namespace L2
open PySem PySem.Spec PyProof.Rows XH
section
variable {X : Cx} {scope : Scope} {cl : List (Str × Addr)} {os : List Str} {ys : List Str} {js : List Nat} {fp : List Addr} {pins : List (Addr × Obj)} {σ : St} {H : Hp} {s s4 : Shared}
end
section
variable {X : Cx} {scope : Scope} {cl : List (Str × Addr)} {os : List Str} {ys : List Str} {js : List Nat} {elt iter tg : Expr} {px pos : Pos} {wi : TI} {te : TE} {g : TG}
end
end L2

namespace Sw
open PySem L2 XH
end Sw
set_option Elab.async false
set_option linter.all false
set_option maxRecDepth 100000
namespace L2
open PySem PySem.Spec PyProof.Rows XH
section
variable {X : Cx} {scope : Scope} {cl : List (Str × Addr)} {os : List Str} {ys : List Str} {js : List Nat} {elt iter tg : Expr} {px pos : Pos} {wi : TI} {te : TE} {g : TG}
end
end L2
set_option Elab.async false
set_option linter.all false
set_option maxRecDepth 100000
namespace Sw
open PySem L2 XH
/-! ### steps: their fields -/
/-! ### rounds -/
end Sw
set_option Elab.async false
set_option linter.all false
set_option maxRecDepth 100000
namespace L2
open PySem PySem.Spec PyProof.Rows XH
section
variable {X : Cx}
end
/-! ### things alike, of any depth -/
def All2 (R : V → V → Prop) : List V → List V → Prop
  | [], [] => True
  | x :: xs, y :: ys => R x y ∧ All2 R xs ys
  | _, _ => False
theorem All2.len {R : V → V → Prop} : ∀ {xs ys : List V}, All2 R xs ys → xs.length = ys.length
  | [], [], _ => rfl
  | _ :: _, _ :: _, h => by simp [All2.len h.2]
  | [], _ :: _, h => h.elim
  | _ :: _, [], h => h.elim
def Alk (K : PySem.W.Frag) (H : Hp) : Nat → V → V → Prop
  | 0, x, y => x = y ∧ Smp x
  | n + 1, x, y => Alk K H n x y ∨ ∃ a b xs ys, x = .ref a ∧ y = .ref b ∧ ((SqT K H a xs ∧ SqT K H b ys) ∨ (SqL K H a xs ∧ SqL K H b ys)) ∧ All2 (Alk K H n) xs ys
theorem all2_eq {A : Around} {s : Shared} {R : V → V → Prop} (hR : ∀ x y u w, R x y → RelV x u → RelV y w → SeqAt.EqAt A s u w true) : ∀ {xs ys : List V} {us ws : List Value}, All2 R xs ys → Vals xs us → Vals ys ws → ∀ j (h1 : j < us.length) (h2 : j < ws.length), SeqAt.EqAt A s us[j] ws[j] true
  | [], [], _, _, _, .nil, .nil, j, h1, _ => absurd h1 (by simp)
  | _ :: _, _ :: _, _, _, h, .cons r1 _, .cons r2 _, 0, _, _ => hR _ _ _ _ h.1 r1 r2
  | _ :: _, _ :: _, _, _, h, .cons _ t1, .cons _ t2, j + 1, h1, h2 => all2_eq hR h.2 t1 t2 j (by simpa using h1) (by simpa using h2)
theorem alk_eq {X : Cx} {pins : List (Addr × Obj)} {σ : St} {H : Hp} {s : Shared} (I : Inv X pins σ H s) : ∀ (n : Nat) (A : Around) (x y : V) (u w : Value), A.units + n < cLine → Alk X.K H n x y → RelV x u → RelV y w → SeqAt.EqAt A s u w true
  | 0, A, x, y, u, w, _, h, r1, r2 => by
    obtain ⟨rfl, hs⟩ := h
    exact eqat_smp hs r1 r2
  | n + 1, A, x, y, u, w, hu, h, r1, r2 => by
    rcases h with h | ⟨a, b, xs, ys, rfl, rfl, hq, hA⟩
    · exact alk_eq I n A x y u w (by omega) h r1 r2
    cases r1
    cases r2
    by_cases e : a = b
    · subst e
      exact SeqAt.EqAt.same _
    refine SeqAt.EqAt.of_refs e ?_
    have ih := fun x y u w => alk_eq I n A.in1 x y u w (by show A.units + 1 + n < _; omega)
    rcases hq with ⟨h1, h2⟩ | ⟨h1, h2⟩
    · obtain ⟨i1, v1, p1, _⟩ := I.tuple h1
      obtain ⟨i2, v2, p2, _⟩ := I.tuple h2
      have k := SeqAt.RcAt.tuples (A := A) (e := fun _ => true) p1 p2 (by omega) fun j g1 g2 => all2_eq (A := A.in1) (s := s) ih hA v1 v2 j (by simpa using g1) (by simpa using g2)
      have e1 : ∀ m, ((List.range m).all fun _ => true) = true := fun m => by simp
      rw [e1] at k
      simpa [← v1.length, ← v2.length, hA.len] using k
    · obtain ⟨i1, v1, p1, _⟩ := I.list h1
      obtain ⟨i2, v2, p2, _⟩ := I.list h2
      have k := SeqAt.RcAt.lists (A := A) (e := fun _ => true) p1.isList p2.isList (by simp [← v1.length, ← v2.length, hA.len]) (by omega) fun j g1 g2 => all2_eq (A := A.in1) (s := s) ih hA v1 v2 j (by simpa using g1) (by simpa using g2)
      have e1 : ∀ m, ((List.range m).all fun _ => true) = true := fun m => by simp
      rw [e1] at k
      exact k
end L2
namespace Sw
open PySem L2 XH
/-! ### recipes -/
end Sw
set_option Elab.async false
set_option linter.all false
set_option maxRecDepth 100000
namespace L2
open PySem PySem.Spec PyProof.Rows XH Sw So
theorem op_eqAT {X : Cx} (n : Nat) (hu : X.A.units + (n + 1) < cLine) : OpR X (compareOp .Eq) (fun x y H Q => ∃ a b xs ys, x = .ref a ∧ y = .ref b ∧ SqT X.K H a xs ∧ SqT X.K H b ys ∧ All2 (Alk X.K H n) xs ys ∧ Q (.bl true) H) := by
  intro pins s σ H x y v u Q I rx ry h
  obtain ⟨a, b, xs, ys, rfl, rfl, h1, h2, hA, hq⟩ := h
  cases rx
  cases ry
  obtain ⟨i1, v1, p1, _⟩ := I.tuple h1
  obtain ⟨i2, v2, p2, _⟩ := I.tuple h2
  refine SeqAt.eq_tupleAt (e := fun _ => true) p1 p2 (by omega) (fun j g1 g2 => ?_) ?_
  · exact all2_eq (A := X.A.in1) (s := s) (fun x y u w => alk_eq I n X.A.in1 x y u w (by show X.A.units + 1 + n < _; omega)) hA v1 v2 j (by simpa using g1) (by simpa using g2)
  · exact ⟨.bl true, H, I, by show Value.bool _ = Value.bool _; simp [← v1.length, ← v2.length, hA.len], hq⟩
end L2
namespace Sw
open PySem L2 XH Hm
/-! ### breaches: lists of tuples (text, number) -/
end Sw
namespace L2
open PySem PySem.Spec PyProof.Rows XH Sw Hm
end L2
namespace Sw
open PySem L2 XH Hm
/-! ### plans -/
theorem map_at {α : Type} {f : α → V} {xs : List α} {i : Nat} {x : α} (h : xs[i]? = some x) : (xs.map f)[i]? = some (f x) := by rw [List.getElem?_map, h]; rfl
end Sw
set_option Elab.async false
set_option linter.all false
set_option maxRecDepth 100000
namespace Sw
open PySem L2 XH Hm
/-! ### the law on turns and arcs: what its own defs promise -/
theorem fm {a n : Int} (h : 0 < n) : 0 ≤ a.fmod n ∧ a.fmod n < n := ⟨Int.fmod_nonneg_of_pos a h, Int.fmod_lt_of_pos a h⟩
end Sw
set_option Elab.async false
set_option linter.all false
set_option maxRecDepth 100000
namespace L2
open PySem PySem.Spec PyProof.Rows XH Sw Hm
end L2
namespace Sw
open PySem L2 XH Hm
end Sw
set_option Elab.async false
set_option linter.all false
set_option maxRecDepth 100000
namespace L2
open PySem PySem.Spec PyProof.Rows XH Sw Hm
section
variable {X : Cx} {pins : List (Addr × Obj)} {σ : St} {H : Hp} {s : Shared}
end
end L2
set_option Elab.async false
set_option linter.all false
set_option maxRecDepth 100000
namespace L2
open PySem PySem.Spec PyProof.Rows XH Sw Hm
end L2
namespace Sw
open PySem L2 XH Hm
end Sw
set_option Elab.async false
set_option linter.all false
set_option maxRecDepth 100000
namespace L2
open PySem PySem.Spec PyProof.Rows XH Sw Hm
end L2
namespace Sw
open PySem L2 XH Hm
theorem lenOf1 {α : Type} {P : List α → Prop} (h : ∀ a, P [a]) : ∀ us : List α, us.length = 1 → P us
  | [a], _ => h a
theorem lenOf2 {α : Type} {P : List α → Prop} (h : ∀ a b, P [a, b]) : ∀ us : List α, us.length = 2 → P us
  | [a, b], _ => h a b
theorem lenOf3 {α : Type} {P : List α → Prop} (h : ∀ a b c, P [a, b, c]) : ∀ us : List α, us.length = 3 → P us
  | [a, b, c], _ => h a b c
theorem lenOf4 {α : Type} {P : List α → Prop} (h : ∀ a b c d, P [a, b, c, d]) : ∀ us : List α, us.length = 4 → P us
  | [a, b, c, d], _ => h a b c d
end Sw
set_option Elab.async false
set_option linter.all false
set_option maxRecDepth 100000
namespace Wo
open PySem Hm So
/-! ### how far a name is -/
structure Dist (R : Str → Str → Prop) (good : Str) (D : Str → Option Nat) : Prop where
  first : D good = some 1
  prev : ∀ x n, D x = some n → x = good ∨ ∃ w k, R w x ∧ D w = some k ∧ n = k + 1
  next : ∀ w n x, D w = some n → R w x → ∃ m, D x = some m ∧ m ≤ n + 1
theorem Dist.le {R : Str → Str → Prop} {good : Str} {D D' : Str → Option Nat} (h : Dist R good D) (h' : Dist R good D') : ∀ (n : Nat) (x : Str), D x = some n → ∃ m, D' x = some m ∧ m ≤ n := by
  intro n
  induction n using Nat.strongRecOn with
  | ind n ih =>
    intro x hx
    rcases h.prev x n hx with rfl | ⟨w, k, r, hw, e⟩
    · rw [h.first] at hx
      cases hx
      exact ⟨1, h'.first, Nat.le_refl _⟩
    · obtain ⟨m, hm, l⟩ := ih k (by omega) w hw
      obtain ⟨m', hm', l'⟩ := h'.next w m x hm r
      exact ⟨m', hm', by omega⟩
theorem Dist.eq {R : Str → Str → Prop} {good : Str} {D D' : Str → Option Nat} (h : Dist R good D) (h' : Dist R good D') (x : Str) : D x = D' x := by
  cases e : D x with
  | none =>
    cases e' : D' x with
    | none => rfl
    | some n =>
      obtain ⟨m, hm, _⟩ := h'.le h n x e'
      rw [e] at hm
      cases hm
  | some n =>
    obtain ⟨m, hm, l⟩ := h.le h' n x e
    obtain ⟨k, hk, l'⟩ := h'.le h m x hm
    rw [e] at hk
    cases hk
    rw [hm]
    congr 1
    omega
def Dcs (cs : List (List Str)) (x : Str) : Option Nat := (cs.find? fun c => decide (lastS c = x)).map List.length
theorem Dcs_of {cs : List (List Str)} {x : Str} {n : Nat} (h : Dcs cs x = some n) : ∃ (k : Nat) (c : List Str), cs[k]? = some c ∧ lastS c = x ∧ c.length = n := by
  unfold Dcs at h
  obtain ⟨c, hc, rfl⟩ := Option.map_eq_some_iff.mp h
  have m := List.mem_of_find?_eq_some hc
  have e : decide (lastS c = x) = true := List.find?_some (p := fun c => decide (lastS c = x)) hc
  have e := of_decide_eq_true e
  obtain ⟨k, hk⟩ := List.mem_iff_getElem?.mp m
  exact ⟨k, c, hk, e, rfl⟩
theorem Dcs_at {cs : List (List Str)} (nd : (cs.map lastS).Nodup) {k : Nat} {c : List Str} (h : cs[k]? = some c) : Dcs cs (lastS c) = some c.length := by
  cases e : Dcs cs (lastS c) with
  | none =>
    unfold Dcs at e
    rw [Option.map_eq_none_iff, List.find?_eq_none] at e
    exact absurd (decide_eq_true rfl) (e c (List.mem_of_getElem? h))
  | some n =>
    obtain ⟨j, d, hd, e1, e2⟩ := Dcs_of e
    have h1 : (cs.map lastS)[j]? = some (lastS c) := by rw [List.getElem?_map, hd, Option.map_some, e1]
    have h2 : (cs.map lastS)[k]? = some (lastS c) := by rw [List.getElem?_map, h]; rfl
    have := (List.getElem?_inj (List.getElem?_eq_some_iff.mp h1).1 nd).mp (h1.trans h2.symm)
    subst this
    rw [h] at hd
    cases hd
    rw [e2]
theorem Bfs.dist {R : Str → Str → Prop} {good : Str} {cs : List (List Str)} {S : Str → Prop} (h : Bfs R good cs cs.length S) : Dist R good (Dcs cs) where
  first := Dcs_at h.nd h.first
  prev := fun x n hx => by
    obtain ⟨k, c, hk, e1, e2⟩ := Dcs_of hx
    rcases Nat.eq_zero_or_pos k with z | z
    · subst z
      rw [h.first] at hk
      cases hk
      exact .inl e1.symm
    · obtain ⟨j, d, y, _, _, hj, rfl, r, _⟩ := h.from_ k c z hk
      rw [lastS_app] at e1
      subst e1
      refine .inr ⟨lastS d, d.length, r, Dcs_at h.nd hj, ?_⟩
      rw [← e2, List.length_append]
      rfl
  next := fun w n x hw r => by
    obtain ⟨k, c, hk, e1, e2⟩ := Dcs_of hw
    subst e1
    obtain ⟨j, d, hd, e3, na⟩ := h.shut k c x (List.getElem?_eq_some_iff.mp hk).1 hk r
    subst e3
    refine ⟨d.length, Dcs_at h.nd hd, ?_⟩
    refine Nat.le_of_not_lt fun l => na (ahead_len ?_)
    rw [List.length_append, List.length_singleton]
    omega
/-! ### round by round -/
def farF (fs : List (Str × Nat)) (x : Str) : Option Nat := (fs.find? fun p => decide (p.1 = x)).map (·.2)
theorem farF_of {fs : List (Str × Nat)} {x : Str} {n : Nat} (h : farF fs x = some n) : (x, n) ∈ fs := by
  unfold farF at h
  obtain ⟨⟨y, m⟩, hc, rfl⟩ := Option.map_eq_some_iff.mp h
  have e : decide (y = x) = true := List.find?_some (p := fun p : Str × Nat => decide (p.1 = x)) hc
  have e := of_decide_eq_true e
  subst e
  exact List.mem_of_find?_eq_some hc
theorem farF_none {fs : List (Str × Nat)} {x : Str} : farF fs x = none ↔ x ∉ fs.map (·.1) := by
  unfold farF
  rw [Option.map_eq_none_iff, List.find?_eq_none]
  constructor
  · intro h m
    obtain ⟨p, hp, e⟩ := List.mem_map.mp m
    exact h p hp (decide_eq_true e)
  · intro h p hp e
    exact h (List.mem_map.mpr ⟨p, hp, of_decide_eq_true e⟩)
theorem farF_app (fs gs : List (Str × Nat)) (x : Str) : farF (fs ++ gs) x = (farF fs x).or (farF gs x) := by
  unfold farF
  rw [List.find?_append]
  cases fs.find? fun p => decide (p.1 = x) <;> rfl
theorem farF_lev {os : List Str} {n : Nat} {x : Str} : farF (os.map fun y => (y, n)) x = if x ∈ os then some n else none := by
  induction os with
  | nil => rfl
  | cons y os ih =>
    by_cases e : y = x
    · subst e
      rw [if_pos List.mem_cons_self]
      simp [farF]
    · have e2 : farF ((y :: os).map fun y => (y, n)) x = farF (os.map fun y => (y, n)) x := by
        unfold farF
        rw [List.map_cons, List.find?_cons]
        simp [e]
      rw [e2, ih]
      by_cases c : x ∈ os
      · rw [if_pos c, if_pos (List.mem_cons_of_mem _ c)]
      · rw [if_neg c, if_neg (fun z => by rcases List.mem_cons.mp z with z | z; exact e z.symm; exact c z)]
structure Lev (R : Str → Str → Prop) (good : Str) (fs : List (Str × Nat)) (n : Nat) (hs : List Str) : Prop where
  nd : (fs.map (·.1)).Nodup
  first : farF fs good = some 1
  prev : ∀ x k, farF fs x = some k → x = good ∨ ∃ w j, R w x ∧ farF fs w = some j ∧ k = j + 1
  next : ∀ w k x, farF fs w = some k → k < n → R w x → ∃ m, farF fs x = some m ∧ m ≤ k + 1
  top : ∀ x k, farF fs x = some k → k ≤ n
  here : ∀ x, x ∈ hs ↔ farF fs x = some n
theorem Lev.start {R : Str → Str → Prop} {good : Str} : Lev R good [(good, 1)] 1 [good] := by
  have e : ∀ x, farF [(good, 1)] x = if x = good then some 1 else none := fun x => by
    by_cases c : x = good
    · subst c; simp [farF]
    · rw [if_neg c]; simp [farF, Ne.symm c]
  refine ⟨by simp, by rw [e, if_pos rfl], fun x k h => ?_, fun w k x h l => ?_, fun x k h => ?_, fun x => ?_⟩
  · rw [e] at h
    split at h
    · rename_i c; exact .inl c
    · cases h
  · rw [e] at h
    split at h
    · cases h; omega
    · cases h
  · rw [e] at h
    split at h
    · cases h; exact Nat.le_refl _
    · cases h
  · rw [e, List.mem_singleton]
    constructor
    · intro z; rw [if_pos z]
    · intro z
      split at z
      · assumption
      · cases z
/-- within a round: what was found, up to a place of the pairs -/
structure LevI (R : Str → Str → Prop) (fs : List (Str × Nat)) (n : Nat) (hs os : List Str) (ps : List (Str × Str)) : Prop where
  nd : ((fs ++ os.map fun y => (y, n + 1)).map (·.1)).Nodup
  prev : ∀ x ∈ os, ∃ w ∈ hs, R w x
  done : ∀ w x, (w, x) ∈ ps → w ∈ hs → farF (fs ++ os.map fun y => (y, n + 1)) x ≠ none
theorem Lev.begin {R : Str → Str → Prop} {good : Str} {fs : List (Str × Nat)} {n : Nat} {hs : List Str} (h : Lev R good fs n hs) : LevI R fs n hs [] [] := ⟨by rw [List.map_nil, List.append_nil]; exact h.nd, (fun x z => nomatch z), (fun w x z => nomatch z)⟩
theorem LevI.skip {R : Str → Str → Prop} {fs : List (Str × Nat)} {n : Nat} {hs os : List Str} {ps : List (Str × Str)} (h : LevI R fs n hs os ps) {w x : Str} (c : w ∈ hs → farF (fs ++ os.map fun y => (y, n + 1)) x ≠ none) : LevI R fs n hs os (ps ++ [(w, x)]) := ⟨h.nd, h.prev, fun u z m hu => by
  rcases List.mem_append.mp m with m | m
  · exact h.done u z m hu
  · cases List.mem_singleton.mp m
    exact c hu⟩
theorem LevI.take {R : Str → Str → Prop} {fs : List (Str × Nat)} {n : Nat} {hs os : List Str} {ps : List (Str × Str)} (h : LevI R fs n hs os ps) {w x : Str} (hw : w ∈ hs) (r : R w x) (c : farF (fs ++ os.map fun y => (y, n + 1)) x = none) : LevI R fs n hs (os ++ [x]) (ps ++ [(w, x)]) := by
  have e : fs ++ (os ++ [x]).map (fun y => (y, n + 1)) = (fs ++ os.map fun y => (y, n + 1)) ++ [(x, n + 1)] := by rw [List.map_append, List.append_assoc]; rfl
  refine ⟨?_, fun y hy => ?_, fun u z m hu => ?_⟩
  · rw [e, List.map_append, List.nodup_append]
    refine ⟨h.nd, by simp, fun a ha b hb => ?_⟩
    cases List.mem_singleton.mp hb
    intro z
    subst z
    exact farF_none.mp c ha
  · rcases List.mem_append.mp hy with hy | hy
    · exact h.prev y hy
    · rw [List.mem_singleton.mp hy]
      exact ⟨w, hw, r⟩
  · rw [e, farF_app]
    rcases List.mem_append.mp m with m | m
    · have := h.done u z m hu
      cases q : farF (fs ++ os.map fun y => (y, n + 1)) z with
      | none => exact absurd q this
      | some k => exact nofun
    · cases List.mem_singleton.mp m
      rw [c]
      simp [farF]
theorem LevI.next {R : Str → Str → Prop} {good : Str} {fs : List (Str × Nat)} {n : Nat} {hs os : List Str} {ps : List (Str × Str)} (h : LevI R fs n hs os ps) (l : Lev R good fs n hs) (all : ∀ w x, R w x → (w, x) ∈ ps) : Lev R good (fs ++ os.map fun y => (y, n + 1)) (n + 1) os := by
  have keep : ∀ {x : Str} {k : Nat}, farF fs x = some k → farF (fs ++ os.map fun y => (y, n + 1)) x = some k := fun {x k} z => by rw [farF_app, z]; rfl
  have or_ : ∀ {x : Str} {k : Nat}, farF (fs ++ os.map fun y => (y, n + 1)) x = some k → farF fs x = some k ∨ (x ∈ os ∧ k = n + 1) := fun {x k} z => by
    rw [farF_app, farF_lev] at z
    cases q : farF fs x with
    | some m => rw [q] at z; exact .inl z
    | none =>
      rw [q] at z
      by_cases c : x ∈ os
      · rw [if_pos c] at z
        cases z
        exact .inr ⟨c, rfl⟩
      · rw [if_neg c] at z
        cases z
  refine ⟨h.nd, keep l.first, fun x k hx => ?_, fun w k x hw lt r => ?_, fun x k hx => ?_, fun x => ⟨fun hx => ?_, fun hx => ?_⟩⟩
  · rcases or_ hx with hx | ⟨hy, rfl⟩
    · rcases l.prev x k hx with z | ⟨w, j, r, hw, e⟩
      · exact .inl z
      · exact .inr ⟨w, j, r, keep hw, e⟩
    · obtain ⟨w, hw, r⟩ := h.prev x hy
      exact .inr ⟨w, n, r, keep ((l.here w).mp hw), rfl⟩
  · rcases or_ hw with hv | ⟨_, e⟩
    · rcases Nat.lt_or_eq_of_le (l.top w k hv) with z | z
      · obtain ⟨m, hm, lm⟩ := l.next w k x hv z r
        exact ⟨m, keep hm, lm⟩
      · subst z
        have := h.done w x (all w x r) ((l.here w).mpr hv)
        cases q : farF (fs ++ os.map fun y => (y, k + 1)) x with
        | none => exact absurd q this
        | some m =>
          refine ⟨m, rfl, ?_⟩
          rcases or_ q with q | ⟨_, e⟩
          · exact Nat.le_succ_of_le (l.top x m q)
          · omega
    · omega
  · rcases or_ hx with hx | ⟨_, rfl⟩
    · exact Nat.le_succ_of_le (l.top x k hx)
    · exact Nat.le_refl _
  · have no : farF fs x = none := by
      rw [farF_none]
      intro m
      have := h.nd
      rw [List.map_append, List.nodup_append] at this
      exact this.2.2 x m x (by rw [List.map_map]; exact List.mem_map.mpr ⟨x, hx, rfl⟩) rfl
    rw [farF_app, no, farF_lev, if_pos hx]
    rfl
  · rcases or_ hx with hx | ⟨hx, _⟩
    · have := l.top x _ hx
      omega
    · exact hx
theorem Lev.dist {R : Str → Str → Prop} {good : Str} {fs : List (Str × Nat)} {n : Nat} (l : Lev R good fs n []) : Dist R good (farF fs) where
  first := l.first
  prev := fun x k hx => l.prev x k hx
  next := fun w k x hw r => by
    rcases Nat.lt_or_eq_of_le (l.top w k hw) with z | z
    · exact l.next w k x hw z r
    · subst z
      exact absurd ((l.here w).mpr hw) (by simp)
end Wo
set_option Elab.async false
set_option linter.all false
set_option maxRecDepth 100000
namespace L2
open PySem PySem.Spec PyProof.Rows XH Hm Wo
theorem paired_back {α β : Type} {F : α → β → Prop} : ∀ {l : List α} {m : List β}, Paired F l m → ∀ (i : Nat) {b : β}, m[i]? = some b → ∃ a, l[i]? = some a ∧ F a b
  | _, _, .nil, i, b, h => nomatch h
  | _, _, .cons r t, 0, b, h => by cases h; exact ⟨_, rfl, r⟩
  | _, _, .cons r t, i + 1, b, h => paired_back t i (by simpa using h)
theorem nodup_leG {α : Type} [DecidableEq α] : ∀ {l m : List α}, l.Nodup → (∀ x ∈ l, x ∈ m) → l.length ≤ m.length
  | [], m, _, _ => Nat.zero_le _
  | x :: l, m, nd, sub => by
    have hx := sub x List.mem_cons_self
    have nd' := List.nodup_cons.mp nd
    have := nodup_leG (m := m.erase x) nd'.2 fun y hy => (List.mem_erase_of_ne (a := y) (b := x) (fun e => nd'.1 (by rw [← e]; exact hy))).mpr (sub y (List.mem_cons_of_mem _ hy))
    rw [List.length_erase_of_mem hx] at this
    have p := List.length_pos_of_mem hx
    rw [List.length_cons]
    omega
theorem kv_keys {κ : Type} : ∀ {kvs : List (κ × V)} {vs : List (κ × Value)}, KV kvs vs → kvs.map (·.1) = vs.map (·.1)
  | _, _, .nil => rfl
  | _, _, .cons r t => by rw [List.map_cons, List.map_cons, r.1, kv_keys t]
def TxtK (dk : List (Key × V)) : Prop := ∀ k v, (k, v) ∈ dk → ∃ x, k = (.inr x : Key)
/-- two dicts of dicts of pairs of numbers that hold the same -/
structure DEq (K : PySem.W.Frag) (H : Hp) (a b : Addr) : Prop where
  ex : ∃ ka kb : List (Key × V), H a = some (.dK ka) ∧ H b = some (.dK kb) ∧ TxtK ka ∧ TxtK kb ∧ ∀ x : Str, (valV ka (.inr x) = none ∧ valV kb (.inr x) = none) ∨
    ∃ (a1 b1 : Addr) (r1 r2 : List (Str × Addr)), valV ka (.inr x) = some (.ref a1) ∧ valV kb (.inr x) = some (.ref b1) ∧ H a1 = some (.dK (Sw.rowK r1)) ∧ H b1 = some (.dK (Sw.rowK r2)) ∧ (r1.map (·.1)).Nodup ∧ (r2.map (·.1)).Nodup ∧
      (∀ y t, (y, t) ∈ r1 → ∃ (t' : Addr) (p q : Int), (y, t') ∈ r2 ∧ SqT K H t [.int p, .int q] ∧ SqT K H t' [.int p, .int q]) ∧ ∀ y t, (y, t) ∈ r2 → ∃ t', (y, t') ∈ r1
theorem same_len {ka kb : List (Key × V)} (n1 : (ka.map (·.1)).Nodup) (n2 : (kb.map (·.1)).Nodup) (t1 : TxtK ka) (t2 : TxtK kb) (h : ∀ x : Str, valV ka (.inr x) = none ↔ valV kb (.inr x) = none) : ka.length = kb.length := by
  have one : ∀ {k1 k2 : List (Key × V)}, TxtK k1 → (∀ x : Str, valV k2 (.inr x) = none → valV k1 (.inr x) = none) → ∀ k ∈ k1.map (·.1), k ∈ k2.map (·.1) := fun {k1 k2} t h k m => by
    obtain ⟨⟨k', v⟩, hm, e⟩ := List.mem_map.mp m
    cases e
    obtain ⟨x, rfl⟩ := t _ _ hm
    obtain ⟨w, hw⟩ := Sw.mem_val hm
    cases e : valV k2 (.inr x) with
    | none => rw [h x e] at hw; cases hw
    | some u => exact List.mem_map.mpr ⟨_, Sw.val_mem e, rfl⟩
  have l1 := nodup_leG n1 (one t1 fun x => (h x).mpr)
  have l2 := nodup_leG n2 (one t2 fun x => (h x).mp)
  rw [List.length_map, List.length_map] at l1 l2
  omega
theorem deq_hits {X : Cx} {pins : List (Addr × Obj)} {σ : St} {H : Hp} {s : Shared} {A : Around} {a b : Addr} (I : Inv X pins σ H s) (h : DEq X.K H a b) (hu : A.units + 3 < cLine) :
    ∃ (w1 w2 : List (Key × Value)), (a == sysModules) = false ∧ (b == sysModules) = false ∧ s.heap.DictOf (mixKind X.prog X.w) a w1 ∧ s.heap.DictOf (mixKind X.prog X.w) b w2 ∧ w1.length = w2.length ∧
      ∀ (i : Nat) (k : Key) (v : Value), w1[i]? = some (k, v) → ∃ y, valueAt w2 k = some y ∧ LEq X.prog X.w A.in1 s v y := by
  obtain ⟨ka, kb, e1, e2, t1, t2, hx⟩ := h.ex
  obtain ⟨z1, s1, w1, k1, o1⟩ := dk_of I.hok e1
  obtain ⟨z2, s2, w2, k2, o2⟩ := dk_of I.hok e2
  have nd : ∀ {c : Addr} {kv : List (Key × V)} {vs : List (Key × Value)}, KV kv vs → s.heap.DictOf (mixKind X.prog X.w) c vs → (kv.map (·.1)).Nodup := fun {c kv vs} r d => by
    rw [kv_keys r]
    obtain ⟨_, _, _, _, _, _, _, _, n⟩ := d
    exact n
  refine ⟨w1, w2, s1, s2, o1, o2, ?_, fun i k v hv => ?_⟩
  · rw [← k1.length, ← k2.length]
    refine same_len (nd k1 o1) (nd k2 o2) t1 t2 fun x => ?_
    rcases hx x with ⟨q1, q2⟩ | ⟨a1, b1, r1, r2, q1, q2, _⟩
    · exact ⟨fun _ => q2, fun _ => q1⟩
    · exact ⟨(fun z => by rw [q1] at z; cases z), (fun z => by rw [q2] at z; cases z)⟩
  obtain ⟨⟨k', v'⟩, hk, rfl, rv⟩ := paired_back k1 i hv
  obtain ⟨x, rfl⟩ := t1 _ _ (List.mem_of_getElem? hk)
  have va : valV ka (.inr x) = some v' := by
    have n := nd k1 o1
    obtain ⟨w, hw⟩ := Sw.mem_val (List.mem_of_getElem? hk)
    obtain ⟨j, hj⟩ := List.mem_iff_getElem?.mp (Sw.val_mem hw)
    have h1 : (ka.map (·.1))[i]? = some (.inr x) := by rw [List.getElem?_map, hk]; rfl
    have h2 : (ka.map (·.1))[j]? = some (.inr x) := by rw [List.getElem?_map, hj]; rfl
    have := (List.getElem?_inj (List.getElem?_eq_some_iff.mp h1).1 n).mp (h1.trans h2.symm)
    subst this
    rw [hk] at hj
    cases hj
    exact hw
  rcases hx x with ⟨q1, _⟩ | ⟨a1, b1, r1, r2, q1, q2, q3, q4, q5, q6, q7, q8⟩
  · rw [va] at q1; cases q1
  rw [va] at q1
  cases q1
  have ro := k2.val (.inr x)
  rw [q2] at ro
  obtain ⟨u', hu', ru⟩ := RelO.some_of ro
  cases rv
  cases ru
  refine ⟨_, hu', Sw.leq_refs fun _ E Q q => ?_⟩
  obtain ⟨y1, m1, x1, j1, c1⟩ := dk_of I.hok q3
  obtain ⟨y2, m2, x2, j2, c2⟩ := dk_of I.hok q4
  refine dict_eq m1 m2 c1 c2 (by show A.units + 1 < cLine; omega) ?_ (fun i k v hv => ?_) q
  · rw [← j1.length, ← j2.length]
    have l1 := nodup_leG (m := r2.map (·.1)) q5 fun y hy => by
      obtain ⟨⟨y', t⟩, hm, e⟩ := List.mem_map.mp hy
      cases e
      obtain ⟨t', _, _, hm', _⟩ := q7 y' t hm
      exact List.mem_map.mpr ⟨_, hm', rfl⟩
    have l2 := nodup_leG (m := r1.map (·.1)) q6 fun y hy => by
      obtain ⟨⟨y', t⟩, hm, e⟩ := List.mem_map.mp hy
      cases e
      obtain ⟨t', hm'⟩ := q8 y' t hm
      exact List.mem_map.mpr ⟨_, hm', rfl⟩
    unfold Sw.rowK
    rw [List.length_map, List.length_map] at *
    omega
  · obtain ⟨⟨k', v'⟩, hk, rfl, rv⟩ := paired_back j1 i hv
    unfold Sw.rowK at hk
    rw [List.getElem?_map] at hk
    obtain ⟨⟨y, t⟩, hr, e⟩ := Option.map_eq_some_iff.mp hk
    cases e
    obtain ⟨t', p, q', hm', f1, f2⟩ := q7 y t (List.mem_of_getElem? hr)
    have ro := j2.val (.inr y)
    rw [Sw.rowK_val q6 hm'] at ro
    obtain ⟨u', hu', ru⟩ := RelO.some_of ro
    refine ⟨_, hu', fun E Q q => ?_⟩
    have al : Alk X.K H 1 (.ref t) (.ref t') := .inr ⟨t, t', _, _, rfl, rfl, .inl ⟨f1, f2⟩, ⟨rfl, trivial⟩, ⟨rfl, trivial⟩, trivial⟩
    exact alk_eq I 1 A.in1.in1 _ _ _ _ (by show A.units + 1 + 1 + 1 < cLine; omega) al rv ru _ _ _ _ q
theorem op_neDR {X : Cx} (hu : X.A.units + 3 < cLine) : OpR X (compareOp .NotEq) (fun x y H Q => ∃ a b, x = .ref a ∧ y = .ref b ∧ DEq X.K H a b ∧ Q (.bl false) H) := by
  intro pins s σ H x y v u Q I rx ry h
  obtain ⟨a, b, rfl, rfl, hd, hq⟩ := h
  cases rx
  cases ry
  obtain ⟨w1, w2, s1, s2, o1, o2, hl, hits⟩ := deq_hits (A := X.A) I hd (by omega)
  exact dict_ne s1 s2 o1 o2 (by omega) hl hits ⟨.bl false, H, I, rfl, hq⟩
theorem op_eqDR {X : Cx} (hu : X.A.units + 3 < cLine) : OpR X (compareOp .Eq) (fun x y H Q => ∃ a b, x = .ref a ∧ y = .ref b ∧ DEq X.K H a b ∧ Q (.bl true) H) := by
  intro pins s σ H x y v u Q I rx ry h
  obtain ⟨a, b, rfl, rfl, hd, hq⟩ := h
  cases rx
  cases ry
  obtain ⟨w1, w2, s1, s2, o1, o2, hl, hits⟩ := deq_hits (A := X.A) I hd (by omega)
  exact dict_eq s1 s2 o1 o2 (by omega) hl hits ⟨.bl true, H, I, rfl, hq⟩
end L2
namespace Sw
open PySem L2 XH Hm Wo So PyProof.Rows
/-! ### far: a dict from names to numbers -/
def fK (fs : List (Str × Nat)) : List (Key × V) := fs.map fun p => ((.inr p.1 : Key), V.int p.2)
theorem fK_val (fs : List (Str × Nat)) (x : Str) : valV (fK fs) (.inr x) = (farF fs x).map fun n : Nat => V.int (n : Int) := by
  unfold valV fK farF
  rw [List.find?_map, Option.map_map, Option.map_map]
  have e : ((fun kv : Key × V => decide (kv.1 = (.inr x : Key))) ∘ fun p : Str × Nat => ((.inr p.1 : Key), V.int p.2)) = fun p => decide (p.1 = x) := by
    funext p
    show decide ((.inr p.1 : Key) = .inr x) = decide (p.1 = x)
    by_cases c : p.1 = x
    · rw [decide_eq_true c, decide_eq_true (by rw [c])]
    · rw [decide_eq_false c, decide_eq_false (fun z => c (by injection z))]
  rw [e]
  rfl
theorem fK_put {fs : List (Str × Nat)} {x : Str} (h : farF fs x = none) (n : Nat) : putK (fK fs) (.inr x) (.int n) = fK (fs ++ [(x, n)]) := by
  have e : valV (fK fs) (.inr x) = none := by rw [fK_val, h]; rfl
  unfold putK
  rw [valV_any, e, if_neg (by simp)]
  unfold fK
  rw [List.map_append]
  rfl
theorem fK_len (fs : List (Str × Nat)) : (fK fs).length = fs.length := List.length_map _
structure PP (K : PySem.W.Frag) (b : Nat) (vw : Str → Str → Int × Int) (zs : List Str) (H : Hp) (l : Addr) (kvs : List (List Key × V)) : Prop where
  at_ : H l = some (.dT kvs)
  pt : PTv K b vw zs H kvs
  few : kvs.length ≤ 64
  fz : zs.length ≤ 100
theorem PP.same {K : PySem.W.Frag} {b : Nat} {vw : Str → Str → Int × Int} {zs : List Str} {H H' : Hp} {l : Addr} {kvs : List (List Key × V)} (h : PP K b vw zs H l kvs) (g : Same H H') : PP K b vw zs H' l kvs := ⟨g _ _ h.at_, h.pt.same g, h.few, h.fz⟩
def spSteps (K : PySem.W.Frag) : Sp := fun vs H Q _ => ∃ (l : Addr) (good : Str) (b : Nat) (vw : Str → Str → Int × Int) (zs : List Str) (kvs : List (List Key × V)), vs = [.ref l, .str good] ∧ PP K b vw zs H l kvs ∧ good ∈ zs ∧
  ∀ (d : Addr) (fs : List (Str × Nat)) (H' : Hp), Same H H' → H' d = some (.dK (fK fs)) → (fs.map (·.1)).Nodup → Dist (StE (gT kvs)) good (farF fs) → Q (.ref d) H'
/-! ### ratios along a chain -/
def prT (vw : Str → Str → Int × Int) (c : List Str) : Nat → Int × Int
  | 0 => (1, 1)
  | n + 1 => ((prT vw c n).1 * (vw (c.getD n "") (c.getD (n + 1) "")).1, (prT vw c n).2 * (vw (c.getD n "") (c.getD (n + 1) "")).2)
theorem prT_app (vw : Str → Str → Int × Int) (c : List Str) (x : Str) : ∀ n, n < c.length → prT vw (c ++ [x]) n = prT vw c n
  | 0, _ => rfl
  | n + 1, h => by
    have ih := prT_app vw c x n (by omega)
    have e1 : (c ++ [x]).getD n "" = c.getD n "" := by rw [List.getD_eq_getElem?_getD, List.getD_eq_getElem?_getD, List.getElem?_append_left (by omega)]
    have e2 : (c ++ [x]).getD (n + 1) "" = c.getD (n + 1) "" := by rw [List.getD_eq_getElem?_getD, List.getD_eq_getElem?_getD, List.getElem?_append_left h]
    unfold prT
    rw [ih, e1, e2]
theorem prT_last (vw : Str → Str → Int × Int) (c : List Str) (x : Str) (n : c ≠ []) : prT vw (c ++ [x]) c.length = ((prT vw c (c.length - 1)).1 * (vw (lastS c) x).1, (prT vw c (c.length - 1)).2 * (vw (lastS c) x).2) := by
  obtain ⟨a, y, rfl⟩ : ∃ a y, c = a ++ [y] := ⟨c.dropLast, c.getLast n, (List.dropLast_concat_getLast n).symm⟩
  have l : (a ++ [y]).length = a.length + 1 := by rw [List.length_append]; rfl
  rw [lastS_app, l, Nat.add_sub_cancel]
  show ((prT vw (a ++ [y] ++ [x]) a.length).1 * _, (prT vw (a ++ [y] ++ [x]) a.length).2 * _) = _
  rw [prT_app vw (a ++ [y]) x a.length (by omega)]
  have e1 : (a ++ [y] ++ [x]).getD a.length "" = y := by rw [List.getD_eq_getElem?_getD, List.append_assoc, List.getElem?_append_right (Nat.le_refl _), Nat.sub_self]; rfl
  have e2 : (a ++ [y] ++ [x]).getD (a.length + 1) "" = x := by rw [List.getD_eq_getElem?_getD, List.getElem?_append_right (by omega), l, Nat.sub_self]; rfl
  rw [e1, e2]
def RtV (vw : Str → Str → Int × Int) (c : List Str) (p q : Int) : Prop := c ≠ [] ∧ p * (prT vw c (c.length - 1)).2 = (prT vw c (c.length - 1)).1 * q ∧ gcdI p q = 1 ∧ 0 < q
theorem rt_one (vw : Str → Str → Int × Int) (x : Str) : RtV vw [x] 1 1 := ⟨nofun, rfl, by decide, by decide⟩
theorem rt_snoc {vw : Str → Str → Int × Int} {c : List Str} {p q r s : Int} {x : Str} (h : RtV vw c p q) (f : Fr r s (p * (vw (lastS c) x).1) (q * (vw (lastS c) x).2)) : RtV vw (c ++ [x]) r s := by
  obtain ⟨n, e, _, q0⟩ := h
  refine ⟨by simp, ?_, f.low, f.pos⟩
  rw [List.length_append, List.length_singleton, Nat.add_sub_cancel, prT_last vw c x n]
  have e2 := f.same
  generalize (prT vw c (c.length - 1)).1 = T at *
  generalize (prT vw c (c.length - 1)).2 = B at *
  generalize (vw (lastS c) x).1 = u at *
  generalize (vw (lastS c) x).2 = v at *
  show r * (B * v) = (T * u) * s
  refine cancel (k := q) ?_ (by omega)
  grind
theorem rt_uniq {vw : Str → Str → Int × Int} {c : List Str} {p q p' q' : Int} (h : RtV vw c p q) (f : Fr p' q' (prT vw c (c.length - 1)).1 (prT vw c (c.length - 1)).2) (B0 : 0 < (prT vw c (c.length - 1)).2) : p = p' ∧ q = q' := by
  obtain ⟨_, e, g, q0⟩ := h
  refine low_unique ⟨q0, g⟩ ⟨f.pos, f.low⟩ (cancel (k := (prT vw c (c.length - 1)).2) ?_ (by omega))
  have e2 := f.same
  generalize (prT vw c (c.length - 1)).1 = T at *
  generalize (prT vw c (c.length - 1)).2 = B at *
  grind
def spAlong (K : PySem.W.Frag) : Sp := fun vs H Q _ => ∃ (l lc : Addr) (b : Nat) (vw : Str → Str → Int × Int) (zs : List Str) (kvs : List (List Key × V)) (c : List Str), vs = [.ref l, .ref lc] ∧ PP K b vw zs H l kvs ∧ H lc = some (.lst (c.map V.str)) ∧ c ≠ [] ∧ c.length ≤ 110 ∧ b * c.length + 1 ≤ 8000 ∧
  (∀ (j : Nat) (x y : Str), c[j]? = some x → c[j + 1]? = some y → StE (gT kvs) x y) ∧ ∀ p q : Int, 0 < (prT vw c (c.length - 1)).2 → Fr p q (prT vw c (c.length - 1)).1 (prT vw c (c.length - 1)).2 → Pair H Q p q
theorem BD.mono {H H1 : Hp} {d : Addr} {n m : Nat} {dk : List (Key × V)} {g : Str → Str → Option Addr} (h : BD H H1 d n dk g) (l : n ≤ m) : BD H H1 d m dk g := ⟨h.at_, Nat.le_trans h.few l, h.inj, fun x => by
  rcases h.ex x with z | ⟨a, row, q1, q2, q3, q4, q5, q6, q7⟩
  · exact .inl z
  · exact .inr ⟨a, row, q1, q2, q3, q4, q5, Nat.le_trans q6 l, q7⟩⟩
theorem BD.new {H H1 : Hp} {d pn : Addr} {n : Nat} {dk : List (Key × V)} {g : Str → Str → Option Addr} (h : BD H H1 d n dk g) (hn : H1 pn = none) (x : Str) : valV dk (.inr x) ≠ some (.ref pn) := fun z => by
  rcases h.ex x with ⟨w, _⟩ | ⟨a, row, q1, q2, _⟩
  · rw [w] at z; cases z
  · rw [z] at q1; cases q1; rw [hn] at q2; cases q2
theorem BD.some {H H1 : Hp} {d : Addr} {n : Nat} {dk : List (Key × V)} {g : Str → Str → Option Addr} (h : BD H H1 d n dk g) {x y : Str} (e : StE g x y) : valV dk (.inr x) ≠ none := fun z => by
  obtain ⟨t, ht⟩ := e
  rcases h.ex x with ⟨_, w⟩ | ⟨a, row, q1, _⟩
  · rw [w] at ht; cases ht
  · rw [z] at q1; cases q1
/-- which names are keys -/
structure BKy (dk : List (Key × V)) (g : Str → Str → Option Addr) (E : Str → Prop) : Prop where
  txt : TxtK dk
  key : ∀ x, valV dk (.inr x) ≠ none → (∃ y t, g x y = some t) ∨ E x
theorem txt_put {dk : List (Key × V)} (h : TxtK dk) (x : Str) (v : V) : TxtK (putK dk (.inr x) v) := fun k u m => by
  unfold putK at m
  split at m
  · obtain ⟨⟨k', v'⟩, hm, e⟩ := List.mem_map.mp m
    by_cases c : k' = (.inr x : Key)
    · rw [if_pos c] at e
      cases e
      exact ⟨x, c⟩
    · rw [if_neg c] at e
      cases e
      exact h _ _ hm
  · rcases List.mem_append.mp m with m | m
    · exact h _ _ m
    · cases List.mem_singleton.mp m
      exact ⟨x, rfl⟩
theorem BKy.nil (g : Str → Str → Option Addr) {E : Str → Prop} : BKy [] g E := ⟨(fun k v z => nomatch z), fun x z => absurd rfl z⟩
theorem BKy.put {dk : List (Key × V)} {g g' : Str → Str → Option Addr} {E : Str → Prop} {x0 y0 : Str} {t0 : Addr} (h : BKy dk g E) (hg : ∀ x y, g' x y = if x = x0 ∧ y = y0 then some t0 else g x y) : BKy dk g' E := ⟨h.txt, fun x z => by
  rcases h.key x z with ⟨y, t, e⟩ | e
  · by_cases c : x = x0 ∧ y = y0
    · exact .inl ⟨y, t0, by rw [hg, if_pos c]⟩
    · exact .inl ⟨y, t, by rw [hg, if_neg c]; exact e⟩
  · exact .inr e⟩
theorem BKy.openPut {dk : List (Key × V)} {g g' : Str → Str → Option Addr} {E : Str → Prop} {x0 y0 : Str} {t0 : Addr} {v : V} (h : BKy dk g E) (hg : ∀ x y, g' x y = if x = x0 ∧ y = y0 then some t0 else g x y) : BKy (putK dk (.inr x0) v) g' E := ⟨txt_put h.txt _ _, fun x z => by
  by_cases c : x = x0
  · exact .inl ⟨y0, t0, by rw [hg, if_pos ⟨c, rfl⟩]⟩
  · rw [valV_put, if_neg (fun z => c (by injection z))] at z
    exact (h.put hg).key x z⟩
theorem BKy.open {dk : List (Key × V)} {g : Str → Str → Option Addr} {E E' : Str → Prop} {x0 : Str} {v : V} (h : BKy dk g E) (h1 : ∀ x, E x → E' x) (h2 : E' x0) : BKy (putK dk (.inr x0) v) g E' := ⟨txt_put h.txt _ _, fun x z => by
  by_cases c : x = x0
  · subst c
    exact .inr h2
  · rw [valV_put, if_neg (fun z => c (by injection z))] at z
    rcases h.key x z with e | e
    · exact .inl e
    · exact .inr (h1 x e)⟩
def pk (kvs : List (List Key × V)) : List (Str × Str) := kvs.filterMap fun p => match p.1 with
  | [.inr x, .inr y] => some (x, y)
  | _ => none
theorem pk_succ {kvs : List (List Key × V)} {i : Nat} {x y : Str} {v : V} (h : kvs[i]? = some ([.inr x, .inr y], v)) : pk (kvs.take (i + 1)) = pk (kvs.take i) ++ [(x, y)] := by
  unfold pk
  rw [List.take_add_one, h, List.filterMap_append]
  rfl
theorem pk_in {kvs : List (List Key × V)} {x y : Str} (h : StE (gT kvs) x y) : (x, y) ∈ pk kvs := by
  obtain ⟨t, ht⟩ := h
  exact List.mem_filterMap.mpr ⟨_, val_mem (gT_some ht), rfl⟩
def bw (wd : Bool) : Nat := if wd = true then 200 else 20
def spRatio2 : Sp := fun vs H Q _ => ∃ (c : Int) (wd : Bool), vs = [.int c, .bl wd] ∧ ∀ p q : Int, 0 < p → 0 < q → Bd (bw wd) p → Bd (bw wd) q → Pair H Q p q
def spPairs2 (K : PySem.W.Frag) : Sp := fun vs H Q _ => ∃ (a ln : Addr) (ns : List Int) (st m : Int) (nr wd : Bool) (zs : List Str), vs = [.ref a, .int st, .ref ln, .int m, .bl nr, .bl wd] ∧ SqL K H a (ns.map V.int) ∧ ns.length ≤ 63 ∧ H ln = some (.lst (zs.map V.str)) ∧ 0 < m ∧ m ≤ zs.length ∧ zs.length ≤ 100 ∧
  ∀ (l : Addr) (kvs : List (List Key × V)) (H' : Hp), Same H H' → H l = none → H' l = some (.dT kvs) → PT K (bw wd) zs H' kvs → kvs.length ≤ 63 → Q (.ref l) H'
def spDict2 (K : PySem.W.Frag) : Sp := fun vs H Q _ => ∃ (l le : Addr) (b : Nat) (vw : Str → Str → Int × Int) (zs : List Str) (kvs : List (List Key × V)) (es : List Str), vs = [.ref l, .ref le] ∧ PP K b vw zs H l kvs ∧ H le = some (.lst (es.map V.str)) ∧ es.length ≤ 40 ∧
  ∀ (d : Addr) (n : Nat) (dk : List (Key × V)) (H' : Hp), Same H H' → H d = none → BD H H' d n dk (gT kvs) → n ≤ 180 → TxtK dk → (∀ x, valV dk (.inr x) ≠ none ↔ (∃ y, StE (gT kvs) x y) ∨ x ∈ es) → Q (.ref d) H'
def LnkC (kvs : List (List Key × V)) (c : List Str) : Prop := ∀ (j : Nat) (x y : Str), c[j]? = some x → c[j + 1]? = some y → StE (gT kvs) x y
def spPairC (K : PySem.W.Frag) : Sp := fun vs H Q _ => ∃ (t l d cl rl : Addr) (b : Nat) (vw : Str → Str → Int × Int) (zs : List Str) (kvs : List (List Key × V)) (fs : List (Str × Nat)) (good : Str) (c : List Str) (p q : Int), vs = [.ref t, .ref l, .str good, .ref d] ∧ PP K b vw zs H l kvs ∧ H d = some (.dK (fK fs)) ∧ H t = some (.tup [.ref cl, .ref rl]) ∧
  H cl = some (.lst (c.map V.str)) ∧ H rl = some (.tup [.int p, .int q]) ∧ RtV vw c p q ∧ c[0]? = some good ∧ c.length ≤ 110 ∧ b * c.length + 1 ≤ 8000 ∧ LnkC kvs c ∧ farF fs (lastS c) = some c.length ∧ ∀ H', Same H H' → Q (.bl true) H'
def spRightW (K : PySem.W.Frag) : Sp := fun vs H Q _ => ∃ (lf l : Addr) (b : Nat) (vw : Str → Str → Int × Int) (zs : List Str) (kvs : List (List Key × V)) (good : Str) (cs : List (List Str)) (F : Addr → Prop), vs = [.ref lf, .ref l, .str good] ∧ PP K b vw zs H l kvs ∧ good ∈ zs ∧ b * (zs.length + 2) ≤ 4000 ∧ 1 ≤ b ∧
  WoA K b (RtV vw) F H lf cs ∧ Bfs (StE (gT kvs)) good cs cs.length (fun _ => False) ∧ ∀ H', Same H H' → Q (.bl true) H'
theorem StE.in {K : PySem.W.Frag} {b : Nat} {vw : Str → Str → Int × Int} {zs : List Str} {H : Hp} {kvs : List (List Key × V)} (h : PTv K b vw zs H kvs) {x y : Str} (e : StE (gT kvs) x y) : x ∈ zs ∧ y ∈ zs := by
  obtain ⟨t, ht⟩ := e
  obtain ⟨x', y', t', e1, _, _, _, _, z⟩ := h.val (val_mem (gT_some ht))
  injection e1 with w1 w2
  injection w1 with w1
  injection w2 with w2
  injection w2 with w2
  subst w1 w2
  exact z
theorem far_len {R : Str → Str → Prop} {good : Str} {cs : List (List Str)} {S : Str → Prop} {fs : List (Str × Nat)} (h : Bfs R good cs cs.length S) (nd : (fs.map (·.1)).Nodup) (d : Dist R good (farF fs)) : cs.length = fs.length := by
  have e := h.dist.eq d
  have l1 := nodup_le (m := fs.map (·.1)) h.nd fun x hx => by
    obtain ⟨c, hc, rfl⟩ := List.mem_map.mp hx
    obtain ⟨k, hk⟩ := List.mem_iff_getElem?.mp hc
    have := Dcs_at h.nd hk
    rw [e] at this
    exact List.mem_map.mpr ⟨_, farF_of this, rfl⟩
  have l2 := nodup_le (m := cs.map lastS) nd fun x hx => by
    cases q : farF fs x with
    | none => exact absurd hx (farF_none.mp q)
    | some n =>
      rw [← e] at q
      obtain ⟨k, c, hk, e1, _⟩ := Dcs_of q
      exact List.mem_map.mpr ⟨c, List.mem_of_getElem? hk, e1⟩
  rw [List.length_map, List.length_map] at l1 l2
  omega
theorem rt_first {vw : Str → Str → Int × Int} {x : Str} {p q : Int} (h : RtV vw [x] p q) : p = 1 ∧ q = 1 := rt_uniq h ⟨by decide, by decide, rfl, Nat.le_refl _, Nat.le_refl _⟩ (by show (0 : Int) < 1; decide)
/-- the links of the chains -/
theorem bfs_lnk {R : Str → Str → Prop} {good : Str} {cs : List (List Str)} {i : Nat} {S : Str → Prop} (h : Bfs R good cs i S) : ∀ (k : Nat) (c : List Str), cs[k]? = some c → c[0]? = some good ∧ ∀ (j : Nat) (x y : Str), c[j]? = some x → c[j + 1]? = some y → R x y := by
  intro k
  induction k using Nat.strongRecOn with
  | ind k ih =>
    intro c hk
    rcases Nat.eq_zero_or_pos k with z | z
    · subst z
      rw [h.first] at hk
      cases hk
      exact ⟨rfl, fun j x y _ h2 => by rw [List.getElem?_eq_none (by simp)] at h2; cases h2⟩
    · obtain ⟨j0, d, y0, l, _, hj, rfl, r, _⟩ := h.from_ k c z hk
      obtain ⟨i1, i2⟩ := ih j0 l d hj
      have d0 := (List.getElem?_eq_some_iff.mp i1).1
      refine ⟨by rw [List.getElem?_append_left d0]; exact i1, fun j x y h1 h2 => ?_⟩
      have jl := (List.getElem?_eq_some_iff.mp h2).1
      rw [List.length_append, List.length_singleton] at jl
      rw [List.getElem?_append_left (by omega)] at h1
      rcases Nat.lt_or_ge (j + 1) d.length with l' | l'
      · rw [List.getElem?_append_left l'] at h2
        exact i2 j x y h1 h2
      · have e : j + 1 = d.length := by omega
        rw [e, List.getElem?_append_right (Nat.le_refl _), Nat.sub_self] at h2
        cases h2
        have e3 : lastS d = x := by
          have e4 : d[d.length - 1]? = some x := by rw [← e, Nat.add_sub_cancel]; exact h1
          unfold lastS
          rw [List.getLastD_eq_getLast?, List.getLast?_eq_getElem?, e4]
          rfl
        rw [← e3]
        exact r
/-! ### for the law itself -/
theorem BD.updO {H H1 : Hp} {d l : Addr} {n : Nat} {dk : List (Key × V)} {g : Str → Str → Option Addr} (h : BD H H1 d n dk g) (hl : H l ≠ none) (hd : H d = none) (u : HO) : BD H (upd H1 l u) d n dk g := by
  have ne : ∀ {c : Addr}, H c = none → c ≠ l := fun {c} z e => hl (by rw [← e]; exact z)
  refine ⟨by rw [upd_ne (ne hd)]; exact h.at_, h.few, h.inj, fun x => ?_⟩
  rcases h.ex x with z | ⟨a, row, q1, q2, q3, q4⟩
  · exact .inl z
  · exact .inr ⟨a, row, q1, by rw [upd_ne (ne q3)]; exact q2, q3, q4⟩
theorem gT_put (kvs : List (List Key × V)) (x0 y0 : Str) (t0 : Addr) (x y : Str) : gT (putK kvs [.inr x0, .inr y0] (.ref t0)) x y = if x = x0 ∧ y = y0 then some t0 else gT kvs x y := by
  unfold gT
  rw [valV_put]
  by_cases c : x = x0 ∧ y = y0
  · obtain ⟨rfl, rfl⟩ := c
    rw [if_pos rfl, if_pos ⟨rfl, rfl⟩]
  · rw [if_neg c, if_neg (fun z => c (by
      injection z with w1 w2
      injection w1 with w1
      injection w2 with w2
      injection w2 with w2
      exact ⟨w1, w2⟩))]
theorem deq_of {K : PySem.W.Frag} {H1 H2 H : Hp} {d d2 : Addr} {n n2 : Nat} {dk dk2 : List (Key × V)} {g g2 : Str → Str → Option Addr} (b1 : BD H1 H d n dk g) (b2 : BD H2 H d2 n2 dk2 g2) (t1 : TxtK dk) (t2 : TxtK dk2) (hk : ∀ x, valV dk (.inr x) ≠ none ↔ valV dk2 (.inr x) ≠ none)
    (hv : ∀ x y t, g x y = some t → ∃ (t' : Addr) (p q : Int), g2 x y = some t' ∧ SqT K H t [.int p, .int q] ∧ SqT K H t' [.int p, .int q]) (hw : ∀ x y t, g2 x y = some t → ∃ t', g x y = some t') : DEq K H d d2 := by
  refine ⟨dk, dk2, b1.at_, b2.at_, t1, t2, fun x => ?_⟩
  rcases b1.ex x with ⟨z1, z2⟩ | ⟨a, row, q1, q2, q3, q4, q5, q6, q7⟩
  · refine .inl ⟨z1, ?_⟩
    cases e : valV dk2 (.inr x) with
    | none => rfl
    | some v => exact absurd z1 ((hk x).mpr (by rw [e]; exact nofun))
  · rcases b2.ex x with ⟨z1, z2⟩ | ⟨a2, row2, p1, p2, p3, p4, p5, p6, p7⟩
    · exact absurd z1 ((hk x).mp (by rw [q1]; exact nofun))
    · refine .inr ⟨a, a2, row, row2, q1, p1, q2, p2, q5, p5, fun y t m => ?_, fun y t m => ?_⟩
      · obtain ⟨t', p, q, e1, e2, e3⟩ := hv x y t ((q7 y t).mpr m)
        exact ⟨t', p, q, (p7 y t').mp e1, e2, e3⟩
      · obtain ⟨t', e⟩ := hw x y t ((p7 y t).mpr m)
        exact ⟨t', (q7 y t').mp e⟩
theorem cut_strs (zs : List Str) (lo hi : Option Int) : ∃ es : List Str, cutV (zs.map V.str) lo hi = es.map V.str ∧ es.length ≤ zs.length := by
  refine ⟨(zs.drop (HT.sIx (zs.map V.str).length 0 lo)).take (HT.sIx (zs.map V.str).length (zs.map V.str).length hi - HT.sIx (zs.map V.str).length 0 lo), ?_, ?_⟩
  · unfold cutV
    rw [List.map_take, List.map_drop]
  · rw [List.length_take, List.length_drop]
    omega
theorem bw_one (wd : Bool) : 20 ≤ bw wd := by cases wd <;> decide
end Sw
set_option Elab.async false
set_option linter.all false
set_option maxRecDepth 100000
namespace Lk24
open PySem L2 Sw XH PyProof.Rows Hm Wo
def top (i : Nat) : Stmt := PySem.Challenge.pw_stovework_k24_ways_out.main.body.getD i (.Pass ⟨0, 0, 0, 0⟩)
abbrev sis_whole : Stmt := top 4
abbrev sdivisor : Stmt := top 5
abbrev sfraction : Stmt := top 7
abbrev sproduct : Stmt := top 8
abbrev sways_out : Stmt := top 10
abbrev s_law_cell_at : Stmt := top 12
abbrev s_law_names : Stmt := top 13
abbrev s_law_divisor_of : Stmt := top 14
abbrev s_law_lowest : Stmt := top 15
abbrev s_law_ratio : Stmt := top 16
abbrev s_law_pairs : Stmt := top 17
abbrev s_law_dict : Stmt := top 18
abbrev s_law_steps : Stmt := top 19
abbrev s_law_along : Stmt := top 20
abbrev s_law_whole : Stmt := top 21
abbrev s_law_pair : Stmt := top 22
abbrev s_law_right : Stmt := top 23
abbrev slaw : Stmt := top 24
structure Bn (K : PySem.W.Frag) (mg : Str → Option Value) (c_NoNumber c_StoveError : Addr) : Prop where
  b_abs : mg "abs" = none
  b_len : mg "len" = none
  b_isinstance : mg "isinstance" = none
  b_int : mg "int" = none
  b_bool : mg "bool" = none
  b_range : mg "range" = none
  b_sorted : mg "sorted" = none
  b_list : mg "list" = none
  b_tuple : mg "tuple" = none
  b_str : mg "str" = none
  b_set : mg "set" = none
  m_NoNumber : mg "NoNumber" = some (.ref c_NoNumber)
  m_StoveError : mg "StoveError" = some (.ref c_StoveError)
  x_NoNumber : PySem.W.excIn K c_NoNumber bmV "ValueError.__new__" = true
  i_NoNumber : XI K c_NoNumber
def spDivP : Sp := fun vs H Q _ => ∃ a b : Int, vs = [.int a, .int b] ∧ 0 ≤ a ∧ 0 ≤ b ∧ Q (.int (gcdI a b)) H
def spLowP : Sp := fun vs H Q _ => ∃ a b : Int, vs = [.int a, .int b] ∧ 0 ≤ a ∧ 0 < b ∧ Bd 8500 b ∧ ∀ p q : Int, Fr p q a b → Pair H Q p q
section
variable {P : Program} {w : World} {K : PySem.W.Frag} {mg : Str → Option Value} {base : Heap} {f : Addr} {fd : FuncData} {c_NoNumber c_StoveError : Addr}
theorem scis_whole : FnScope ["thing"] ["thing"] (defScope sis_whole) := ⟨rfl, rfl, rfl, by decide +kernel, rfl, by decide +kernel, by decide +kernel⟩
set_option maxHeartbeats 4000000 in
theorem okis_whole {dV : Value} (F : FunD K "is_whole" "is_whole" sis_whole dV f fd) (B : Bn K mg c_NoNumber c_StoveError)  : FnOk P w K mg base CX0 1 f fd ["thing"] spWhole := by
  have sc := scis_whole
  refine F.ok sc (fun vs H Q E h => ?_) (fun cdv A outer s H vs Q E hr h => ?_)
  · obtain ⟨v, rfl, _⟩ := h
    rfl
  obtain ⟨v, rfl, q⟩ := h
  refine ⟨_, (pss_one (ps_ret (pe_and (pe_callB call_isi rfl B.b_isinstance boot_isinstance (pa_cons (pv 0) (pa_cons (pe_bltn (v := .ty "int") rfl B.b_int boot_int rfl) pa_nil))) (pe_one (pe_not (pe_callB call_isi rfl B.b_isinstance boot_isinstance (pa_cons (pv 0) (pa_cons (pe_bltn (v := .ty "bool") rfl B.b_bool boot_bool rfl) pa_nil)))))))), ?_⟩
  refine ⟨_, rfl, _, _, _, rfl, .ii v, _, rfl, iteT ⟨_, rfl, _, _, _, rfl, .ib v, _, rfl, q⟩⟩

theorem scdivisor : FnScope ["one", "other", "greater", "lesser", "rest"] ["one", "other"] (defScope sdivisor) := ⟨rfl, rfl, rfl, by decide +kernel, rfl, by decide +kernel, by decide +kernel⟩
set_option maxHeartbeats 4000000 in
theorem okdivisor {dV : Value} (F : FunD K "divisor" "divisor" sdivisor dV f fd) (B : Bn K mg c_NoNumber c_StoveError)  : FnOk P w K mg base CX0 1 f fd ["one", "other"] spDiv := by
  have sc := scdivisor
  refine F.ok sc (fun vs H Q E h => ?_) (fun cdv A outer s H vs Q E hr h => ?_)
  · obtain ⟨a, b, rfl, _⟩ := h
    rfl
  obtain ⟨a, b, rfl, q⟩ := h
  refine ⟨_, (pss_cons (ps_set (i := 2) sc.nd rfl (Or.inl rfl) (pe_callB call_abs rfl B.b_abs boot_abs (pa_cons (pv 0) pa_nil))) (pss_cons (ps_set (i := 3) sc.nd rfl (Or.inl rfl) (pe_callB call_abs rfl B.b_abs boot_abs (pa_cons (pv 1) pa_nil))) (pss_cons (ps_while PassesOwn.never (pt_cmpR op_ne (pv 3) pe_int (nomark _)) (pss_cons (ps_set (i := 4) sc.nd rfl (Or.inl rfl) (pe_op op_modN (pv 2) (pv 3))) (pss_cons (ps_set (i := 2) sc.nd rfl (Or.inl rfl) (pv 3)) (pss_one (ps_set (i := 3) sc.nd rfl (Or.inl rfl) (pv 4)))))) (pss_one (ps_ret (pv 2)))))), ?_⟩
  refine ⟨_, rfl, _, rfl, _, rfl, _, rfl, ?_⟩
  refine while_by (fun σ H' => H' = H ∧ ∃ (g l : Int) (r : Option V), σ = [some (.int a), some (.int b), some (.int g), some (.int l), r] ∧ 0 ≤ g ∧ 0 ≤ l ∧ gcdI g l = gcdI a b)
    (fun (σ : L2.St) (_ : Hp) => match σ[3]? with | some (some (V.int l)) => l.toNat | _ => 0) ⟨rfl, _, _, _, rfl, absI_nn a, absI_nn b, gcdI_abs a b⟩ ?_ (fun σ H Q Q' m ⟨v, e, s, k, hk, h2⟩ => ⟨v, e, s, k, hk, m _ _ h2⟩)
  rintro σ H' ⟨rfl, g, l, r, rfl, g0, l0, inv⟩
  refine ⟨_, rfl, rfl, _, rfl, n2I (fun c => ?_) (fun c => ?_)⟩
  · have lp : 0 < l := by omega
    refine ⟨_, rfl, _, rfl, _, _, rfl, rfl, c, _, rfl, _, rfl, ⟨rfl, l, g.fmod l, _, rfl, l0, Int.fmod_nonneg_of_pos g lp, ?_⟩, ?_⟩
    · rw [gcdI_fmod lp]; exact inv
    · have h1 := Int.fmod_lt_of_pos g lp
      have h2 := Int.fmod_nonneg_of_pos g lp
      show (g.fmod l).toNat < l.toNat
      omega
  · subst c
    rw [gcdI_zero g0] at inv
    rw [← inv] at q
    exact ⟨_, rfl, q⟩

theorem scfraction : FnScope ["top", "bottom", "common"] ["top", "bottom"] (defScope sfraction) := ⟨rfl, rfl, rfl, by decide +kernel, rfl, by decide +kernel, by decide +kernel⟩
set_option maxHeartbeats 4000000 in
theorem okfraction {dV : Value} (F : FunD K "fraction" "fraction" sfraction dV f fd) (B : Bn K mg c_NoNumber c_StoveError) (Dis_whole : Dx P w K mg base CX0 1 "is_whole" ["thing"] [] spWhole) (Ddivisor : Dx P w K mg base CX0 1 "divisor" ["one", "other"] [] spDiv) : FnOk P w K mg base (CX1 P w) 2 f fd ["top", "bottom"] (spFrZ c_NoNumber) := by
  have sc := scfraction
  refine F.okX sc (fun vs H Q E h => ?_) (fun cdv A outer s H vs Q E hr h => ?_)
  · obtain ⟨a, b, rfl, _⟩ := h
    rfl
  obtain ⟨a, b, rfl, hb, q, qe⟩ := h
  refine ⟨_, (pss_cons (ps_if (PW.pt (pw_or (pt_not (pt_val (pcall0 Dis_whole hr (by decide) rfl (pa_cons (pv 0) pa_nil)))) (pw_or1 (pt_not (pt_val (pcall0 Dis_whole hr (by decide) rfl (pa_cons (pv 1) pa_nil))))))) (pss_one (ps_raise B.x_NoNumber rfl B.m_NoNumber rfl passX (pa_cons pe_str pa_nil))) pss_nil) (pss_cons (ps_if (pt_cmpR op_eq (pv 1) pe_int (nomark _)) (pss_one (ps_raise B.x_NoNumber rfl B.m_NoNumber rfl passX (pa_cons pe_str pa_nil))) pss_nil) (pss_cons (ps_set (i := 2) sc.nd rfl (Or.inl rfl) (pcall0 Ddivisor hr (by decide) rfl (pa_cons (pv 0) (pa_cons (pv 1) pa_nil)))) (pss_cons (ps_if (pt_cmpR op_lt (pv 1) pe_int (nomark _)) (pss_one (ps_set (i := 2) sc.nd rfl (Or.inl rfl) (pe_un un_neg (pv 2)))) pss_nil) (pss_one (ps_ret (pe_tup (pa_cons (pe_op op_fdivB (pv 0) (pv 2)) (pa_cons (pe_op op_fdivB (pv 1) (pv 2)) pa_nil))))))))), ?_⟩
  refine ⟨_, rfl, _, rfl, true, rfl, iteF ⟨_, rfl, _, rfl, true, rfl, iteF ?_⟩⟩
  refine ⟨_, rfl, rfl, _, rfl, d2I (fun z => ⟨by show 1 ≤ sizeLine; decide, qe z⟩) (fun b0 => ?_)⟩
  have c0 := frC_ne (a := a) b0
  have cb := frC_bd (a := a) b0 hb
  have f := fr_of (a := a) b0
  have q := q b0
  refine ⟨_, rfl, _, rfl, _, _, rfl, ?_⟩
  refine ⟨_, rfl, _, _, rfl, rfl, _, rfl, d2 (fun c => ?_) (fun c => ?_)⟩
  · have e : frC a b = -gcdI a b := if_pos c
    rw [e] at c0 cb f
    exact ⟨_, rfl, _, rfl, _, rfl, _, rfl, _, _, rfl, rfl, ⟨c0, cb.div c0⟩, _, rfl, _, rfl, _, _, rfl, rfl, ⟨c0, cb.div c0⟩, (by show 2 ≤ sizeLine; decide), fun t ht => q _ _ f t _ (same_new ht _) upd_same⟩
  · have e : frC a b = gcdI a b := if_neg c
    rw [e] at c0 cb f
    exact ⟨_, rfl, _, rfl, _, _, rfl, rfl, ⟨c0, cb.div c0⟩, _, rfl, _, rfl, _, _, rfl, rfl, ⟨c0, cb.div c0⟩, (by show 2 ≤ sizeLine; decide), fun t ht => q _ _ f t _ (same_new ht _) upd_same⟩

theorem scproduct : FnScope ["one", "other"] ["one", "other"] (defScope sproduct) := ⟨rfl, rfl, rfl, by decide +kernel, rfl, by decide +kernel, by decide +kernel⟩
set_option maxHeartbeats 4000000 in
theorem okproduct {dV : Value} (F : FunD K "product" "product" sproduct dV f fd) (B : Bn K mg c_NoNumber c_StoveError) (Dfraction : Dx P w K mg base CX0 2 "fraction" ["top", "bottom"] [.int 1] spFr) : FnOk P w K mg base CX0 3 f fd ["one", "other"] (spProd K) := by
  have sc := scproduct
  refine F.ok sc (fun vs H Q E h => ?_) (fun cdv A outer s H vs Q E hr h => ?_)
  · obtain ⟨t, t2, p, q, p2, q2, rfl, _⟩ := h
    rfl
  obtain ⟨t, t', p, q, p', q', rfl, h1, h2, qq⟩ := h
  refine ⟨_, (pss_one (ps_ret (pcall0 Dfraction hr (by decide) rfl (pa_cons (pe_op op_mulB (pe_ix ix_tup (pv 0) pe_int (fun _ _ => rfl)) (pe_ix ix_tup (pv 1) pe_int (fun _ _ => rfl))) (pa_cons (pe_op op_mulB (pe_ix ix_tup (pv 0) pe_int (fun _ _ => rfl)) (pe_ix ix_tup (pv 1) pe_int (fun _ _ => rfl))) pa_nil))))), ?_⟩
  exact ⟨_, rfl, _, _, _, _, rfl, rfl, h1.at_, rfl, _, rfl, _, _, _, _, rfl, rfl, h2.at_, rfl, _, _, rfl, rfl, h1.bp.ok h2.bp, _, rfl, _, _, _, _, rfl, rfl, h1.at_, rfl, _, rfl, _, _, _, _, rfl, rfl, h2.at_, rfl, _, _, rfl, rfl, h1.bq.ok h2.bq, _, _, rfl, mul_ne h1.pos h2.pos, (h1.bq.mul h2.bq).mono (by decide), qq⟩

theorem scways_out : FnScope ["stands", "good", "pairs", "reached", "place", "chain", "ratio", "others", "name"] ["stands", "good"] (defScope sways_out) := ⟨rfl, rfl, rfl, by decide +kernel, rfl, by decide +kernel, by decide +kernel⟩
set_option maxHeartbeats 4000000 in
theorem okways_out {dV : Value} (F : FunD K "ways_out" "ways_out" sways_out dV f fd) (B : Bn K mg c_NoNumber c_StoveError) (Dfraction : Dx P w K mg base CX0 2 "fraction" ["top", "bottom"] [.int 1] spFr) (Dproduct : Dx P w K mg base CX0 3 "product" ["one", "other"] [] (spProd K)) : FnOk P w K mg base CX0 4 f fd ["stands", "good"] (spWo K) := by
  have sc := scways_out
  refine F.ok sc (fun vs H Q E h => ?_) (fun cdv A outer s H vs Q E hr h => ?_)
  · obtain ⟨d, good, b, m, vw, g, U, Rt, rfl, _⟩ := h
    rfl
  obtain ⟨d, good, b, m, vw, g, U, Rt, rfl, hd, hU, lU, m1, b1, bm, rt0, rts, q⟩ := h
  refine ⟨_, (pss_cons (ps_set (i := 2) sc.nd rfl (Or.inl rfl) (pe_lst (pa_cons (pe_tup (pa_cons (pe_lst (pa_cons (pv 1) pa_nil)) (pa_cons (pcall0d Dfraction hr (by decide) rfl (pa_cons pe_int pa_nil)) pa_nil))) pa_nil))) (pss_cons (ps_set (i := 3) sc.nd rfl (Or.inl rfl) (pe_disp (pps_cons (pv 1) pe_bl pps_nil) rfl rfl (by simp) (by decide))) (pss_cons (ps_set (i := 4) sc.nd rfl (Or.inl rfl) pe_int) (pss_cons (ps_while PassesOwn.never (pt_cmpR op_lt (pv 4) (pe_callB call_len_seq rfl B.b_len boot_len (pa_cons (pv 2) pa_nil)) (nomark _)) (pss_cons (ps_set (i := 5) sc.nd rfl (Or.inl rfl) (pe_ix ix_tup (pe_ix ix_list (pv 2) (pv 4) (fun _ _ => rfl)) pe_int (fun _ _ => rfl))) (pss_cons (ps_set (i := 6) sc.nd rfl (Or.inl rfl) (pe_ix ix_tup (pe_ix ix_list (pv 2) (pv 4) (fun _ _ => rfl)) pe_int (fun _ _ => rfl))) (pss_cons (ps_set (i := 7) sc.nd rfl (Or.inl rfl) (pe_dget2 (hu_of hr) (pv 0) (pe_ix ix_list (pv 5) (pe_un un_neg pe_int) (fun _ _ => rfl)) pe_dnewK ⟨rfl, rfl, rfl, rfl⟩)) (pss_cons (ps_for PassesOwn.never rfl (pi_list (pe_callB (call_sortD rfl) rfl B.b_sorted PyProof.Rows.Boot.«sorted» (pa_cons (pv 7) pa_nil))) (pg_name (i := 8) sc.nd rfl (Or.inl rfl)) (pss_one (ps_if (pt_cmp (pc_dnotin (hu_of hr) (pv 8) (pv 3)) (by with_unfolding_all rfl)) (pss_cons (ps_dput (hu_of hr) (pv 3) (pv 8) pe_bl rfl) (pss_one (ps_expr (pe_bm PySem.F.plainAttrs_list PySem.F.slot_list_append PySem.F.type_list_append mt_append (pv 2) (pa_cons (pe_tup (pa_cons (pe_op op_cat (pv 5) (pe_lst (pa_cons (pv 8) pa_nil))) (pa_cons (pcall0 Dproduct hr (by decide) rfl (pa_cons (pv 6) (pa_cons (pe_dget (hu_of hr) (pv 7) (pv 8) (fun _ _ => rfl)) pa_nil))) pa_nil))) pa_nil))))) pss_nil))) (pss_one (ps_aug (i := 4) sc.nd rfl (Or.inl rfl) pe_int ip_add))))))) (pss_one (ps_ret (pv 2))))))), ?_⟩
  have sl : sizeLine = 16777216 := sizeLine_eq
  refine ⟨_, rfl, (by show 1 ≤ sizeLine; decide), fun c0 n0 => ⟨1, 1, rfl, by decide, (by unfold Bd; decide), fun p0 q0 f0 r0 H1 g1 e1 => ⟨(by show 2 ≤ sizeLine; decide), fun t0 nt0 => ⟨(by show 1 ≤ sizeLine; decide), fun l nl => ?_⟩⟩⟩⟩
  obtain ⟨rfl, rfl⟩ := fr_one f0
  have gA := same_new n0 (.lst [V.str good])
  have gB := gA.trans g1
  have gC := gB.trans (same_new nt0 (.tup [.ref c0, .ref r0]))
  have gD := gC.trans (same_new nl (.lst [.ref t0]))
  have nlH : H l = none := gC.free nl
  have wt : WoT K b Rt (fun c => H c = none) (upd (upd H1 t0 (.tup [.ref c0, .ref r0])) l (.lst [.ref t0])) [t0] [[good]] := by
    have k1 := same_new nt0 (.tup [.ref c0, .ref r0])
    have k2 := same_new nl (.lst [.ref t0])
    refine WoT.snoc (ts := []) (cs := []) ⟨rfl, fun i t c h => nomatch h⟩ (k2 _ _ upd_same) (k2 _ _ (k1 _ _ (g1 _ _ upd_same))) ?_ rt0 n0 (k2 _ _ (k1 _ _ e1))
    have b2 : 0 < b * 1 := by omega
    have b3 : Bd (b * 1) 1 := by unfold Bd; exact Nat.one_lt_two_pow (by omega)
    exact ⟨SqT.of (k2 _ _ (k1 _ _ e1)), by decide, b3, b3⟩
  have el : upd (upd H1 t0 (.tup [.ref c0, .ref r0])) l (.lst [.ref t0]) l = some (.lst (([t0] : List Addr).map V.ref)) := upd_same
  generalize upd (upd H1 t0 (.tup [.ref c0, .ref r0])) l (.lst [.ref t0]) = H2 at gD wt el ⊢
  refine fun rd nr => ⟨_, rfl, upd_same, [(.inr good, .bl true)], rfl, (by show 1 ≤ 15; decide), ?_⟩
  have g3 : Same H2 (upd (upd H2 rd (.dK [])) rd (.dK (mergeK [] [((.inr good : Key), V.bl true)]))) := by
    rw [upd_upd]
    exact same_new nr _
  have er : (upd (upd H2 rd (.dK [])) rd (.dK (mergeK [] [((.inr good : Key), V.bl true)]))) rd = some (.dK (mapK [good] (.bl true))) := upd_same
  generalize upd (upd H2 rd (.dK [])) rd (.dK (mergeK [] [((.inr good : Key), V.bl true)])) = H3 at g3 er ⊢
  have nrH : H rd = none := gD.free nr
  have gE := gD.trans g3
  have wt3 := wt.same g3
  have el3 := g3 _ _ el
  clear gA gB gC gD g3 wt el nt0 nl n0 g1 e1 nr f0
  try dsimp only [gName, tNext]
  refine cut (fun σ H' => H3 = H' ∧ σ = [some (.ref d), some (.str good), some (.ref l), some (.ref rd), some (.int 0), none, none, none, none]) (fun N hN => hN _ _ ⟨rfl, rfl⟩) ?_
  rintro σ _ ⟨rfl, rfl⟩
  refine while_by (fun σ H' => Same H H' ∧ ∃ (i : Nat) (cs : List (List Str)) (ts : List Addr) (ks : List Str) (o5 o6 o7 o8 : Option V), σ = [some (.ref d), some (.str good), some (.ref l), some (.ref rd), some (.int i), o5, o6, o7, o8] ∧ H' l = some (.lst (ts.map V.ref)) ∧ WoT K b Rt (fun c => H c = none) H' ts cs ∧ Bfs (StE g) good cs i (fun _ => False) ∧ H' rd = some (.dK (mapK ks (.bl true))) ∧ (∀ x, x ∈ ks ↔ x ∈ cs.map lastS) ∧ ks.length ≤ cs.length ∧ i ≤ cs.length)
    (fun (σ : L2.St) (_ : Hp) => match σ[4]? with | some (some (V.int i)) => U.length + 2 - i.toNat | _ => 0) ⟨gE, 0, [[good]], [t0], [good], none, none, none, none, rfl, el3, wt3, Bfs.start, er, fun x => Iff.rfl, Nat.le_refl _, Nat.zero_le _⟩ ?_ (fun σ H Q Q' mm h => ?_)
  · rintro σ H4 ⟨g4, i, cs, ts, ks, o5, o6, o7, o8, rfl, el4, wt4, bf, er4, hk, lk, ic⟩
    have few := bf.few hU
    have lt : (ts.map V.ref).length = cs.length := by rw [List.length_map, wt4.1]
    refine ⟨_, rfl, _, rfl, l, _, rfl, .inl (SqL.of el4), _, _, rfl, rfl, _, rfl, d2 (fun c => ?_) (fun c => ?_)⟩
    · have il : i < cs.length := by omega
      have hc := List.getElem?_eq_getElem il
      generalize cs[i] = ch at hc
      have ht := List.getElem?_eq_getElem (show i < ts.length by rw [wt4.1]; exact il)
      generalize ts[i]'(by rw [wt4.1]; exact il) = t at ht
      obtain ⟨cl, rl, p, q', et, ecl, frl, rtc, _⟩ := wt4.2 i t ch ht hc
      have at1 : atI (ts.map V.ref) (i : Int) = some (.ref t) := atI_nat (map_at ht)
      have cn := bf.ne hc
      have clen := bf.long i ch hc
      refine ⟨_, rfl, _, rfl, l, _, _, _, rfl, rfl, SqL.of el4, at1, t, _, _, _, rfl, rfl, SqT.of et, rfl, ?_⟩
      refine ⟨_, rfl, _, rfl, l, _, _, _, rfl, rfl, SqL.of el4, at1, t, _, _, _, rfl, rfl, SqT.of et, rfl, ?_⟩
      try dsimp only [gName, tNext]
      refine cut (fun σ H' => Same H4 H' ∧ ∃ (oa : Addr) (row : List (Str × Addr)), σ = [some (.ref d), some (.str good), some (.ref l), some (.ref rd), some (.int i), some (.ref cl), some (.ref rl), some (.ref oa), o8] ∧ H' oa = some (.dK (rowK row)) ∧ (row.map (·.1)).Nodup ∧ row.length ≤ 200 ∧ ∀ y t, g (lastS ch) y = some t ↔ (y, t) ∈ row) (fun N hN => ?_) ?_
      · obtain ⟨kvs, ed, hx⟩ := (hd.same g4).ex
        refine ⟨_, rfl, d, rfl, .inl ⟨_, .inl ed⟩, _, rfl, _, rfl, cl, _, _, _, rfl, rfl, SqL.of ecl, atI_lastS cn, fun pn hn => ⟨_, DGet.k (k := .inr (lastS ch)) (same_new hn _ _ _ ed), ?_⟩⟩
        rcases hx (lastS ch) with ⟨z1, z2⟩ | ⟨a, row, q1, q2, q3, q4, q5⟩
        · rw [z1]
          exact hN _ _ ⟨same_new hn _, pn, [], rfl, upd_same, by simp, Nat.zero_le _, fun y t => by rw [z2]; simp⟩
        · rw [q1]
          exact hN _ _ ⟨same_new hn _, a, row, rfl, same_new hn _ _ _ q2, q3, q4, q5⟩
      rintro σ H5 ⟨g5, oa, row, rfl, eoa, nd, lr, hrow⟩
      try dsimp only [gName, tNext]
      refine cut (fun σ H' => Same H H' ∧ ∃ (cs' : List (List Str)) (ts' : List Addr) (ks' : List Str) (o8 : Option V), σ = [some (.ref d), some (.str good), some (.ref l), some (.ref rd), some (.int i), some (.ref cl), some (.ref rl), some (.ref oa), o8] ∧ H' l = some (.lst (ts'.map V.ref)) ∧ WoT K b Rt (fun c => H c = none) H' ts' cs' ∧ Bfs (StE g) good cs' (i + 1) (fun _ => False) ∧ H' rd = some (.dK (mapK ks' (.bl true))) ∧ (∀ x, x ∈ ks' ↔ x ∈ cs'.map lastS) ∧ ks'.length ≤ cs'.length ∧ i < cs'.length) (fun N hN => ?_) ?_
      · refine ⟨_, rfl, oa, _, _, rfl, eoa, rowK_keys row, nd, fun sp ys nsp perm srt => ⟨sp, rfl, ⟨_, SqL.of upd_same⟩, ?_⟩⟩
        have g6 := g5.trans (same_new nsp (.lst (ys.map V.str)))
        have spl : sp ≠ l := fun e => by rw [e, g5 _ _ el4] at nsp; cases nsp
        have spr : sp ≠ rd := fun e => by rw [e, g5 _ _ er4] at nsp; cases nsp
        have esp : upd H5 sp (.lst (ys.map V.str)) sp = some (.lst (ys.map V.str)) := upd_same
        have eoa6 := same_new nsp (.lst (ys.map V.str)) _ _ eoa
        generalize upd H5 sp (.lst (ys.map V.str)) = H6 at g6 esp eoa6 ⊢
        have g46 := g4.trans g6
        have el6 := g6 _ _ el4
        have er6 := g6 _ _ er4
        have ecl6 := g6 _ _ ecl
        have frl6 := frl.same g6
        have wt6 := wt4.same g6
        have kn : ks ≠ [] := fun e => by
          have := (hk good).mpr (List.mem_map.mpr ⟨[good], List.mem_of_getElem? bf.first, rfl⟩)
          rw [e] at this
          cases this
        have oal : oa ≠ l := ne_of eoa6 el6 (fun z => nomatch z)
        have oar : oa ≠ rd := ne_of eoa6 er6 (fun z => by injection z with z; exact rowK_ne kn z)
        have cll : cl ≠ l := ne_of ecl6 el6 (fun z => by injection z with z; exact refs_strs cn z)
        have clr : cl ≠ rd := ne_of ecl6 er6 (fun z => nomatch z)
        have pw := So.sorted_pw srt
        have yin : ∀ y, y ∈ ys ↔ y ∈ row.map (·.1) := fun y => perm.mem_iff
        refine for_list (xs := ys.map V.str) (fun j σ H' => Same H H' ∧ SameB l rd H6 H' ∧ ∃ (cs' : List (List Str)) (ts' : List Addr) (ks' : List Str) (o8 : Option V), σ = [some (.ref d), some (.str good), some (.ref l), some (.ref rd), some (.int i), some (.ref cl), some (.ref rl), some (.ref oa), o8] ∧ H' l = some (.lst (ts'.map V.ref)) ∧ WoT K b Rt (fun c => H c = none) H' ts' cs' ∧ Bfs (StE g) good cs' i (fun z => z ∈ ys.take j) ∧ cs'[i]? = some ch ∧ H' rd = some (.dK (mapK ks' (.bl true))) ∧ (∀ x, x ∈ ks' ↔ x ∈ cs'.map lastS) ∧ ks'.length ≤ cs'.length) ?_ ?_ ?_ ?_
        · refine ⟨g46, SameB.refl _ _ _, cs, ts, ks, o8, rfl, el6, wt6, ?_, hc, er6, hk, lk⟩
          rw [show (fun z => z ∈ ys.take 0) = (fun _ : Str => False) by funext z; simp]
          exact bf
        · rintro j σ H' hj ⟨_, sb, _⟩
          exact SqL.of (sb _ _ spl spr esp)
        · rintro j x σ H7 hx ⟨g7, sb, cs', ts', ks', o8, rfl, el7, wt7, bf7, hc7, er7, hk7, lk7⟩
          rw [List.getElem?_map] at hx
          obtain ⟨y, hy, rfl⟩ := Option.map_eq_some_iff.mp hx
          have ym := List.mem_of_getElem? hy
          obtain ⟨⟨y', t'⟩, ht', e⟩ := List.mem_map.mp ((yin y).mp ym)
          cases e
          have gy := (hrow y' t').mpr ht'
          have tk : (fun z => z ∈ ys.take (j + 1)) = fun z => z ∈ ys.take j ∨ z = y' := by
            funext z
            rw [List.take_add_one, hy]
            simp
          have few7 := bf7.few hU
          refine ⟨_, rfl, _, rfl, rd, _, rfl, DGet.k (k := .inr y') er7, _, rfl, ?_⟩
          rw [mapK_val]
          by_cases hin : y' ∈ ks'
          · rw [if_pos hin]
            refine iteF ⟨g7, sb, cs', ts', ks', _, rfl, el7, wt7, ?_, hc7, er7, hk7, lk7⟩
            rw [tk]
            exact bf7.seen hc7 ((hk7 y').mp hin)
          · rw [if_neg hin]
            have hny : y' ∉ cs'.map lastS := fun z => hin ((hk7 y').mpr z)
            refine iteT ⟨_, rfl, _, rfl, rd, _, rfl, DPut.k (k := .inr y') er7 (by rw [mapK_len]; omega), ?_⟩
            rw [mapK_put]
            have lrd : l ≠ rd := ne_of el7 er7 (fun z => nomatch z)
            have nz : ∀ c ∈ cs', c ≠ [] := fun c hc' => by
              obtain ⟨k, hk'⟩ := List.mem_iff_getElem?.mp hc'
              exact bf7.ne hk'
            have el8 : upd H7 rd (.dK (mapK (addS ks' y') (.bl true))) l = some (.lst (ts'.map V.ref)) := by rw [upd_ne lrd]; exact el7
            have er8 : upd H7 rd (.dK (mapK (addS ks' y') (.bl true))) rd = some (.dK (mapK (addS ks' y') (.bl true))) := upd_same
            have sb8 := sb.putR (.dK (mapK (addS ks' y') (.bl true)))
            have g8 := sUpd (o := .dK (mapK (addS ks' y') (.bl true))) g7 nrH
            have wt8 := wt7.keep nz ((SameB.refl l rd H7).putR (.dK (mapK (addS ks' y') (.bl true)))) el7 er7
            generalize upd H7 rd (.dK (mapK (addS ks' y') (.bl true))) = H8 at el8 er8 sb8 g8 wt8 ⊢
            have ecl8 := sb8 _ _ cll clr ecl6
            have eoa8 := sb8 _ _ oal oar eoa6
            have frl8 := sb8.fr el6 er6 frl6
            have lch : (ch.map V.str).length = ch.length := List.length_map _
            have lts : (ts'.map V.ref).length = cs'.length := by rw [List.length_map, wt7.1]
            refine ⟨_, rfl, .inl ⟨rfl, _, SqL.of el8⟩, _, rfl, _, rfl, (by show 1 ≤ sizeLine; decide), fun l3 n3 => ⟨cl, l3, _, _, rfl, rfl, same_new n3 _ _ _ ecl8, upd_same, by rw [lch]; show ch.length + 1 ≤ sizeLine; omega, fun c2 nc2 => ?_⟩⟩
            have nc2H := (g8.trans (same_new n3 (.lst [V.str y']))).free nc2
            have k3 := (same_new n3 (.lst [V.str y'])).trans (same_new nc2 (.lst (ch.map V.str ++ [V.str y'])))
            have ec2 : upd (upd H8 l3 (.lst [V.str y'])) c2 (.lst (ch.map V.str ++ [V.str y'])) c2 = some (.lst ((ch ++ [y']).map V.str)) := by rw [upd_same, List.map_append]; rfl
            generalize upd (upd H8 l3 (.lst [V.str y'])) c2 (.lst (ch.map V.str ++ [V.str y'])) = H9 at k3 ec2 ⊢
            have dg : DGet H9 oa (.str y') (some (.ref t')) := by
              rw [← rowK_val nd ht']
              exact DGet.k (k := .inr y') (k3 _ _ eoa8)
            have fu := hd.fr (lastS ch) y' t' gy
            have c4 : b * ch.length + b ≤ 4000 := by
              have := Nat.mul_le_mul_left b (show ch.length + 1 ≤ m + 2 by omega)
              rw [Nat.mul_succ] at this
              omega
            refine ⟨_, rfl, _, rfl, _, rfl, oa, .ref t', rfl, dg, rl, t', p, q', (vw (lastS ch) y').1, (vw (lastS ch) y').2, rfl, (frl8.same k3).mono (by omega), ((fu.same g8).same k3).mono (by omega), fun r s fr tr H10 g10 e10 => ⟨(by show 2 ≤ sizeLine; decide), fun t5 n5 => ?_⟩⟩
            have k11 := (k3.trans g10).trans (same_new n5 (.tup [.ref c2, .ref tr]))
            have w11 : WoT K b Rt (fun c => H c = none) (upd H10 t5 (.tup [.ref c2, .ref tr])) (ts' ++ [t5]) (cs' ++ [ch ++ [y']]) := by
              refine WoT.snoc (wt8.same k11) upd_same (same_new n5 _ _ _ (g10 _ _ ec2)) ?_ (rts ch p q' y' t' r s rtc gy fr) nc2H (same_new n5 _ _ _ e10)
              have e : b * (ch ++ [y']).length = b * ch.length + b := by rw [List.length_append, List.length_singleton, Nat.mul_succ]
              rw [e]
              exact ⟨SqT.of (same_new n5 _ _ _ e10), fr.pos, (frl.bp.mul fu.bp).of_le fr.bt, (frl.bq.mul fu.bq).of_le fr.bb⟩
            have el11 := k11 _ _ el8
            have er11 := k11 _ _ er8
            generalize upd H10 t5 (.tup [.ref c2, .ref tr]) = H11 at k11 w11 el11 er11 ⊢
            refine ⟨l, _, _, rfl, rfl, el11, by omega, ?_⟩
            have nz2 : ∀ c ∈ cs' ++ [ch ++ [y']], c ≠ [] := fun c hc' => by
              rcases List.mem_append.mp hc' with z | z
              · exact nz c z
              · rw [List.mem_singleton.mp z]; simp
            refine ⟨sUpd (g8.trans k11) nlH _, (sb8.thenS k11).putL _, cs' ++ [ch ++ [y']], ts' ++ [t5], addS ks' y', _, rfl, by rw [upd_same, List.map_append]; rfl, w11.keep nz2 ((SameB.refl l rd H11).putL _) el11 er11, ?_, ?_, by rw [upd_ne (Ne.symm lrd)]; exact er11, fun x => ?_, ?_⟩
            · rw [tk]
              refine bf7.more hc7 hny ⟨t', gy⟩ fun z hz zn => le_lt ?_ zn
              have sp2 : (ys.take j ++ ys.drop j).Pairwise So.leS := by rw [List.take_append_drop]; exact pw
              refine (List.pairwise_append.mp sp2).2.2 z hz y' (List.mem_of_getElem? (i := 0) ?_)
              rw [List.getElem?_drop]
              exact hy
            · rw [List.getElem?_append_left (List.getElem?_eq_some_iff.mp hc7).1]
              exact hc7
            · rw [mem_addS, List.map_append, List.mem_append, hk7 x, List.map_singleton, lastS_app, List.mem_singleton]
            · have := (addS_len ks' y').2.2
              rw [List.length_append, List.length_singleton]
              omega
        · rintro σ H7 ⟨g7, sb, cs', ts', ks', o8, rfl, el7, wt7, bf7, hc7, er7, hk7, lk7⟩
          rw [List.length_map, List.take_length] at bf7
          refine hN _ _ ⟨g7, cs', ts', ks', o8, rfl, el7, wt7, bf7.next hc7 (fun y hy => ?_), er7, hk7, lk7, (List.getElem?_eq_some_iff.mp hc7).1⟩
          obtain ⟨t', gy⟩ := hy
          exact (yin y).mpr (List.mem_map.mpr ⟨_, (hrow y t').mp gy, rfl⟩)
      rintro σ H8 ⟨g8, cs', ts', ks', o8, rfl, el8, wt8, bf8, er8, hk8, lk8, il8⟩
      refine ⟨_, rfl, _, _, rfl, rfl, ⟨g8, i + 1, cs', ts', ks', _, _, _, _, rfl, el8, wt8, bf8, er8, hk8, lk8, il8⟩, ?_⟩
      show U.length + 2 - ((i : Int) + 1).toNat < U.length + 2 - (i : Int).toNat
      omega
    · have e : i = cs.length := by omega
      subst e
      exact ⟨_, rfl, q l cs H4 g4 nlH ⟨ts, el4, wt4⟩ bf⟩
  · obtain ⟨v, e, w, e2, p, ys, e3, s, i, j, e4, e5, b', hb, h2⟩ := h
    exact ⟨v, e, w, e2, p, ys, e3, s, i, j, e4, e5, b', hb, mm _ _ h2⟩

theorem sc_law_cell_at : FnScope ["_law_script", "_law_k"] ["_law_script", "_law_k"] (defScope s_law_cell_at) := ⟨rfl, rfl, rfl, by decide +kernel, rfl, by decide +kernel, by decide +kernel⟩
set_option maxHeartbeats 4000000 in
theorem ok_law_cell_at {dV : Value} (F : FunD K "_law_cell_at" "_law_cell_at" s_law_cell_at dV f fd) (B : Bn K mg c_NoNumber c_StoveError)  : FnOk P w K mg base CX0 1 f fd ["_law_script", "_law_k"] (spCell K) := by
  have sc := sc_law_cell_at
  refine F.ok sc (fun vs H Q E h => ?_) (fun cdv A outer s H vs Q E hr h => ?_)
  · obtain ⟨a, ns, k, rfl, _⟩ := h
    rfl
  obtain ⟨a, ns, k, rfl, hS, h0, q⟩ := h
  refine ⟨_, (pss_cons (ps_if (pt_cmpR op_lt (pv 1) (pe_callB call_len_seq rfl B.b_len boot_len (pa_cons (pv 0) pa_nil)) (nomark _)) (pss_one (ps_ret (pe_ix ix_list (pv 0) (pv 1) (fun _ _ => rfl)))) pss_nil) (pss_one (ps_ret pe_int))), ?_⟩
  refine ⟨_, rfl, _, rfl, a, _, rfl, .inl hS, _, _, rfl, rfl, _, rfl, d2 (fun c => ?_) (fun c => ?_)⟩
  · obtain ⟨v, hv⟩ := cell_ok h0 c
    exact ⟨_, rfl, _, rfl, a, _, _, _, rfl, rfl, hS, hv, q v⟩
  · exact q 0

theorem sc_law_names : FnScope ["_law_number", "_law_many", "_law_cell", "_law_letters", "_law_base", "_law_k", "_law_at", "_law_size", "_law_step", "_law_core", "_law_names_here", "_law_sign"] ["_law_number", "_law_many"] (defScope s_law_names) := ⟨rfl, rfl, rfl, by decide +kernel, rfl, by decide +kernel, by decide +kernel⟩
set_option maxHeartbeats 4000000 in
theorem ok_law_names {dV : Value} (F : FunD K "_law_names" "_law_names" s_law_names dV f fd) (B : Bn K mg c_NoNumber c_StoveError)  : FnOk P w K mg base CX0 1 f fd ["_law_number", "_law_many"] spNames0 := by
  have sc := sc_law_names
  refine F.ok sc (fun vs H Q E h => ?_) (fun cdv A outer s H vs Q E hr h => ?_)
  · obtain ⟨n, m, rfl, _⟩ := h
    rfl
  obtain ⟨nb, many, rfl, m0, m1, q⟩ := h
  refine ⟨_, (pss_cons (ps_set (i := 2) sc.nd rfl (Or.inl rfl) (pe_op op_modN (pv 0) pe_int)) (pss_cons (ps_set (i := 3) sc.nd rfl (Or.inl rfl) pe_str) (pss_cons (ps_set (i := 4) sc.nd rfl (Or.inl rfl) pe_str) (pss_cons (ps_for PassesOwn.never rfl (pi_range1 rfl B.b_range (pa_cons pe_int pa_nil)) (pg_name (i := 5) sc.nd rfl (Or.inl rfl)) (pss_one (ps_set (i := 4) sc.nd rfl (Or.inl rfl) (pe_op op_add_str (pv 4) (pe_ix ix_str (pv 3) (pe_op op_modN (pe_op op_modN (pe_op op_mulB (pe_op op_add (pv 2) pe_int) (pe_op op_add (pe_op op_add (pe_op op_mulB (pv 5) (pv 5)) (pe_op op_mulB pe_int (pv 5))) pe_int)) pe_int) pe_int) (fun _ _ => rfl)))))) (pss_cons (ps_set (i := 6) sc.nd rfl (Or.inl rfl) (pe_op op_modN (pe_op op_fdivB (pv 2) pe_int) pe_int)) (pss_cons (ps_set (i := 7) sc.nd rfl (Or.inl rfl) (pe_op op_modN (pe_op op_fdivB (pv 2) pe_int) pe_int)) (pss_cons (ps_set (i := 8) sc.nd rfl (Or.inl rfl) (pe_ix ix_list (pe_lst (pa_cons pe_int (pa_cons pe_int (pa_cons pe_int (pa_cons pe_int (pa_cons pe_int (pa_cons pe_int (pa_cons pe_int (pa_cons pe_int pa_nil))))))))) (pe_op op_modN (pe_op op_fdivB (pv 2) pe_int) pe_int) (fun _ _ => rfl))) (pss_cons (ps_set (i := 9) sc.nd rfl (Or.inl rfl) (pe_slice sl_str (pv 4) po_none (po_some (pv 7)))) (pss_cons (ps_set (i := 10) sc.nd rfl (Or.inl rfl) (pe_lst pa_nil)) (pss_cons (ps_for PassesOwn.never rfl (pi_range1 rfl B.b_range (pa_cons (pv 1) pa_nil)) (pg_name (i := 5) sc.nd rfl (Or.inl rfl)) (pss_cons (ps_set (i := 11) sc.nd rfl (Or.inl rfl) (pe_ix ix_str (pv 3) (pe_op op_modN (pe_op op_add (pe_op op_fdivB (pv 2) pe_int) (pe_op op_mulB (pv 5) (pv 8))) pe_int) (fun _ _ => rfl))) (pss_one (ps_if (pt_cmpR op_gt (pv 1) pe_int (nomark _)) (pss_one (ps_expr (pe_bm PySem.F.plainAttrs_list PySem.F.slot_list_append PySem.F.type_list_append mt_append (pv 10) (pa_cons (pe_op op_add_str (pe_op op_add_str (pe_op op_add_str (pe_slice sl_str (pv 9) po_none (po_some (pv 6))) (pe_ix ix_str (pv 3) (pe_op op_fdivB (pv 5) pe_int) (fun _ _ => rfl))) (pv 11)) (pe_slice sl_str (pv 9) (po_some (pv 6)) po_none)) pa_nil)))) (pss_one (ps_if (PW.pt (pw_and (pt_cmpR op_eq (pe_op op_modN (pv 2) pe_int) pe_int (nomark _)) (pw_and1 (pt_cmpR op_le (pv 1) pe_int (nomark _))))) (pss_one (ps_expr (pe_bm PySem.F.plainAttrs_list PySem.F.slot_list_append PySem.F.type_list_append mt_append (pv 10) (pa_cons (pe_slice sl_str (pv 4) po_none (po_some (pe_op op_add (pv 5) pe_int))) pa_nil)))) (pss_one (ps_if (pt_cmpR op_eq (pe_op op_modN (pv 2) pe_int) pe_int (nomark _)) (pss_one (ps_expr (pe_bm PySem.F.plainAttrs_list PySem.F.slot_list_append PySem.F.type_list_append mt_append (pv 10) (pa_cons (pe_op op_add_str (pe_slice sl_str (pv 4) po_none (po_some (pe_op op_modN (pv 5) pe_int))) (pv 11)) pa_nil)))) (pss_one (ps_expr (pe_bm PySem.F.plainAttrs_list PySem.F.slot_list_append PySem.F.type_list_append mt_append (pv 10) (pa_cons (pe_op op_add_str (pe_op op_add_str (pe_slice sl_str (pv 9) po_none (po_some (pv 6))) (pv 11)) (pe_slice sl_str (pv 9) (po_some (pv 6)) po_none)) pa_nil)))))))))))) (pss_one (ps_ret (pv 10))))))))))))), ?_⟩
  refine ⟨_, rfl, _, _, rfl, rfl, (by show (1000003 : Int) ≠ 0; decide), ?_⟩
  have c0 := Int.fmod_nonneg_of_pos nb (show (0 : Int) < 1000003 by decide)
  have c1 := Int.fmod_lt_of_pos nb (show (0 : Int) < 1000003 by decide)
  have s9 : (9000 : Nat) ≤ sizeLine := by decide
  have one : ∀ c : Nat, (⟨#[c]⟩ : Str).length = 1 := fun _ => rfl
  have sm : ∀ (x : Int), 0 ≤ x → x < 2 ^ 30 → Bd 30 x := fun x h0 h1 => by unfold Bd; omega
  have bd3 : Bd 30 (3 : Int) := by unfold Bd; decide
  try dsimp only [gName, tNext]
  refine cut (fun σ H' => H = H' ∧ ∃ c : Int, 0 ≤ c ∧ c < 1000003 ∧ σ = [some (.int nb), some (.int many), some (.int c), some (.str lettT), none, none, none, none, none, none, none, none]) (fun N hN => hN _ _ ⟨rfl, _, c0, c1, rfl⟩) ?_
  clear c0 c1
  rintro σ _ ⟨rfl, c, c0, c1, rfl⟩
  refine cut (fun σ H' => H = H' ∧ σ = [some (.int nb), some (.int many), some (.int c), some (.str lettT), some (.str ""), none, none, none, none, none, none, none]) (fun N hN => hN _ _ ⟨rfl, rfl⟩) ?_
  rintro σ _ ⟨rfl, rfl⟩
  refine cut (fun σ H' => H = H' ∧ ∃ (b : Str) (o5 : Option V), σ = [some (.int nb), some (.int many), some (.int c), some (.str lettT), some (.str b), o5, none, none, none, none, none, none] ∧ b.length ≤ 12) (fun N hN => ?_) ?_
  · refine ⟨_, rfl, (by decide), (by decide), for_range (fun i σ H' => H = H' ∧ ∃ (b : Str) (o5 : Option V), σ = [some (.int nb), some (.int many), some (.int c), some (.str lettT), some (.str b), o5, none, none, none, none, none, none] ∧ b.length = i) ⟨rfl, _, none, rfl, rfl⟩ (fun i σ H' hi hP => ?_) (fun σ H' hP => ?_)⟩
    · obtain ⟨rfl, b, o5, rfl, hb⟩ := hP
      have hi' : i < 12 := hi
      have bk : Bd 30 (0 + (i : Int)) := sm _ (by omega) (by omega)
      have b1 : Bd 60 ((0 + (i : Int)) * (0 + (i : Int))) := bk.mul bk
      have b2 : Bd 60 (3 * (0 + (i : Int))) := bd3.mul bk
      have b3 : Bd 62 ((0 + (i : Int)) * (0 + (i : Int)) + 3 * (0 + (i : Int)) + 7) := (b1.add b2).add ((show Bd 61 (7 : Int) by unfold Bd; decide))
      have i0 := Int.fmod_nonneg_of_pos (((c + 1) * ((0 + (i : Int)) * (0 + (i : Int)) + 3 * (0 + (i : Int)) + 7)).fmod 1013) (show (0 : Int) < 26 by decide)
      have i1 := Int.fmod_lt_of_pos (((c + 1) * ((0 + (i : Int)) * (0 + (i : Int)) + 3 * (0 + (i : Int)) + 7)).fmod 1013) (show (0 : Int) < 26 by decide)
      obtain ⟨ch, hch⟩ := lett_at i0 i1
      refine ⟨_, rfl, _, rfl, _, rfl, _, _, rfl, rfl, _, rfl, _, rfl, _, _, rfl, rfl, bk.ok bk, _, rfl, _, _, rfl, rfl, bd3.ok bk, _, _, rfl, rfl, _, _, rfl, rfl, _, _, rfl, rfl, (sm (c + 1) (by omega) (by omega)).ok b3, _, _, rfl, rfl, (by show (1013 : Int) ≠ 0; decide), _, _, rfl, rfl, (by show (26 : Int) ≠ 0; decide), lettT, _, ch, rfl, rfl, (by decide), hch, _, _, rfl, rfl, ?_, ?_⟩
      · rw [one]; omega
      · exact ⟨rfl, _, _, rfl, by rw [Str.length_append, one, hb]⟩
    · obtain ⟨rfl, b, o5, rfl, hb⟩ := hP
      exact hN _ _ ⟨rfl, b, o5, rfl, by rw [hb]; exact Nat.le_refl _⟩
  rintro σ _ ⟨rfl, b, o5, rfl, hb⟩
  have hz : b.length ≤ sizeLine := by omega
  have a0 := Int.fmod_nonneg_of_pos (c.fdiv 3) (show (0 : Int) < 11 by decide)
  have z0 := Int.fmod_nonneg_of_pos (c.fdiv 40) (show (0 : Int) < 11 by decide)
  have t0 := Int.fmod_nonneg_of_pos (c.fdiv 500) (show (0 : Int) < 8 by decide)
  have t1 := Int.fmod_lt_of_pos (c.fdiv 500) (show (0 : Int) < 8 by decide)
  refine ⟨_, rfl, _, _, rfl, rfl, ⟨by show (3 : Int) ≠ 0; decide, PyProof.noPylong_small (by decide)⟩, _, _, rfl, rfl, (by show (11 : Int) ≠ 0; decide), ?_⟩
  refine ⟨_, rfl, _, _, rfl, rfl, ⟨by show (40 : Int) ≠ 0; decide, PyProof.noPylong_small (by decide)⟩, _, _, rfl, rfl, (by show (11 : Int) ≠ 0; decide), ?_⟩
  refine ⟨(by show 8 ≤ sizeLine; decide), fun ls ns => ?_⟩
  have g1 := same_new ns (.lst [.int 1, .int 3, .int 5, .int 7, .int 9, .int 11, .int 15, .int 17])
  obtain ⟨v, hv, ev⟩ := atI_in (xs := [V.int 1, V.int 3, V.int 5, V.int 7, V.int 9, V.int 11, V.int 15, V.int 17]) t0 (by show (c.fdiv 500).fmod 8 < ((8 : Nat) : Int); exact t1)
  obtain ⟨st, rfl, st0, st1⟩ : ∃ y : Int, v = .int y ∧ 0 ≤ y ∧ y < 20 := by
    simp at hv
    rcases hv with rfl | rfl | rfl | rfl | rfl | rfl | rfl | rfl
    all_goals exact ⟨_, rfl, by decide, by decide⟩
  refine ⟨_, rfl, _, _, rfl, rfl, ⟨by show (500 : Int) ≠ 0; decide, PyProof.noPylong_small (by decide)⟩, _, _, rfl, rfl, (by show (8 : Int) ≠ 0; decide), ls, _, _, _, rfl, rfl, SqL.of upd_same, ev, ?_⟩
  refine ⟨_, rfl, _, rfl, _, rfl, b, rfl, hz, ?_⟩
  have hc : (cutS b none (some ((c.fdiv 40).fmod 11))).length ≤ 12 := Nat.le_trans (cutS_length _ _ _) hb
  refine ⟨(by show 0 ≤ sizeLine; decide), fun lp np => ?_⟩
  generalize cutS b none (some ((c.fdiv 40).fmod 11)) = core at *
  have cz : core.length ≤ sizeLine := by omega
  have g2 := g1.trans (same_new np (.lst []))
  have cl : ∀ lo hi, (cutS core lo hi).length ≤ 12 := fun lo hi => Nat.le_trans (cutS_length _ _ _) hc
  have bl : ∀ lo hi, (cutS b lo hi).length ≤ 12 := fun lo hi => Nat.le_trans (cutS_length _ _ _) hb
  try dsimp only [gName, tNext]
  refine cut (fun σ H' => Same H H' ∧ ∃ (zs : List Str) (o5 o11 : Option V), σ = [some (.int nb), some (.int many), some (.int c), some (.str lettT), some (.str b), o5, some (.int ((c.fdiv 3).fmod 11)), some (.int ((c.fdiv 40).fmod 11)), some (.int st), some (.str core), some (.ref lp), o11] ∧ (zs.length : Int) = many ∧ H' lp = some (.lst (zs.map V.str))) (fun N hN => ?_) ?_
  · refine ⟨_, rfl, _, rfl, (by omega), (by omega), for_range (fun i σ H' => Same H H' ∧ ∃ (zs : List Str) (o5 o11 : Option V), σ = [some (.int nb), some (.int many), some (.int c), some (.str lettT), some (.str b), o5, some (.int ((c.fdiv 3).fmod 11)), some (.int ((c.fdiv 40).fmod 11)), some (.int st), some (.str core), some (.ref lp), o11] ∧ zs.length = i ∧ H' lp = some (.lst (zs.map V.str))) ⟨g2, [], o5, none, rfl, rfl, upd_same⟩ (fun i σ H' hi hP => ?_) (fun σ H' hP => ?_)⟩
    · obtain ⟨g, zs, o5, o11, rfl, hl, e⟩ := hP
      have hi' : (i : Int) < many := by have : i < many.toNat := hi; omega
      have i0 := Int.fmod_nonneg_of_pos (c.fdiv 7 + (0 + (i : Int)) * st) (show (0 : Int) < 26 by decide)
      have i1 := Int.fmod_lt_of_pos (c.fdiv 7 + (0 + (i : Int)) * st) (show (0 : Int) < 26 by decide)
      obtain ⟨ch, hch⟩ := lett_at i0 i1
      have k0 : 0 ≤ (0 + (i : Int)).fdiv 26 := by rw [Int.fdiv_eq_ediv_of_nonneg _ (by decide)]; omega
      have k1 : (0 + (i : Int)).fdiv 26 < 26 := by rw [Int.fdiv_eq_ediv_of_nonneg _ (by decide)]; omega
      obtain ⟨ch2, hch2⟩ := lett_at k0 k1
      have app : ∀ (z : Str), Same H (upd H' lp (.lst (zs.map V.str ++ [.str z]))) ∧ upd H' lp (.lst (zs.map V.str ++ [.str z])) lp = some (.lst ((zs ++ [z]).map V.str)) := fun z => ⟨sUpd g (g1.free np) _, by rw [upd_same, List.map_append]; rfl⟩
      have lnp : (zs.map V.str).length < sizeLine := by rw [List.length_map, hl]; omega
      refine ⟨_, rfl, _, rfl, _, _, rfl, rfl, ⟨by show (7 : Int) ≠ 0; decide, PyProof.noPylong_small (by decide)⟩, _, rfl, _, rfl, _, _, rfl, rfl, (sm _ (by omega) (by omega)).ok (sm st (by omega) (by omega)), _, _, rfl, rfl, _, _, rfl, rfl, (by show (26 : Int) ≠ 0; decide), lettT, _, ch, rfl, rfl, (by decide), hch, ?_⟩
      refine ⟨_, rfl, _, _, rfl, rfl, _, rfl, d2 (fun _ => ?_) (fun _ => ?_)⟩
      · refine ⟨_, rfl, .inl ⟨rfl, _, SqL.of e⟩, _, rfl, _, rfl, _, rfl, core, rfl, cz, _, rfl, _, rfl, _, _, rfl, rfl, ⟨by show (26 : Int) ≠ 0; decide, PyProof.noPylong_small (by decide)⟩, lettT, _, ch2, rfl, rfl, (by decide), hch2, _, _, rfl, rfl, ?_, _, rfl, _, _, rfl, rfl, ?_, _, rfl, _, rfl, _, rfl, core, rfl, cz, _, _, rfl, rfl, ?_, lp, _, _, rfl, rfl, e, lnp, (app _).1, _, _, _, rfl, by rw [List.length_append, hl]; rfl, (app _).2⟩
        all_goals (simp only [Str.length_append, one]; have l1 := cl none (some ((c.fdiv 3).fmod 11)); have l2 := cl (some ((c.fdiv 3).fmod 11)) none; have l3 := bl none (some ((0 + (i : Int)).fmod 11)); omega)
      · refine ⟨_, rfl, _, _, rfl, rfl, (by show (3 : Int) ≠ 0; decide), rfl, _, rfl, d2I (fun _ => ⟨_, rfl, _, _, rfl, rfl, _, rfl, d2 (fun _ => ?_) (fun _ => ?_)⟩) (fun _ => ?_)⟩
        · exact ⟨_, rfl, .inl ⟨rfl, _, SqL.of e⟩, _, rfl, _, rfl, _, _, rfl, rfl, _, rfl, b, rfl, hz, lp, _, _, rfl, rfl, e, lnp, (app _).1, _, _, _, rfl, by rw [List.length_append, hl]; rfl, (app _).2⟩
        · refine ⟨_, rfl, _, _, rfl, rfl, (by show (3 : Int) ≠ 0; decide), rfl, _, rfl, d2I (fun _ => ?_) (fun _ => ?_)⟩
          · refine ⟨_, rfl, .inl ⟨rfl, _, SqL.of e⟩, _, rfl, _, rfl, _, _, rfl, rfl, (by show (11 : Int) ≠ 0; decide), _, rfl, b, rfl, hz, _, rfl, _, _, rfl, rfl, ?_, lp, _, _, rfl, rfl, e, lnp, (app _).1, _, _, _, rfl, by rw [List.length_append, hl]; rfl, (app _).2⟩
            (simp only [Str.length_append, one]; have l1 := cl none (some ((c.fdiv 3).fmod 11)); have l2 := cl (some ((c.fdiv 3).fmod 11)) none; have l3 := bl none (some ((0 + (i : Int)).fmod 11)); omega)
          · refine ⟨_, rfl, .inl ⟨rfl, _, SqL.of e⟩, _, rfl, _, rfl, _, rfl, core, rfl, cz, _, rfl, _, _, rfl, rfl, ?_, _, rfl, _, rfl, _, rfl, core, rfl, cz, _, _, rfl, rfl, ?_, lp, _, _, rfl, rfl, e, lnp, (app _).1, _, _, _, rfl, by rw [List.length_append, hl]; rfl, (app _).2⟩
            all_goals (simp only [Str.length_append, one]; have l1 := cl none (some ((c.fdiv 3).fmod 11)); have l2 := cl (some ((c.fdiv 3).fmod 11)) none; have l3 := bl none (some ((0 + (i : Int)).fmod 11)); omega)
        · refine ⟨_, rfl, _, _, rfl, rfl, (by show (3 : Int) ≠ 0; decide), rfl, _, rfl, d2I (fun _ => ?_) (fun _ => ?_)⟩
          · refine ⟨_, rfl, .inl ⟨rfl, _, SqL.of e⟩, _, rfl, _, rfl, _, _, rfl, rfl, (by show (11 : Int) ≠ 0; decide), _, rfl, b, rfl, hz, _, rfl, _, _, rfl, rfl, ?_, lp, _, _, rfl, rfl, e, lnp, (app _).1, _, _, _, rfl, by rw [List.length_append, hl]; rfl, (app _).2⟩
            (simp only [Str.length_append, one]; have l1 := cl none (some ((c.fdiv 3).fmod 11)); have l2 := cl (some ((c.fdiv 3).fmod 11)) none; have l3 := bl none (some ((0 + (i : Int)).fmod 11)); omega)
          · refine ⟨_, rfl, .inl ⟨rfl, _, SqL.of e⟩, _, rfl, _, rfl, _, rfl, core, rfl, cz, _, rfl, _, _, rfl, rfl, ?_, _, rfl, _, rfl, _, rfl, core, rfl, cz, _, _, rfl, rfl, ?_, lp, _, _, rfl, rfl, e, lnp, (app _).1, _, _, _, rfl, by rw [List.length_append, hl]; rfl, (app _).2⟩
            all_goals (simp only [Str.length_append, one]; have l1 := cl none (some ((c.fdiv 3).fmod 11)); have l2 := cl (some ((c.fdiv 3).fmod 11)) none; have l3 := bl none (some ((0 + (i : Int)).fmod 11)); omega)
    · obtain ⟨g, zs, o5, o11, rfl, hl, e⟩ := hP
      exact hN _ _ ⟨g, zs, o5, o11, rfl, by omega, e⟩
  rintro σ H1 ⟨g, zs, o5', o11, rfl, hl, e⟩
  exact ⟨_, rfl, q lp H1 zs g e hl⟩

theorem sc_law_divisor_of : FnScope ["_law_one", "_law_other"] ["_law_one", "_law_other"] (defScope s_law_divisor_of) := ⟨rfl, rfl, rfl, by decide +kernel, rfl, by decide +kernel, by decide +kernel⟩
set_option maxHeartbeats 4000000 in
theorem ok_law_divisor_of {dV : Value} (F : FunD K "_law_divisor_of" "_law_divisor_of" s_law_divisor_of dV f fd) (B : Bn K mg c_NoNumber c_StoveError)  : FnOk P w K mg base CX0 1 f fd ["_law_one", "_law_other"] spDivP := by
  have sc := sc_law_divisor_of
  refine F.ok sc (fun vs H Q E h => ?_) (fun cdv A outer s H vs Q E hr h => ?_)
  · obtain ⟨a, b, rfl, _⟩ := h
    rfl
  obtain ⟨a, b, rfl, a0, b0, q⟩ := h
  refine ⟨_, (pss_cons (ps_while PassesOwn.never (pt_cmpR op_ne (pv 1) pe_int (nomark _)) (pss_one (ps_par (i := 0) (j := 1) rfl sc.nd rfl rfl (by decide) rfl rfl (pa_cons (pv 1) (pa_cons (pe_op op_modN (pv 0) (pv 1)) pa_nil)) rfl))) (pss_one (ps_ret (pe_callB call_abs rfl B.b_abs boot_abs (pa_cons (pv 0) pa_nil))))), ?_⟩
  refine while_by (fun σ H' => H = H' ∧ ∃ (g l : Int), σ = [some (.int g), some (.int l)] ∧ 0 ≤ g ∧ 0 ≤ l ∧ gcdI g l = gcdI a b)
    (fun (σ : L2.St) (_ : Hp) => match σ[1]? with | some (some (V.int l)) => l.toNat | _ => 0) ⟨rfl, _, _, rfl, a0, b0, rfl⟩ ?_ (fun σ H Q Q' m ⟨v, e, s, k, hk, h2⟩ => ⟨v, e, s, k, hk, m _ _ h2⟩)
  rintro σ H' ⟨rfl, g, l, rfl, g0, l0, inv⟩
  refine ⟨_, rfl, rfl, _, rfl, n2I (fun c => ?_) (fun c => ?_)⟩
  · have lp : 0 < l := by omega
    refine ⟨_, rfl, _, rfl, _, rfl, _, _, rfl, rfl, c, _, _, rfl, ⟨rfl, l, g.fmod l, rfl, l0, Int.fmod_nonneg_of_pos g lp, ?_⟩, ?_⟩
    · rw [gcdI_fmod lp]; exact inv
    · have h1 := Int.fmod_lt_of_pos g lp
      have h2 := Int.fmod_nonneg_of_pos g lp
      show (g.fmod l).toNat < l.toNat
      omega
  · subst c
    rw [gcdI_zero g0] at inv
    rw [← inv] at q
    refine ⟨_, rfl, _, rfl, ?_⟩
    rw [if_neg (show ¬ g < 0 by omega)]
    exact q

theorem sc_law_lowest : FnScope ["_law_top", "_law_bottom", "_law_by"] ["_law_top", "_law_bottom"] (defScope s_law_lowest) := ⟨rfl, rfl, rfl, by decide +kernel, rfl, by decide +kernel, by decide +kernel⟩
set_option maxHeartbeats 4000000 in
theorem ok_law_lowest {dV : Value} (F : FunD K "_law_lowest" "_law_lowest" s_law_lowest dV f fd) (B : Bn K mg c_NoNumber c_StoveError) (D_law_divisor_of : Dx P w K mg base CX0 1 "_law_divisor_of" ["_law_one", "_law_other"] [] spDivP) : FnOk P w K mg base CX0 2 f fd ["_law_top", "_law_bottom"] spLowP := by
  have sc := sc_law_lowest
  refine F.ok sc (fun vs H Q E h => ?_) (fun cdv A outer s H vs Q E hr h => ?_)
  · obtain ⟨a, b, rfl, _⟩ := h
    rfl
  obtain ⟨a, b, rfl, a0, b0, hb, q⟩ := h
  refine ⟨_, (pss_cons (ps_set (i := 2) sc.nd rfl (Or.inl rfl) (pcall0 D_law_divisor_of hr (by decide) rfl (pa_cons (pv 0) (pa_cons (pv 1) pa_nil)))) (pss_one (ps_ret (pe_tup (pa_cons (pe_op op_fdivB (pv 0) (pv 2)) (pa_cons (pe_op op_fdivB (pv 1) (pv 2)) pa_nil)))))), ?_⟩
  have c0 := frC_ne (a := a) (show b ≠ 0 by omega)
  have cb := frC_bd (a := a) (show b ≠ 0 by omega) hb
  have f := fr_of (a := a) (show b ≠ 0 by omega)
  rw [frC_pos b0] at c0 cb f
  exact ⟨_, rfl, _, rfl, _, _, rfl, a0, Int.le_of_lt b0, _, rfl, _, rfl, _, _, rfl, rfl, ⟨c0, cb.div c0⟩, _, rfl, _, rfl, _, _, rfl, rfl, ⟨c0, cb.div c0⟩, (by show 2 ≤ sizeLine; decide), fun t ht => q _ _ f t _ (same_new ht _) upd_same⟩

theorem sc_law_ratio : FnScope ["_law_cell", "_law_wide", "_law_number"] ["_law_cell", "_law_wide"] (defScope s_law_ratio) := ⟨rfl, rfl, rfl, by decide +kernel, rfl, by decide +kernel, by decide +kernel⟩
set_option maxHeartbeats 4000000 in
theorem ok_law_ratio {dV : Value} (F : FunD K "_law_ratio" "_law_ratio" s_law_ratio dV f fd) (B : Bn K mg c_NoNumber c_StoveError) (D_law_lowest : Dx P w K mg base CX0 2 "_law_lowest" ["_law_top", "_law_bottom"] [] spLowP) : FnOk P w K mg base CX0 3 f fd ["_law_cell", "_law_wide"] spRatio2 := by
  have sc := sc_law_ratio
  refine F.ok sc (fun vs H Q E h => ?_) (fun cdv A outer s H vs Q E hr h => ?_)
  · obtain ⟨c, wd, rfl, _⟩ := h
    rfl
  obtain ⟨c, wd, rfl, q⟩ := h
  refine ⟨_, (pss_cons (ps_set (i := 2) sc.nd rfl (Or.inl rfl) (pe_op op_modN (pe_op op_mulB (pe_op op_modN (pv 0) pe_int) pe_int) pe_int)) (pss_cons (ps_if (pt_val (pv 1)) (pss_one (ps_ret (pcall0 D_law_lowest hr (by decide) rfl (pa_cons (pe_op op_add (pe_op op_powB pe_int pe_int) (pv 2)) (pa_cons (pe_op op_add pe_int (pe_op op_mulB (pe_op op_modN (pe_op op_mulB (pv 2) pe_int) (pe_op op_powB pe_int pe_int)) (pe_op op_powB pe_int pe_int))) pa_nil))))) pss_nil) (pss_one (ps_ret (pcall0 D_law_lowest hr (by decide) rfl (pa_cons (pe_op op_add pe_int (pv 2)) (pa_cons (pe_op op_add pe_int (pe_op op_modN (pe_op op_mulB (pv 2) pe_int) pe_int)) pa_nil))))))), ?_⟩
  refine ⟨_, rfl, _, _, rfl, rfl, (by show (1000003 : Int) ≠ 0; decide), _, _, rfl, rfl, IntMulOk.of_right (by decide), _, _, rfl, rfl, (by show (999983 : Int) ≠ 0; decide), ?_⟩
  have n0 := Int.fmod_nonneg_of_pos (c.fmod 1000003 * 48271) (show (0 : Int) < 999983 by decide)
  have n1 := Int.fmod_lt_of_pos (c.fmod 1000003 * 48271) (show (0 : Int) < 999983 by decide)
  refine ⟨_, rfl, wd, rfl, ?_⟩
  cases wd with
  | true =>
    have m0 := Int.fmod_nonneg_of_pos ((c.fmod 1000003 * 48271).fmod 999983 * 7919) (show (0 : Int) < 10 ^ 9 by decide)
    have m1 := Int.fmod_lt_of_pos ((c.fmod 1000003 * 48271).fmod 999983 * 7919) (show (0 : Int) < 10 ^ 9 by decide)
    refine iteT ⟨_, _, rfl, rfl, ⟨by decide, by decide⟩, _, rfl, _, _, rfl, rfl, _, rfl, _, _, rfl, rfl, IntMulOk.of_right (by decide), _, _, rfl, rfl, ⟨by decide, by decide⟩, _, _, rfl, rfl, (by show (10 : Int) ^ 9 ≠ 0; decide), _, _, rfl, rfl, ⟨by decide, by decide⟩, _, _, rfl, rfl, (show Bd 30 (((c.fmod 1000003 * 48271).fmod 999983 * 7919).fmod (10 ^ 9)) by unfold Bd; omega).ok (show Bd 170 ((10 : Int) ^ 50) by unfold Bd; decide), _, _, rfl, rfl, ?_⟩
    have b0 : (0 : Int) < 1 + ((c.fmod 1000003 * 48271).fmod 999983 * 7919).fmod (10 ^ 9) * 10 ^ 50 := by omega
    have b1 : 1 + ((c.fmod 1000003 * 48271).fmod 999983 * 7919).fmod (10 ^ 9) * 10 ^ 50 < (2 : Int) ^ 200 := by omega
    have a1 : (10 : Int) ^ 59 + (c.fmod 1000003 * 48271).fmod 999983 < 2 ^ 200 := by omega
    have a0 : (0 : Int) < (10 : Int) ^ 59 + (c.fmod 1000003 * 48271).fmod 999983 := by omega
    refine ⟨_, _, rfl, Int.le_of_lt a0, b0, (show Bd 200 (1 + ((c.fmod 1000003 * 48271).fmod 999983 * 7919).fmod (10 ^ 9) * 10 ^ 50) by unfold Bd; omega).mono (by decide), fun p' q' f => q p' q' (top_pos f.same b0 f.pos a0) f.pos ?_ ?_⟩
    · exact (show Bd 200 ((10 : Int) ^ 59 + (c.fmod 1000003 * 48271).fmod 999983) by unfold Bd; omega).of_le f.bt
    · exact (show Bd 200 (1 + ((c.fmod 1000003 * 48271).fmod 999983 * 7919).fmod (10 ^ 9) * 10 ^ 50) by unfold Bd; omega).of_le f.bb
  | false =>
    have m0 := Int.fmod_nonneg_of_pos ((c.fmod 1000003 * 48271).fmod 999983 * 31) (show (0 : Int) < 997 by decide)
    have m1 := Int.fmod_lt_of_pos ((c.fmod 1000003 * 48271).fmod 999983 * 31) (show (0 : Int) < 997 by decide)
    refine iteF ⟨_, rfl, _, _, rfl, rfl, _, rfl, _, _, rfl, rfl, IntMulOk.of_right (by decide), _, _, rfl, rfl, (by show (997 : Int) ≠ 0; decide), _, _, rfl, rfl, _, _, rfl, by omega, by omega, ?_, fun p' q' f => q p' q' (top_pos f.same (by omega) f.pos (by omega)) f.pos ?_ ?_⟩
    · unfold Bd; omega
    · have := f.bt; show Bd 20 p'; unfold Bd; omega
    · have := f.bb; show Bd 20 q'; unfold Bd; omega

theorem sc_law_pairs : FnScope ["_law_script", "_law_start", "_law_names_here", "_law_many", "_law_near", "_law_wide", "_law_pairs_here", "_law_cell", "_law_at", "_law_to"] ["_law_script", "_law_start", "_law_names_here", "_law_many", "_law_near", "_law_wide"] (defScope s_law_pairs) := ⟨rfl, rfl, rfl, by decide +kernel, rfl, by decide +kernel, by decide +kernel⟩
set_option maxHeartbeats 4000000 in
theorem ok_law_pairs {dV : Value} (F : FunD K "_law_pairs" "_law_pairs" s_law_pairs dV f fd) (B : Bn K mg c_NoNumber c_StoveError) (D_law_ratio : Dx P w K mg base CX0 3 "_law_ratio" ["_law_cell", "_law_wide"] [] spRatio2) : FnOk P w K mg base CX0 4 f fd ["_law_script", "_law_start", "_law_names_here", "_law_many", "_law_near", "_law_wide"] (spPairs2 K) := by
  have sc := sc_law_pairs
  refine F.ok sc (fun vs H Q E h => ?_) (fun cdv A outer s H vs Q E hr h => ?_)
  · obtain ⟨a, ln, ns, st, m, nr, wd, zs, rfl, _⟩ := h
    rfl
  obtain ⟨a, ln, ns, st, m, nr, wd, zs, rfl, hS, h63, el, m0, mz, z9, q⟩ := h
  refine ⟨_, (pss_cons (ps_set (i := 6) sc.nd rfl (Or.inl rfl) pe_dnewT) (pss_cons (ps_for PassesOwn.never rfl (pi_list (pe_slice sl_list (pv 0) (po_some (pv 1)) (po_some pe_int))) (pg_name (i := 7) sc.nd rfl (Or.inl rfl)) (pss_cons (ps_set (i := 8) sc.nd rfl (Or.inl rfl) (pe_op op_modN (pv 7) (pv 3))) (pss_cons (ps_set (i := 9) sc.nd rfl (Or.inl rfl) (pe_op op_modN (pe_op op_fdivB (pv 7) (pv 3)) (pv 3))) (pss_cons (ps_if (pt_val (pv 4)) (pss_one (ps_set (i := 9) sc.nd rfl (Or.inl rfl) (pe_op op_modN (pe_op op_add (pv 8) (pe_op op_modN (pe_op op_fdivB (pv 7) (pv 3)) pe_int)) (pv 3)))) pss_nil) (pss_one (ps_dput (hu_of hr) (pv 6) (pe_tup (pa_cons (pe_ix ix_list (pv 2) (pv 8) (fun _ _ => rfl)) (pa_cons (pe_ix ix_list (pv 2) (pv 9) (fun _ _ => rfl)) pa_nil))) (pcall0 D_law_ratio hr (by decide) rfl (pa_cons (pe_op op_fdivB (pv 7) pe_int) (pa_cons (pv 5) pa_nil))) rfl)))))) (pss_one (ps_ret (pv 6))))), ?_⟩
  have sl : sizeLine = 16777216 := sizeLine_eq
  refine fun d nd => ?_
  have g0 := same_new nd (.dT [])
  have lz : (zs.map V.str).length = zs.length := List.length_map _
  refine ⟨_, rfl, _, rfl, st, rfl, 60, rfl, a, _, rfl, g0.seq hS, fun c nc => ⟨c, rfl, ⟨_, SqL.of upd_same⟩, ?_⟩⟩
  have g1 := g0.trans (same_new nc (.lst (cutV (ns.map V.int) (some st) (some 60))))
  have cl := cutV_length (ns.map V.int) (some st) (some 60)
  rw [List.length_map] at cl
  have hm : m ≠ 0 := by omega
  have pl : ∀ x : Int, m ≠ 0 ∧ Builtin.divisionGoesByPylong x m = false := fun x => ⟨hm, PyProof.noPylong_small (by omega)⟩
  refine for_list (xs := cutV (ns.map V.int) (some st) (some 60)) (fun i σ H' => ∃ (o7 o8 o9 : Option V) (kvs : List (List Key × V)), σ = [some (.ref a), some (.int st), some (.ref ln), some (.int m), some (.bl nr), some (.bl wd), some (.ref d), o7, o8, o9] ∧ Same H H' ∧ H' c = some (.lst (cutV (ns.map V.int) (some st) (some 60))) ∧ H' d = some (.dT kvs) ∧ kvs.length ≤ i ∧ PT K (bw wd) zs H' kvs) ?_ ?_ ?_ ?_
  · exact ⟨none, none, none, [], rfl, g1, upd_same, same_new nc _ _ _ upd_same, Nat.le_refl _, ⟨fun k v z => nomatch z⟩⟩
  · rintro i σ H' hi ⟨o7, o8, o9, kvs, rfl, gs, ec, _⟩
    exact SqL.of ec
  · rintro i v σ H1 hv ⟨o7, o8, o9, kvs, rfl, gs, ec, ed, lk, pt⟩
    have il := (List.getElem?_eq_some_iff.mp hv).1
    obtain ⟨ce, rfl⟩ := cut_int hv
    have t1 := fm (a := ce) (n := m) m0
    refine ⟨_, rfl, _, rfl, _, _, rfl, rfl, hm, _, rfl, _, rfl, _, _, rfl, rfl, pl _, _, rfl, _, _, rfl, rfl, hm, ?_⟩
    try dsimp only [gName, tNext]
    refine cut (fun σ H' => H1 = H' ∧ ∃ to : Int, 0 ≤ to ∧ to < m ∧ σ = [some (.ref a), some (.int st), some (.ref ln), some (.int m), some (.bl nr), some (.bl wd), some (.ref d), some (.int ce), some (.int (ce.fmod m)), some (.int to)]) (fun N hN => ?_) ?_
    · have t2 := fm (a := ce.fdiv m) (n := m) m0
      refine ⟨_, rfl, nr, rfl, ?_⟩
      cases nr with
      | false => exact iteF (hN _ _ ⟨rfl, _, t2.1, t2.2, rfl⟩)
      | true =>
        have t3 := fm (a := ce.fmod m + (ce.fdiv m).fmod 4) (n := m) m0
        exact iteT ⟨_, rfl, _, rfl, _, rfl, _, _, rfl, rfl, pl _, _, _, rfl, rfl, (by show (4 : Int) ≠ 0; decide), _, _, rfl, rfl, _, rfl, _, _, rfl, rfl, hm, hN _ _ ⟨rfl, _, t3.1, t3.2, rfl⟩⟩
    rintro σ H2 ⟨rfl, to, t4, t5, rfl⟩
    obtain ⟨x, hx, xz⟩ := strs_atI (zs := zs) t1.1 (by omega)
    obtain ⟨y, hy, yz⟩ := strs_atI (zs := zs) t4 (by omega)
    refine ⟨_, rfl, _, _, rfl, rfl, ⟨by show (7 : Int) ≠ 0; decide, PyProof.noPylong_small (by decide)⟩, _, rfl, _, _, rfl, fun p q' p0 q0 bp bq t H3 g3 e3 => ?_⟩
    have el3 := g3 _ _ (gs _ _ el)
    have ed3 := g3 _ _ ed
    have f3 : FrIn K (bw wd) H3 t p q' := ⟨SqT.of e3, q0, bp, bq⟩
    refine ⟨_, rfl, _, rfl, _, rfl, ln, _, _, _, rfl, rfl, SqL.of el3, hx, _, rfl, _, rfl, ln, _, _, _, rfl, rfl, SqL.of el3, hy, (by show 2 ≤ sizeLine; decide), fun t1 n1 => ⟨d, _, rfl, DPut.t (k := [.inr x, .inr y]) (same_new n1 _ _ _ ed3) upd_same (by omega), ?_⟩⟩
    have gk := g3.trans (same_new n1 (.tup [.str x, .str y]))
    have gN := sUpd (o := .dT (putK kvs [.inr x, .inr y] (.ref t))) (gs.trans gk) nd
    have nec : c ≠ d := fun e => by rw [e, ed] at ec; cases ec
    have kp : ∀ b o, b ≠ d → upd H3 t1 (.tup [.str x, .str y]) b = some o → upd (upd H3 t1 (.tup [.str x, .str y])) d (.dT (putK kvs [.inr x, .inr y] (.ref t))) b = some o := fun b o hb z => by rw [upd_ne hb]; exact z
    have kf : ∀ (tt : Addr) (u v : Int), FrIn K (bw wd) (upd H3 t1 (.tup [.str x, .str y])) tt u v → FrIn K (bw wd) (upd (upd H3 t1 (.tup [.str x, .str y])) d (.dT (putK kvs [.inr x, .inr y] (.ref t)))) tt u v := fun tt u v z => by
      refine ⟨?_, z.pos, z.bp, z.bq⟩
      rcases z.at_ with (w | ⟨o, w⟩) | w
      · exact .inl (.inl (kp _ _ (ne_of w (same_new n1 _ _ _ ed3) (fun z => nomatch z)) w))
      · exact .inl (.inr ⟨o, kp _ _ (ne_of w (same_new n1 _ _ _ ed3) (fun z => nomatch z)) w⟩)
      · exact .inr w
    refine ⟨_, _, _, _, rfl, gN, kp _ _ nec (gk _ _ ec), upd_same, Nat.le_trans (length_putK _ _ _) (by omega), ?_⟩
    refine PT.put ⟨fun k v z => ?_⟩ (kf _ _ _ (f3.same (same_new n1 _))) p0 xz yz
    obtain ⟨x', y', t', p', q'', e1, e2, f', z'⟩ := pt.at_ k v z
    exact ⟨x', y', t', p', q'', e1, e2, kf _ _ _ (f'.same gk), z'⟩
  · rintro σ H1 ⟨o7, o8, o9, kvs, rfl, gs, ec, ed, lk, pt⟩
    exact ⟨_, rfl, q d kvs H1 gs nd ed pt (by omega)⟩

theorem sc_law_dict : FnScope ["_law_pairs_here", "_law_empty", "_law_stands", "_law_pair_here", "_law_row", "_law_name"] ["_law_pairs_here", "_law_empty"] (defScope s_law_dict) := ⟨rfl, rfl, rfl, by decide +kernel, rfl, by decide +kernel, by decide +kernel⟩
set_option maxHeartbeats 4000000 in
theorem ok_law_dict {dV : Value} (F : FunD K "_law_dict" "_law_dict" s_law_dict dV f fd) (B : Bn K mg c_NoNumber c_StoveError)  : FnOk P w K mg base CX0 1 f fd ["_law_pairs_here", "_law_empty"] (spDict2 K) := by
  have sc := sc_law_dict
  refine F.ok sc (fun vs H Q E h => ?_) (fun cdv A outer s H vs Q E hr h => ?_)
  · obtain ⟨l, le, b, vw, zs, kvs, es, rfl, _⟩ := h
    rfl
  obtain ⟨l, le, b, vw, zs, kvs, es, rfl, pp, ele, le40, q⟩ := h
  have el := pp.at_
  have pt := pp.pt
  have l64 := pp.few
  refine ⟨_, (pss_cons (ps_set (i := 2) sc.nd rfl (Or.inl rfl) pe_dnewK) (pss_cons (ps_unfT (ps_for PassesOwn.never rfl (pi_dictT (pv 0)) (pg_name (i := 3) sc.nd rfl (Or.inl rfl)) (pss_cons (ps_set (i := 4) sc.nd rfl (Or.inl rfl) (pe_bm PySem.F.plainAttrs_dict PySem.F.slot_dict_setdefault PySem.F.type_dict_setdefault mt_setdef (pv 2) (pa_cons (pe_ix ix_tup (pv 3) pe_int (fun _ _ => rfl)) (pa_cons pe_dnewK pa_nil)))) (pss_one (ps_dput (hu_of hr) (pv 4) (pe_ix ix_tup (pv 3) pe_int (fun _ _ => rfl)) (pe_dget (hu_of hr) (pv 0) (pv 3) (fun _ _ => rfl)) rfl))))) (pss_cons (ps_for PassesOwn.never rfl (pi_list (pv 1)) (pg_name (i := 5) sc.nd rfl (Or.inl rfl)) (pss_one (ps_expr (pe_bm PySem.F.plainAttrs_dict PySem.F.slot_dict_setdefault PySem.F.type_dict_setdefault mt_setdef (pv 2) (pa_cons (pv 5) (pa_cons pe_dnewK pa_nil)))))) (pss_one (ps_ret (pv 2)))))), ?_⟩
  have sl : sizeLine = 16777216 := sizeLine_eq
  refine fun d nd => ?_
  try dsimp only [gName, tNext]
  refine cut (fun σ H' => Same H H' ∧ ∃ (o3 o4 : Option V) (dk : List (Key × V)), σ = [some (.ref l), some (.ref le), some (.ref d), o3, o4, none] ∧ BD H H' d (2 * kvs.length) dk (gT kvs) ∧ BKy dk (gT kvs) (fun _ => False)) (fun N hN => ?_) ?_
  rotate_left
  · rintro σ H1 ⟨g1, o3, o4, dk, rfl, bd, bk⟩
    refine ⟨_, rfl, le, rfl, ⟨_, SqL.of (g1 _ _ ele)⟩, for_list (xs := es.map V.str) (fun i σ H' => Same H H' ∧ ∃ (o5 : Option V) (dk' : List (Key × V)), σ = [some (.ref l), some (.ref le), some (.ref d), o3, o4, o5] ∧ BD H H' d (2 * kvs.length + i) dk' (gT kvs) ∧ BKy dk' (gT kvs) (fun x => x ∈ es.take i) ∧ ∀ x ∈ es.take i, valV dk' (.inr x) ≠ none) ?_ (fun i σ H' _ h => SqL.of (h.1 _ _ ele)) ?_ ?_⟩
    · exact ⟨g1, none, dk, rfl, bd, ⟨bk.txt, fun x z => (bk.key x z).imp id False.elim⟩, fun x z => by simp at z⟩
    · rintro i x σ H2 hx ⟨g2, o5, dk', rfl, b2, k2, a2⟩
      rw [List.getElem?_map] at hx
      obtain ⟨y, hy, rfl⟩ := Option.map_eq_some_iff.mp hx
      have il := (List.getElem?_eq_some_iff.mp hy).1
      have few2 := b2.few
      have tk : es.take (i + 1) = es.take i ++ [y] := by rw [List.take_add_one, hy]; rfl
      refine ⟨_, rfl, .inr (.inr (.inl ⟨rfl, .inl ⟨_, b2.at_⟩⟩)), _, rfl, fun pn hn => ?_⟩
      have g3 := same_new hn (.dK [])
      have b3 := b2.same g3
      have hnH : H pn = none := g2.free hn
      refine ⟨d, dk', .inr y, .ref pn, rfl, rfl, b3.at_, by omega, fun w hw => ?_, fun hw => ?_⟩
      · refine ⟨g2.trans g3, _, dk', rfl, b3.mono (by omega), ⟨k2.txt, fun x z => (k2.key x z).imp id fun m => by rw [tk]; exact List.mem_append_left _ m⟩, fun x z => ?_⟩
        rw [tk] at z
        rcases List.mem_append.mp z with z | z
        · exact a2 x z
        · cases List.mem_singleton.mp z
          rw [hw]
          exact nofun
      · have pd : pn ≠ d := fun e => by rw [e, b2.at_] at hn; cases hn
        have b4 := b3.open hw (show upd H2 pn (.dK []) pn = some (.dK (rowK [])) from upd_same) hnH pd (b2.new hn)
        refine ⟨sUpd (g2.trans g3) nd _, _, _, rfl, b4, k2.open (fun x m => by rw [tk]; exact List.mem_append_left _ m) (by rw [tk]; exact List.mem_append_right _ (List.mem_singleton.mpr rfl)), fun x z => ?_⟩
        rw [valV_put]
        by_cases c : x = y
        · rw [if_pos (by rw [c])]
          exact nofun
        · rw [if_neg (fun z => c (by injection z))]
          rw [tk] at z
          rcases List.mem_append.mp z with z | z
          · exact a2 x z
          · exact absurd (List.mem_singleton.mp z) c
    · rintro σ H2 ⟨g2, o5, dk', rfl, b2, k2, a2⟩
      rw [List.length_map] at b2
      rw [List.length_map, List.take_length] at k2 a2
      refine ⟨_, rfl, q d _ dk' H2 g2 nd b2 (by omega) k2.txt fun x => ⟨fun z => ?_, fun z => ?_⟩⟩
      · rcases k2.key x z with ⟨y, t, e⟩ | e
        · exact .inl ⟨y, t, e⟩
        · exact .inr e
      · rcases z with ⟨y, e⟩ | e
        · exact b2.some e
        · exact a2 x e
  refine ⟨_, rfl, l, kvs, rfl, same_new nd _ _ _ el, fun o nf => ?_⟩
  have dl : d ≠ l := fun e => by rw [e, el] at nd; cases nd
  have g0 : Same (upd H l (.frz o (.dT kvs))) (upd (upd H d (.dK [])) l (.frz o (.dT kvs))) := fun c u z => by
    by_cases e : c = l
    · subst e
      rw [upd_same] at z ⊢
      exact z
    · rw [upd_ne e] at z ⊢
      exact same_new nd _ _ _ z
  refine for_dictT (fun i σ H' => Same (upd H l (.frz o (.dT kvs))) H' ∧ ∃ (o2 o3 : Option V) (dk : List (Key × V)), σ = [some (.ref l), some (.ref le), some (.ref d), o2, o3, none] ∧ BD H H' d (2 * i) dk (gI kvs i) ∧ BKy dk (gI kvs i) (fun _ => False)) ?_ ?_ ?_ ?_
  · refine ⟨g0, none, none, [], rfl, ⟨?_, Nat.zero_le _, (fun x x' a z => nomatch z), fun x => .inl ⟨rfl, fun y => ?_⟩⟩, BKy.nil _⟩
    · rw [upd_ne dl]
      exact upd_same
    · unfold gI
      rw [List.take_zero, List.map_nil, if_neg (by simp)]
  · rintro i σ H' hi ⟨g, _⟩
    exact g _ _ upd_same
  · rintro i k v t σ H1 hk et ⟨g1, o2, o3, dk, rfl, bd, bk⟩
    have ik := (List.getElem?_eq_some_iff.mp hk).1
    obtain ⟨x0, y0, t0, rfl, hv0, hg0, _⟩ := pt.val (List.mem_of_getElem? hk)
    have frz := g1 _ _ upd_same
    have gs := gI_succ hk hg0
    refine ⟨_, rfl, .inr (.inr (.inl ⟨rfl, .inl ⟨_, bd.at_⟩⟩)), _, rfl, t, _, _, _, rfl, rfl, SqT.of et, rfl, fun pn hn => ?_⟩
    have g3 := same_new hn (.dK [])
    have hnl : upd H l (.frz o (.dT kvs)) pn = none := g1.free hn
    have pl : pn ≠ l := fun e => by rw [e, upd_same] at hnl; cases hnl
    have hnH : H pn = none := by rw [upd_ne pl] at hnl; exact hnl
    have bd3 := bd.same g3
    have few := bd.few
    refine ⟨d, dk, .inr x0, .ref pn, rfl, rfl, bd3.at_, by omega, fun w hw => ?_, fun hw => ?_⟩
    · obtain ⟨a, row, e1, e2, e3, e4, e5, e6, e7⟩ : ∃ (a : Addr) (row : List (Str × Addr)), w = .ref a ∧ upd H1 pn (.dK []) a = some (.dK (rowK row)) ∧ H a = none ∧ a ≠ d ∧ (row.map (·.1)).Nodup ∧ row.length ≤ 2 * i ∧ True := by
        rcases bd3.ex x0 with ⟨z, _⟩ | ⟨a, row, q1, q2, q3, q4, q5, q6, _⟩
        · rw [hw] at z; cases z
        · rw [hw] at q1; cases q1; exact ⟨a, row, rfl, q2, q3, q4, q5, q6, trivial⟩
      subst e1
      have al : a ≠ l := fun e => by rw [e, el] at e3; cases e3
      have rl : (rowK row).length = row.length := List.length_map _
      refine ⟨_, rfl, _, rfl, l, .ref t0, rfl, .inr ⟨kvs, _, t, .inr ⟨o, g3 _ _ frz⟩, rfl, g3 _ _ et, hv0.symm⟩, _, rfl, _, rfl, t, _, _, _, rfl, rfl, SqT.of (g3 _ _ et), rfl, a, _, rfl, DPut.k (k := .inr y0) e2 (by omega), ?_⟩
      have b4 := (bd3.put (g' := gI kvs (i + 1)) hw e2 gs)
      refine ⟨fun c u z => ?_, _, _, dk, rfl, ⟨b4.at_, by have := b4.few; omega, b4.inj, fun x => ?_⟩, bk.put gs⟩
      · rw [upd_ne (fun e => by subst e; rw [upd_ne al, e3] at z; cases z)]
        exact g3 _ _ (g1 _ _ z)
      · rcases b4.ex x with z | ⟨a', row', q1, q2, q3, q4, q5, q6, q7⟩
        · exact .inl z
        · exact .inr ⟨a', row', q1, q2, q3, q4, q5, by omega, q7⟩
    · have pd : pn ≠ d := fun e => by rw [e, bd.at_] at hn; cases hn
      have new : ∀ x, valV dk (.inr x) ≠ some (.ref pn) := fun x z => by
        rcases bd.ex x with ⟨w, _⟩ | ⟨a, row, q1, q2, _⟩
        · rw [w] at z; cases z
        · rw [z] at q1; cases q1; rw [hn] at q2; cases q2
      have b4 := bd3.open hw (show upd H1 pn (.dK []) pn = some (.dK (rowK [])) from upd_same) hnH pd new
      have hp4 : upd (upd H1 pn (.dK [])) d (.dK (putK dk (.inr x0) (.ref pn))) pn = some (.dK (rowK [])) := by rw [upd_ne pd]; exact upd_same
      have hv4 : valV (putK dk (.inr x0) (.ref pn)) (.inr x0) = some (.ref pn) := by rw [valV_put, if_pos rfl]
      have kp : ∀ c u, c ≠ d → upd H1 pn (.dK []) c = some u → upd (upd H1 pn (.dK [])) d (.dK (putK dk (.inr x0) (.ref pn))) c = some u := fun c u hc z => by rw [upd_ne hc]; exact z
      have td : t ≠ d := fun e => by rw [e, bd.at_] at et; cases et
      refine ⟨_, rfl, _, rfl, l, .ref t0, rfl, .inr ⟨kvs, _, t, .inr ⟨o, kp _ _ (Ne.symm dl) (g3 _ _ frz)⟩, rfl, kp _ _ td (g3 _ _ et), hv0.symm⟩, _, rfl, _, rfl, t, _, _, _, rfl, rfl, SqT.of (kp _ _ td (g3 _ _ et)), rfl, pn, _, rfl, DPut.k (k := .inr y0) hp4 (by show 0 < sizeLine; omega), ?_⟩
      have b5 := (b4.put (g' := gI kvs (i + 1)) hv4 hp4 gs)
      refine ⟨fun c u z => ?_, _, _, _, rfl, ⟨b5.at_, by have := b5.few; omega, b5.inj, fun x => ?_⟩, bk.openPut gs⟩
      · have cd : c ≠ d := fun e => by subst e; rw [upd_ne dl, nd] at z; cases z
        rw [upd_ne (fun e => by subst e; rw [upd_ne pl, hnH] at z; cases z)]
        exact kp _ _ cd (g3 _ _ (g1 _ _ z))
      · rcases b5.ex x with z | ⟨a', row', q1, q2, q3, q4, q5, q6, q7⟩
        · exact .inl z
        · exact .inr ⟨a', row', q1, q2, q3, q4, q5, by omega, q7⟩
  · rintro σ H1 ⟨g1, o2, o3, dk, rfl, bd, bk⟩
    refine ⟨l, o, kvs, g1 _ _ upd_same, nf, hN _ _ ⟨thawS el g1, o2, o3, dk, rfl, ?_, by rw [← funext fun x => funext fun y => gI_all kvs x y]; exact bk⟩⟩
    have hl0 : ∀ x, valV dk (.inr x) ≠ some (.ref l) := fun x z => by
      rcases bd.ex x with ⟨w, _⟩ | ⟨a, row, q1, q2, q3, _⟩
      · rw [w] at z; cases z
      · rw [z] at q1; cases q1; rw [el] at q3; cases q3
    refine ⟨by rw [upd_ne dl]; exact bd.at_, bd.few, bd.inj, fun x => ?_⟩
    rcases bd.ex x with ⟨z1, z2⟩ | ⟨a, row, q1, q2, q3, q4, q5, q6, q7⟩
    · exact .inl ⟨z1, fun y => by rw [← gI_all]; exact z2 y⟩
    · refine .inr ⟨a, row, q1, ?_, q3, q4, q5, q6, fun y t => by rw [← gI_all]; exact q7 y t⟩
      rw [upd_ne (fun e => hl0 x (by rw [← e]; exact q1))]
      exact q2

theorem sc_law_steps : FnScope ["_law_pairs_here", "_law_good", "_law_far", "_law_here", "_law_onward", "_law_pair_here"] ["_law_pairs_here", "_law_good"] (defScope s_law_steps) := ⟨rfl, rfl, rfl, by decide +kernel, rfl, by decide +kernel, by decide +kernel⟩
set_option maxHeartbeats 4000000 in
theorem ok_law_steps {dV : Value} (F : FunD K "_law_steps" "_law_steps" s_law_steps dV f fd) (B : Bn K mg c_NoNumber c_StoveError)  : FnOk P w K mg base CX0 1 f fd ["_law_pairs_here", "_law_good"] (spSteps K) := by
  have sc := sc_law_steps
  refine F.ok sc (fun vs H Q E h => ?_) (fun cdv A outer s H vs Q E hr h => ?_)
  · obtain ⟨l, good, b, vw, zs, kvs, rfl, _⟩ := h
    rfl
  obtain ⟨l, good, b, vw, zs, kvs, rfl, pp, gz, q⟩ := h
  have el := pp.at_
  have pt := pp.pt
  have l64 := pp.few
  have z9 := pp.fz
  refine ⟨_, (pss_cons (ps_set (i := 2) sc.nd rfl (Or.inl rfl) (pe_disp (pps_cons (pv 1) pe_int pps_nil) rfl rfl (by simp) (by decide))) (pss_cons (ps_set (i := 3) sc.nd rfl (Or.inl rfl) (pe_lst (pa_cons (pv 1) pa_nil))) (pss_cons (ps_while PassesOwn.never (pt_cmpR (op_neNil hr.units0) (pv 3) (pe_lst pa_nil) (nomark _)) (pss_cons (ps_set (i := 4) sc.nd rfl (Or.inl rfl) (pe_lst pa_nil)) (pss_cons (ps_unfT (ps_for PassesOwn.never rfl (pi_dictT (pv 0)) (pg_name (i := 5) sc.nd rfl (Or.inl rfl)) (pss_one (ps_if (PW.pt (pw_and (pt_cmpR (op_inK (K := K) rfl) (pe_ix ix_tup (pv 5) pe_int (fun _ _ => rfl)) (pv 3) (by with_unfolding_all rfl)) (pw_and1 (pt_cmp (pc_dnotin (hu_of hr) (pe_ix ix_tup (pv 5) pe_int (fun _ _ => rfl)) (pv 2)) (by with_unfolding_all rfl))))) (pss_cons (ps_dput (hu_of hr) (pv 2) (pe_ix ix_tup (pv 5) pe_int (fun _ _ => rfl)) (pe_op op_add (pe_dget (hu_of hr) (pv 2) (pe_ix ix_list (pv 3) pe_int (fun _ _ => rfl)) (fun _ _ => rfl)) pe_int) rfl) (pss_one (ps_expr (pe_bm PySem.F.plainAttrs_list PySem.F.slot_list_append PySem.F.type_list_append mt_append (pv 4) (pa_cons (pe_ix ix_tup (pv 5) pe_int (fun _ _ => rfl)) pa_nil))))) pss_nil)))) (pss_one (ps_set (i := 3) sc.nd rfl (Or.inl rfl) (pv 4)))))) (pss_one (ps_ret (pv 2)))))), ?_⟩
  have sl : sizeLine = 16777216 := sizeLine_eq
  refine fun d nd => ⟨_, rfl, upd_same, [(.inr good, .int 1)], rfl, (by show 1 ≤ 15; decide), ?_⟩
  have g0 : Same H (upd (upd H d (.dK [])) d (.dK (mergeK [] [((.inr good : Key), V.int 1)]))) := by
    rw [upd_upd]
    exact same_new nd _
  have e0 : (upd (upd H d (.dK [])) d (.dK (mergeK [] [((.inr good : Key), V.int 1)]))) d = some (.dK (fK [(good, 1)])) := upd_same
  generalize upd (upd H d (.dK [])) d (.dK (mergeK [] [((.inr good : Key), V.int 1)])) = H0 at g0 e0 ⊢
  refine ⟨_, rfl, (by show 1 ≤ sizeLine; decide), fun hl0 nh => ?_⟩
  have g1 := g0.trans (same_new nh (.lst [V.str good]))
  have e1 := same_new nh (.lst [V.str good]) _ _ e0
  have eh : upd H0 hl0 (.lst [V.str good]) hl0 = some (.lst (([good] : List Str).map V.str)) := upd_same
  generalize upd H0 hl0 (.lst [V.str good]) = H1 at g1 e1 eh ⊢
  try dsimp only [gName, tNext]
  refine while_by (fun σ H' => Same H H' ∧ ∃ (fs : List (Str × Nat)) (n : Nat) (hs : List Str) (hl : Addr) (o4 o5 : Option V), σ = [some (.ref l), some (.str good), some (.ref d), some (.ref hl), o4, o5] ∧ H' d = some (.dK (fK fs)) ∧ H' hl = some (.lst (hs.map V.str)) ∧ Lev (StE (gT kvs)) good fs n hs ∧ ∀ x ∈ fs.map (·.1), x ∈ zs) (fun (σ : L2.St) (H4 : Hp) => match σ[3]?, H4 d with | some (some (V.ref hl)), some (.dK fk) => 2 * (zs.length + 1 - fk.length) + (match H4 hl with | some (.lst []) => 0 | _ => 1) | _, _ => 0)
    ⟨g1, [(good, 1)], 1, [good], hl0, none, none, rfl, e1, eh, Lev.start, fun x hx => by rw [List.mem_singleton.mp hx]; exact gz⟩ ?_ (fun σ H Q Q' mm h => ?_)
  · rintro σ H4 ⟨g4, fs, n, hs, hl, o4, o5, rfl, ed, eh, lev, sub⟩
    have lfs : fs.length ≤ zs.length := by
      have := nodup_le lev.nd sub
      rw [List.length_map] at this
      exact this
    refine ⟨_, rfl, (by show 0 ≤ sizeLine; decide), fun l0 n0 => ⟨hl, l0, _, rfl, rfl, SqL.of (same_new n0 _ _ _ eh), SqL.of upd_same, _, rfl, ?_⟩⟩
    have k0 := same_new n0 (.lst [])
    cases hs with
    | nil => exact iteF ⟨_, rfl, q d fs _ (g4.trans k0) (k0 _ _ ed) lev.nd lev.dist⟩
    | cons h0 hr =>
      refine iteT ⟨(by show 0 ≤ sizeLine; decide), fun ol no => ?_⟩
      have k1 := k0.trans (same_new no (.lst []))
      have eo : upd (upd H4 l0 (.lst [])) ol (.lst []) ol = some (.lst (([] : List Str).map V.str)) := upd_same
      have noH : H ol = none := (g4.trans k0).free no
      have ed1 := k1 _ _ ed
      have eh1 := k1 _ _ eh
      have g5 := g4.trans k1
      have od : ol ≠ d := fun e => by rw [e, k0 _ _ ed] at no; cases no
      have oh : ol ≠ hl := fun e => by rw [e, k0 _ _ eh] at no; cases no
      generalize upd (upd H4 l0 (.lst [])) ol (.lst []) = H5 at k1 eo ed1 eh1 g5 ⊢
      clear k0 k1 n0 no
      have dl : d ≠ l := fun e => by rw [e, el] at nd; cases nd
      have ol_l : ol ≠ l := fun e => by rw [e, el] at noH; cases noH
      have hll : hl ≠ l := ne_of eh1 (g5 _ _ el) (fun z => nomatch z)
      have hd : hl ≠ d := ne_of eh1 ed1 (fun z => nomatch z)
      try dsimp only [gName, tNext]
      refine cut (fun σ H' => Same H H' ∧ ∃ (os : List Str) (o5 : Option V), σ = [some (.ref l), some (.str good), some (.ref d), some (.ref hl), some (.ref ol), o5] ∧ H' d = some (.dK (fK (fs ++ os.map fun y => (y, n + 1)))) ∧ H' ol = some (.lst (os.map V.str)) ∧ LevI (StE (gT kvs)) fs n (h0 :: hr) os (pk kvs) ∧ ∀ x ∈ os, x ∈ zs) (fun N hN => ?_) ?_
      · refine ⟨_, rfl, l, kvs, rfl, g5 _ _ el, fun o nf => ?_⟩
        have gF : Same (upd H l (.frz o (.dT kvs))) (upd H5 l (.frz o (.dT kvs))) := fun c u z => by
          by_cases e : c = l
          · subst e
            rw [upd_same] at z ⊢
            exact z
          · rw [upd_ne e] at z ⊢
            exact g5 _ _ z
        refine for_dictT (fun i σ H' => Same (upd H l (.frz o (.dT kvs))) H' ∧ ∃ (os : List Str) (o5 : Option V), σ = [some (.ref l), some (.str good), some (.ref d), some (.ref hl), some (.ref ol), o5] ∧ H' d = some (.dK (fK (fs ++ os.map fun y => (y, n + 1)))) ∧ H' hl = some (.lst ((h0 :: hr).map V.str)) ∧ H' ol = some (.lst (os.map V.str)) ∧ LevI (StE (gT kvs)) fs n (h0 :: hr) os (pk (kvs.take i)) ∧ ∀ x ∈ os, x ∈ zs) ?_ (fun i σ H' _ h => h.1 _ _ upd_same) ?_ ?_
        · exact ⟨gF, [], o5, rfl, by rw [upd_ne dl, List.map_nil, List.append_nil]; exact ed1, by rw [upd_ne hll]; exact eh1, by rw [upd_ne ol_l]; exact eo, lev.begin, fun x z => nomatch z⟩
        · rintro i k v b' σ H6 hk eb ⟨g6, os, o5, rfl, ed6, eh6, eo6, li, so⟩
          obtain ⟨x, y, t, rfl, hv, hg, _, _, xz, yz⟩ := pt.val (List.mem_of_getElem? hk)
          have pks := pk_succ hk
          have los : os.length ≤ zs.length := by
            have := nodup_le (l := os) (m := zs) (by
              have := li.nd
              rw [List.map_append, List.nodup_append, List.map_map, show ((fun x : Str × Nat => x.1) ∘ fun y => (y, n + 1)) = id from rfl, List.map_id] at this
              exact this.2.1) so
            exact this
          have flat : ((h0 :: hr).map V.str).all flatV = true := by
            rw [List.all_eq_true]
            intro z hz
            obtain ⟨y', _, rfl⟩ := List.mem_map.mp hz
            rfl
          have lfo : (fK (fs ++ os.map fun y => (y, n + 1))).length < sizeLine := by
            rw [fK_len, List.length_append, List.length_map]
            omega
          refine ⟨_, rfl, b', _, _, _, rfl, rfl, SqT.of eb, rfl, _, rfl, hl, _, rfl, .inl (SqL.of eh6), rfl, flat, _, rfl, inF (fun hx => ?_) (fun hx => ?_)⟩
          · refine ⟨_, rfl, b', _, _, _, rfl, rfl, SqT.of eb, rfl, _, rfl, d, _, rfl, DGet.k (k := .inr y) ed6, _, rfl, ?_⟩
            rw [fK_val]
            cases hy : farF (fs ++ os.map fun y => (y, n + 1)) y with
            | some m =>
              refine iteF ⟨g6, os, _, rfl, ed6, eh6, eo6, ?_, so⟩
              rw [pks]
              exact li.skip fun _ => by rw [hy]; exact nofun
            | none =>
              have hn : farF (fs ++ os.map fun y => (y, n + 1)) h0 = some n := by rw [farF_app, (lev.here h0).mp List.mem_cons_self]; rfl
              have dg : DGet H6 d (.str h0) (some (.int n)) := by
                have := DGet.k (k := .inr h0) ed6
                rw [fK_val, hn] at this
                exact this
              refine iteT ⟨_, rfl, _, rfl, hl, _, _, _, rfl, rfl, SqL.of eh6, atI_nat (j := 0) rfl, d, .int n, rfl, dg, _, _, rfl, rfl, _, rfl, _, rfl, b', _, _, _, rfl, rfl, SqT.of eb, rfl, d, _, rfl, DPut.k (k := .inr y) ed6 lfo, ?_⟩
              have pe : putK (fK (fs ++ os.map fun y => (y, n + 1))) (.inr y) (.int ((n : Int) + 1)) = fK (fs ++ (os ++ [y]).map fun y => (y, n + 1)) := by
                have := fK_put hy (n + 1)
                rw [List.map_append, ← List.append_assoc]
                exact this
              have gN : Same (upd H l (.frz o (.dT kvs))) (upd H6 d (.dK (putK (fK (fs ++ os.map fun y => (y, n + 1))) (.inr y) (.int ((n : Int) + 1))))) := fun c u z => by
                rw [upd_ne (fun e => by subst e; rw [upd_ne dl, nd] at z; cases z)]
                exact g6 _ _ z
              have bd : b' ≠ d := fun e => by rw [e, ed6] at eb; cases eb
              have kp : ∀ c u, c ≠ d → H6 c = some u → upd H6 d (.dK (putK (fK (fs ++ os.map fun y => (y, n + 1))) (.inr y) (.int ((n : Int) + 1)))) c = some u := fun c u hc z => by rw [upd_ne hc]; exact z
              have bo : b' ≠ ol := fun e => by rw [e, eo6] at eb; cases eb
              refine ⟨_, rfl, .inl ⟨rfl, _, SqL.of (kp _ _ od eo6)⟩, _, rfl, b', _, _, _, rfl, rfl, SqT.of (kp _ _ bd eb), rfl, ol, _, _, rfl, rfl, kp _ _ od eo6, by rw [List.length_map]; omega, ?_⟩
              refine ⟨fun c u z => ?_, os ++ [y], _, rfl, ?_, ?_, ?_, ?_, fun x' hx' => ?_⟩
              · rw [upd_ne (fun e => by subst e; rw [upd_ne ol_l, noH] at z; cases z)]
                exact gN _ _ z
              · rw [upd_ne (Ne.symm od), upd_same, pe]
              · rw [upd_ne (Ne.symm oh)]
                exact kp _ _ hd eh6
              · rw [upd_same, List.map_append]
                rfl
              · rw [pks]
                exact li.take hx ⟨t, hg⟩ hy
              · rcases List.mem_append.mp hx' with z | z
                · exact so x' z
                · rw [List.mem_singleton.mp z]; exact yz
          · refine iteF ⟨g6, os, _, rfl, ed6, eh6, eo6, ?_, so⟩
            rw [pks]
            exact li.skip fun z => absurd z hx
        · rintro σ H6 ⟨g6, os, o5, rfl, ed6, eh6, eo6, li, so⟩
          rw [List.take_length] at li
          exact ⟨l, o, kvs, g6 _ _ upd_same, nf, hN _ _ ⟨thawS el g6, os, o5, rfl, by rw [upd_ne dl]; exact ed6, by rw [upd_ne ol_l]; exact eo6, li, so⟩⟩
      rintro σ H6 ⟨g6, os, o5, rfl, ed6, eo6, li, so⟩
      have lev2 := li.next lev (fun w x => pk_in)
      have sub2 : ∀ x ∈ (fs ++ os.map fun y => (y, n + 1)).map (·.1), x ∈ zs := fun x hx => by
        rw [List.map_append, List.map_map] at hx
        rcases List.mem_append.mp hx with hx | hx
        · exact sub x hx
        · obtain ⟨y, hy, rfl⟩ := List.mem_map.mp hx
          exact so y hy
      have lf2 := nodup_le lev2.nd sub2
      rw [List.length_map, List.length_append, List.length_map] at lf2
      refine ⟨_, rfl, ⟨g6, _, _, os, ol, _, _, rfl, ed6, eo6, lev2, sub2⟩, ?_⟩
      show (match (some (some (V.ref ol)) : Option (Option V)), H6 d with | some (some (V.ref hl)), some (.dK fk) => 2 * (zs.length + 1 - fk.length) + (match H6 hl with | some (.lst []) => 0 | _ => 1) | _, _ => 0) < (match (some (some (V.ref hl)) : Option (Option V)), H4 d with | some (some (V.ref hl)), some (.dK fk) => 2 * (zs.length + 1 - fk.length) + (match H4 hl with | some (.lst []) => 0 | _ => 1) | _, _ => 0)
      rw [ed6, ed]
      show 2 * (zs.length + 1 - (fK (fs ++ os.map fun y => (y, n + 1))).length) + (match H6 ol with | some (.lst []) => 0 | _ => 1) < 2 * (zs.length + 1 - (fK fs).length) + (match H4 hl with | some (.lst []) => 0 | _ => 1)
      rw [eo6, eh, fK_len, fK_len, List.length_append, List.length_map]
      cases os with
      | nil => show 2 * (zs.length + 1 - (fs.length + 0)) + 0 < 2 * (zs.length + 1 - fs.length) + 1; omega
      | cons u us =>
        rw [List.length_cons] at lf2 ⊢
        show 2 * (zs.length + 1 - (fs.length + (us.length + 1))) + 1 < 2 * (zs.length + 1 - fs.length) + 1
        omega
  · obtain ⟨v, e, h1, h2⟩ := h
    refine ⟨v, e, h1, fun l0 n0 => ?_⟩
    obtain ⟨a, b', zs', e1, e2, e3, e4, c, e5, e6⟩ := h2 l0 n0
    exact ⟨a, b', zs', e1, e2, e3, e4, c, e5, mm _ _ e6⟩

theorem sc_law_along : FnScope ["_law_pairs_here", "_law_chain", "_law_top", "_law_bottom", "_law_k", "_law_ratio_here"] ["_law_pairs_here", "_law_chain"] (defScope s_law_along) := ⟨rfl, rfl, rfl, by decide +kernel, rfl, by decide +kernel, by decide +kernel⟩
set_option maxHeartbeats 4000000 in
theorem ok_law_along {dV : Value} (F : FunD K "_law_along" "_law_along" s_law_along dV f fd) (B : Bn K mg c_NoNumber c_StoveError) (D_law_lowest : Dx P w K mg base CX0 2 "_law_lowest" ["_law_top", "_law_bottom"] [] spLowP) : FnOk P w K mg base CX0 3 f fd ["_law_pairs_here", "_law_chain"] (spAlong K) := by
  have sc := sc_law_along
  refine F.ok sc (fun vs H Q E h => ?_) (fun cdv A outer s H vs Q E hr h => ?_)
  · obtain ⟨l, lc, b, vw, zs, kvs, c, rfl, _⟩ := h
    rfl
  obtain ⟨l, lc, b, vw, zs, kvs, c, rfl, pp, ec, cn, cl, bc, lnk, q⟩ := h
  have el := pp.at_
  have pt := pp.pt
  refine ⟨_, (pss_cons (ps_set (i := 2) sc.nd rfl (Or.inl rfl) pe_int) (pss_cons (ps_set (i := 3) sc.nd rfl (Or.inl rfl) pe_int) (pss_cons (ps_for PassesOwn.never rfl (pi_range1 rfl B.b_range (pa_cons (pe_op op_sub (pe_callB call_len_seq rfl B.b_len boot_len (pa_cons (pv 1) pa_nil)) pe_int) pa_nil)) (pg_name (i := 4) sc.nd rfl (Or.inl rfl)) (pss_cons (ps_set (i := 5) sc.nd rfl (Or.inl rfl) (pe_dget (hu_of hr) (pv 0) (pe_tup (pa_cons (pe_ix ix_list (pv 1) (pv 4) (fun _ _ => rfl)) (pa_cons (pe_ix ix_list (pv 1) (pe_op op_add (pv 4) pe_int) (fun _ _ => rfl)) pa_nil))) (fun _ _ => rfl))) (pss_cons (ps_set (i := 2) sc.nd rfl (Or.inl rfl) (pe_op op_mulB (pv 2) (pe_ix ix_tup (pv 5) pe_int (fun _ _ => rfl)))) (pss_one (ps_set (i := 3) sc.nd rfl (Or.inl rfl) (pe_op op_mulB (pv 3) (pe_ix ix_tup (pv 5) pe_int (fun _ _ => rfl)))))))) (pss_one (ps_ret (pcall0 D_law_lowest hr (by decide) rfl (pa_cons (pv 2) (pa_cons (pv 3) pa_nil)))))))), ?_⟩
  have sl : sizeLine = 16777216 := sizeLine_eq
  have c1 := List.length_pos_iff.mpr cn
  have lcm : (c.map V.str).length = c.length := List.length_map _
  have bd1 : Bd (b * 0 + 1) 1 := by rw [Nat.mul_zero]; unfold Bd; decide
  try dsimp only [gName, tNext]
  refine cut (fun σ H' => H = H' ∧ σ = [some (.ref l), some (.ref lc), some (.int 1), none, none, none]) (fun N hN => hN _ _ ⟨rfl, rfl⟩) ?_
  rintro σ _ ⟨rfl, rfl⟩
  refine cut (fun σ H' => H = H' ∧ σ = [some (.ref l), some (.ref lc), some (.int 1), some (.int 1), none, none]) (fun N hN => hN _ _ ⟨rfl, rfl⟩) ?_
  rintro σ _ ⟨rfl, rfl⟩
  refine ⟨_, rfl, lc, _, rfl, .inl (SqL.of ec), _, _, rfl, rfl, _, rfl, by omega, by omega, for_range (fun i σ H' => ∃ o4 o5 : Option V, σ = [some (.ref l), some (.ref lc), some (.int (prT vw c i).1), some (.int (prT vw c i).2), o4, o5] ∧ Same H H' ∧ Bd (b * i + 1) (prT vw c i).1 ∧ Bd (b * i + 1) (prT vw c i).2 ∧ 0 < (prT vw c i).1 ∧ 0 < (prT vw c i).2) ⟨none, none, rfl, .refl _, bd1, bd1, (by show (0 : Int) < 1; decide), (by show (0 : Int) < 1; decide)⟩ ?_ ?_⟩
  · rintro i σ H1 hi ⟨o4, o5, rfl, g1, bT, bB, T0, B0⟩
    have i1 : i + 1 < c.length := by omega
    have hx := List.getElem?_eq_getElem (show i < c.length by omega)
    have hy := List.getElem?_eq_getElem i1
    generalize c[i] = x at hx
    generalize c[i + 1] = y at hy
    obtain ⟨t, ht⟩ := lnk i x y hx hy
    obtain ⟨ft, p0⟩ := pt.fr x y t ht
    have at1 : atI (c.map V.str) (0 + (i : Int)) = some (.str x) := by rw [show 0 + (i : Int) = (i : Int) by omega]; exact atI_nat (map_at hx)
    have at2 : atI (c.map V.str) (0 + (i : Int) + 1) = some (.str y) := by rw [show 0 + (i : Int) + 1 = ((i + 1 : Nat) : Int) by omega]; exact atI_nat (map_at hy)
    refine ⟨_, rfl, _, rfl, _, rfl, lc, _, _, _, rfl, rfl, SqL.of (g1 _ _ ec), at1, _, rfl, _, rfl, _, _, rfl, rfl, lc, _, _, _, rfl, rfl, SqL.of (g1 _ _ ec), at2, (by show 2 ≤ sizeLine; decide), fun tt ntt => ?_⟩
    have k2 := same_new ntt (.tup [.str x, .str y])
    have dg : DGet (upd H1 tt (.tup [.str x, .str y])) l (.ref tt) (some (.ref t)) := by
      rw [← gT_some ht]
      exact DGet.t (k := [.inr x, .inr y]) (k2 _ _ (g1 _ _ el)) upd_same
    refine ⟨l, .ref t, rfl, dg, ?_⟩
    have ft2 := (ft.same g1).same k2
    have big : b * i + 1 + b ≤ 134217728 := by
      have := Nat.mul_le_mul_left b (show i + 1 ≤ c.length by omega)
      rw [Nat.mul_succ] at this
      omega
    refine ⟨_, rfl, _, rfl, t, _, _, _, rfl, rfl, ft2.at_, rfl, _, _, rfl, rfl, bT.ok ft.bp big, ?_⟩
    refine ⟨_, rfl, _, rfl, t, _, _, _, rfl, rfl, ft2.at_, rfl, _, _, rfl, rfl, bB.ok ft.bq big, ?_⟩
    have pr : prT vw c (i + 1) = ((prT vw c i).1 * (vw x y).1, (prT vw c i).2 * (vw x y).2) := by
      show ((prT vw c i).1 * (vw (c.getD i "") (c.getD (i + 1) "")).1, (prT vw c i).2 * (vw (c.getD i "") (c.getD (i + 1) "")).2) = _
      rw [List.getD_eq_getElem?_getD, List.getD_eq_getElem?_getD, hx, hy]
      rfl
    have bi : b * (i + 1) + 1 = b * i + 1 + b := by rw [Nat.mul_succ]; omega
    refine ⟨some (.int (0 + (i : Int))), some (.ref t), (by rw [pr]; rfl), g1.trans k2, ?_, ?_, ?_, ?_⟩
    · rw [pr, bi]; exact bT.mul ft.bp
    · rw [pr, bi]; exact bB.mul ft.bq
    · rw [pr]; exact Int.mul_pos T0 p0
    · rw [pr]; exact Int.mul_pos B0 ft.pos
  · rintro σ H1 ⟨o4, o5, rfl, g1, bT, bB, T0, B0⟩
    have e : ((((c.map V.str).length : Nat) : Int) - 1).toNat = c.length - 1 := by omega
    rw [e] at bT bB T0 B0
    rw [e]
    have b8 : b * (c.length - 1) + 1 ≤ 8500 := by
      have := Nat.mul_le_mul_left b (show c.length - 1 ≤ c.length by omega)
      omega
    exact ⟨_, rfl, _, rfl, _, _, rfl, Int.le_of_lt T0, B0, bB.mono b8, fun p q' f' t H2 g2 e2 => q p q' B0 f' t H2 (g1.trans g2) e2⟩

theorem sc_law_whole : FnScope ["_law_found"] ["_law_found"] (defScope s_law_whole) := ⟨rfl, rfl, rfl, by decide +kernel, rfl, by decide +kernel, by decide +kernel⟩
set_option maxHeartbeats 4000000 in
theorem ok_law_whole {dV : Value} (F : FunD K "_law_whole" "_law_whole" s_law_whole dV f fd) (B : Bn K mg c_NoNumber c_StoveError)  : FnOk P w K mg base CX0 1 f fd ["_law_found"] spWhole := by
  have sc := sc_law_whole
  refine F.ok sc (fun vs H Q E h => ?_) (fun cdv A outer s H vs Q E hr h => ?_)
  · obtain ⟨v, rfl, _⟩ := h
    rfl
  obtain ⟨v, rfl, q⟩ := h
  refine ⟨_, (pss_one (ps_ret (pe_and (pe_callB call_isi rfl B.b_isinstance boot_isinstance (pa_cons (pv 0) (pa_cons (pe_bltn (v := .ty "int") rfl B.b_int boot_int rfl) pa_nil))) (pe_one (pe_not (pe_callB call_isi rfl B.b_isinstance boot_isinstance (pa_cons (pv 0) (pa_cons (pe_bltn (v := .ty "bool") rfl B.b_bool boot_bool rfl) pa_nil)))))))), ?_⟩
  refine ⟨_, rfl, _, _, _, rfl, .ii v, _, rfl, iteT ⟨_, rfl, _, _, _, rfl, .ib v, _, rfl, q⟩⟩

theorem sc_law_pair : FnScope ["_law_found", "_law_pairs_here", "_law_good", "_law_far", "_law_chain", "_law_ratio_here", "_law_k"] ["_law_found", "_law_pairs_here", "_law_good", "_law_far"] (defScope s_law_pair) := ⟨rfl, rfl, rfl, by decide +kernel, rfl, by decide +kernel, by decide +kernel⟩
set_option maxHeartbeats 4000000 in
theorem ok_law_pair {dV : Value} (F : FunD K "_law_pair" "_law_pair" s_law_pair dV f fd) (B : Bn K mg c_NoNumber c_StoveError) (D_law_along : Dx P w K mg base CX0 3 "_law_along" ["_law_pairs_here", "_law_chain"] [] (spAlong K)) (D_law_whole : Dx P w K mg base CX0 1 "_law_whole" ["_law_found"] [] spWhole) : FnOk P w K mg base CX0 4 f fd ["_law_found", "_law_pairs_here", "_law_good", "_law_far"] (spPairC K) := by
  have sc := sc_law_pair
  refine F.ok sc (fun vs H Q E h => ?_) (fun cdv A outer s H vs Q E hr h => ?_)
  · obtain ⟨t, l, d, cl, rl, b, vw, zs, kvs, fs, good, c, p, q2, rfl, _⟩ := h
    rfl
  obtain ⟨t, l, d, cl, rl, b, vw, zs, kvs, fs, good, c, p, q', rfl, pp, ed, et, ecl, er, rt, c0, c9, bc, lnk, far, q⟩ := h
  refine ⟨_, (pss_cons (ps_if (PW.pt (pw_or (pt_not (pt_val (pe_callB (call_isiT (K := K) rfl) rfl B.b_isinstance boot_isinstance (pa_cons (pv 0) (pa_cons (pe_bltn (v := .ty "tuple") rfl B.b_tuple boot_tuple rfl) pa_nil))))) (pw_or1 (pt_cmpR op_ne (pe_callB call_len_seq rfl B.b_len boot_len (pa_cons (pv 0) pa_nil)) pe_int (nomark _))))) (pss_one (ps_ret pe_bl)) pss_nil) (pss_cons (ps_set (i := 4) sc.nd rfl (Or.inl rfl) (pe_ix ix_tup (pv 0) pe_int (fun _ _ => rfl))) (pss_cons (ps_set (i := 5) sc.nd rfl (Or.inl rfl) (pe_ix ix_tup (pv 0) pe_int (fun _ _ => rfl))) (pss_cons (ps_if (PW.pt (pw_or (pt_not (pt_val (pe_callB (call_isiT (K := K) rfl) rfl B.b_isinstance boot_isinstance (pa_cons (pv 4) (pa_cons (pe_bltn (v := .ty "list") rfl B.b_list boot_list rfl) pa_nil))))) (pw_or (pt_cmpR (op_eqNil hr.units0) (pv 4) (pe_lst pa_nil) (nomark _)) (pw_or1 (pt_cmpR op_ne (pe_ix ix_list (pv 4) pe_int (fun _ _ => rfl)) (pv 2) (nomark _)))))) (pss_one (ps_ret pe_bl)) pss_nil) (pss_cons (ps_if (PW.pt (pw_or (pt_not (pt_val (pe_callB (call_isiT (K := K) rfl) rfl B.b_isinstance boot_isinstance (pa_cons (pv 5) (pa_cons (pe_bltn (v := .ty "tuple") rfl B.b_tuple boot_tuple rfl) pa_nil))))) (pw_or (pt_cmpR op_ne (pe_callB call_len_seq rfl B.b_len boot_len (pa_cons (pv 5) pa_nil)) pe_int (nomark _)) (pw_or (pt_not (pt_val (pcall0 D_law_whole hr (by decide) rfl (pa_cons (pe_ix ix_tup (pv 5) pe_int (fun _ _ => rfl)) pa_nil)))) (pw_or1 (pt_not (pt_val (pcall0 D_law_whole hr (by decide) rfl (pa_cons (pe_ix ix_tup (pv 5) pe_int (fun _ _ => rfl)) pa_nil))))))))) (pss_one (ps_ret pe_bl)) pss_nil) (pss_cons (ps_for PassesOwn.never rfl (pi_range1 rfl B.b_range (pa_cons (pe_callB call_len_seq rfl B.b_len boot_len (pa_cons (pv 4) pa_nil)) pa_nil)) (pg_name (i := 6) sc.nd rfl (Or.inl rfl)) (pss_cons (ps_if (pt_not (pt_val (pe_callB (call_isiT (K := K) rfl) rfl B.b_isinstance boot_isinstance (pa_cons (pe_ix ix_list (pv 4) (pv 6) (fun _ _ => rfl)) (pa_cons (pe_bltn (v := .ty "str") rfl B.b_str boot_str rfl) pa_nil))))) (pss_one (ps_ret pe_bl)) pss_nil) (pss_one (ps_if (PW.pt (pw_and (pt_cmpR op_gt (pv 6) pe_int (nomark _)) (pw_and1 (pt_cmp (pc_dnotin (hu_of hr) (pe_tup (pa_cons (pe_ix ix_list (pv 4) (pe_op op_sub (pv 6) pe_int) (fun _ _ => rfl)) (pa_cons (pe_ix ix_list (pv 4) (pv 6) (fun _ _ => rfl)) pa_nil))) (pv 1)) (by with_unfolding_all rfl))))) (pss_one (ps_ret pe_bl)) pss_nil)))) (pss_one (ps_ret (pe_and (pe_cmpR (op_eqT hr.units0) (pv 5) (pcall0 D_law_along hr (by decide) rfl (pa_cons (pv 1) (pa_cons (pv 4) pa_nil))) (nomark _)) (pe_one (pe_cmpR op_eq (pe_dget (hu_of hr) (pv 3) (pe_ix ix_list (pv 4) (pe_un un_neg pe_int) (fun _ _ => rfl)) (fun _ _ => rfl)) (pe_callB call_len_seq rfl B.b_len boot_len (pa_cons (pv 4) pa_nil)) (nomark _)))))))))))), ?_⟩
  have sl : sizeLine = 16777216 := sizeLine_eq
  have cn := rt.1
  have lcm : (c.map V.str).length = c.length := List.length_map _
  have hE : (c.map V.str).isEmpty = false := by
    cases c with
    | nil => exact absurd rfl cn
    | cons x r => rfl
  refine ⟨_, rfl, _, _, _, true, rfl, .tup et, rfl, _, rfl, iteF ⟨_, rfl, t, _, rfl, .inr (SqT.of et), rfl, _, rfl, nFI rfl ?_⟩⟩
  refine ⟨_, rfl, t, _, _, _, rfl, rfl, SqT.of et, rfl, _, rfl, t, _, _, _, rfl, rfl, SqT.of et, rfl, ?_⟩
  refine ⟨_, rfl, _, _, _, true, rfl, .lst ecl, rfl, _, rfl, iteF ⟨_, rfl, (by show 0 ≤ sizeLine; decide), fun l0 n0 => ⟨cl, l0, _, rfl, rfl, SqL.of (same_new n0 _ _ _ ecl), SqL.of upd_same, ?_⟩⟩⟩
  have k0 := same_new n0 (.lst [])
  generalize upd H l0 (.lst []) = H1 at k0 ⊢
  rw [hE]
  have ecl1 := k0 _ _ ecl
  have er1 := k0 _ _ er
  refine ⟨_, rfl, iteF ⟨_, rfl, cl, _, _, _, rfl, rfl, SqL.of ecl1, atI_nat (j := 0) (map_at c0), _, rfl, rfl, _, rfl, nF rfl ?_⟩⟩
  refine ⟨_, rfl, _, _, _, true, rfl, .tup er1, rfl, _, rfl, iteF ⟨_, rfl, rl, _, rfl, .inr (SqT.of er1), rfl, _, rfl, nFI rfl ⟨_, rfl, rl, _, _, _, rfl, rfl, SqT.of er1, rfl, p, rfl, _, rfl, iteF ⟨_, rfl, rl, _, _, _, rfl, rfl, SqT.of er1, rfl, q', rfl, _, rfl, iteF ?_⟩⟩⟩⟩
  try dsimp only [gName, tNext]
  refine cut (fun σ H' => Same H H' ∧ ∃ o6 : Option V, σ = [some (.ref t), some (.ref l), some (.str good), some (.ref d), some (.ref cl), some (.ref rl), o6]) (fun N hN => ?_) ?_
  · refine ⟨_, rfl, cl, _, rfl, .inl (SqL.of ecl1), _, rfl, by omega, by omega, for_range (fun i σ H' => Same H H' ∧ ∃ o6 : Option V, σ = [some (.ref t), some (.ref l), some (.str good), some (.ref d), some (.ref cl), some (.ref rl), o6]) ⟨k0, none, rfl⟩ ?_ ?_⟩
    · rintro i σ H2 hi ⟨g2, o6, rfl⟩
      have il : i < c.length := by omega
      have hx := List.getElem?_eq_getElem il
      generalize c[i] = x at hx
      have at1 : atI (c.map V.str) (0 + (i : Int)) = some (.str x) := by rw [show 0 + (i : Int) = (i : Int) by omega]; exact atI_nat (map_at hx)
      have ecl2 := g2 _ _ ecl
      refine ⟨_, rfl, _, rfl, cl, _, _, _, rfl, rfl, SqL.of ecl2, at1, _, _, _, true, rfl, .str _, rfl, _, rfl, iteF ?_⟩
      refine ⟨_, rfl, _, _, rfl, rfl, _, rfl, d2 (fun h => ?_) (fun h => iteF ⟨g2, _, rfl⟩)⟩
      have hw := List.getElem?_eq_getElem (show i - 1 < c.length by omega)
      generalize c[i - 1]'(show i - 1 < c.length by omega) = w' at hw
      have at0 : atI (c.map V.str) (0 + (i : Int) - 1) = some (.str w') := by rw [show 0 + (i : Int) - 1 = ((i - 1 : Nat) : Int) by omega]; exact atI_nat (map_at hw)
      obtain ⟨tt, htt⟩ := lnk (i - 1) w' x hw (by rw [show i - 1 + 1 = i by omega]; exact hx)
      refine ⟨_, rfl, _, rfl, _, _, rfl, rfl, cl, _, _, _, rfl, rfl, SqL.of ecl2, at0, _, rfl, _, rfl, cl, _, _, _, rfl, rfl, SqL.of ecl2, at1, (by show 2 ≤ sizeLine; decide), fun t3 n3 => ⟨_, rfl, l, _, rfl, DGet.t (k := [.inr w', .inr x]) (same_new n3 _ _ _ (g2 _ _ pp.at_)) upd_same, ?_⟩⟩
      rw [gT_some htt]
      exact ⟨_, rfl, iteF ⟨g2.trans (same_new n3 _), _, rfl⟩⟩
    · rintro σ H2 ⟨g2, o6, rfl⟩
      exact hN _ _ ⟨g2, o6, rfl⟩
  rintro σ H2 ⟨g2, o6, rfl⟩
  refine ⟨_, rfl, _, rfl, _, rfl, l, cl, b, vw, zs, kvs, c, rfl, pp.same g2, g2 _ _ ecl, cn, c9, bc, lnk, fun p2 q2 B0 f2 t2 H3 g3 e3 => ?_⟩
  obtain ⟨rfl, rfl⟩ := rt_uniq rt f2 B0
  have g23 := g2.trans g3
  have ecl3 := g23 _ _ ecl
  refine ⟨rl, t2, _, rfl, rfl, SqT.of (g23 _ _ er), SqT.of e3, (fun z hz => by rcases List.mem_cons.mp hz with rfl | hz; trivial; cases List.mem_singleton.mp hz; trivial), _, rfl, iteT ?_⟩
  have dg : DGet H3 d (.str (lastS c)) (some (.int c.length)) := by
    have := DGet.k (k := .inr (lastS c)) (g23 _ _ ed)
    rw [fK_val, far] at this
    exact this
  refine ⟨_, rfl, _, rfl, _, rfl, cl, _, _, _, rfl, rfl, SqL.of ecl3, atI_lastS cn, d, .int c.length, rfl, dg, _, rfl, cl, _, rfl, .inl (SqL.of ecl3), rfl, ?_⟩
  rw [lcm]
  exact dQt (Q := fun v => Q v _) (q _ g23)

theorem sc_law_right : FnScope ["_law_found", "_law_pairs_here", "_law_good", "_law_far", "_law_ends", "_law_pair_here"] ["_law_found", "_law_pairs_here", "_law_good"] (defScope s_law_right) := ⟨rfl, rfl, rfl, by decide +kernel, rfl, by decide +kernel, by decide +kernel⟩
set_option maxHeartbeats 4000000 in
theorem ok_law_right {dV : Value} (F : FunD K "_law_right" "_law_right" s_law_right dV f fd) (B : Bn K mg c_NoNumber c_StoveError) (D_law_steps : Dx P w K mg base CX0 1 "_law_steps" ["_law_pairs_here", "_law_good"] [] (spSteps K)) (D_law_pair : Dx P w K mg base CX0 4 "_law_pair" ["_law_found", "_law_pairs_here", "_law_good", "_law_far"] [] (spPairC K)) : FnOk P w K mg base CX0 5 f fd ["_law_found", "_law_pairs_here", "_law_good"] (spRightW K) := by
  have sc := sc_law_right
  refine F.ok sc (fun vs H Q E h => ?_) (fun cdv A outer s H vs Q E hr h => ?_)
  · obtain ⟨lf, l, b, vw, zs, kvs, good, cs, FF, rfl, _⟩ := h
    rfl
  obtain ⟨lf, l, b, vw, zs, kvs, good, cs, FF, rfl, pp, gz, bz, b1, wo, bf, q⟩ := h
  obtain ⟨ts, ef, wt⟩ := wo.ex
  refine ⟨_, (pss_cons (ps_set (i := 3) sc.nd rfl (Or.inl rfl) (pcall0 D_law_steps hr (by decide) rfl (pa_cons (pv 1) (pa_cons (pv 2) pa_nil)))) (pss_cons (ps_if (PW.pt (pw_or (pt_not (pt_val (pe_callB (call_isiT (K := K) rfl) rfl B.b_isinstance boot_isinstance (pa_cons (pv 0) (pa_cons (pe_bltn (v := .ty "list") rfl B.b_list boot_list rfl) pa_nil))))) (pw_or1 (pt_cmpR op_ne (pe_callB call_len_seq rfl B.b_len boot_len (pa_cons (pv 0) pa_nil)) (pe_callB call_lenK rfl B.b_len boot_len (pa_cons (pv 3) pa_nil)) (nomark _))))) (pss_one (ps_ret pe_bl)) pss_nil) (pss_cons (ps_set (i := 4) sc.nd rfl (Or.inl rfl) (pe_lst pa_nil)) (pss_cons (ps_for PassesOwn.never rfl (pi_list (pv 0)) (pg_name (i := 5) sc.nd rfl (Or.inl rfl)) (pss_cons (ps_if (pt_not (pt_val (pcall0 D_law_pair hr (by decide) rfl (pa_cons (pv 5) (pa_cons (pv 1) (pa_cons (pv 2) (pa_cons (pv 3) pa_nil))))))) (pss_one (ps_ret pe_bl)) pss_nil) (pss_cons (ps_if (PW.pt (pw_and (pt_cmpR (op_neNil hr.units0) (pv 4) (pe_lst pa_nil) (nomark _)) (pw_and1 (pt_cmpR op_gt (pe_dget (hu_of hr) (pv 3) (pe_ix ix_list (pv 4) (pe_un un_neg pe_int) (fun _ _ => rfl)) (fun _ _ => rfl)) (pe_callB call_len_seq rfl B.b_len boot_len (pa_cons (pe_ix ix_tup (pv 5) pe_int (fun _ _ => rfl)) pa_nil)) (nomark _))))) (pss_one (ps_ret pe_bl)) pss_nil) (pss_one (ps_expr (pe_bm PySem.F.plainAttrs_list PySem.F.slot_list_append PySem.F.type_list_append mt_append (pv 4) (pa_cons (pe_ix ix_list (pe_ix ix_tup (pv 5) pe_int (fun _ _ => rfl)) (pe_un un_neg pe_int) (fun _ _ => rfl)) pa_nil))))))) (pss_one (ps_ret (pe_and (pe_cmpR (op_eqAT 1 (Nat.lt_trans (Nat.add_lt_add_left (by decide : 1 + 1 < 64) _) hr.units)) (pe_ix ix_list (pv 0) pe_int (fun _ _ => rfl)) (pe_tup (pa_cons (pe_lst (pa_cons (pv 2) pa_nil)) (pa_cons (pe_tup (pa_cons pe_int (pa_cons pe_int pa_nil))) pa_nil))) (nomark _)) (pe_one (pe_cmpR op_eq (pe_lenSet rfl rfl B.b_len rfl B.b_set PyProof.Rows.Boot.«len» PyProof.Rows.Boot.«set» (pv 4)) (pe_callB call_len_seq rfl B.b_len boot_len (pa_cons (pv 4) pa_nil)) (nomark _)))))))))), ?_⟩
  have sl : sizeLine = 16777216 := sizeLine_eq
  have z9 := pp.fz
  have few := bf.few (U := zs) (fun x y h => (StE.in pp.pt h).2)
  have lts : (ts.map V.ref).length = cs.length := by rw [List.length_map, wt.1]
  refine ⟨_, rfl, _, rfl, l, good, b, vw, zs, kvs, rfl, pp, gz, fun d fs H1 g1 ed nd dist => ?_⟩
  have fl := far_len bf nd dist
  have deq := bf.dist.eq dist
  have ef1 := g1 _ _ ef
  refine ⟨_, rfl, _, _, _, true, rfl, .lst ef1, rfl, _, rfl, iteF ⟨_, rfl, lf, _, rfl, .inl (SqL.of ef1), _, rfl, d, _, rfl, .inl ed, rfl, _, rfl, nFI (by rw [lts, fK_len, fl]) ?_⟩⟩
  refine ⟨(by show 0 ≤ sizeLine; decide), fun le ne => ?_⟩
  have k1 := same_new ne (.lst [])
  have neH : H le = none := g1.free ne
  have g2 := g1.trans k1
  have ed2 := k1 _ _ ed
  have ee2 : upd H1 le (.lst []) le = some (.lst (((cs.take 0).map lastS).map V.str)) := upd_same
  have led : le ≠ d := fun e => by rw [e, ed] at ne; cases ne
  generalize upd H1 le (.lst []) = H2 at g2 ed2 ee2 ⊢
  clear k1 ne ef1
  try dsimp only [gName, tNext]
  refine cut (fun σ H' => Same H H' ∧ H' le = some (.lst ((cs.map lastS).map V.str)) ∧ ∃ o5 : Option V, σ = [some (.ref lf), some (.ref l), some (.str good), some (.ref d), some (.ref le), o5]) (fun N hN => ?_) ?_
  · refine ⟨_, rfl, lf, rfl, ⟨_, SqL.of (g2 _ _ ef)⟩, for_list (xs := ts.map V.ref) (fun i σ H' => Same H H' ∧ H' d = some (.dK (fK fs)) ∧ H' le = some (.lst (((cs.take i).map lastS).map V.str)) ∧ ∃ o5 : Option V, σ = [some (.ref lf), some (.ref l), some (.str good), some (.ref d), some (.ref le), o5]) ⟨g2, ed2, ee2, none, rfl⟩ (fun i σ H' _ h => SqL.of (h.1 _ _ ef)) ?_ ?_⟩
    · rintro i x σ H3 hx ⟨g3, ed3, ee3, o5, rfl⟩
      rw [List.getElem?_map] at hx
      obtain ⟨t, ht, rfl⟩ := Option.map_eq_some_iff.mp hx
      have il : i < cs.length := by rw [← wt.1]; exact (List.getElem?_eq_some_iff.mp ht).1
      have hc := List.getElem?_eq_getElem il
      generalize cs[i] = c at hc
      obtain ⟨cl, rl, p, q', et, ecl, frl, rt, _, er⟩ := wt.2 i t c ht hc
      obtain ⟨c0, lk⟩ := bfs_lnk bf i c hc
      have clen := bf.long i c hc
      have cn := bf.ne hc
      have bc : b * c.length + 1 ≤ 8000 := by
        have := Nat.mul_le_mul_left b (show c.length ≤ zs.length + 2 by omega)
        omega
      have far : farF fs (lastS c) = some c.length := by rw [← deq]; exact Dcs_at bf.nd hc
      refine ⟨_, rfl, _, rfl, _, rfl, _, rfl, t, l, d, cl, rl, b, vw, zs, kvs, fs, good, c, p, q', rfl, pp.same g3, ed3, g3 _ _ et, g3 _ _ ecl, g3 _ _ er, rt, c0, by omega, bc, lk, far, fun H4 g4 => ⟨_, rfl, iteF ?_⟩⟩
      have g34 := g3.trans g4
      have ed4 := g4 _ _ ed3
      have ee4 := g4 _ _ ee3
      have et4 := g34 _ _ et
      have ecl4 := g34 _ _ ecl
      have tk : (cs.take (i + 1)).map lastS = (cs.take i).map lastS ++ [lastS c] := by rw [List.take_add_one, hc, List.map_append]; rfl
      have fin : ∀ H5, Same H4 H5 → Same H (upd H5 le (.lst (((cs.take i).map lastS).map V.str ++ [V.str (lastS c)]))) ∧ upd H5 le (.lst (((cs.take i).map lastS).map V.str ++ [V.str (lastS c)])) d = some (.dK (fK fs)) ∧ upd H5 le (.lst (((cs.take i).map lastS).map V.str ++ [V.str (lastS c)])) le = some (.lst (((cs.take (i + 1)).map lastS).map V.str)) := fun H5 g5 => ⟨sUpd (g34.trans g5) neH _, by rw [upd_ne (Ne.symm led)]; exact g5 _ _ ed4, by rw [upd_same, tk, List.map_append]; rfl⟩
      have lee : (((cs.take i).map lastS).map V.str).length < sizeLine := by rw [List.length_map, List.length_map, List.length_take]; omega
      try dsimp only [gName, tNext]
      refine cut (fun σ H' => Same H4 H' ∧ σ = [some (.ref lf), some (.ref l), some (.str good), some (.ref d), some (.ref le), some (.ref t)]) (fun N2 hN2 => ?_) ?_
      · refine ⟨_, rfl, (by show 0 ≤ sizeLine; decide), fun l0 n0 => ⟨le, l0, _, rfl, rfl, SqL.of (same_new n0 _ _ _ ee4), SqL.of upd_same, _, rfl, ?_⟩⟩
        have k0 := same_new n0 (.lst [])
        rcases Nat.eq_zero_or_pos i with z | z
        · subst z
          exact iteF (iteF (hN2 _ _ ⟨k0, rfl⟩))
        · have hp := List.getElem?_eq_getElem (show i - 1 < cs.length by omega)
          generalize cs[i - 1]'(show i - 1 < cs.length by omega) = cp at hp
          have tkp : (cs.take i).map lastS = (cs.take (i - 1)).map lastS ++ [lastS cp] := by
            rw [show i = i - 1 + 1 by omega, List.take_add_one, hp, List.map_append]
            rfl
          have hE : (((cs.take i).map lastS).map V.str).isEmpty = false := by rw [tkp]; simp
          have atl : atI (((cs.take i).map lastS).map V.str) (-1) = some (.str (lastS cp)) := by rw [tkp, List.map_append]; exact atI_last _ _
          have ah := (bf.rise (i - 1) cp c hp (by rw [show i - 1 + 1 = i by omega]; exact hc)).le
          have farp : farF fs (lastS cp) = some cp.length := by rw [← deq]; exact Dcs_at bf.nd hp
          have dg : DGet (upd H4 l0 (.lst [])) d (.str (lastS cp)) (some (.int cp.length)) := by
            have := DGet.k (k := .inr (lastS cp)) (k0 _ _ ed4)
            rw [fK_val, farp] at this
            exact this
          rw [hE]
          refine iteT ⟨_, rfl, _, rfl, _, rfl, le, _, _, _, rfl, rfl, SqL.of (k0 _ _ ee4), atl, d, .int cp.length, rfl, dg, _, rfl, t, _, _, _, rfl, rfl, SqT.of (k0 _ _ et4), rfl, cl, _, rfl, .inl (SqL.of (k0 _ _ ecl4)), _, _, rfl, rfl, _, rfl, dF (by rw [List.length_map]; omega) (hN2 _ _ ⟨k0, rfl⟩)⟩
      rintro σ H5 ⟨g5, rfl⟩
      obtain ⟨f1, f2, f3⟩ := fin H5 g5
      exact ⟨_, rfl, .inl ⟨rfl, _, SqL.of (g5 _ _ ee4)⟩, _, rfl, t, _, _, _, rfl, rfl, SqT.of (g5 _ _ et4), rfl, _, rfl, cl, _, _, _, rfl, rfl, SqL.of (g5 _ _ ecl4), (atI_lastS cn), le, _, _, rfl, rfl, g5 _ _ ee4, lee, f1, f2, f3, _, rfl⟩
    · rintro σ H3 ⟨g3, ed3, ee3, o5, rfl⟩
      rw [lts, List.take_length] at ee3
      exact hN _ _ ⟨g3, ee3, o5, rfl⟩
  rintro σ H3 ⟨g3, ee3, o5, rfl⟩
  have c0 := bf.first
  have c0l := (List.getElem?_eq_some_iff.mp c0).1
  have ht := List.getElem?_eq_getElem (show 0 < ts.length by rw [wt.1]; exact c0l)
  generalize ts[0]'(by rw [wt.1]; exact c0l) = t at ht
  obtain ⟨cl, rl, p, q', et, ecl, _, rt, _, er⟩ := wt.2 0 t [good] ht c0
  obtain ⟨rfl, rfl⟩ := rt_first rt
  have ef3 := g3 _ _ ef
  refine ⟨_, rfl, lf, _, _, _, rfl, rfl, SqL.of ef3, atI_nat (j := 0) (map_at ht), _, rfl, (by show 1 ≤ sizeLine; decide), fun l1 n1 => ⟨(by show 2 ≤ sizeLine; decide), fun t1 n2 => ⟨(by show 2 ≤ sizeLine; decide), fun t2 n3 => ?_⟩⟩⟩
  have k1 := same_new n1 (.lst [V.str good])
  have k2 := same_new n2 (.tup [.int 1, .int 1])
  have k3 := same_new n3 (.tup [.ref l1, .ref t1])
  have k13 := (k1.trans k2).trans k3
  have e1 := k3 _ _ (k2 _ _ (upd_same (H := H3) (a := l1) (o := .lst [V.str good])))
  have e2 := k3 _ _ (upd_same (H := upd H3 l1 (.lst [V.str good])) (a := t1) (o := .tup [.int 1, .int 1]))
  refine ⟨t, t2, _, _, rfl, rfl, SqT.of (k13 _ _ (g3 _ _ et)), SqT.of upd_same, ⟨.inr ⟨cl, l1, _, _, rfl, rfl, .inr ⟨SqL.of (k13 _ _ (g3 _ _ ecl)), SqL.of e1⟩, ⟨rfl, trivial⟩, trivial⟩, .inr ⟨rl, t1, _, _, rfl, rfl, .inl ⟨SqT.of (k13 _ _ (g3 _ _ er)), SqT.of e2⟩, ⟨rfl, trivial⟩, ⟨rfl, trivial⟩, trivial⟩, trivial⟩, _, rfl, iteT ?_⟩
  have ee4 := k13 _ _ ee3
  have km : (((cs.map lastS).map fun y => (.inr y : Key)).map kV) = (cs.map lastS).map V.str := by
    rw [List.map_map]
    rfl
  have knd : ((cs.map lastS).map fun y => (.inr y : Key)).Nodup := List.Pairwise.map (fun y => (.inr y : Key)) (fun a b h e => h (by injection e)) bf.nd
  refine ⟨_, rfl, le, (cs.map lastS).map fun y => (.inr y : Key), rfl, by rw [km]; exact SqL.of ee4, knd, by rw [List.length_map, List.length_map]; omega, _, rfl, le, _, rfl, .inl (SqL.of ee4), rfl, ?_⟩
  rw [List.length_map, List.length_map, List.length_map, List.length_map]
  exact dQt (Q := fun v => Q v _) (q _ (g3.trans k13))

theorem sclaw : FnScope ["_law_script", "_law_head", "_law_many", "_law_names_here", "_law_wide", "_law_pairs_here", "_law_cell", "_law_good", "_law_other", "_law_empty", "_law_handed", "_law_found", "_law_chain", "_law_ratio_here", "_law_row"] ["_law_script"] (defScope slaw) := ⟨rfl, rfl, rfl, by decide +kernel, rfl, by decide +kernel, by decide +kernel⟩
set_option maxHeartbeats 4000000 in
theorem oklaw {dV : Value} (F : FunD K "law" "law" slaw dV f fd) (B : Bn K mg c_NoNumber c_StoveError) (Dways_out : Dx P w K mg base CX0 4 "ways_out" ["stands", "good"] [] (spWo K)) (D_law_cell_at : Dx P w K mg base CX0 1 "_law_cell_at" ["_law_script", "_law_k"] [] (spCell K)) (D_law_names : Dx P w K mg base CX0 1 "_law_names" ["_law_number", "_law_many"] [] spNames0) (D_law_pairs : Dx P w K mg base CX0 4 "_law_pairs" ["_law_script", "_law_start", "_law_names_here", "_law_many", "_law_near", "_law_wide"] [] (spPairs2 K)) (D_law_dict : Dx P w K mg base CX0 1 "_law_dict" ["_law_pairs_here", "_law_empty"] [] (spDict2 K)) (D_law_right : Dx P w K mg base CX0 5 "_law_right" ["_law_found", "_law_pairs_here", "_law_good"] [] (spRightW K)) : FnOk P w K mg base CX0 6 f fd ["_law_script"] (spLaw K) := by
  have sc := sclaw
  refine F.ok sc (fun vs H Q E h => ?_) (fun cdv A outer s H vs Q E hr h => ?_)
  · obtain ⟨a, ns, rfl, _⟩ := h
    rfl
  obtain ⟨a, ns, rfl, hS, h63, q⟩ := h
  refine ⟨_, (pss_cons (ps_set (i := 1) sc.nd rfl (Or.inl rfl) (pcall0 D_law_cell_at hr (by decide) rfl (pa_cons (pv 0) (pa_cons pe_int pa_nil)))) (pss_cons (ps_set (i := 2) sc.nd rfl (Or.inl rfl) (pe_op op_add pe_int (pe_op op_modN (pe_op op_fdivB (pv 1) pe_int) pe_int))) (pss_cons (ps_if (pt_cmpR op_eq (pe_op op_modN (pv 1) pe_int) pe_int (nomark _)) (pss_one (ps_set (i := 2) sc.nd rfl (Or.inl rfl) pe_int)) pss_nil) (pss_cons (ps_set (i := 3) sc.nd rfl (Or.inl rfl) (pcall0 D_law_names hr (by decide) rfl (pa_cons (pcall0 D_law_cell_at hr (by decide) rfl (pa_cons (pv 0) (pa_cons pe_int pa_nil))) (pa_cons (pe_op op_add (pv 2) pe_int) pa_nil)))) (pss_cons (ps_set (i := 4) sc.nd rfl (Or.inl rfl) (pe_and (pe_cmpR op_ne (pe_op op_modN (pv 1) pe_int) pe_int (nomark _)) (pe_one (pe_cmpR op_eq (pe_op op_modN (pe_op op_fdivB (pv 1) pe_int) pe_int) pe_int (nomark _))))) (pss_cons (ps_set (i := 5) sc.nd rfl (Or.inl rfl) (pcall0 D_law_pairs hr (by decide) rfl (pa_cons (pv 0) (pa_cons pe_int (pa_cons (pv 3) (pa_cons (pv 2) (pa_cons (pe_cmpR op_eq (pe_op op_modN (pe_op op_fdivB (pv 1) pe_int) pe_int) pe_int (nomark _)) (pa_cons (pv 4) pa_nil)))))))) (pss_cons (ps_set (i := 6) sc.nd rfl (Or.inl rfl) (pcall0 D_law_cell_at hr (by decide) rfl (pa_cons (pv 0) (pa_cons pe_int pa_nil)))) (pss_cons (ps_set (i := 7) sc.nd rfl (Or.inl rfl) (pe_ix ix_list (pv 3) (pe_op op_modN (pv 6) (pe_op op_add (pv 2) pe_int)) (fun _ _ => rfl))) (pss_cons (ps_set (i := 8) sc.nd rfl (Or.inl rfl) (pe_ix ix_list (pv 3) (pe_op op_modN (pe_op op_fdivB (pv 6) pe_int) (pe_op op_add (pv 2) pe_int)) (fun _ _ => rfl))) (pss_cons (ps_set (i := 9) sc.nd rfl (Or.inl rfl) (pe_slice sl_list (pv 3) po_none (po_some (pe_op op_mulB (pv 2) (pe_op op_modN (pe_op op_fdivB (pv 6) pe_int) pe_int))))) (pss_cons (ps_set (i := 10) sc.nd rfl (Or.inl rfl) (pcall0 D_law_dict hr (by decide) rfl (pa_cons (pv 5) (pa_cons (pv 9) pa_nil)))) (pss_cons (ps_set (i := 11) sc.nd rfl (Or.inl rfl) (pcall0 Dways_out hr (by decide) rfl (pa_cons (pv 10) (pa_cons (pv 7) pa_nil)))) (pss_cons (ps_if (pt_not (pt_val (pcall0 D_law_right hr (by decide) rfl (pa_cons (pv 11) (pa_cons (pv 5) (pa_cons (pv 7) pa_nil)))))) (pss_one (ps_ret pe_bl)) pss_nil) (pss_cons (ps_for PassesOwn.never rfl (pi_list (pv 11)) (pg_tup rfl (pgs_cons (pg_name (i := 12) sc.nd rfl (Or.inl rfl)) (pgs_cons (pg_name (i := 13) sc.nd rfl (Or.inl rfl)) pgs_nil))) (pss_one (ps_expr (pe_bm PySem.F.plainAttrs_list PySem.F.slot_list_append PySem.F.type_list_append mt_append (pv 12) (pa_cons pe_str pa_nil))))) (pss_cons (ps_expr (pe_bm PySem.F.plainAttrs_list PySem.F.slot_list_append PySem.F.type_list_append mt_append (pv 11) (pa_cons pe_non pa_nil))) (pss_cons (ps_if (PW.pt (pw_or (pt_not (pt_val (pcall0 D_law_right hr (by decide) rfl (pa_cons (pcall0 Dways_out hr (by decide) rfl (pa_cons (pv 10) (pa_cons (pv 8) pa_nil))) (pa_cons (pv 5) (pa_cons (pv 8) pa_nil)))))) (pw_or1 (pt_cmpR (op_neDR (Nat.lt_trans (Nat.add_lt_add_left (by decide : 3 < 64) _) hr.units)) (pv 10) (pcall0 D_law_dict hr (by decide) rfl (pa_cons (pv 5) (pa_cons (pv 9) pa_nil))) (nomark _))))) (pss_one (ps_ret pe_bl)) pss_nil) (pss_cons (ps_set (i := 14) sc.nd rfl (Or.inl rfl) (pe_bm PySem.F.plainAttrs_dict PySem.F.slot_dict_setdefault PySem.F.type_dict_setdefault mt_setdef (pv 10) (pa_cons (pv 7) (pa_cons pe_dnewK pa_nil)))) (pss_cons (ps_dput (hu_of hr) (pv 14) (pv 8) (pe_tup (pa_cons pe_int (pa_cons pe_int pa_nil))) rfl) (pss_cons (ps_dput (hu_of hr) (pv 5) (pe_tup (pa_cons (pv 7) (pa_cons (pv 8) pa_nil))) (pe_tup (pa_cons pe_int (pa_cons pe_int pa_nil))) rfl) (pss_one (ps_ret (pe_and (pcall0 D_law_right hr (by decide) rfl (pa_cons (pcall0 Dways_out hr (by decide) rfl (pa_cons (pv 10) (pa_cons (pv 7) pa_nil))) (pa_cons (pv 5) (pa_cons (pv 7) pa_nil)))) (pe_one (pe_cmpR (op_eqDR (Nat.lt_trans (Nat.add_lt_add_left (by decide : 3 < 64) _) hr.units)) (pv 10) (pcall0 D_law_dict hr (by decide) rfl (pa_cons (pv 5) (pa_cons (pv 9) pa_nil))) (nomark _))))))))))))))))))))))))), ?_⟩
  have sl : sizeLine = 16777216 := sizeLine_eq
  refine ⟨_, rfl, a, ns, 0, rfl, hS, (by decide), fun hd => ?_⟩
  refine ⟨_, rfl, _, _, rfl, rfl, ⟨by show (9 : Int) ≠ 0; decide, PyProof.noPylong_small (by decide)⟩, _, _, rfl, rfl, (by show (8 : Int) ≠ 0; decide), _, _, rfl, rfl, ?_⟩
  try dsimp only [gName, tNext]
  refine cut (fun σ H' => H = H' ∧ ∃ m : Int, 1 ≤ m ∧ m ≤ 30 ∧ (hd.fmod 9 ≠ 4 → m ≤ 8) ∧ σ = [some (.ref a), some (.int hd), some (.int m), none, none, none, none, none, none, none, none, none, none, none, none]) (fun N hN => ?_) ?_
  · have t8 := fm (a := hd.fdiv 9) (n := 8) (by decide)
    refine ⟨_, rfl, _, _, rfl, rfl, (by show (9 : Int) ≠ 0; decide), rfl, _, rfl, d2I (fun e => ?_) (fun e => ?_)⟩
    · exact hN _ _ ⟨rfl, 30, by decide, by decide, fun n => absurd e n, rfl⟩
    · exact hN _ _ ⟨rfl, _, by omega, by omega, fun _ => by omega, rfl⟩
  rintro σ _ ⟨rfl, m, m1, m30, m8, rfl⟩
  refine ⟨_, rfl, a, ns, 1, rfl, hS, (by decide), fun c1 => ⟨_, rfl, _, _, rfl, rfl, _, _, rfl, by omega, by omega, fun ln H1 zs g1 el1 lz => ?_⟩⟩
  have hS1 := g1.seq hS
  try dsimp only [gName, tNext]
  refine cut (fun σ H' => H1 = H' ∧ ∃ wd : Bool, (wd = true → hd.fmod 9 ≠ 4) ∧ σ = [some (.ref a), some (.int hd), some (.int m), some (.ref ln), some (.bl wd), none, none, none, none, none, none, none, none, none, none]) (fun N hN => ?_) ?_
  · refine ⟨_, rfl, _, _, rfl, rfl, (by show (9 : Int) ≠ 0; decide), rfl, _, rfl, n2I (fun e => ?_) (fun e => ?_)⟩
    · exact ⟨_, rfl, _, _, rfl, rfl, ⟨by show (144 : Int) ≠ 0; decide, PyProof.noPylong_small (by decide)⟩, _, _, rfl, rfl, (by show (4 : Int) ≠ 0; decide), rfl, hN _ _ ⟨rfl, _, fun _ => e, rfl⟩⟩
    · exact hN _ _ ⟨rfl, _, fun z => by simp [e] at z, rfl⟩
  rintro σ _ ⟨rfl, wd, hwd, rfl⟩
  have bz : bw wd * (zs.length + 2) ≤ 4000 := by
    cases wd with
    | false => show 20 * (zs.length + 2) ≤ 4000; omega
    | true => have := m8 (hwd rfl); show 200 * (zs.length + 2) ≤ 4000; omega
  have b20 := bw_one wd
  refine ⟨_, rfl, _, rfl, _, rfl, _, rfl, _, _, rfl, rfl, ⟨by show (72 : Int) ≠ 0; decide, PyProof.noPylong_small (by decide)⟩, _, _, rfl, rfl, (by show (2 : Int) ≠ 0; decide), rfl, _, rfl, a, ln, ns, 3, m, _, wd, zs, rfl, hS1, h63, el1, by omega, by omega, by omega, fun lp kvs H2 g2 nlp ep pt0 lk => ?_⟩
  obtain ⟨vw, pt⟩ := pt0.choose
  clear pt0
  generalize bw wd = b at bz b20 pt
  have hS2 := g2.seq hS1
  have el2 := g2 _ _ el1
  refine ⟨_, rfl, a, ns, 2, rfl, hS2, (by decide), fun c2 => ?_⟩
  have t2 := fm (a := c2) (n := m + 1) (by omega)
  obtain ⟨good, hgood, gz⟩ := strs_atI (zs := zs) t2.1 (by omega)
  have t3 := fm (a := c2.fdiv 31) (n := m + 1) (by omega)
  obtain ⟨other, hother, oz⟩ := strs_atI (zs := zs) t3.1 (by omega)
  refine ⟨_, rfl, _, rfl, _, rfl, _, _, rfl, rfl, _, _, rfl, rfl, (by show m + 1 ≠ 0; omega), ln, _, _, _, rfl, rfl, SqL.of el2, hgood, ?_⟩
  refine ⟨_, rfl, _, rfl, _, _, rfl, rfl, ⟨by show (31 : Int) ≠ 0; decide, PyProof.noPylong_small (by decide)⟩, _, rfl, _, _, rfl, rfl, _, _, rfl, rfl, (by show m + 1 ≠ 0; omega), ln, _, _, _, rfl, rfl, SqL.of el2, hother, ?_⟩
  have t4 := fm (a := c2.fdiv 7) (n := 2) (by decide)
  obtain ⟨es, ees, les⟩ := cut_strs zs none (some (m * (c2.fdiv 7).fmod 2))
  refine ⟨_, rfl, _, rfl, _, rfl, _, _, rfl, rfl, ⟨by show (7 : Int) ≠ 0; decide, PyProof.noPylong_small (by decide)⟩, _, _, rfl, rfl, (by show (2 : Int) ≠ 0; decide), _, _, rfl, rfl, (show Bd 10 m by unfold Bd; omega).ok (show Bd 10 ((c2.fdiv 7).fmod 2) by unfold Bd; omega), _, rfl, ln, _, rfl, SqL.of el2, fun le nle => ?_⟩
  rw [show cutV (zs.map V.str) none (some (m * (c2.fdiv 7).fmod 2)) = es.map V.str from ees]
  have g5 := same_new nle (.lst (es.map V.str))
  have ele5 : upd H2 le (.lst (es.map V.str)) le = some (.lst (es.map V.str)) := upd_same
  generalize upd H2 le (.lst (es.map V.str)) = H5 at g5 ele5 ⊢
  have pp5 : PP K b vw zs H5 lp kvs := ⟨g5 _ _ ep, pt.same g5, by omega, by omega⟩
  clear ees t2 t3 t4 hgood hother hS1 hS2 el1 el2 g2 g1 ep pt g5 nle
  try dsimp only [gName, tNext]
  refine ⟨_, rfl, _, rfl, lp, le, b, vw, zs, kvs, es, rfl, pp5, ele5, by omega, fun d n dk H6 g6 nd bd n9 tx ks => ?_⟩
  have sd6 : SDok K b vw H6 d (gT kvs) := bd.done (by omega) (fun x y t z => ((pp5.pt.same g6).fr x y t z).1)
  have hU : ∀ x y, StE (gT kvs) x y → y ∈ zs := fun x y h => (StE.in pp5.pt h).2
  refine ⟨_, rfl, _, rfl, d, good, b, zs.length, vw, gT kvs, zs, RtV vw, rfl, sd6, hU, Nat.le_refl _, by omega, by omega, bz, rt_one vw good, fun c p q x t r s h _ f => rt_snoc h f, fun lf cs H7 g7 nlf wo bf => ?_⟩
  refine ⟨_, rfl, _, rfl, _, rfl, lf, lp, b, vw, zs, kvs, good, cs, _, rfl, (pp5.same g6).same g7, gz, bz, by omega, wo, bf, fun H8 g8 => ⟨_, rfl, iteF ?_⟩⟩
  have few := bf.few hU
  obtain ⟨ts, ef, wt⟩ := wo.ex
  have g78 := g7.trans g8
  have ef8 := g8 _ _ ef
  have wt8 := WoT.same (K := K) (b := b) (Rt := RtV vw) (F := fun c => H6 c = none) wt g8
  have nz := fun (j : Nat) (c : List Str) (h : cs[j]? = some c) => bf.ne h
  have lng := bf.long
  clear ef wt wo g7 g8
  try dsimp only [gName, tNext]
  refine cut (fun σ H' => Same H6 H' ∧ H' lf = some (.lst (ts.map V.ref)) ∧ ∃ o12 o13 : Option V, σ = [some (.ref a), some (.int hd), some (.int m), some (.ref ln), some (.bl wd), some (.ref lp), some (.int c2), some (.str good), some (.str other), some (.ref le), some (.ref d), some (.ref lf), o12, o13, none]) (fun N hN => ?_) ?_
  · refine ⟨_, rfl, lf, rfl, ⟨_, SqL.of ef8⟩, for_list (xs := ts.map V.ref) (fun i σ H' => Same H6 H' ∧ H' lf = some (.lst (ts.map V.ref)) ∧ (∀ (j : Nat) (t : Addr), ts[j]? = some t → ∃ (cl rl : Addr) (xs : List V), H' t = some (.tup [.ref cl, .ref rl]) ∧ H' cl = some (.lst xs) ∧ xs.length ≤ 110 + i ∧ H6 cl = none ∧ cl ≠ lf) ∧ ∃ o12 o13 : Option V, σ = [some (.ref a), some (.int hd), some (.int m), some (.ref ln), some (.bl wd), some (.ref lp), some (.int c2), some (.str good), some (.str other), some (.ref le), some (.ref d), some (.ref lf), o12, o13, none]) ?_ (fun i σ H' _ h => SqL.of h.2.1) ?_ ?_⟩
    · refine ⟨g78, ef8, fun j t ht => ?_, none, none, rfl⟩
      have jl : j < cs.length := by rw [← wt8.1]; exact (List.getElem?_eq_some_iff.mp ht).1
      have hc := List.getElem?_eq_getElem jl
      obtain ⟨cl, rl, p, q', et, ecl, _, _, fc, _⟩ := wt8.2 j t _ ht hc
      have := lng j _ hc
      exact ⟨cl, rl, _, et, ecl, by rw [List.length_map]; omega, fc, ne_of ecl ef8 (fun z => by injection z with z; exact refs_strs (nz j _ hc) z)⟩
    · rintro i x σ H9 hx ⟨g9, ef9, al, o12, o13, rfl⟩
      rw [List.getElem?_map] at hx
      obtain ⟨t, ht, rfl⟩ := Option.map_eq_some_iff.mp hx
      have il := (List.getElem?_eq_some_iff.mp ht).1
      obtain ⟨cl, rl, xs, et, ecl, lx, fc, nf⟩ := al i t ht
      refine ⟨t, _, rfl, SqT.of et, rfl, _, _, rfl, _, _, rfl, rfl, ?_⟩
      have lcs : ts.length ≤ 102 := by rw [wt8.1]; omega
      refine ⟨_, rfl, .inl ⟨rfl, _, SqL.of ecl⟩, cl, _, _, rfl, rfl, ecl, by omega, sUpd g9 fc _, by rw [upd_ne (Ne.symm nf)]; exact ef9, fun j t' ht' => ?_, _, _, rfl⟩
      obtain ⟨cl', rl', xs', et', ecl', lx', fc', nf'⟩ := al j t' ht'
      have tc : t' ≠ cl := ne_of et' ecl (fun z => nomatch z)
      by_cases e : cl' = cl
      · subst e
        exact ⟨cl', rl', _, by rw [upd_ne tc]; exact et', upd_same, by rw [List.length_append, List.length_singleton]; omega, fc', nf'⟩
      · exact ⟨cl', rl', xs', by rw [upd_ne tc]; exact et', by rw [upd_ne e]; exact ecl', by omega, fc', nf'⟩
    · rintro σ H9 ⟨g9, ef9, _, o12, o13, rfl⟩
      exact hN _ _ ⟨g9, ef9, o12, o13, rfl⟩
  rintro σ H9 ⟨g9, ef9, o12, o13, rfl⟩
  refine ⟨_, rfl, .inl ⟨rfl, _, SqL.of ef9⟩, lf, _, _, rfl, rfl, ef9, by rw [List.length_map, wt8.1]; omega, ?_⟩
  have g10 := sUpd (o := .lst (ts.map V.ref ++ [.non])) g9 nlf
  generalize upd H9 lf (.lst (ts.map V.ref ++ [.non])) = H10 at g10 ⊢
  clear ef8 wt8 nz lng bf few g78 g9 ef9 nlf
  have pp10 := (pp5.same g6).same g10
  try dsimp only [gName, tNext]
  refine cut (fun σ H' => Same H6 H' ∧ σ = [some (.ref a), some (.int hd), some (.int m), some (.ref ln), some (.bl wd), some (.ref lp), some (.int c2), some (.str good), some (.str other), some (.ref le), some (.ref d), some (.ref lf), o12, o13, none]) (fun N hN => ?_) ?_
  · refine ⟨_, rfl, _, rfl, d, other, b, zs.length, vw, gT kvs, zs, RtV vw, rfl, sd6.same g10, hU, Nat.le_refl _, by omega, by omega, bz, rt_one vw other, fun c p q x t r s h _ f => rt_snoc h f, fun lf2 cs2 H11 g11 _ wo2 bf2 => ?_⟩
    refine ⟨_, rfl, _, rfl, lf2, lp, b, vw, zs, kvs, other, cs2, _, rfl, pp10.same g11, oz, bz, by omega, wo2, bf2, fun H12 g12 => ⟨_, rfl, iteF ?_⟩⟩
    have g1012 := g11.trans g12
    refine ⟨_, rfl, _, rfl, _, rfl, lp, le, b, vw, zs, kvs, es, rfl, pp10.same g1012, (g10.trans g1012) _ _ (g6 _ _ ele5), by omega, fun d2 n2 dk2 H13 g13 nd2 bd2 _ tx2 ks2 => ?_⟩
    have g613 := (g10.trans g1012).trans g13
    refine ⟨d, d2, rfl, rfl, deq_of (bd.same g613) bd2 tx tx2 (fun x => (ks x).trans (ks2 x).symm) (fun x y t z => ?_) (fun x y t z => ⟨t, z⟩), _, rfl, iteF (hN _ _ ⟨g613, rfl⟩)⟩
    have f := ((pp5.pt.same g6).same g613).fr x y t z
    exact ⟨t, _, _, z, f.1.at_, f.1.at_⟩
  clear pp10 g10
  rintro σ H13 ⟨g613, rfl⟩
  have bd13 := bd.same g613
  have g513 := g6.trans g613
  clear sd6
  try dsimp only [gName, tNext]
  refine cut (fun σ H' => Same H5 H' ∧ ∃ (ra : Addr) (row0 : List (Str × Addr)) (dk' : List (Key × V)), σ = [some (.ref a), some (.int hd), some (.int m), some (.ref ln), some (.bl wd), some (.ref lp), some (.int c2), some (.str good), some (.str other), some (.ref le), some (.ref d), some (.ref lf), o12, o13, some (.ref ra)] ∧ BD H5 H' d (n + 1) dk' (gT kvs) ∧ valV dk' (.inr good) = some (.ref ra) ∧ H' ra = some (.dK (rowK row0)) ∧ H5 ra = none ∧ row0.length ≤ 200 ∧ TxtK dk' ∧ ∀ x, valV dk' (.inr x) ≠ none ↔ ((∃ y, StE (gT kvs) x y) ∨ x ∈ es) ∨ x = good) (fun N hN => ?_) ?_
  · refine ⟨_, rfl, .inr (.inr (.inl ⟨rfl, .inl ⟨_, bd13.at_⟩⟩)), _, rfl, fun pn hn => ?_⟩
    have k1 := same_new hn (.dK [])
    have bd14 := bd13.same k1
    have few := bd.few
    refine ⟨d, dk, .inr good, .ref pn, rfl, rfl, bd14.at_, by omega, fun w' hw => ?_, fun hw => ?_⟩
    · rcases bd14.ex good with ⟨z, _⟩ | ⟨ra, row0, q1, q2, q3, q4, q5, q6, q7⟩
      · rw [hw] at z; cases z
      · rw [hw] at q1
        cases q1
        refine hN _ _ ⟨g513.trans k1, ra, row0, dk, rfl, bd14.mono (by omega), hw, q2, q3, by omega, tx, fun x => ⟨fun z => .inl ((ks x).mp z), fun z => ?_⟩⟩
        rcases z with z | rfl
        · exact (ks x).mpr z
        · rw [hw]; exact nofun
    · have pd : pn ≠ d := fun e => by rw [e, bd13.at_] at hn; cases hn
      have hnH : H5 pn = none := g513.free hn
      have b4 := bd14.open hw (show upd H13 pn (.dK []) pn = some (.dK (rowK [])) from upd_same) hnH pd (bd13.new hn)
      refine hN _ _ ⟨sUpd (g513.trans k1) nd _, pn, [], _, rfl, b4, by rw [valV_put, if_pos rfl], by rw [upd_ne pd]; exact upd_same, hnH, Nat.zero_le _, txt_put tx _ _, fun x => ?_⟩
      rw [valV_put]
      by_cases c : x = good
      · rw [if_pos (by rw [c])]
        exact ⟨fun _ => .inr c, fun _ => nofun⟩
      · rw [if_neg (fun z => c (by injection z))]
        exact ⟨fun z => .inl ((ks x).mp z), fun z => z.elim (ks x).mpr fun z => absurd z c⟩
  clear bd13 g513 g613 bd tx ks g6
  rintro σ H14 ⟨g14, ra, row0, dk', rfl, bd, hv, era, nra, lr0, tx, ks⟩
  refine ⟨(by show 2 ≤ sizeLine; decide), fun t7 n7 => ?_⟩
  have k7 := same_new n7 (.tup [.int 7, .int 3])
  have rl0 : (rowK row0).length = row0.length := List.length_map _
  refine ⟨_, rfl, _, rfl, ra, _, rfl, DPut.k (k := .inr other) (k7 _ _ era) (by omega), ?_⟩
  have bdc := (bd.same k7).put (g' := fun x y => if x = good ∧ y = other then some t7 else gT kvs x y) hv (k7 _ _ era) (fun x y => rfl)
  have gc := sUpd (o := .dK (putK (rowK row0) (.inr other) (.ref t7))) (g14.trans k7) nra
  have rt7 : t7 ≠ ra := fun e => by rw [e, era] at n7; cases n7
  have e7 : upd (upd H14 t7 (.tup [.int 7, .int 3])) ra (.dK (putK (rowK row0) (.inr other) (.ref t7))) t7 = some (.tup [.int 7, .int 3]) := by rw [upd_ne rt7]; exact upd_same
  generalize upd (upd H14 t7 (.tup [.int 7, .int 3])) ra (.dK (putK (rowK row0) (.inr other) (.ref t7))) = H15 at bdc gc e7 ⊢
  clear bd g14 era k7 n7 rt7 hv nra
  refine ⟨(by show 2 ≤ sizeLine; decide), fun t8 n8 => ?_⟩
  have k8 := same_new n8 (.tup [.int 7, .int 3])
  refine ⟨_, rfl, _, rfl, _, rfl, (by show 2 ≤ sizeLine; decide), fun t9 n10 => ?_⟩
  have k89 := k8.trans (same_new n10 (.tup [.str good, .str other]))
  have elp := k89 _ _ (gc _ _ pp5.at_)
  refine ⟨lp, _, rfl, DPut.t (k := [.inr good, .inr other]) elp upd_same (by omega), ?_⟩
  have e8 := same_new n10 (.tup [.str good, .str other]) _ _ (upd_same (H := H15) (a := t8) (o := .tup [.int 7, .int 3]))
  have e7' := k89 _ _ e7
  have gcc := gc.trans k89
  have bdd := (bdc.same k89).updO (l := lp) (by rw [pp5.at_]; exact nofun) nd (.dT (putK kvs [.inr good, .inr other] (.ref t8)))
  generalize upd (upd H15 t8 (.tup [.int 7, .int 3])) t9 (.tup [.str good, .str other]) = H16 at elp e8 e7' gcc bdd ⊢
  have kp : ∀ c u, c ≠ lp → H16 c = some u → upd H16 lp (.dT (putK kvs [.inr good, .inr other] (.ref t8))) c = some u := fun c u hc z => by rw [upd_ne hc]; exact z
  have e8d := kp _ _ (ne_of e8 elp (fun z => nomatch z)) e8
  have e7d := kp _ _ (ne_of e7' elp (fun z => nomatch z)) e7'
  have eled := kp _ _ (ne_of (gcc _ _ ele5) elp (fun z => nomatch z)) (gcc _ _ ele5)
  have elpd : upd H16 lp (.dT (putK kvs [.inr good, .inr other] (.ref t8))) lp = some (.dT (putK kvs [.inr good, .inr other] (.ref t8))) := upd_same
  have frd : ∀ x y t, gT kvs x y = some t → FrIn K b (upd H16 lp (.dT (putK kvs [.inr good, .inr other] (.ref t8)))) t (vw x y).1 (vw x y).2 ∧ 0 < (vw x y).1 := fun x y t z => by
    obtain ⟨f, p0⟩ := (pp5.pt.same gcc).fr x y t z
    refine ⟨⟨?_, f.pos, f.bp, f.bq⟩, p0⟩
    rcases f.at_ with (w' | ⟨o, w'⟩) | w'
    · exact .inl (.inl (kp _ _ (ne_of w' elp (fun z => nomatch z)) w'))
    · exact .inl (.inr ⟨o, kp _ _ (ne_of w' elp (fun z => nomatch z)) w'⟩)
    · exact .inr w'
  generalize upd H16 lp (.dT (putK kvs [.inr good, .inr other] (.ref t8))) = H17 at bdd e8d e7d eled elpd frd ⊢
  clear kp elp e8 e7' gcc k89 k8 n8 n10 bdc gc e7
  have b7 : Bd b 7 := (show Bd 20 7 by unfold Bd; decide).mono b20
  have b3 : Bd b 3 := (show Bd 20 3 by unfold Bd; decide).mono b20
  have f7 : FrIn K b H17 t7 7 3 := ⟨SqT.of e7d, by decide, b7, b3⟩
  have f8 : FrIn K b H17 t8 7 3 := ⟨SqT.of e8d, by decide, b7, b3⟩
  have gp := gT_put kvs good other t8
  obtain ⟨vx, hvx⟩ : ∃ vx : Str → Str → Int × Int, vx = fun x y => if x = good ∧ y = other then (7, 3) else vw x y := ⟨_, rfl⟩
  have vpos : vx good other = (7, 3) := by rw [hvx]; exact if_pos ⟨rfl, rfl⟩
  have vneg : ∀ x y, ¬ (x = good ∧ y = other) → vx x y = vw x y := fun x y c => by rw [hvx]; exact if_neg c
  clear hvx
  have pp17 : PP K b vx zs H17 lp (putK kvs [.inr good, .inr other] (.ref t8)) := by
    refine ⟨elpd, ⟨fun k v z => ?_, fun x y t z => ?_⟩, Nat.le_trans (length_putK _ _ _) (by omega), by omega⟩
    · unfold putK at z
      split at z
      · obtain ⟨⟨k', v'⟩, hm, e⟩ := List.mem_map.mp z
        by_cases c : k' = [.inr good, .inr other]
        · rw [if_pos c] at e
          cases e
          exact ⟨good, other, t8, c, rfl, gz, oz⟩
        · rw [if_neg c] at e
          cases e
          exact pp5.pt.at_ _ _ hm
      · rcases List.mem_append.mp z with z | z
        · exact pp5.pt.at_ _ _ z
        · cases List.mem_singleton.mp z
          exact ⟨good, other, t8, rfl, rfl, gz, oz⟩
    · rw [gp] at z
      by_cases c : x = good ∧ y = other
      · rw [if_pos c] at z
        cases z
        obtain ⟨rfl, rfl⟩ := c
        rw [vpos]
        exact ⟨f8, by decide⟩
      · rw [if_neg c] at z
        rw [vneg x y c]
        exact frd x y t z
  have sd17 : SDok K b vx H17 d (fun x y => if x = good ∧ y = other then some t7 else gT kvs x y) := bdd.done (by omega) fun x y t z => by
    by_cases c : x = good ∧ y = other
    · rw [if_pos c] at z
      cases z
      obtain ⟨rfl, rfl⟩ := c
      rw [vpos]
      exact f7
    · rw [if_neg c] at z
      rw [vneg x y c]
      exact (frd x y t z).1
  have rel : StE (fun x y => if x = good ∧ y = other then some t7 else gT kvs x y) = StE (gT (putK kvs [.inr good, .inr other] (.ref t8))) := by
    funext x y
    unfold StE
    rw [gp]
    show (∃ t, (if x = good ∧ y = other then some t7 else gT kvs x y) = some t) = ∃ t, (if x = good ∧ y = other then some t8 else gT kvs x y) = some t
    by_cases c : x = good ∧ y = other
    · rw [if_pos c, if_pos c]
      exact propext ⟨fun _ => ⟨_, rfl⟩, fun _ => ⟨_, rfl⟩⟩
    · rw [if_neg c, if_neg c]
  have hU2 : ∀ x y, StE (fun x y => if x = good ∧ y = other then some t7 else gT kvs x y) x y → y ∈ zs := fun x y h => by
    rw [rel] at h
    exact (StE.in pp17.pt h).2
  refine ⟨_, rfl, _, rfl, d, good, b, zs.length, vx, _, zs, RtV vx, rfl, sd17, hU2, Nat.le_refl _, by omega, by omega, bz, rt_one vx good, fun c p q x t r s h _ f => rt_snoc h f, fun lf3 cs3 H18 g18 _ wo3 bf3 => ?_⟩
  rw [rel] at bf3
  refine ⟨_, rfl, _, rfl, lf3, lp, b, vx, zs, _, good, cs3, _, rfl, pp17.same g18, gz, bz, by omega, wo3, bf3, fun H19 g19 => ⟨_, rfl, iteT ?_⟩⟩
  have g1719 := g18.trans g19
  refine ⟨_, rfl, _, rfl, _, rfl, lp, le, b, vx, zs, _, es, rfl, pp17.same g1719, g1719 _ _ eled, by omega, fun d3 n3 dk3 H20 g20 _ bd3 _ tx3 ks3 => ?_⟩
  have g1720 := g1719.trans g20
  refine ⟨d, d3, rfl, rfl, deq_of (bdd.same g1720) bd3 tx tx3 (fun x => ?_) (fun x y t z => ?_) (fun x y t z => ?_), q _⟩
  · rw [ks, ks3]
    constructor
    · rintro ((⟨y, e⟩ | e) | rfl)
      · refine .inl ⟨y, ?_⟩
        rw [← rel]
        obtain ⟨t, ht⟩ := e
        by_cases c : x = good ∧ y = other
        · exact ⟨t7, if_pos c⟩
        · exact ⟨t, (if_neg c).trans ht⟩
      · exact .inr e
      · exact .inl ⟨other, by rw [← rel]; exact ⟨t7, if_pos ⟨rfl, rfl⟩⟩⟩
    · rintro (⟨y, e⟩ | e)
      · rw [← rel] at e
        obtain ⟨t, ht⟩ := e
        by_cases c : x = good ∧ y = other
        · exact .inr c.1
        · exact .inl (.inl ⟨y, t, (if_neg c).symm.trans ht⟩)
      · exact .inl (.inr e)
  · rw [gp]
    by_cases c : x = good ∧ y = other
    · rw [if_pos c] at z
      cases z
      exact ⟨t8, 7, 3, if_pos c, SqT.of (g1720 _ _ e7d), SqT.of (g1720 _ _ e8d)⟩
    · rw [if_neg c] at z
      have f := ((frd x y t z).1.same g1720).at_
      exact ⟨t, _, _, (if_neg c).trans z, f, f⟩
  · rw [gp] at z
    by_cases c : x = good ∧ y = other
    · exact ⟨t7, if_pos c⟩
    · rw [if_neg c] at z
      exact ⟨t, (if_neg c).trans z⟩

end
set_option maxHeartbeats 4000000 in
theorem all_mk {l : PySem.W.OpenLaw} {w : World} {K : PySem.W.Frag} {h : Heap} {mg : Str → Option Value} {fa fis_whole fdivisor ffraction fproduct fways_out f_law_cell_at f_law_names f_law_divisor_of f_law_lowest f_law_ratio f_law_pairs f_law_dict f_law_steps f_law_along f_law_whole f_law_pair f_law_right flaw c_NoNumber c_StoveError : Addr} (X : K.In h) (G : h.Ns mainGlobals mg) (hfa : mg "law" = some (.ref fa))
    {odis_whole anis_whole : Option Addr} {slis_whole : Array (Option Value)} {ocis_whole kVis_whole dcis_whole pmis_whole cdis_whole ctis_whole : Value}
    {oddivisor andivisor : Option Addr} {sldivisor : Array (Option Value)} {ocdivisor kVdivisor dcdivisor pmdivisor cddivisor ctdivisor : Value}
    {odfraction anfraction : Option Addr} {slfraction : Array (Option Value)} {ocfraction kVfraction dcfraction pmfraction cdfraction ctfraction : Value}
    {odproduct anproduct : Option Addr} {slproduct : Array (Option Value)} {ocproduct kVproduct dcproduct pmproduct cdproduct ctproduct : Value}
    {odways_out anways_out : Option Addr} {slways_out : Array (Option Value)} {ocways_out kVways_out dcways_out pmways_out cdways_out ctways_out : Value}
    {od_law_cell_at an_law_cell_at : Option Addr} {sl_law_cell_at : Array (Option Value)} {oc_law_cell_at kV_law_cell_at dc_law_cell_at pm_law_cell_at cd_law_cell_at ct_law_cell_at : Value}
    {od_law_names an_law_names : Option Addr} {sl_law_names : Array (Option Value)} {oc_law_names kV_law_names dc_law_names pm_law_names cd_law_names ct_law_names : Value}
    {od_law_divisor_of an_law_divisor_of : Option Addr} {sl_law_divisor_of : Array (Option Value)} {oc_law_divisor_of kV_law_divisor_of dc_law_divisor_of pm_law_divisor_of cd_law_divisor_of ct_law_divisor_of : Value}
    {od_law_lowest an_law_lowest : Option Addr} {sl_law_lowest : Array (Option Value)} {oc_law_lowest kV_law_lowest dc_law_lowest pm_law_lowest cd_law_lowest ct_law_lowest : Value}
    {od_law_ratio an_law_ratio : Option Addr} {sl_law_ratio : Array (Option Value)} {oc_law_ratio kV_law_ratio dc_law_ratio pm_law_ratio cd_law_ratio ct_law_ratio : Value}
    {od_law_pairs an_law_pairs : Option Addr} {sl_law_pairs : Array (Option Value)} {oc_law_pairs kV_law_pairs dc_law_pairs pm_law_pairs cd_law_pairs ct_law_pairs : Value}
    {od_law_dict an_law_dict : Option Addr} {sl_law_dict : Array (Option Value)} {oc_law_dict kV_law_dict dc_law_dict pm_law_dict cd_law_dict ct_law_dict : Value}
    {od_law_steps an_law_steps : Option Addr} {sl_law_steps : Array (Option Value)} {oc_law_steps kV_law_steps dc_law_steps pm_law_steps cd_law_steps ct_law_steps : Value}
    {od_law_along an_law_along : Option Addr} {sl_law_along : Array (Option Value)} {oc_law_along kV_law_along dc_law_along pm_law_along cd_law_along ct_law_along : Value}
    {od_law_whole an_law_whole : Option Addr} {sl_law_whole : Array (Option Value)} {oc_law_whole kV_law_whole dc_law_whole pm_law_whole cd_law_whole ct_law_whole : Value}
    {od_law_pair an_law_pair : Option Addr} {sl_law_pair : Array (Option Value)} {oc_law_pair kV_law_pair dc_law_pair pm_law_pair cd_law_pair ct_law_pair : Value}
    {od_law_right an_law_right : Option Addr} {sl_law_right : Array (Option Value)} {oc_law_right kV_law_right dc_law_right pm_law_right cd_law_right ct_law_right : Value}
    {odlaw anlaw : Option Addr} {sllaw : Array (Option Value)} {oclaw kVlaw dclaw pmlaw cdlaw ctlaw : Value}
    {Tfraction : Addr} {Tofraction : Value} {Tdfraction : Option Addr} {Tnfraction : Nat} {Tsfraction : Array (Option Value)} {Ttfraction : Tok}
    (ais_whole : PySem.W.nsIn K mainGlobals "is_whole" = some (some (.ref fis_whole)))
    (lis_whole : K.lookup fis_whole = some ⟨ocis_whole, odis_whole, .func (PySem.W.fnOf "is_whole" "is_whole" (defArgs sis_whole) (defBody sis_whole) (defScope sis_whole) .none kVis_whole dcis_whole pmis_whole anis_whole cdis_whole ctis_whole), slis_whole⟩) (cis_whole : PySem.W.codeIn K cdis_whole "is_whole" = true) (kis_whole : PySem.W.keepIn K (.ref fis_whole) = true)
    (adivisor : PySem.W.nsIn K mainGlobals "divisor" = some (some (.ref fdivisor)))
    (ldivisor : K.lookup fdivisor = some ⟨ocdivisor, oddivisor, .func (PySem.W.fnOf "divisor" "divisor" (defArgs sdivisor) (defBody sdivisor) (defScope sdivisor) .none kVdivisor dcdivisor pmdivisor andivisor cddivisor ctdivisor), sldivisor⟩) (cdivisor : PySem.W.codeIn K cddivisor "divisor" = true) (kdivisor : PySem.W.keepIn K (.ref fdivisor) = true)
    (afraction : PySem.W.nsIn K mainGlobals "fraction" = some (some (.ref ffraction)))
    (lfraction : K.lookup ffraction = some ⟨ocfraction, odfraction, .func (PySem.W.fnOf "fraction" "fraction" (defArgs sfraction) (defBody sfraction) (defScope sfraction) (.ref Tfraction) kVfraction dcfraction pmfraction anfraction cdfraction ctfraction), slfraction⟩) (cfraction : PySem.W.codeIn K cdfraction "fraction" = true) (kfraction : PySem.W.keepIn K (.ref ffraction) = true)
    (aproduct : PySem.W.nsIn K mainGlobals "product" = some (some (.ref fproduct)))
    (lproduct : K.lookup fproduct = some ⟨ocproduct, odproduct, .func (PySem.W.fnOf "product" "product" (defArgs sproduct) (defBody sproduct) (defScope sproduct) .none kVproduct dcproduct pmproduct anproduct cdproduct ctproduct), slproduct⟩) (cproduct : PySem.W.codeIn K cdproduct "product" = true) (kproduct : PySem.W.keepIn K (.ref fproduct) = true)
    (aways_out : PySem.W.nsIn K mainGlobals "ways_out" = some (some (.ref fways_out)))
    (lways_out : K.lookup fways_out = some ⟨ocways_out, odways_out, .func (PySem.W.fnOf "ways_out" "ways_out" (defArgs sways_out) (defBody sways_out) (defScope sways_out) .none kVways_out dcways_out pmways_out anways_out cdways_out ctways_out), slways_out⟩) (cways_out : PySem.W.codeIn K cdways_out "ways_out" = true) (kways_out : PySem.W.keepIn K (.ref fways_out) = true)
    (a_law_cell_at : PySem.W.nsIn K mainGlobals "_law_cell_at" = some (some (.ref f_law_cell_at)))
    (l_law_cell_at : K.lookup f_law_cell_at = some ⟨oc_law_cell_at, od_law_cell_at, .func (PySem.W.fnOf "_law_cell_at" "_law_cell_at" (defArgs s_law_cell_at) (defBody s_law_cell_at) (defScope s_law_cell_at) .none kV_law_cell_at dc_law_cell_at pm_law_cell_at an_law_cell_at cd_law_cell_at ct_law_cell_at), sl_law_cell_at⟩) (c_law_cell_at : PySem.W.codeIn K cd_law_cell_at "_law_cell_at" = true) (k_law_cell_at : PySem.W.keepIn K (.ref f_law_cell_at) = true)
    (a_law_names : PySem.W.nsIn K mainGlobals "_law_names" = some (some (.ref f_law_names)))
    (l_law_names : K.lookup f_law_names = some ⟨oc_law_names, od_law_names, .func (PySem.W.fnOf "_law_names" "_law_names" (defArgs s_law_names) (defBody s_law_names) (defScope s_law_names) .none kV_law_names dc_law_names pm_law_names an_law_names cd_law_names ct_law_names), sl_law_names⟩) (c_law_names : PySem.W.codeIn K cd_law_names "_law_names" = true) (k_law_names : PySem.W.keepIn K (.ref f_law_names) = true)
    (a_law_divisor_of : PySem.W.nsIn K mainGlobals "_law_divisor_of" = some (some (.ref f_law_divisor_of)))
    (l_law_divisor_of : K.lookup f_law_divisor_of = some ⟨oc_law_divisor_of, od_law_divisor_of, .func (PySem.W.fnOf "_law_divisor_of" "_law_divisor_of" (defArgs s_law_divisor_of) (defBody s_law_divisor_of) (defScope s_law_divisor_of) .none kV_law_divisor_of dc_law_divisor_of pm_law_divisor_of an_law_divisor_of cd_law_divisor_of ct_law_divisor_of), sl_law_divisor_of⟩) (c_law_divisor_of : PySem.W.codeIn K cd_law_divisor_of "_law_divisor_of" = true) (k_law_divisor_of : PySem.W.keepIn K (.ref f_law_divisor_of) = true)
    (a_law_lowest : PySem.W.nsIn K mainGlobals "_law_lowest" = some (some (.ref f_law_lowest)))
    (l_law_lowest : K.lookup f_law_lowest = some ⟨oc_law_lowest, od_law_lowest, .func (PySem.W.fnOf "_law_lowest" "_law_lowest" (defArgs s_law_lowest) (defBody s_law_lowest) (defScope s_law_lowest) .none kV_law_lowest dc_law_lowest pm_law_lowest an_law_lowest cd_law_lowest ct_law_lowest), sl_law_lowest⟩) (c_law_lowest : PySem.W.codeIn K cd_law_lowest "_law_lowest" = true) (k_law_lowest : PySem.W.keepIn K (.ref f_law_lowest) = true)
    (a_law_ratio : PySem.W.nsIn K mainGlobals "_law_ratio" = some (some (.ref f_law_ratio)))
    (l_law_ratio : K.lookup f_law_ratio = some ⟨oc_law_ratio, od_law_ratio, .func (PySem.W.fnOf "_law_ratio" "_law_ratio" (defArgs s_law_ratio) (defBody s_law_ratio) (defScope s_law_ratio) .none kV_law_ratio dc_law_ratio pm_law_ratio an_law_ratio cd_law_ratio ct_law_ratio), sl_law_ratio⟩) (c_law_ratio : PySem.W.codeIn K cd_law_ratio "_law_ratio" = true) (k_law_ratio : PySem.W.keepIn K (.ref f_law_ratio) = true)
    (a_law_pairs : PySem.W.nsIn K mainGlobals "_law_pairs" = some (some (.ref f_law_pairs)))
    (l_law_pairs : K.lookup f_law_pairs = some ⟨oc_law_pairs, od_law_pairs, .func (PySem.W.fnOf "_law_pairs" "_law_pairs" (defArgs s_law_pairs) (defBody s_law_pairs) (defScope s_law_pairs) .none kV_law_pairs dc_law_pairs pm_law_pairs an_law_pairs cd_law_pairs ct_law_pairs), sl_law_pairs⟩) (c_law_pairs : PySem.W.codeIn K cd_law_pairs "_law_pairs" = true) (k_law_pairs : PySem.W.keepIn K (.ref f_law_pairs) = true)
    (a_law_dict : PySem.W.nsIn K mainGlobals "_law_dict" = some (some (.ref f_law_dict)))
    (l_law_dict : K.lookup f_law_dict = some ⟨oc_law_dict, od_law_dict, .func (PySem.W.fnOf "_law_dict" "_law_dict" (defArgs s_law_dict) (defBody s_law_dict) (defScope s_law_dict) .none kV_law_dict dc_law_dict pm_law_dict an_law_dict cd_law_dict ct_law_dict), sl_law_dict⟩) (c_law_dict : PySem.W.codeIn K cd_law_dict "_law_dict" = true) (k_law_dict : PySem.W.keepIn K (.ref f_law_dict) = true)
    (a_law_steps : PySem.W.nsIn K mainGlobals "_law_steps" = some (some (.ref f_law_steps)))
    (l_law_steps : K.lookup f_law_steps = some ⟨oc_law_steps, od_law_steps, .func (PySem.W.fnOf "_law_steps" "_law_steps" (defArgs s_law_steps) (defBody s_law_steps) (defScope s_law_steps) .none kV_law_steps dc_law_steps pm_law_steps an_law_steps cd_law_steps ct_law_steps), sl_law_steps⟩) (c_law_steps : PySem.W.codeIn K cd_law_steps "_law_steps" = true) (k_law_steps : PySem.W.keepIn K (.ref f_law_steps) = true)
    (a_law_along : PySem.W.nsIn K mainGlobals "_law_along" = some (some (.ref f_law_along)))
    (l_law_along : K.lookup f_law_along = some ⟨oc_law_along, od_law_along, .func (PySem.W.fnOf "_law_along" "_law_along" (defArgs s_law_along) (defBody s_law_along) (defScope s_law_along) .none kV_law_along dc_law_along pm_law_along an_law_along cd_law_along ct_law_along), sl_law_along⟩) (c_law_along : PySem.W.codeIn K cd_law_along "_law_along" = true) (k_law_along : PySem.W.keepIn K (.ref f_law_along) = true)
    (a_law_whole : PySem.W.nsIn K mainGlobals "_law_whole" = some (some (.ref f_law_whole)))
    (l_law_whole : K.lookup f_law_whole = some ⟨oc_law_whole, od_law_whole, .func (PySem.W.fnOf "_law_whole" "_law_whole" (defArgs s_law_whole) (defBody s_law_whole) (defScope s_law_whole) .none kV_law_whole dc_law_whole pm_law_whole an_law_whole cd_law_whole ct_law_whole), sl_law_whole⟩) (c_law_whole : PySem.W.codeIn K cd_law_whole "_law_whole" = true) (k_law_whole : PySem.W.keepIn K (.ref f_law_whole) = true)
    (a_law_pair : PySem.W.nsIn K mainGlobals "_law_pair" = some (some (.ref f_law_pair)))
    (l_law_pair : K.lookup f_law_pair = some ⟨oc_law_pair, od_law_pair, .func (PySem.W.fnOf "_law_pair" "_law_pair" (defArgs s_law_pair) (defBody s_law_pair) (defScope s_law_pair) .none kV_law_pair dc_law_pair pm_law_pair an_law_pair cd_law_pair ct_law_pair), sl_law_pair⟩) (c_law_pair : PySem.W.codeIn K cd_law_pair "_law_pair" = true) (k_law_pair : PySem.W.keepIn K (.ref f_law_pair) = true)
    (a_law_right : PySem.W.nsIn K mainGlobals "_law_right" = some (some (.ref f_law_right)))
    (l_law_right : K.lookup f_law_right = some ⟨oc_law_right, od_law_right, .func (PySem.W.fnOf "_law_right" "_law_right" (defArgs s_law_right) (defBody s_law_right) (defScope s_law_right) .none kV_law_right dc_law_right pm_law_right an_law_right cd_law_right ct_law_right), sl_law_right⟩) (c_law_right : PySem.W.codeIn K cd_law_right "_law_right" = true) (k_law_right : PySem.W.keepIn K (.ref f_law_right) = true)
    (alaw : PySem.W.nsIn K mainGlobals "law" = some (some (.ref flaw)))
    (llaw : K.lookup flaw = some ⟨oclaw, odlaw, .func (PySem.W.fnOf "law" "law" (defArgs slaw) (defBody slaw) (defScope slaw) .none kVlaw dclaw pmlaw anlaw cdlaw ctlaw), sllaw⟩) (claw : PySem.W.codeIn K cdlaw "law" = true) (klaw : PySem.W.keepIn K (.ref flaw) = true)
    (zb_abs : PySem.W.nsIn K mainGlobals "abs" = some none)
    (zb_len : PySem.W.nsIn K mainGlobals "len" = some none)
    (zb_isinstance : PySem.W.nsIn K mainGlobals "isinstance" = some none)
    (zb_int : PySem.W.nsIn K mainGlobals "int" = some none)
    (zb_bool : PySem.W.nsIn K mainGlobals "bool" = some none)
    (zb_range : PySem.W.nsIn K mainGlobals "range" = some none)
    (zb_sorted : PySem.W.nsIn K mainGlobals "sorted" = some none)
    (zb_list : PySem.W.nsIn K mainGlobals "list" = some none)
    (zb_tuple : PySem.W.nsIn K mainGlobals "tuple" = some none)
    (zb_str : PySem.W.nsIn K mainGlobals "str" = some none)
    (zb_set : PySem.W.nsIn K mainGlobals "set" = some none)
    (zm_NoNumber : PySem.W.nsIn K mainGlobals "NoNumber" = some (some (.ref c_NoNumber)))
    (zm_StoveError : PySem.W.nsIn K mainGlobals "StoveError" = some (some (.ref c_StoveError)))
    (dfraction : K.lookup Tfraction = some ⟨Tofraction, Tdfraction, .seq #[.int 1 Ttfraction] Tnfraction, Tsfraction⟩)
    (zx_NoNumber : PySem.W.excIn K c_NoNumber bmV "ValueError.__new__" = true)
    (zi_NoNumber : XI K c_NoNumber)
    : ∃ fd : FuncData, (∀ (s : Shared) (v : Value), BindsTo s fd ⟨[v], []⟩ [("_law_script", v)]) ∧ ∀ base : Heap, K.In base → base.Ns mainGlobals mg → FnOk l.prog w K mg base CX0 6 fa fd ["_law_script"] (spLaw K) := by
  have e := hfa.symm.trans (PySem.W.mg_of X G alaw)
  cases e
  have B : Bn K mg c_NoNumber c_StoveError := ⟨PySem.W.mg_none_of X G zb_abs, PySem.W.mg_none_of X G zb_len, PySem.W.mg_none_of X G zb_isinstance, PySem.W.mg_none_of X G zb_int, PySem.W.mg_none_of X G zb_bool, PySem.W.mg_none_of X G zb_range, PySem.W.mg_none_of X G zb_sorted, PySem.W.mg_none_of X G zb_list, PySem.W.mg_none_of X G zb_tuple, PySem.W.mg_none_of X G zb_str, PySem.W.mg_none_of X G zb_set, PySem.W.mg_of X G zm_NoNumber, PySem.W.mg_of X G zm_StoveError, zx_NoNumber, zi_NoNumber⟩
  have Fis_whole := funD_mk (st := sis_whole) lis_whole cis_whole kis_whole
  have Fdivisor := funD_mk (st := sdivisor) ldivisor cdivisor kdivisor
  have Ffraction := funD_mk (st := sfraction) lfraction cfraction kfraction
  have Fproduct := funD_mk (st := sproduct) lproduct cproduct kproduct
  have Fways_out := funD_mk (st := sways_out) lways_out cways_out kways_out
  have F_law_cell_at := funD_mk (st := s_law_cell_at) l_law_cell_at c_law_cell_at k_law_cell_at
  have F_law_names := funD_mk (st := s_law_names) l_law_names c_law_names k_law_names
  have F_law_divisor_of := funD_mk (st := s_law_divisor_of) l_law_divisor_of c_law_divisor_of k_law_divisor_of
  have F_law_lowest := funD_mk (st := s_law_lowest) l_law_lowest c_law_lowest k_law_lowest
  have F_law_ratio := funD_mk (st := s_law_ratio) l_law_ratio c_law_ratio k_law_ratio
  have F_law_pairs := funD_mk (st := s_law_pairs) l_law_pairs c_law_pairs k_law_pairs
  have F_law_dict := funD_mk (st := s_law_dict) l_law_dict c_law_dict k_law_dict
  have F_law_steps := funD_mk (st := s_law_steps) l_law_steps c_law_steps k_law_steps
  have F_law_along := funD_mk (st := s_law_along) l_law_along c_law_along k_law_along
  have F_law_whole := funD_mk (st := s_law_whole) l_law_whole c_law_whole k_law_whole
  have F_law_pair := funD_mk (st := s_law_pair) l_law_pair c_law_pair k_law_pair
  have F_law_right := funD_mk (st := s_law_right) l_law_right c_law_right k_law_right
  have Flaw := funD_mk (st := slaw) llaw claw klaw
  refine ⟨PySem.W.fnOf "law" "law" (defArgs slaw) (defBody slaw) (defScope slaw) .none kVlaw dclaw pmlaw anlaw cdlaw ctlaw, ?bind, fun base _ _ => ?ok⟩
  case bind => exact fun s v => .of_eq rfl
  case ok =>
    have bis_whole := Fis_whole.binds0 (ps := ["thing"]) fun _ _ _ _ _ _ => lenOf1 (fun _ => rfl)
    have Dis_whole : Dx l.prog w K mg base CX0 1 "is_whole" ["thing"] [] spWhole := ⟨fis_whole, _, okis_whole Fis_whole B , PySem.W.mg_of X G ais_whole, kis_whole, bis_whole, ⟨[], bis_whole, .nil⟩⟩
    have bdivisor := Fdivisor.binds0 (ps := ["one", "other"]) fun _ _ _ _ _ _ => lenOf2 (fun _ _ => rfl)
    have Ddivisor : Dx l.prog w K mg base CX0 1 "divisor" ["one", "other"] [] spDiv := ⟨fdivisor, _, okdivisor Fdivisor B , PySem.W.mg_of X G adivisor, kdivisor, bdivisor, ⟨[], bdivisor, .nil⟩⟩
    have Xfraction : Dx l.prog w K mg base (CX1 l.prog w) 2 "fraction" ["top", "bottom"] [.int 1] (spFrZ c_NoNumber) := ⟨ffraction, _, okfraction Ffraction B Dis_whole Ddivisor, PySem.W.mg_of X G afraction, kfraction, Ffraction.binds (ps := ["top", "bottom"]) (ds := []) dfraction rfl fun _ _ _ _ _ _ us hl => match us, hl with | [_, _], _ => ⟨_, rfl, rfl⟩, ⟨[.int 1 Ttfraction], Ffraction.binds (ps := ["top", "bottom"]) (ds := [.int 1 Ttfraction]) dfraction rfl fun _ _ _ _ _ _ us hl => match us, hl with | [_], _ => ⟨_, rfl, rfl⟩ | [], h => absurd h (by simp) | _ :: _ :: _, h => absurd h (by simp), .cons ⟨_, rfl⟩ .nil⟩⟩
    have Dfraction : Dx l.prog w K mg base CX0 2 "fraction" ["top", "bottom"] [.int 1] spFr := Xfraction.calm frZ_of
    have bproduct := Fproduct.binds0 (ps := ["one", "other"]) fun _ _ _ _ _ _ => lenOf2 (fun _ _ => rfl)
    have Dproduct : Dx l.prog w K mg base CX0 3 "product" ["one", "other"] [] (spProd K) := ⟨fproduct, _, okproduct Fproduct B Dfraction, PySem.W.mg_of X G aproduct, kproduct, bproduct, ⟨[], bproduct, .nil⟩⟩
    have bways_out := Fways_out.binds0 (ps := ["stands", "good"]) fun _ _ _ _ _ _ => lenOf2 (fun _ _ => rfl)
    have Dways_out : Dx l.prog w K mg base CX0 4 "ways_out" ["stands", "good"] [] (spWo K) := ⟨fways_out, _, okways_out Fways_out B Dfraction Dproduct, PySem.W.mg_of X G aways_out, kways_out, bways_out, ⟨[], bways_out, .nil⟩⟩
    have b_law_cell_at := F_law_cell_at.binds0 (ps := ["_law_script", "_law_k"]) fun _ _ _ _ _ _ => lenOf2 (fun _ _ => rfl)
    have D_law_cell_at : Dx l.prog w K mg base CX0 1 "_law_cell_at" ["_law_script", "_law_k"] [] (spCell K) := ⟨f_law_cell_at, _, ok_law_cell_at F_law_cell_at B , PySem.W.mg_of X G a_law_cell_at, k_law_cell_at, b_law_cell_at, ⟨[], b_law_cell_at, .nil⟩⟩
    have b_law_names := F_law_names.binds0 (ps := ["_law_number", "_law_many"]) fun _ _ _ _ _ _ => lenOf2 (fun _ _ => rfl)
    have D_law_names : Dx l.prog w K mg base CX0 1 "_law_names" ["_law_number", "_law_many"] [] spNames0 := ⟨f_law_names, _, ok_law_names F_law_names B , PySem.W.mg_of X G a_law_names, k_law_names, b_law_names, ⟨[], b_law_names, .nil⟩⟩
    have b_law_divisor_of := F_law_divisor_of.binds0 (ps := ["_law_one", "_law_other"]) fun _ _ _ _ _ _ => lenOf2 (fun _ _ => rfl)
    have D_law_divisor_of : Dx l.prog w K mg base CX0 1 "_law_divisor_of" ["_law_one", "_law_other"] [] spDivP := ⟨f_law_divisor_of, _, ok_law_divisor_of F_law_divisor_of B , PySem.W.mg_of X G a_law_divisor_of, k_law_divisor_of, b_law_divisor_of, ⟨[], b_law_divisor_of, .nil⟩⟩
    have b_law_lowest := F_law_lowest.binds0 (ps := ["_law_top", "_law_bottom"]) fun _ _ _ _ _ _ => lenOf2 (fun _ _ => rfl)
    have D_law_lowest : Dx l.prog w K mg base CX0 2 "_law_lowest" ["_law_top", "_law_bottom"] [] spLowP := ⟨f_law_lowest, _, ok_law_lowest F_law_lowest B D_law_divisor_of, PySem.W.mg_of X G a_law_lowest, k_law_lowest, b_law_lowest, ⟨[], b_law_lowest, .nil⟩⟩
    have b_law_ratio := F_law_ratio.binds0 (ps := ["_law_cell", "_law_wide"]) fun _ _ _ _ _ _ => lenOf2 (fun _ _ => rfl)
    have D_law_ratio : Dx l.prog w K mg base CX0 3 "_law_ratio" ["_law_cell", "_law_wide"] [] spRatio2 := ⟨f_law_ratio, _, ok_law_ratio F_law_ratio B D_law_lowest, PySem.W.mg_of X G a_law_ratio, k_law_ratio, b_law_ratio, ⟨[], b_law_ratio, .nil⟩⟩
    have b_law_pairs := F_law_pairs.binds0 (ps := ["_law_script", "_law_start", "_law_names_here", "_law_many", "_law_near", "_law_wide"]) fun _ _ _ _ _ _ us hl => match us, hl with | [_, _, _, _, _, _], _ => rfl
    have D_law_pairs : Dx l.prog w K mg base CX0 4 "_law_pairs" ["_law_script", "_law_start", "_law_names_here", "_law_many", "_law_near", "_law_wide"] [] (spPairs2 K) := ⟨f_law_pairs, _, ok_law_pairs F_law_pairs B D_law_ratio, PySem.W.mg_of X G a_law_pairs, k_law_pairs, b_law_pairs, ⟨[], b_law_pairs, .nil⟩⟩
    have b_law_dict := F_law_dict.binds0 (ps := ["_law_pairs_here", "_law_empty"]) fun _ _ _ _ _ _ => lenOf2 (fun _ _ => rfl)
    have D_law_dict : Dx l.prog w K mg base CX0 1 "_law_dict" ["_law_pairs_here", "_law_empty"] [] (spDict2 K) := ⟨f_law_dict, _, ok_law_dict F_law_dict B , PySem.W.mg_of X G a_law_dict, k_law_dict, b_law_dict, ⟨[], b_law_dict, .nil⟩⟩
    have b_law_steps := F_law_steps.binds0 (ps := ["_law_pairs_here", "_law_good"]) fun _ _ _ _ _ _ => lenOf2 (fun _ _ => rfl)
    have D_law_steps : Dx l.prog w K mg base CX0 1 "_law_steps" ["_law_pairs_here", "_law_good"] [] (spSteps K) := ⟨f_law_steps, _, ok_law_steps F_law_steps B , PySem.W.mg_of X G a_law_steps, k_law_steps, b_law_steps, ⟨[], b_law_steps, .nil⟩⟩
    have b_law_along := F_law_along.binds0 (ps := ["_law_pairs_here", "_law_chain"]) fun _ _ _ _ _ _ => lenOf2 (fun _ _ => rfl)
    have D_law_along : Dx l.prog w K mg base CX0 3 "_law_along" ["_law_pairs_here", "_law_chain"] [] (spAlong K) := ⟨f_law_along, _, ok_law_along F_law_along B D_law_lowest, PySem.W.mg_of X G a_law_along, k_law_along, b_law_along, ⟨[], b_law_along, .nil⟩⟩
    have b_law_whole := F_law_whole.binds0 (ps := ["_law_found"]) fun _ _ _ _ _ _ => lenOf1 (fun _ => rfl)
    have D_law_whole : Dx l.prog w K mg base CX0 1 "_law_whole" ["_law_found"] [] spWhole := ⟨f_law_whole, _, ok_law_whole F_law_whole B , PySem.W.mg_of X G a_law_whole, k_law_whole, b_law_whole, ⟨[], b_law_whole, .nil⟩⟩
    have b_law_pair := F_law_pair.binds0 (ps := ["_law_found", "_law_pairs_here", "_law_good", "_law_far"]) fun _ _ _ _ _ _ => lenOf4 (fun _ _ _ _ => rfl)
    have D_law_pair : Dx l.prog w K mg base CX0 4 "_law_pair" ["_law_found", "_law_pairs_here", "_law_good", "_law_far"] [] (spPairC K) := ⟨f_law_pair, _, ok_law_pair F_law_pair B D_law_along D_law_whole, PySem.W.mg_of X G a_law_pair, k_law_pair, b_law_pair, ⟨[], b_law_pair, .nil⟩⟩
    have b_law_right := F_law_right.binds0 (ps := ["_law_found", "_law_pairs_here", "_law_good"]) fun _ _ _ _ _ _ => lenOf3 (fun _ _ _ => rfl)
    have D_law_right : Dx l.prog w K mg base CX0 5 "_law_right" ["_law_found", "_law_pairs_here", "_law_good"] [] (spRightW K) := ⟨f_law_right, _, ok_law_right F_law_right B D_law_steps D_law_pair, PySem.W.mg_of X G a_law_right, k_law_right, b_law_right, ⟨[], b_law_right, .nil⟩⟩
    exact oklaw Flaw B Dways_out D_law_cell_at D_law_names D_law_pairs D_law_dict D_law_right
theorem walk {l : PySem.W.OpenLaw} {q : Program} {loose : List Str} {XP : (Str → Option Value) → Heap → Prop} {YP : World → Heap → Prop} {d : DefRec} {K : Params → PySem.W.Frag} (hn : l.most = some 63) (hdf : d.params.defaults = [])
    (hY : ∀ (w : World) (h : Heap), YP w h → (K w.params).In h)
    (F : ∀ (w : World) (mg : Str → Option Value) (fa : Addr) (h : Heap), (K w.params).In h → h.Ns mainGlobals mg → mg d.name = some (.ref fa) →
      ∃ fd : FuncData, (∀ (s : Shared) (u : Value), BindsTo s fd ⟨[u], []⟩ [("_law_script", u)]) ∧ ∀ base : Heap, (K w.params).In base → base.Ns mainGlobals mg → FnOk l.prog w (K w.params) mg base CX0 6 fa fd ["_law_script"] (spLaw (K w.params))) :
    PySem.W.WalkO q loose XP YP l.row.toRowW d [] (fun f vs => PySem.call f vs) :=
  L2.walk_of (n := 63) (k := 6) (x := "_law_script") (CX := fun _ => CX0) (sp := fun w => spLaw (K w.params)) hn (by decide) hdf ⟨rfl, by decide, by decide⟩ hY F (fun _ _ a ns hl _ hS => ⟨a, ns, rfl, hS, hl, fun _ => rfl⟩) fun _ _ _ _ _ z => z
end Lk24
open PySem PySem.W PyProof.Rows
set_option maxRecDepth 100000 in
set_option maxHeartbeats 0 in
theorem PySem.Challenge.cw_stovework_k24_ways_out_holds : PySem.Challenge.rw_stovework_k24_ways_out.Holds := by
  w_on; o_law; k_head; (case hw => w_witness2)
  k_fill
  refine Lk24.walk (l := PySem.Challenge.rw_stovework_k24_ways_out) rfl rfl (fun w h Y => PySem.W.kIn_of Y) ?F
  case F =>
    intro w mg fa h KX G hmg
    refine' Lk24.all_mk KX G hmg ?h0 ?h1 ?h2 ?h3 ?h4 ?h5 ?h6 ?h7 ?h8 ?h9 ?h10 ?h11 ?h12 ?h13 ?h14 ?h15 ?h16 ?h17 ?h18 ?h19 ?h20 ?h21 ?h22 ?h23 ?h24 ?h25 ?h26 ?h27 ?h28 ?h29 ?h30 ?h31 ?h32 ?h33 ?h34 ?h35 ?h36 ?h37 ?h38 ?h39 ?h40 ?h41 ?h42 ?h43 ?h44 ?h45 ?h46 ?h47 ?h48 ?h49 ?h50 ?h51 ?h52 ?h53 ?h54 ?h55 ?h56 ?h57 ?h58 ?h59 ?h60 ?h61 ?h62 ?h63 ?h64 ?h65 ?h66 ?h67 ?h68 ?h69 ?h70 ?h71 ?h72 ?h73 ?h74 ?h75 ?h76 ?h77 ?h78 ?h79 ?h80 ?h81 ?h82 ?h83 ?h84 ?h85 ?h86 ?h87
    (case h0 => k_is)
    (case h1 => k_is)
    (case h2 => k_is)
    (case h3 => k_is)
    (case h4 => k_is)
    (case h5 => k_is)
    (case h6 => k_is)
    (case h7 => k_is)
    (case h8 => k_is)
    (case h9 => k_is)
    (case h10 => k_is)
    (case h11 => k_is)
    (case h12 => k_is)
    (case h13 => k_is)
    (case h14 => k_is)
    (case h15 => k_is)
    (case h16 => k_is)
    (case h17 => k_is)
    (case h18 => k_is)
    (case h19 => k_is)
    (case h20 => k_is)
    (case h21 => k_is)
    (case h22 => k_is)
    (case h23 => k_is)
    (case h24 => k_is)
    (case h25 => k_is)
    (case h26 => k_is)
    (case h27 => k_is)
    (case h28 => k_is)
    (case h29 => k_is)
    (case h30 => k_is)
    (case h31 => k_is)
    (case h32 => k_is)
    (case h33 => k_is)
    (case h34 => k_is)
    (case h35 => k_is)
    (case h36 => k_is)
    (case h37 => k_is)
    (case h38 => k_is)
    (case h39 => k_is)
    (case h40 => k_is)
    (case h41 => k_is)
    (case h42 => k_is)
    (case h43 => k_is)
    (case h44 => k_is)
    (case h45 => k_is)
    (case h46 => k_is)
    (case h47 => k_is)
    (case h48 => k_is)
    (case h49 => k_is)
    (case h50 => k_is)
    (case h51 => k_is)
    (case h52 => k_is)
    (case h53 => k_is)
    (case h54 => k_is)
    (case h55 => k_is)
    (case h56 => k_is)
    (case h57 => k_is)
    (case h58 => k_is)
    (case h59 => k_is)
    (case h60 => k_is)
    (case h61 => k_is)
    (case h62 => k_is)
    (case h63 => k_is)
    (case h64 => k_is)
    (case h65 => k_is)
    (case h66 => k_is)
    (case h67 => k_is)
    (case h68 => k_is)
    (case h69 => k_is)
    (case h70 => k_is)
    (case h71 => k_is)
    (case h72 => k_is)
    (case h73 => k_is)
    (case h74 => k_is)
    (case h75 => k_is)
    (case h76 => k_is)
    (case h77 => k_is)
    (case h78 => k_is)
    (case h79 => k_is)
    (case h80 => k_is)
    (case h81 => k_is)
    (case h82 => k_is)
    (case h83 => k_is)
    (case h84 => k_is)
    (case h85 => k_is)
    (case h86 => kernel_rfl)
    (case h87 => exact ⟨⟨by k_is, by k_is, by k_is⟩, by kernel_rfl, by k_is, by k_is, by k_is, by k_is⟩)
