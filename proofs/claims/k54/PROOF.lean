import PyProof.Rows.All
import Wide.All
import OpenK.AllK
import Wide.FinOn
import Lean
import PyProof.EqAt
import PyProof.EqKinds
import PyProof.TupleCall
import PyProof.NeKinds
import PyProof.StationsW
import PyProof.RulesAs
import PyProof.ExcArgsOwn
import PyProof.CompFree
import PyProof.ExcInit
import PyProof.ConsumeWalk
import PyProof.Rows.SeqGen
import PyProof.StrWalks
import PyProof.SliceStr2
import PyProof.MeetsStr
import KE.KIntText
import PyProof.Rows.FStr
import PyProof.StrCalls6
import PyProof.StrBlockL
import PyProof.ToksMono
import PyProof.WalkInts
import PyProof.Rows.MinMaxN
import PyProof.StrLawsReplace
import PyProof.StrLawsTight
import PyProof.Rows.StrLawsPart
import PyProof.DictWalks
import KE.KEqDict
import KE.KDictLaws
import KE.KRevIter
import PyProof.ListCopy
import PyProof.CollectIter
import PyProof.Rows.SetFrom
import PyProof.Rows.SortShellK
import PyProof.Rows.SortStr
import PyProof.Rows.SortWalk
import KE.KDictSum
import KE.KSortTup
import PyProof.TupleOfSeq
import PyProof.Rows.SortRuns
import PyProof.FactsAll.tuple_2
import PyProof.WalksEnum
import PyProof.EnumMake
import PyProof.EnumFor
import PyProof.ZipIter
import KE.KDictOf
import PyProof.DictItems
import PyProof.FactsAll.dict_itemiterator_1
import PyProof.Rows.StrMul
import KE.KDictList
import PyProof.Rows.SumAny
import PySem.Challenge.RW_stovework_k54_all_kinds_in_order
namespace Ht
open PySem PySem.W PyProof.Rows
noncomputable def pD (ok : Thread → Bool) (st : SharedT → Thread → Option (SharedT × Thread)) (n : Nat) : SharedT → Thread → Option SharedT :=
 Nat.rec (motive := fun _ => SharedT → Thread → Option SharedT) (fun _ _ => none) (fun _ ih s t =>
  Bool.rec (motive := fun _ => Option SharedT)
   (Bool.rec (motive := fun _ => Option SharedT) none (Option.rec (motive := fun _ => Option SharedT) none (fun r => Prod.rec (motive := fun _ => Option SharedT) (fun s' t' => ih s' t') r) (st s t)) (ok t))
   (some s) (through t)) n
theorem mG {tb : String → Option Builtin} {p : Program} {w : World} {m : Nat} {ann : Option Value} : ∀ {n : Nat} {s s' : SharedT} {t : Thread},pD (stepOk m ann) (stepT (denote tb) p w) n s t = some s' → topRun tb p w m ann n s.abs t = some s'.abs
 | 0,_,_,_,h => by cases h
 | n + 1,s,s',t,h => by
  unfold topRun
  have h' : Bool.rec (motive := fun _ => Option SharedT)
   (Bool.rec (motive := fun _ => Option SharedT) none (Option.rec (motive := fun _ => Option SharedT) none (fun r => Prod.rec (motive := fun _ => Option SharedT) (fun s' t' => pD (stepOk m ann) (stepT (denote tb) p w) n s' t') r) (stepT (denote tb) p w s t)) (stepOk m ann t))
   (some s) (through t) = some s' := h
  cases ht : through t with
  | true => rw [ht] at h'; cases h'; rfl
  | false =>
   rw [ht] at h'
   cases hk : stepOk m ann t with
   | false => rw [hk] at h'; cases h'
   | true =>
    rw [hk] at h'
    cases hs : stepT (denote tb) p w s t with
    | none => rw [hs] at h'; cases h'
    | some r =>
     obtain ⟨s₂,t₂⟩ := r
     rw [hs] at h'
     dsimp only
     rw [stepT_spec hs]
     exact mG h'
noncomputable def grow (l : List Obj) : Nat → BT → Option BT :=
 List.rec (motive := fun _ => Nat → BT → Option BT) (fun _ t => some t) (fun o _ ih n t =>
  Bool.rec (motive := fun _ => Option BT) none (ih (n + 1) (t.ins n o)) ((t.ins n o).get n).isSome) l
theorem mH {life : Life} : ∀ {l : List Obj} {n : Nat} {t t' : BT},grow l n t = some t' → absHeap t' (n + l.length) life = ⟨(absHeap t n life).objs ++ l.toArray,life⟩
 | [],n,t,t',h => by
  cases h
  simp [absHeap]
 | o :: l,n,t,t',h => by
  have h' : Bool.rec (motive := fun _ => Option BT) none (grow l (n + 1) (t.ins n o)) ((t.ins n o).get n).isSome = some t' := h
  cases e : ((t.ins n o).get n).isSome with
  | false => rw [e] at h'; cases h'
  | true =>
   rw [e] at h'
   have z := mH (life := life) h'
   rw [absHeap_ins e] at z
   rw [show n + (o :: l).length = n + 1 + l.length by rw [List.length_cons]; omega,z]
   simp [Heap.push]
noncomputable def treeOf (s : Shared) : Option SharedT :=
 Option.rec (motive := fun _ => Option SharedT) none (fun t => some ⟨t,s.heap.objs.size,s.heap.life,s.gens,s.drawn,s.toks,s.os⟩) (grow s.heap.objs.toList 0 .nil)
theorem lK {s : Shared} {s' : SharedT} (h : treeOf s = some s') : s'.abs = s := by
 have h' : Option.rec (motive := fun _ => Option SharedT) none (fun t => some ⟨t,s.heap.objs.size,s.heap.life,s.gens,s.drawn,s.toks,s.os⟩) (grow s.heap.objs.toList 0 .nil) = some s' := h
 cases e : grow s.heap.objs.toList 0 .nil with
 | none => rw [e] at h'; cases h'
 | some t =>
  rw [e] at h'
  cases h'
  have z := mH (life := s.heap.life) e
  obtain ⟨⟨objs,life⟩,gens,drawn,toks,os⟩ := s
  simp only [SharedT.abs]
  have z' : absHeap t objs.size life = ⟨objs,life⟩ := by
   simpa [absHeap,BT.list] using z
  rw [z']
noncomputable def pF (ok : Nat → Option Value → Thread → Bool) (st : SharedT → Thread → Option (SharedT × Thread)) (p : Program) (N : Nat) (s₀ : Shared) : Option Shared :=
 Bool.rec (motive := fun _ => Option Shared) none
  ((treeOf s₀).bind fun t₀ => (pD (ok s₀.heap.objs.size (s₀.heap.nsMap mainGlobals "__annotations__")) st N t₀ (topStub p)).bind fun t₁ =>
   (fun s₁ => Bool.rec (motive := fun _ => Option Shared) none (some s₁) (staticsOk (importedModules p.main.body) s₀.heap s₁.heap && namesBound p s₁.heap && gensDone s₁ && laidKept s₀.heap s₁.heap)) t₁.abs)
  (s₀.heap.isNs mainGlobals && s₀.gens.size == 0)
theorem pG {tb : String → Option Builtin} {p : Program} {w : World} {N : Nat} {s₀ s : Shared} (h : pF stepOk (stepT (denote tb) p w) p N s₀ = some s) : topFrom tb p w N s₀ = some s := by
 unfold pF at h
 unfold topFrom
 cases e : s₀.heap.isNs mainGlobals && s₀.gens.size == 0 with
 | false => rw [e] at h; cases h
 | true =>
  rw [e] at h
  obtain ⟨t₀,e0,h⟩ := Option.bind_eq_some_iff.mp h
  obtain ⟨t₁,e1,h⟩ := Option.bind_eq_some_iff.mp h
  have r := mG e1
  rw [lK e0] at r
  dsimp only
  rw [r]
  dsimp only at h
  show (match staticsOk (importedModules p.main.body) s₀.heap t₁.abs.heap && namesBound p t₁.abs.heap && gensDone t₁.abs && laidKept s₀.heap t₁.abs.heap with | true => some t₁.abs | false => none) = some s
  cases q : staticsOk (importedModules p.main.body) s₀.heap t₁.abs.heap && namesBound p t₁.abs.heap && gensDone t₁.abs && laidKept s₀.heap t₁.abs.heap with
  | false => rw [q] at h; cases h
  | true => rw [q] at h; exact h
noncomputable def ni (ok : Nat → Option Value → Thread → Bool) (st : SharedT → Thread → Option (SharedT × Thread)) (p : Program) (N : Nat) (s₀ : Shared) : Option Shared :=
 (treeOf s₀).bind fun t₀ => (pD (ok s₀.heap.objs.size (s₀.heap.nsMap mainGlobals "__annotations__")) st N t₀ (topStub p)).map fun t₁ => t₁.abs
def qK (p : Program) (s₀ s₁ : Shared) : Bool := (s₀.heap.isNs mainGlobals && s₀.gens.size == 0) && (staticsOk (importedModules p.main.body) s₀.heap s₁.heap && namesBound p s₁.heap && gensDone s₁ && laidKept s₀.heap s₁.heap)
theorem pH {tb : String → Option Builtin} {p : Program} {w : World} {N : Nat} {s₀ s : Shared} (h : ni stepOk (stepT (denote tb) p w) p N s₀ = some s) (c : qK p s₀ s = true) : topFrom tb p w N s₀ = some s := by
 apply pG
 unfold ni at h
 obtain ⟨t₀,e0,h⟩ := Option.bind_eq_some_iff.mp h
 obtain ⟨t₁,e1,rfl⟩ := Option.map_eq_some_iff.mp h
 unfold qK at c
 rw [Bool.and_eq_true] at c
 unfold pF
 rw [c.1]
 show ((treeOf s₀).bind fun t₀ => _) = _
 rw [e0]
 show ((pD _ _ N t₀ (topStub p)).bind fun t₁ => _) = _
 rw [e1]
 show (Bool.rec (motive := fun _ => Option Shared) none (some t₁.abs) (staticsOk (importedModules p.main.body) s₀.heap t₁.abs.heap && namesBound p t₁.abs.heap && gensDone t₁.abs && laidKept s₀.heap t₁.abs.heap) : Option Shared) = _
 rw [c.2]
abbrev Look (p : Program) (N : Nat) {α : Type} (f : Shared → Shared → α) (v : World → α) : Prop := ∀ w : World,((importEnds treeTable (opening p) w N (start (opening p)).1 (start (opening p)).2).bind fun s => (fenceModules? p s).bind fun s₀ => (ni stepOk (stepT (denote treeTable) p w) p N s₀).map fun s₁ => f s₀ s₁) = some (v w)
theorem Look.at_ {p : Program} {N : Nat} {α : Type} {f : Shared → Shared → α} {v : World → α} (h : Look p N f v) (w : World) {s s₀ s₁ : Shared} (a : importEnds treeTable (opening p) w N (start (opening p)).1 (start (opening p)).2 = some s) (b : fenceModules? p s = some s₀) (c : ni stepOk (stepT (denote treeTable) p w) p N s₀ = some s₁) : f s₀ s₁ = v w := by
 have := h w
 rw [a] at this
 replace this : ((fenceModules? p s).bind fun s₀ => (ni stepOk (stepT (denote treeTable) p w) p N s₀).map fun s₁ => f s₀ s₁) = some (v w) := this
 rw [b] at this
 replace this : ((ni stepOk (stepT (denote treeTable) p w) p N s₀).map fun s₁ => f s₀ s₁) = some (v w) := this
 rw [c] at this
 injection this
theorem pI {p q : Program} {loose : List Str} {Xt : Shared → Bool} {α : Type} {Yf : Shared → α} {Ya : World → α} {N : Nat} {g0 : Bool} (hc : Look p N (fun s₀ s₁ => qK p s₀ s₁) fun _ => true)
  (h1 : Look p N (fun _ s => openSeen q loose (importedModules p.main.body) Xt g0 s) fun _ => openGood q loose) (h2 : Look p N (fun _ s => Yf s) Ya) : LeftO p q loose Xt Yf Ya N g0 := fun w => by
 obtain ⟨s,a,e⟩ := Option.bind_eq_some_iff.mp (hc w)
 obtain ⟨s₀,b,e⟩ := Option.bind_eq_some_iff.mp e
 obtain ⟨s₁,c,e⟩ := Option.map_eq_some_iff.mp e
 have z : openEnds treeTable p w N = some s₁ := by
  unfold openEnds fencedOpening
  rw [a]
  show (fenceModules? p s).bind _ = _
  rw [b]
  exact pH c e
 rw [z]
 show some (_,_) = some (_,_)
 rw [h1.at_ w a b c,h2.at_ w a b c]
end Ht
set_option Elab.async false
set_option linter.all false
set_option maxRecDepth 100000
namespace Lk54
open PySem PySem.W PyProof.Rows
def qv : Program := { PySem.Challenge.pw_stovework_k54_all_kinds_in_order with main := { PySem.Challenge.pw_stovework_k54_all_kinds_in_order.main with body := ([1,2,3,4,6,7,8,10,11,12,13,14,15,16,17,18,19,20,21,22,23,24,25,27,28,29,30,31,32,33,34,35,36,37,38,39,41,42,43,44,45,46,47,48,49,50,51,52,53,54,55,56] : List Nat).filterMap fun i => PySem.Challenge.pw_stovework_k54_all_kinds_in_order.main.body[i]? } }
def lo : List Str := []
theorem head {α : Type} {Yf : Shared → α} {Ya : World → α} {YP : World → Heap → Prop} {d : DefRec} {kwd : List (Str × Expr)} (left : LeftO PySem.Challenge.pw_stovework_k54_all_kinds_in_order qv lo (fun s => xlAt qv [] s && recOk [] s) Yf Ya 6100)
  (hY : ∀ w s,Yf s = Ya w → YP w s.heap) (hYk : ∀ w h h',YP w h → (∀ b o,h.get? b = some o → h'.get? b = some o) → YP w h') (hd : defOf qv PySem.Challenge.rw_stovework_k54_all_kinds_in_order.row.name = some (d,kwd))
  (hp : PySem.Challenge.rw_stovework_k54_all_kinds_in_order.row.prog.theDef PySem.Challenge.rw_stovework_k54_all_kinds_in_order.row.name = some (d.params,d.body,d.scope)) (hk : kwWritten? d.params.kwonlyargs d.params.kw_defaults = some kwd)
  (said : PySem.Challenge.rw_stovework_k54_all_kinds_in_order.row.wellSaid = true) (hw : PySem.Challenge.rw_stovework_k54_all_kinds_in_order.row.toRowW.promised) (call : WalkO qv lo (XL qv []) YP PySem.Challenge.rw_stovework_k54_all_kinds_in_order.row.toRowW d kwd fun f vs => PySem.call f vs) : PySem.Challenge.rw_stovework_k54_all_kinds_in_order.row.Holds :=
 holds_open left hY hYk (fun s e => xl_of s (Bool.and_eq_true_iff.mp e).1) XL.keeps hd hp hk (fun s e => recFacts_of (Bool.and_eq_true_iff.mp e).2) rfl said (by decide +kernel) ⟨rfl,rfl,rfl,rfl,rfl,by decide +kernel⟩ hw call
set_option maxHeartbeats 0 in
theorem la : Ht.Look PySem.Challenge.pw_stovework_k54_all_kinds_in_order 6100 (fun s₀ s₁ => Ht.qK PySem.Challenge.pw_stovework_k54_all_kinds_in_order s₀ s₁) (fun _ => true) := by
 intro w
 rw [PySem.W.Fast.te10274390034422433532,PySem.W.Fast.te14289696077712309145,PySem.W.Fast.te6613529449190102663,PySem.W.Fast.te10156331382660048174,PySem.W.Fast.te11892475500146522536,PySem.W.Fast.te14364793385576792824]
 kernel_rfl
set_option maxHeartbeats 0 in
theorem lb : Ht.Look PySem.Challenge.pw_stovework_k54_all_kinds_in_order 6100 (fun _ s => openSeen qv lo (importedModules PySem.Challenge.pw_stovework_k54_all_kinds_in_order.main.body) (fun s => xlAt qv [] s && recOk [] s) true s) (fun _ => openGood qv lo) := by
 intro w
 rw [PySem.W.Fast.te10274390034422433532,PySem.W.Fast.te14289696077712309145,PySem.W.Fast.te6613529449190102663,PySem.W.Fast.te10156331382660048174,PySem.W.Fast.te11892475500146522536,PySem.W.Fast.te14364793385576792824,PySem.W.Fast.te4187177175401517315]
 kernel_rfl
end Lk54
local macro_rules | `(tactic| o_head $H) => `(tactic| (refine Lk54.head (Yf := PySem.W.Hook.obs $H) (Ya := PySem.W.Hook.val $H) (YP := PySem.W.Hook.says $H) ?hl (PySem.W.Hook.of $H) (PySem.W.Hook.keeps $H) (by rfl) (by rfl) (by rfl) (by assumption) ?hw ?hc; (case hl => (refine Ht.pI Lk54.la Lk54.lb ?c; (case c => (intro w; rw [PySem.W.Fast.te10274390034422433532,PySem.W.Fast.te14289696077712309145,PySem.W.Fast.te6613529449190102663,PySem.W.Fast.te10156331382660048174,PySem.W.Fast.te11892475500146522536,PySem.W.Fast.te14364793385576792824]; kernel_rfl))))))
set_option maxHeartbeats 0 in
open_top Lk54.hd for PySem.Challenge.rw_stovework_k54_all_kinds_in_order
namespace L2
open PySem PySem.Spec PyProof.Rows
abbrev Key := Sum Int Str
def i6 : Key → Value → Bool
 | .inl k,v => Value.isInt k v
 | .inr x,v => Value.isStrOf x v
def wc (w : World) : Key → Int
 | .inl k => hashInt k
 | .inr x => hashStr w x
theorem bI : ∀ {k : Key} {v : Value},i6 k v = true → (∃ i t,k = Sum.inl i ∧ v = Value.int i t) ∨ (∃ x t,k = Sum.inr x ∧ v = Value.str x t)
 | .inl i,v,h => by
  obtain ⟨t,e⟩ := Value.isInt_shape (k := i) (v := v) h
  exact .inl ⟨i,t,rfl,e⟩
 | .inr x,v,h => by
  obtain ⟨t,e⟩ := Value.isStrOf_shape (x := x) (v := v) h
  exact .inr ⟨x,t,rfl,e⟩
theorem nj (i : Int) (t : Tok) : i6 (.inl i) (.int i t) = true := by simp [i6,Value.isInt]
theorem nk (x : Str) (t : Tok) : i6 (.inr x) (.str x t) = true := by simp [i6,Value.isStrOf]
theorem sv (a b : Int) : decide ((Sum.inl a : Key) = Sum.inl b) = (a == b) := by
 by_cases e : a = b
 ·subst e; simp
 ·have h : ¬ (Sum.inl a : Key) = Sum.inl b := fun q => e (Sum.inl.inj q)
  rw [decide_eq_false h]
  exact (beq_eq_false_iff_ne.mpr e).symm
theorem sw (a b : Str) : decide ((Sum.inr a : Key) = Sum.inr b) = decide (a = b) := by
 by_cases e : a = b
 ·subst e; simp
 ·have h : ¬ (Sum.inr a : Key) = Sum.inr b := fun q => e (Sum.inr.inj q)
  rw [decide_eq_false h,decide_eq_false e]
theorem sx (a : Int) (b : Str) : decide ((Sum.inl a : Key) = Sum.inr b) = false := decide_eq_false (fun q => nomatch q)
theorem sy (a : Str) (b : Int) : decide ((Sum.inr a : Key) = Sum.inl b) = false := decide_eq_false (fun q => nomatch q)
def aF (prog : Program) (w : World) : PySem.KeyKind prog w Key where
 is := i6
 hash := wc w
 inj := fun v a b ha hb => by
  rcases bI ha with ⟨i,t,rfl,rfl⟩ | ⟨x,t,rfl,rfl⟩
  ·rcases bI hb with ⟨j,u,rfl,e⟩ | ⟨y,u,rfl,e⟩
   ·injection e with e1 _; rw [e1]
   ·exact nomatch e
  ·rcases bI hb with ⟨j,u,rfl,e⟩ | ⟨y,u,rfl,e⟩
   ·exact nomatch e
   ·injection e with e1 _; rw [e1]
 byValue := fun k v h => by
  rcases bI h with ⟨i,t,rfl,rfl⟩ | ⟨x,t,rfl,rfl⟩ <;> rfl
 pyHash := fun hv h => by
  rcases bI hv with ⟨i,t,rfl,rfl⟩ | ⟨x,t,rfl,rfl⟩
  ·exact wpAny_pyHash_int h
  ·exact wpAny_pyHash_str h
 eqBool := fun hu hv h => by
  rcases bI hu with ⟨i,t,rfl,rfl⟩ | ⟨x,t,rfl,rfl⟩
  ·rcases bI hv with ⟨j,u,rfl,rfl⟩ | ⟨y,u,rfl,rfl⟩
   ·rw [sv] at h; exact wpAny_eqBool_int h
   ·rw [sx] at h; exact SeqAt.EqAt.int_str i t y u _ _ _ _ h
  ·rcases bI hv with ⟨j,u,rfl,rfl⟩ | ⟨y,u,rfl,rfl⟩
   ·rw [sy] at h; exact SeqAt.EqAt.str_int x t j u _ _ _ _ h
   ·rw [sw] at h; exact wpAny_eqBool_str h
 «strs» := fun k x t v h => by
  rcases bI h with ⟨i,u,rfl,e⟩ | ⟨y,u,rfl,e⟩
  ·exact nomatch e
  ·injection e with e1 _
   subst e1
   cases v <;> rfl
theorem j2 (prog : Program) (w : World) (i : Int) (t : Tok) : (aF prog w).is (.inl i) (.int i t) = true := nj i t
theorem j3 (prog : Program) (w : World) (x : Str) (t : Tok) : (aF prog w).is (.inr x) (.str x t) = true := nk x t
inductive V where
 | non | bl (b : Bool) | int (i : Int) | str (x : Str) | byt (b : Array UInt8) | flt (b : UInt64) | ref (a : Addr) | ty (n : String)
 deriving DecidableEq
def RelV : V → Value → Prop
 | .non,u => u = Value.none
 | .bl b,u => u = Value.bool b
 | .int i,u => ∃ t,u = Value.int i t
 | .str x,u => ∃ t,u = Value.str x t
 | .byt b,u => ∃ t,u = Value.bytes b t
 | .flt b,u => ∃ t,u = Value.float b t
 | .ref a,u => u = Value.ref a
 | .ty n,u => u = Value.type n
abbrev bh : List V → List Value → Prop := Paired RelV
theorem bh.length {xs : List V} {us : List Value} (r : bh xs us) : xs.length = us.length := Paired.length r
theorem bh.get : ∀ {xs : List V} {us : List Value} {i : Nat} {x : V},bh xs us → xs[i]? = some x → ∃ u,us[i]? = some u ∧ RelV x u
 | _,_,_,_,.nil,e => by simp at e
 | _,_,0,_,.cons r _,e => by simp at e; subst e; exact ⟨_,rfl,r⟩
 | _,_,i + 1,x,.cons _ t,e => by
  obtain ⟨u,h1,h2⟩ := bh.get (i := i) (x := x) t (by simpa using e)
  exact ⟨u,by simpa using h1,h2⟩
theorem bh.append : ∀ {xs ys : List V} {us ws : List Value},bh xs us → bh ys ws → bh (xs ++ ys) (us ++ ws)
 | _,_,_,_,.nil,s => s
 | _,_,_,_,.cons r t,s => .cons r (bh.append t s)
theorem bh.take : ∀ {xs : List V} {us : List Value} (n : Nat),bh xs us → bh (xs.take n) (us.take n)
 | _,_,0,_ => .nil
 | _,_,_ + 1,.nil => .nil
 | _,_,n + 1,.cons r t => .cons r (bh.take n t)
theorem bh.drop : ∀ {xs : List V} {us : List Value} (n : Nat),bh xs us → bh (xs.drop n) (us.drop n)
 | _,_,0,r => r
 | _,_,_ + 1,.nil => .nil
 | _,_,n + 1,.cons _ t => bh.drop n t
def fE : Option V → Option Value → Prop
 | some v,some u => RelV v u
 | none,none => True
 | _,_ => False
def KV {κ : Type} : List (κ × V) → List (κ × Value) → Prop := Paired fun (p : κ × V) (q : κ × Value) => p.1 = q.1 ∧ RelV p.2 q.2
def kV : Key → V
 | .inl i => .int i
 | .inr x => .str x
inductive HO where
  | lst (xs : List V)
  | tup (xs : List V)
  | dK (kvs : List (Key × V)) | dT (kvs : List (List Key × V))
  | set (S : Int → Bool) (n : Nat)
  | ins (C dx : Addr) (fs : List (Str × V))
  | own (x : Addr)
  | xd (fs : List (Str × V))
  | met (f x : Addr)
  | rng (lo hi : Int)
  | frz (o : Obj) (u : HO)
  | tbl (ps : Array Value)
  | ext (φ : Heap → Prop)
abbrev Hp := Addr → Option HO
def aD (H : Hp) (a : Addr) (o : HO) : Hp := fun b => if b = a then some o else H b
theorem aj {H : Hp} {a : Addr} {o : HO} : aD H a o a = some o := by unfold aD; rw [if_pos rfl]
theorem aA {H : Hp} {a b : Addr} {o : HO} (h : b ≠ a) : aD H a o b = H b := by unfold aD; rw [if_neg h]
theorem fF {H : Hp} {a b : Addr} {o u : HO} (h : H a = some o) (h' : H b = some u) (d : o ≠ u) : a ≠ b := by
 intro e; subst e; rw [h] at h'; exact d (Option.some.inj h')
theorem cr {H : Hp} {a b : Addr} {o : HO} (h : H a = some o) (h' : H b = none) : a ≠ b := by
 intro e; subst e; rw [h] at h'; cases h'
section
variable (P : Program) (w : World)
def bD (H : Hp) (h : Heap) (a : Addr) : HO → Prop
 | .lst xs => xs.length ≤ sizeLine ∧ ∃ (its : List Value) (n : Nat),bh xs its ∧ h.get? a = some { cls := .type "list",data := .seq its.toArray n }
 | .tup xs => xs.length ≤ sizeLine ∧ ∃ its : List Value,bh xs its ∧ IsTup h a its.toArray
 | .dK kvs => kvs.length ≤ sizeLine ∧ (a == sysModules) = false ∧ ∃ vs,KV kvs vs ∧ h.DictOf (aF P w) a vs
 | .dT kvs => kvs.length ≤ sizeLine ∧ (a == sysModules) = false ∧ ∃ xs : List (List Key × Addr × Value),
   Paired (fun (p : List Key × V) (q : List Key × Addr × Value) => p.1 = q.1 ∧ H q.2.1 = some (.tup (p.1.map kV)) ∧ RelV p.2 q.2.2) kvs xs ∧
   ∃ o es ep,h.get? a = some o ∧ o.ExactDict ∧ o.data = .dict es ep ∧ es.toList = xs.map (entryOfKey (tupleKind (aF P w))) ∧ (xs.map (·.1)).Nodup
 | .set S n => h.SetOf (intKind P w) a S n
 | .ins C dx fs => H dx = some (.own a) ∧ fs.length ≤ 1000 ∧ dx ≠ a ∧ h.get? a = some (PySem.W.instObj C dx) ∧
   ∃ mA,h.Ns1 dx mA ∧ (∀ f,fE (fs.lookup f) (mA f)) ∧ PySem.Within mA (fs.map (·.1))
 | .own _ => ∃ o,h.get? a = some o
 | .xd fs => ∃ mA,h.Ns1 a mA ∧ ∀ f,fE (fs.lookup f) (mA f)
 | .rng lo hi => ∃ t u v,h.get? a = some { cls := .type "range",data := .fields #[.int lo t,.int hi u,.int 1 v] }
 | .frz o u => h.get? a = some o ∧ bD H h a u
 | .tbl ps => h.get? a = some { cls := .none,data := .fields ps }
 | .met f x => h.get? a = some (PySem.W.methodObj (.ref f) (.ref x))
 | .ext φ => φ h ∧ (∃ o,h.get? a = some o) ∧ ∀ h1 h2 : Heap,φ h1 → (∀ o,h1.get? a = some o → h2.get? a = some o) → φ h2
def fj (H : Hp) (h : Heap) : Prop := ∀ a o,H a = some o → bD P w H h a o
end
section
variable {P : Program} {w : World} {H H' : Hp} {h h' : Heap} {a : Addr} {o : HO}
theorem bD.lt (x : bD P w H h a o) : a < h.objs.size := by
 cases o with
 | lst xs => obtain ⟨_,_,_,_,e⟩ := x; exact Heap.lt_size e
 | tup xs => obtain ⟨_,_,_,p⟩ := x; exact p.lt
 | dK kvs => obtain ⟨_,_,_,_,o,_,_,e,_⟩ := x; exact Heap.lt_size e
 | dT kvs => obtain ⟨_,_,_,_,o,_,_,e,_⟩ := x; exact Heap.lt_size e
 | set S n => obtain ⟨o,_,_,_,e,_⟩ := x; exact Heap.lt_size e
 | ins C dx fs => obtain ⟨_,_,_,e,_⟩ := x; exact Heap.lt_size e
 | own y => obtain ⟨_,e⟩ := x; exact Heap.lt_size e
 | xd fs => obtain ⟨_,⟨_,_,_,e,_⟩,_⟩ := x; exact Heap.lt_size e
 | rng lo hi => obtain ⟨_,_,_,e⟩ := x; exact Heap.lt_size e
 | frz ob u => obtain ⟨e,_⟩ := x; exact Heap.lt_size e
 | tbl ps => exact Heap.lt_size (show h.get? a = some _ from x)
 | met f y => exact Heap.lt_size (show h.get? a = some _ from x)
 | ext φ => obtain ⟨_,⟨_,e⟩,_⟩ := x; exact Heap.lt_size e
theorem Paired.mapP {α β : Type} {F G : α → β → Prop} : ∀ {l₁ : List α} {l₂ : List β},Paired F l₁ l₂ → (∀ a b,F a b → G a b) → Paired G l₁ l₂
 | _,_,.nil,_ => .nil
 | _,_,.cons r t,f => .cons (f _ _ r) (Paired.mapP t f)
theorem bD.stay (x : bD P w H h a o) (k : ∀ b u,(b = a ∨ H b = some (.own a)) → h.get? b = some u → h'.get? b = some u)
  (ho : ∀ b,H b = some (.own a) → H' b = some (.own a)) (ht : ∀ b xs,H b = some (.tup xs) → H' b = some (.tup xs)) : bD P w H' h' a o := by
 induction o with
 | lst xs => obtain ⟨z,its,n,r,e⟩ := x; exact ⟨z,its,n,r,k _ _ (.inl rfl) e⟩
 | tup xs => obtain ⟨z,its,r,ob,e,c⟩ := x; exact ⟨z,its,r,ob,k _ _ (.inl rfl) e,c⟩
 | dK kvs => obtain ⟨z,y,vs,r,ob,es,ep,e,c⟩ := x; exact ⟨z,y,vs,r,ob,es,ep,k _ _ (.inl rfl) e,c⟩
 | dT kvs =>
  obtain ⟨z,y,xs,r,ob,es,ep,e,c⟩ := x
  exact ⟨z,y,xs,Paired.mapP r fun p q z => ⟨z.1,ht _ _ z.2.1,z.2.2⟩,ob,es,ep,k _ _ (.inl rfl) e,c⟩
 | set S n => obtain ⟨ob,es,ep,t,e,c⟩ := x; exact ⟨ob,es,ep,t,k _ _ (.inl rfl) e,c⟩
 | ins C dx fs =>
  obtain ⟨d,z,ne,e,mA,⟨od,es,ep,e2,c⟩,r⟩ := x
  exact ⟨ho _ d,z,ne,k _ _ (.inl rfl) e,mA,⟨od,es,ep,k _ _ (.inr d) e2,c⟩,r⟩
 | own y => obtain ⟨ob,e⟩ := x; exact ⟨ob,k _ _ (.inl rfl) e⟩
 | xd fs => obtain ⟨mA,⟨od,es,ep,e,c⟩,r⟩ := x; exact ⟨mA,⟨od,es,ep,k _ _ (.inl rfl) e,c⟩,r⟩
 | rng lo hi => obtain ⟨t,u,v,e⟩ := x; exact ⟨t,u,v,k _ _ (.inl rfl) e⟩
 | frz ob u ih => obtain ⟨e,q⟩ := x; exact ⟨k _ _ (.inl rfl) e,ih q⟩
 | tbl ps =>
  have e : h.get? a = some { cls := .none,data := .fields ps } := x
  show h'.get? a = some { cls := .none,data := .fields ps }
  exact k a _ (.inl rfl) e
 | met f y =>
  have e : h.get? a = some (PySem.W.methodObj (.ref f) (.ref y)) := x
  show h'.get? a = some (PySem.W.methodObj (.ref f) (.ref y))
  exact k a _ (.inl rfl) e
 | ext φ => obtain ⟨p,⟨o,e⟩,st⟩ := x; exact ⟨st _ _ p fun o q => k _ _ (.inl rfl) q,⟨o,k _ _ (.inl rfl) e⟩,st⟩
theorem fj.lt (x : fj P w H h) (e : H a = some o) : a < h.objs.size := (x a o e).lt
theorem fj.fresh (x : fj P w H h) (e : h.objs.size ≤ a) : H a = none := by
 cases q : H a with
 | none => rfl
 | some u => exact absurd (Nat.lt_of_lt_of_le (x.lt q) e) (Nat.lt_irrefl _)
theorem fj.kept (x : fj P w H h) (k : ∀ b u,h.get? b = some u → h'.get? b = some u) : fj P w H h' := fun a o e =>
 (x a o e).stay (fun b u _ q => k b u q) (fun _ q => q) fun _ _ q => q
theorem fj.laid (x : fj P w H h) (k : ∀ b u,h.get? b = some u → h'.get? b = some u) (hp : h.objs.size ≤ a) (new : bD P w (aD H a o) h' a o) : fj P w (aD H a o) h' := fun b u e => by
 have hn := x.fresh hp
 by_cases hb : b = a
 ·subst hb; rw [aj] at e; cases e; exact new
 ·rw [aA hb] at e
  exact (x b u e).stay (fun c v _ q => k c v q) (fun c q => by rw [aA (cr q hn)]; exact q) fun c xs q => by rw [aA (cr q hn)]; exact q
end
def Rd (H : Hp) (a : Addr) (u : HO) : Prop := H a = some u ∨ ∃ o,H a = some (.frz o u)
theorem Rd.ok {P : Program} {w : World} {H : Hp} {h : Heap} {a : Addr} {u : HO} (r : Rd H a u) (x : fj P w H h) : bD P w H h a u := by
 rcases r with r | ⟨o,r⟩
 ·exact x a u r
 ·obtain ⟨_,q⟩ := x a _ r
  exact q
def t8 : Option HO → Prop
 | some (.lst _) => True
 | some (.dK _) => True
 | some (.dT _) => True
 | some (.set _ _) => True
 | some (.ins _ _ _) => True
 | some (.ext _) => True
 | _ => False
section
variable {P : Program} {w : World} {H : Hp} {h h' : Heap} {x e : Addr} {o' : HO}
theorem fj.write (ok : fj P w H h) (mu : t8 (H x)) (he : e = x ∨ H e = some (.own x)) (k : ∀ b u,b ≠ e → h.get? b = some u → h'.get? b = some u) (heo : ∃ u,h'.get? e = some u)
  (new : bD P w (aD H x o') h' x o') : fj P w (aD H x o') h' := fun b u q => by
 have nown : ∀ c y,H c = some (.own y) → c ≠ x := fun c y r z => by subst z; rw [r] at mu; exact mu
 have ntup : ∀ c xs,H c = some (.tup xs) → c ≠ x := fun c xs r z => by subst z; rw [r] at mu; exact mu
 by_cases hb : b = x
 ·subst hb; rw [aj] at q; cases q; exact new
 ·rw [aA hb] at q
  by_cases hbe : b = e
  ·have q' : H b = some (.own x) := by
    rcases he with z | z
    ·exact absurd (hbe.trans z) hb
    ·rw [hbe]; exact z
   rw [q] at q'; cases q'
   obtain ⟨v,hv⟩ := heo
   exact ⟨v,by rw [hbe]; exact hv⟩
  ·refine (ok b u q).stay (fun c v hc r => k c v ?_ r) (fun c r => by rw [aA (nown c b r)]; exact r) fun c xs r => by rw [aA (ntup c xs r)]; exact r
   rcases hc with rfl | hc
   ·exact hbe
   ·rintro rfl
    rcases he with z | z
    ·exact nown c b hc z
    ·rw [hc] at z; cases z; exact hb rfl
end
structure Un (fs ex : List Addr) (H H' : Hp) (h h' : Heap) : Prop where
 keep : ∀ b o,h.get? b = some o → H b = none → b ∉ fs → b ∉ ex → h'.get? b = some o
 slot : ∀ b o,h.get? b = some o → H b = none → b ∈ fs → b ∉ ex → ∃ sl,h'.get? b = some { o with slots := sl }
 free : ∀ b o,h.get? b = some o → H b = none → b ∉ ex → H' b = none
 there : ∀ b o,h.get? b = some o → b ∉ ex → ∃ o',h'.get? b = some o'
 tups : ∀ b xs,H b = some (.tup xs) → H' b = some (.tup xs)
 frzs : ∀ b o u,H b = some (.frz o u) → H' b = some (.frz o u)
 tbls : ∀ b ps,H b = some (.tbl ps) → ∃ more,H' b = some (.tbl (ps ++ more))
section
variable {fs fs' ex ex' : List Addr} {H H1 H2 : Hp} {h h1 h2 h' : Heap} {a x e : Addr} {o : HO}
theorem Un.any (u : Un fs ex H H1 h h1) {b : Addr} {ob : Obj} (q : h.get? b = some ob) (n : H b = none) (hx : b ∉ ex) : ∃ sl,h1.get? b = some { ob with slots := sl } := by
 by_cases hb : b ∈ fs
 ·exact u.slot b ob q n hb hx
 ·exact ⟨ob.slots,u.keep b ob q n hb hx⟩
theorem Un.kept (k : ∀ b u,h.get? b = some u → h'.get? b = some u) : Un fs ex H H h h' :=
 ⟨fun b ob q _ _ _ => k b ob q,fun b ob q _ _ _ => ⟨ob.slots,k b ob q⟩,fun _ _ _ n _ => n,fun b ob q _ => ⟨ob,k b ob q⟩,fun _ _ q => q,fun _ _ _ q => q,fun _ ps q => ⟨#[],by rw [q]; simp⟩⟩
theorem Un.refl : Un fs ex H H h h := Un.kept fun _ _ q => q
theorem Un.laid (k : ∀ b u,h.get? b = some u → h'.get? b = some u) (hp : h.objs.size ≤ a) (hn : H a = none) : Un fs ex H (aD H a o) h h' where
 keep := fun b u q _ _ _ => k b u q
 slot := fun b u q _ _ _ => ⟨u.slots,k b u q⟩
 free := fun b u q n _ => by rw [aA (Nat.ne_of_lt (Nat.lt_of_lt_of_le (Heap.lt_size q) hp))]; exact n
 there := fun b u q _ => ⟨u,k b u q⟩
 tups := fun b xs q => by rw [aA (cr q hn)]; exact q
 frzs := fun b u xs q => by rw [aA (cr q hn)]; exact q
 tbls := fun b ps q => ⟨#[],by rw [aA (cr q hn),q]; simp⟩
theorem Un.write (mu : t8 (H x)) (he : e = x ∨ H e = some (.own x)) (k : ∀ b u,b ≠ e → h.get? b = some u → h'.get? b = some u) (heo : ∃ u,h'.get? e = some u) : Un fs ex H (aD H x o) h h' := by
 have hx : ∀ b,H b = none → b ≠ x := fun b n z => by subst z; rw [n] at mu; exact mu
 have hb : ∀ b,H b = none → b ≠ e := fun b n z => by
  subst z
  rcases he with r | r
  ·exact hx b n r
  ·rw [n] at r; cases r
 have hm : ∀ b u,H b = some u → ¬ t8 (some u) → b ≠ x := fun b u q nm z => by subst z; rw [q] at mu; exact nm mu
 refine ⟨fun b u q n _ _ => k b u (hb b n) q,fun b u q n _ _ => ⟨u.slots,k b u (hb b n) q⟩,fun b u q n _ => by rw [aA (hx b n)]; exact n,fun b u q _ => ?_,
  fun b xs q => by rw [aA (hm b _ q fun z => z)]; exact q,fun b u xs q => by rw [aA (hm b _ q fun z => z)]; exact q,fun b ps q => ⟨#[],by rw [aA (hm b _ q fun z => z),q]; simp⟩⟩
 by_cases hbe : b = e
 ·subst hbe; exact heo
 ·exact ⟨u,k b u hbe q⟩
end
def vW (h : Heap) (H : Hp) : List Addr := (List.range h.objs.size).filter fun a => (H a).isSome
def jq (h : Heap) (H : Hp) : Heap := PySem.W.hideAll h (vW h H)
theorem nn (h : Heap) (H : Hp) : (jq h H).objs.size = h.objs.size := PySem.W.hideAll_size _ _
theorem pJ {h : Heap} {H : Hp} {b : Addr} {o : Obj} (e : h.get? b = some o) (n : H b = none) : (jq h H).get? b = some o :=
 PySem.W.hideAll_get _ e fun hm => by
  have q : (H b).isSome = true := (List.mem_filter.mp hm).2
  rw [n] at q; simp at q
theorem qL {h : Heap} {H : Hp} {b : Addr} {o : Obj} (e : (jq h H).get? b = some o) : h.get? b = some o ∧ H b = none := by
 have e' : h.get? b = some o := PySem.W.of_hideAll (vW h H) e
 refine ⟨e',?_⟩
 cases q : H b with
 | none => rfl
 | some x =>
  have hm : b ∈ vW h H := List.mem_filter.mpr ⟨List.mem_range.mpr (Heap.lt_size e'),by simp [q]⟩
  have z : (jq h H).get? b = none := PySem.W.hideAll_none (vW h H) hm
  rw [z] at e; cases e
structure Mod (K : PySem.W.Frag) (mg : Str → Option Value) (base : Heap) : Prop where
 kin : K.In base
 glob : base.Ns mainGlobals mg
 blt : ∃ mb,base.Ns builtinsNs mb ∧ ∀ x : Str,x ≠ "__name__" → mb x = bootBuiltins x
 nolimit : base.NoLimit
structure Cx where
 prog : Program
 w : World
 K : PySem.W.Frag
 mg : Str → Option Value
 base : Heap
 A : Around
 N : List Str
 s₀ : Shared
 H₀ : Hp
 env : Env
 outer : List Env
 stack : List Env
 ex : List Addr
 fn : Str → Bool
 calm : Bool
 pn : List (Addr × Obj)
 xe : Value → Shared → Prop
def pA (l : List Env) : List Addr := l.filterMap (·.frame)
abbrev Cx.fs (X : Cx) : List Addr := pA X.outer
def vX (sc : Scope) (x : Str) : Prop := sc.names.lookup x = some .local ∨ sc.names.lookup x = some .cell ∨ sc.names.lookup x = some .free
def Loc (sc : Scope) (x : Str) : Prop := sc.names.lookup x = some .local ∨ sc.names.lookup x = some .cell
def Look (env : Env) (h : Heap) (m : Str → Option Value) (x : Str) (u : Value) : Prop :=
 (env.kindOf x = some .local ∧ m x = some u) ∨ ((env.kindOf x = some .cell ∨ env.kindOf x = some .free) ∧ ∃ c,env.cells.lookup x = some c ∧ h.IsCell c (some u))
structure Cx.Ok (X : Cx) : Prop where
 mod : Mod X.K X.mg X.base
 kind : X.env.scope.kind = .function
 glob : X.env.globals = mainGlobals
 blt : X.env.builtins = builtinsNs
 above : X.s₀.heap.objs.size ≤ X.env.locals
 inj : ∀ x y c,X.env.cells.lookup x = some c → X.env.cells.lookup y = some c → x = y
 has : ∀ x,(X.env.kindOf x = some .cell ∨ X.env.kindOf x = some .free) → ∃ c,X.env.cells.lookup x = some c
 cab : ∀ x c,X.fn x = true → X.env.cells.lookup x = some c → X.s₀.heap.objs.size ≤ c
 hd : X.calm = true → X.A.handled = none
 frames : X.A.frames = some X.stack
 stk : X.stack = X.outer ∨ (X.stack = X.env :: X.outer ∧ X.env.frame = some X.env.locals)
 exf : ∀ b ∈ X.ex,b ≠ X.env.locals ∧ ∀ x c,X.env.cells.lookup x = some c → c ≠ b
 bs : ∀ b o,X.base.get? b = some o → X.s₀.heap.get? b = some o ∧ X.H₀ b = none
 bsz : X.base.objs.size ≤ X.s₀.heap.objs.size
 noex : ∀ b o,X.base.get? b = some o → b ∉ X.ex
 exfs : ∀ b ∈ X.ex,b ∉ X.fs
 funs : X.s₀.heap.FunFrames X.base X.outer
 frf : ∀ b ∈ X.fs,X.H₀ b = none
structure aM (X : Cx) (pins : List (Addr × Obj)) (σ : List (Option V)) (H : Hp) (s : Shared) : Prop where
 ok : X.Ok
 os : s.os = X.s₀.os
 bare : AllBare s.gens
 base : Un X.fs X.ex X.H₀ H X.s₀.heap s.heap
 loc : ∃ m,s.heap.Ns X.env.locals m ∧ ∀ (i : Nat) (x : Str) (v : V),X.N[i]? = some x → σ[i]? = some (some v) → vX X.env.scope x → ∃ u,RelV v u ∧ Look X.env s.heap m x u
 cell : ∀ x c,X.env.cells.lookup x = some c → ∃ v,s.heap.IsCell c v
 free : H X.env.locals = none
 freeC : ∀ x c,X.env.cells.lookup x = some c → H c = none
 pin : ∀ p ∈ X.pn ++ pins,s.heap.get? p.1 = some p.2 ∧ H p.1 = none ∧ p.1 ≠ X.env.locals ∧ p.1 ∉ X.fs ∧ ∀ v,p.2.data ≠ .cell v
 hok : fj X.prog X.w H s.heap
 len : σ.length = X.N.length
section
variable {X : Cx} {pins : List (Addr × Obj)} {σ : List (Option V)} {H H' : Hp} {s : Shared} {h' : Heap}
theorem Cx.Ok.nofr (ok : X.Ok) {b : Addr} {o : Obj} (e : X.base.get? b = some o) : b ∉ X.fs := fun hb => by
 have := (ok.funs.mem hb).1
 rw [e] at this; cases this
theorem aM.bs (I : aM X pins σ H s) : ∀ b o,X.base.get? b = some o → s.heap.get? b = some o ∧ H b = none := fun b o e =>
 ⟨I.base.keep b o (I.ok.bs b o e).1 (I.ok.bs b o e).2 (I.ok.nofr e) (I.ok.noex b o e),I.base.free b o (I.ok.bs b o e).1 (I.ok.bs b o e).2 (I.ok.noex b o e)⟩
theorem aM.bk (I : aM X pins σ H s) : ∀ b o,X.base.get? b = some o → s.heap.get? b = some o := fun b o e => (I.bs b o e).1
theorem aM.mod (I : aM X pins σ H s) : Mod X.K X.mg X.base := I.ok.mod
theorem aM.kIn (I : aM X pins σ H s) : X.K.In s.heap := I.ok.mod.kin.keeps I.bk
theorem aM.lt (I : aM X pins σ H s) : X.env.locals < s.heap.objs.size := let ⟨_,hn,_⟩ := I.loc; hn.lt
theorem aM.sz (I : aM X pins σ H s) : X.s₀.heap.objs.size ≤ s.heap.objs.size := Nat.le_trans I.ok.above (Nat.le_of_lt I.lt)
theorem aM.nofs (I : aM X pins σ H s) {a : Addr} (h : s.heap.objs.size ≤ a) : a ∉ X.fs := fun hb => by
 obtain ⟨_,o,ho,_⟩ := I.ok.funs.mem hb
 exact absurd (Nat.lt_of_lt_of_le (Heap.lt_size ho) (Nat.le_trans I.sz h)) (Nat.lt_irrefl _)
theorem aM.cne (I : aM X pins σ H s) : ∀ x c,X.env.cells.lookup x = some c → c ≠ X.env.locals := fun x c e z => by
 obtain ⟨v,o,ho,hd⟩ := I.cell x c e
 obtain ⟨m,⟨o',es,ep,ho',hd',_⟩,_⟩ := I.loc
 rw [z,ho'] at ho; cases ho; rw [hd'] at hd; cases hd
theorem aM.funs (I : aM X pins σ H s) : s.heap.FunFrames X.base X.outer := by
 have all : ∀ (l : List Env),(∀ b ∈ pA l,b ∈ X.fs) → X.s₀.heap.FunFrames X.base l → s.heap.FunFrames X.base l := by
  intro l
  induction l with
  | nil => intro _ _; trivial
  | cons env r ih =>
   intro hs hl
   obtain ⟨hk,⟨L,o,hf,hn,ho,hd⟩,hr⟩ := hl
   have hL : L ∈ X.fs := hs L (by unfold pA; rw [List.filterMap_cons,hf]; exact List.mem_cons_self)
   obtain ⟨sl,e⟩ := I.base.slot L o ho (I.ok.frf L hL) hL fun z => I.ok.exfs L z hL
   exact ⟨hk,⟨L,_,hf,hn,e,hd⟩,ih (fun b hb => hs b (by unfold pA; rw [List.filterMap_cons,hf]; exact List.mem_cons_of_mem _ hb)) hr⟩
 exact all X.outer (fun _ hb => hb) I.ok.funs
theorem aM.stack (I : aM X pins σ H s) : s.heap.FunFrames X.base X.stack := by
 rcases I.ok.stk with e | ⟨e,hf⟩
 ·rw [e]; exact I.funs
 ·rw [e]
  obtain ⟨m,hn,_⟩ := I.loc
  refine .cons (by rw [I.ok.kind]; decide) hf hn ?_ I.funs
  exact Heap.get?_none_of_le (Nat.le_trans I.ok.bsz I.ok.above)
theorem aM.stkSub (I : aM X pins σ H s) : ∀ b ∈ pA X.stack,b ∈ X.env.locals :: X.fs := fun b hb => by
 rcases I.ok.stk with e | ⟨e,hf⟩
 ·rw [e] at hb; exact List.mem_cons_of_mem _ hb
 ·rw [e] at hb
  unfold pA at hb
  rw [List.filterMap_cons,hf] at hb
  exact hb
theorem aM.stkFree (I : aM X pins σ H s) : ∀ b ∈ pA X.stack,H b = none := fun b hb => by
 rcases List.mem_cons.mp (I.stkSub b hb) with e | hb
 ·rw [e]; exact I.free
 ·obtain ⟨_,o,ho,_⟩ := I.ok.funs.mem hb
  exact I.base.free b o ho (I.ok.frf b hb) fun z => I.ok.exfs b z hb
theorem aM.step {g' : Array GenState} {t' : Nat} {d' : Drawn} {ch : List Addr} (I : aM X pins σ H s)
  (hch : ∀ b ∈ ch,(b ∈ X.ex ∨ X.s₀.heap.objs.size ≤ b) ∧ b ≠ X.env.locals ∧ (∀ x c,X.env.cells.lookup x = some c → c ≠ b) ∧ ∀ p ∈ X.pn ++ pins,p.1 ≠ b)
  (keep : ∀ b o,b ≠ X.env.locals → b ∉ X.fs → b ∉ ch → s.heap.get? b = some o → H b = none → h'.get? b = some o)
  (slot : ∀ b o,b ≠ X.env.locals → b ∈ X.fs → b ∉ ch → s.heap.get? b = some o → H b = none → ∃ sl,h'.get? b = some { o with slots := sl }) (free : ∀ b o,b ∉ ch → s.heap.get? b = some o → H b = none → H' b = none)
  (there : ∀ b o,b ∉ ch → s.heap.get? b = some o → ∃ o',h'.get? b = some o')
  (tups : ∀ b xs,H b = some (.tup xs) → H' b = some (.tup xs)) (frzs : ∀ b o u,H b = some (.frz o u) → H' b = some (.frz o u)) (tbls : ∀ b ps,H b = some (.tbl ps) → ∃ more,H' b = some (.tbl (ps ++ more)))
  (ns : ∀ m,s.heap.Ns X.env.locals m → h'.Ns X.env.locals m) (hok : fj X.prog X.w H' h') (hg : AllBare g') :
  aM X pins σ H' { s with heap := h',gens := g',drawn := d',toks := t' } := by
 have neL : ∀ b o,X.s₀.heap.get? b = some o → b ≠ X.env.locals := fun b o e => Nat.ne_of_lt (Nat.lt_of_lt_of_le (Heap.lt_size e) I.ok.above)
 have neC : ∀ b o,X.s₀.heap.get? b = some o → b ∉ X.ex → b ∉ ch := fun b o e hx hb => by
  rcases (hch b hb).1 with z | z
  ·exact hx z
  ·exact absurd (Nat.lt_of_lt_of_le (Heap.lt_size e) z) (Nat.lt_irrefl _)
 have cellK : ∀ x c,X.env.cells.lookup x = some c → ∀ v,s.heap.IsCell c v → h'.IsCell c v := fun x c e v ⟨o,ho,hd⟩ => by
  have nch : c ∉ ch := fun z => (hch c z).2.2.1 x c e rfl
  by_cases hc : c ∈ X.fs
  ·obtain ⟨sl,q⟩ := slot c o (I.cne x c e) hc nch ho (I.freeC x c e)
   exact ⟨_,q,hd⟩
  ·exact ⟨o,keep c o (I.cne x c e) hc nch ho (I.freeC x c e),hd⟩
 refine ⟨I.ok,I.os,hg,⟨fun b o e n hb hx => ?_,fun b o e n hb hx => ?_,fun b o e n hx => ?_,fun b o e hx => ?_,fun b xs e => tups b xs (I.base.tups b xs e),fun b o xs e => frzs b o xs (I.base.frzs b o xs e),fun b ps e => ?_⟩,?_,fun x c e => ?_,?_,fun x c e => ?_,fun p hp => ?_,hok,I.len⟩
 ·exact keep b o (neL b o e) hb (neC b o e hx) (I.base.keep b o e n hb hx) (I.base.free b o e n hx)
 ·obtain ⟨sl,e1⟩ := I.base.slot b o e n hb hx
  obtain ⟨sl',e2⟩ := slot b _ (neL b o e) hb (neC b o e hx) e1 (I.base.free b o e n hx)
  exact ⟨sl',e2⟩
 ·obtain ⟨o',e1⟩ := I.base.there b o e hx
  exact free b o' (neC b o e hx) e1 (I.base.free b o e n hx)
 ·obtain ⟨o',e1⟩ := I.base.there b o e hx
  exact there b o' (neC b o e hx) e1
 ·obtain ⟨m1,e1⟩ := I.base.tbls b ps e
  obtain ⟨m2,e2⟩ := tbls b _ e1
  exact ⟨m1 ++ m2,by rw [e2,Array.append_assoc]⟩
 ·obtain ⟨m,hn,hl⟩ := I.loc
  refine ⟨m,ns m hn,fun i x v e1 e2 e3 => ?_⟩
  obtain ⟨u,r,l⟩ := hl i x v e1 e2 e3
  refine ⟨u,r,?_⟩
  rcases l with l | ⟨k,c,e,z⟩
  ·exact .inl l
  ·exact .inr ⟨k,c,e,cellK x c e _ z⟩
 ·obtain ⟨v,z⟩ := I.cell x c e
  exact ⟨v,cellK x c e v z⟩
 ·obtain ⟨m,⟨o,_,_,ho,_⟩,_⟩ := I.loc
  exact free _ o (fun z => (hch _ z).2.1 rfl) ho I.free
 ·obtain ⟨v,o,ho,hd⟩ := I.cell x c e
  exact free c o (fun z => (hch c z).2.2.1 x c e rfl) ho (I.freeC x c e)
 ·obtain ⟨e,n,ne,nf,d⟩ := I.pin p hp
  have nch : p.1 ∉ ch := fun z => (hch p.1 z).2.2.2 p hp rfl
  exact ⟨keep p.1 p.2 ne nf nch e n,free p.1 p.2 nch e n,ne,nf,d⟩
theorem aM.un {t' : Nat} (I : aM X pins σ H s) (u : Un X.fs [] H H' s.heap h') (hok : fj X.prog X.w H' h') : aM X pins σ H' { s with heap := h',toks := t' } := by
 obtain ⟨m,⟨o,es,ep,ho,r⟩,_⟩ := id I.loc
 obtain ⟨sl,hL⟩ := u.any ho I.free (by simp)
 exact I.step (g' := s.gens) (d' := s.drawn) (ch := []) (fun _ z => nomatch z) (fun b o _ hb _ e n => u.keep b o e n hb (by simp)) (fun b o _ hb _ e n => u.slot b o e n hb (by simp)) (fun b o _ e n => u.free b o e n (by simp)) (fun b o _ e => u.there b o e (by simp)) u.tups u.frzs u.tbls (fun m' hm => by
  obtain ⟨o',es',ep',ho',r'⟩ := hm
  rw [ho] at ho'; cases ho'
  exact ⟨_,es',ep',hL,r'⟩) hok I.bare
theorem aM.call {g' : Array GenState} {t' : Nat} {d' : Drawn} {ch : List Addr} (I : aM X pins σ H s) (u : Un (pA X.stack) ch H H' s.heap h') (hok : fj X.prog X.w H' h') (hg : AllBare g')
  (hch : ∀ b ∈ ch,(b ∈ X.ex ∨ X.s₀.heap.objs.size ≤ b) ∧ b ≠ X.env.locals ∧ (∀ x c,X.env.cells.lookup x = some c → c ≠ b) ∧ ∀ p ∈ X.pn ++ pins,p.1 ≠ b) :
  aM X pins σ H' { s with heap := h',gens := g',drawn := d',toks := t' } := by
 obtain ⟨m,⟨o,es,ep,ho,r⟩,_⟩ := id I.loc
 obtain ⟨sl,hL⟩ := u.any ho I.free fun z => (hch _ z).2.1 rfl
 exact I.step (ch := ch) hch (fun b o hL hb hc e n => u.keep b o e n (fun z => (List.mem_cons.mp (I.stkSub b z)).elim hL hb) hc) (fun b o _ _ hc e n => u.any e n hc) (fun b o hc e n => u.free b o e n hc) (fun b o hc e => u.there b o e hc) u.tups u.frzs u.tbls (fun m' hm => by
  obtain ⟨o',es',ep',ho',r'⟩ := hm
  rw [ho] at ho'; cases ho'
  exact ⟨_,es',ep',hL,r'⟩) hok hg
theorem aM.turned {t' : Nat} {it : Addr} (I : aM X pins σ H s) (k : ∀ b o,b ≠ it → s.heap.get? b = some o → h'.get? b = some o) (hn : H it = none) (hL : it ≠ X.env.locals)
  (h1 : it ∈ X.ex ∨ X.s₀.heap.objs.size ≤ it) (h2 : ∀ x c,X.env.cells.lookup x = some c → c ≠ it) (h3 : ∀ p ∈ X.pn ++ pins,p.1 ≠ it) : aM X pins σ H { s with heap := h',toks := t' } := by
 have nit : ∀ b u,H b = some u → b ≠ it := fun b u e z => by rw [z,hn] at e; cases e
 refine I.step (g' := s.gens) (d' := s.drawn) (ch := [it]) (fun b hb => ?_) (fun b o _ _ hc e _ => k b o (fun z => hc (by simp [z])) e) (fun b o _ _ hc e _ => ⟨o.slots,k b o (fun z => hc (by simp [z])) e⟩) (fun _ _ _ _ n => n)
  (fun b o hc e => ⟨o,k b o (fun z => hc (by simp [z])) e⟩) (fun _ _ e => e) (fun _ _ _ e => e) (fun b ps e => ⟨#[],by rw [e]; simp⟩) (fun m hm => ?_) (fun b u e => ?_) I.bare
 ·have e : b = it := by simpa using hb
  subst e
  exact ⟨h1,hL,h2,h3⟩
 ·obtain ⟨o,es,ep,ho,r⟩ := hm
  exact ⟨o,es,ep,k _ o (Ne.symm hL) ho,r⟩
 ·refine (I.hok b u e).stay (fun c v hc q => k c v ?_ q) (fun _ q => q) fun _ _ q => q
  rcases hc with z | z
  ·rw [z]; exact nit b u e
  ·exact nit c _ z
theorem aM.tok (I : aM X pins σ H s) (t : Nat) : aM X pins σ H { s with toks := t } := I.un (h' := s.heap) (t' := t) Un.refl I.hok
theorem aM.kept {t' : Nat} (I : aM X pins σ H s) (k : ∀ b u,s.heap.get? b = some u → h'.get? b = some u) : aM X pins σ H { s with heap := h',toks := t' } := I.un (Un.kept k) (I.hok.kept k)
theorem aM.laid {a : Addr} {o : HO} {t' : Nat} (I : aM X pins σ H s) (k : ∀ b u,s.heap.get? b = some u → h'.get? b = some u) (hp : s.heap.objs.size ≤ a) (new : bD X.prog X.w (aD H a o) h' a o) :
  aM X pins σ (aD H a o) { s with heap := h',toks := t' } := I.un (Un.laid k hp (I.hok.fresh hp)) (I.hok.laid k hp new)
theorem aM.write {x e : Addr} {o : HO} {t' : Nat} (I : aM X pins σ H s) (mu : t8 (H x)) (he : e = x ∨ H e = some (.own x)) (k : ∀ b u,b ≠ e → s.heap.get? b = some u → h'.get? b = some u) (heo : ∃ u,h'.get? e = some u)
  (new : bD X.prog X.w (aD H x o) h' x o) : aM X pins σ (aD H x o) { s with heap := h',toks := t' } := I.un (Un.write mu he k heo) (I.hok.write mu he k heo new)
theorem aM.pins_of {pins' : List (Addr × Obj)} (I : aM X pins σ H s) (h : ∀ p ∈ pins',s.heap.get? p.1 = some p.2 ∧ H p.1 = none ∧ p.1 ≠ X.env.locals ∧ p.1 ∉ X.fs ∧ ∀ v,p.2.data ≠ .cell v) : aM X pins' σ H s :=
 ⟨I.ok,I.os,I.bare,I.base,I.loc,I.cell,I.free,I.freeC,fun p hp => (List.mem_append.mp hp).elim (fun z => I.pin p (List.mem_append_left _ z)) (h p),I.hok,I.len⟩
theorem j4 {N : List Str} (hN : N.Nodup) {i j : Nat} {x : Str} (a : N[i]? = some x) (b : N[j]? = some x) : i = j := by
 obtain ⟨h1,e1⟩ := List.getElem?_eq_some_iff.mp a
 obtain ⟨h2,e2⟩ := List.getElem?_eq_some_iff.mp b
 exact (List.getElem_inj hN).mp (e1.trans e2.symm)
theorem eN {M : Model} {A : Around} {E : Value → Shared → Prop} {i : Nat} {x : Str} {v : V} {u : Value} {Q : Unit → Shared → Prop} (I : aM X pins σ H s) (hN : X.N.Nodup) (hi : X.N[i]? = some x) (hx : Loc X.env.scope x) (r : RelV v u)
  (h : ∀ s',aM X pins (σ.set i (some v)) H s' → (∃ a,Heap.SameBut a s.heap s'.heap ∧ (a = X.env.locals ∨ X.env.cells.lookup x = some a)) → Q () s') (hf : X.fn x = true ∨ X.env.scope.names.lookup x = some .local := by first | exact .inl rfl | exact .inr rfl | assumption) : wpAny M A (storeName X.env x u) Q E s := by
 obtain ⟨m,hn,hl⟩ := id I.loc
 have hcls : (X.env.scope.kind == .class || (X.env.scope.kind == .module && X.env.locals != X.env.globals)) = false := by rw [I.ok.kind]; rfl
 have hiσ : i < σ.length := by rw [I.len]; exact (List.getElem?_eq_some_iff.mp hi).1
 have cne := I.cne
 have tracked : ∀ {a : Addr} {h' : Heap},(∃ o,s.heap.get? a = some o ∧ H a = none) → Heap.SameBut a s.heap h' → fj X.prog X.w H h' := fun {a h'} ha hs b ob e => by
  obtain ⟨_,_,hfree⟩ := ha
  refine (I.hok b ob e).stay (fun c w' hc q => (hs.2 c ?_).trans q) (fun _ q => q) fun _ _ q => q
  rintro rfl
  rcases hc with rfl | hc
  ·rw [hfree] at e; cases e
  ·rw [hfree] at hc; cases hc
 rcases hx with hk | hk
 ·refine wpAny_storeName_local hk hn (fun h' hn' hs => ?_) hcls
  obtain ⟨oL,_,_,hoL,_⟩ := id hn
  refine h _ ⟨I.ok,I.os,I.bare,⟨fun b o e n hb hx => ?_,fun b o e n hb hx => ?_,I.base.free,fun b o e hx => ?_,I.base.tups,I.base.frzs,I.base.tbls⟩,⟨_,hn',fun j y v' e1 e2 e3 => ?_⟩,fun y c e => ?_,I.free,I.freeC,fun p hp => ?_,tracked ⟨oL,hoL,I.free⟩ hs,by simpa using I.len⟩ ⟨_,hs,.inl rfl⟩
  ·exact (hs.2 b (Nat.ne_of_lt (Nat.lt_of_lt_of_le (Heap.lt_size e) I.ok.above))).trans (I.base.keep b o e n hb hx)
  ·obtain ⟨sl,e1⟩ := I.base.slot b o e n hb hx
   exact ⟨sl,(hs.2 b (Nat.ne_of_lt (Nat.lt_of_lt_of_le (Heap.lt_size e) I.ok.above))).trans e1⟩
  ·obtain ⟨o',e1⟩ := I.base.there b o e hx
   exact ⟨o',(hs.2 b (Nat.ne_of_lt (Nat.lt_of_lt_of_le (Heap.lt_size e) I.ok.above))).trans e1⟩
  ·by_cases hj : j = i
   ·subst hj
    rw [hi] at e1; cases e1
    rw [List.getElem?_set_self hiσ] at e2
    cases e2
    exact ⟨u,r,.inl ⟨hk,by simp⟩⟩
   ·rw [List.getElem?_set_ne (Ne.symm hj)] at e2
    obtain ⟨u',r',q⟩ := hl j y v' e1 e2 e3
    refine ⟨u',r',?_⟩
    rcases q with ⟨k,e⟩ | ⟨k,c,e,z⟩
    ·refine .inl ⟨k,?_⟩
     have : y ≠ x := fun e => hj (j4 hN e1 (e ▸ hi))
     simp [this,e]
    ·exact .inr ⟨k,c,e,z.sameBut hs (cne y c e)⟩
  ·obtain ⟨w',z⟩ := I.cell y c e
   exact ⟨w',z.sameBut hs (cne y c e)⟩
  ·obtain ⟨e,n,ne,nf,d⟩ := I.pin p hp
   exact ⟨(hs.2 p.1 ne).trans e,n,ne,nf,d⟩
 ·have hfn : X.fn x = true := by
   rcases hf with z | z
   ·exact z
   ·rw [z] at hk; cases hk
  obtain ⟨c,hc⟩ := I.ok.has x (.inl hk)
  obtain ⟨w',z⟩ := I.cell x c hc
  refine wpAny_storeName_cell I.ok.kind hk hc z (fun h' hc' hs => ?_)
  obtain ⟨oc,hoc,hocd⟩ := id z
  refine h { s with heap := h' } ⟨I.ok,I.os,I.bare,⟨fun b o e n hb hx => ?_,fun b o e n hb hx => ?_,I.base.free,fun b o e hx => ?_,I.base.tups,I.base.frzs,I.base.tbls⟩,⟨m,hn.sameBut hs (Ne.symm (cne x c hc)),fun j y v' e1 e2 e3 => ?_⟩,fun y c' e => ?_,I.free,I.freeC,fun p hp => ?_,tracked ⟨oc,hoc,I.freeC x c hc⟩ hs,by simpa using I.len⟩ ⟨c,hs,.inr hc⟩
  ·exact (hs.2 b (Nat.ne_of_lt (Nat.lt_of_lt_of_le (Heap.lt_size e) (I.ok.cab x c hfn hc)))).trans (I.base.keep b o e n hb hx)
  ·obtain ⟨sl,e1⟩ := I.base.slot b o e n hb hx
   exact ⟨sl,(hs.2 b (Nat.ne_of_lt (Nat.lt_of_lt_of_le (Heap.lt_size e) (I.ok.cab x c hfn hc)))).trans e1⟩
  ·obtain ⟨o',e1⟩ := I.base.there b o e hx
   exact ⟨o',(hs.2 b (Nat.ne_of_lt (Nat.lt_of_lt_of_le (Heap.lt_size e) (I.ok.cab x c hfn hc)))).trans e1⟩
  ·by_cases hj : j = i
   ·subst hj
    rw [hi] at e1; cases e1
    rw [List.getElem?_set_self hiσ] at e2
    cases e2
    exact ⟨u,r,.inr ⟨.inl hk,c,hc,hc'⟩⟩
   ·rw [List.getElem?_set_ne (Ne.symm hj)] at e2
    obtain ⟨u',r',q⟩ := hl j y v' e1 e2 e3
    refine ⟨u',r',?_⟩
    rcases q with q | ⟨k,c',e,z'⟩
    ·exact .inl q
    ·refine .inr ⟨k,c',e,z'.sameBut hs ?_⟩
     rintro rfl
     exact hj (j4 hN e1 (I.ok.inj _ _ _ e hc ▸ hi))
  ·by_cases hcc : c' = c
   ·subst hcc; exact ⟨_,hc'⟩
   ·obtain ⟨w2,z2⟩ := I.cell y c' e
    exact ⟨w2,z2.sameBut hs hcc⟩
  ·obtain ⟨e,n,ne,nf,d⟩ := I.pin p hp
   refine ⟨(hs.2 p.1 ?_).trans e,n,ne,nf,d⟩
   intro q
   rw [q,hoc] at e
   have q' : oc = p.2 := Option.some.inj e
   exact d w' (by rw [← q']; exact hocd)
theorem hJ {M : Model} {A : Around} {E : Value → Shared → Prop} {i : Nat} {x : Str} {v : V} {u : Value} {Q : Unit → Shared → Prop} (I : aM X pins σ H s) (hN : X.N.Nodup) (hi : X.N[i]? = some x) (hx : Loc X.env.scope x) (r : RelV v u)
  (h : ∀ s',aM X pins (σ.set i (some v)) H s' → Q () s') (hf : X.fn x = true ∨ X.env.scope.names.lookup x = some .local := by first | exact .inl rfl | exact .inr rfl | assumption) : wpAny M A (storeName X.env x u) Q E s :=
 eN I hN hi hx r (fun s' I' _ => h s' I') hf
theorem aM.call' {s' : Shared} {ch : List Addr} (I : aM X pins σ H s) (ho : s'.os = s.os) (u : Un (pA X.stack) ch H H' s.heap s'.heap) (hok : fj X.prog X.w H' s'.heap) (hg : AllBare s'.gens)
  (hch : ∀ b ∈ ch,(b ∈ X.ex ∨ X.s₀.heap.objs.size ≤ b) ∧ b ≠ X.env.locals ∧ (∀ x c,X.env.cells.lookup x = some c → c ≠ b) ∧ ∀ p ∈ X.pn ++ pins,p.1 ≠ b) : aM X pins σ H' s' := by
 obtain ⟨h',g',d',t',o'⟩ := s'
 have e : o' = s.os := ho
 subst e
 exact I.call (g' := g') (t' := t') (d' := d') u hok hg hch
end
abbrev XK := Value → Option Addr → Hp → Prop
abbrev St := List (Option V)
abbrev VK := V → Hp → Prop
abbrev TE := St → Hp → VK → Prop
abbrev TT := St → Hp → (Bool → Hp → Prop) → Prop
abbrev TA := St → Hp → (List V → Hp → Prop) → Prop
structure Ends where
 nx : St → Hp → Prop
 rt : VK
 bk : St → Hp → Prop := fun _ _ => False
 ct : St → Hp → Prop := fun _ _ => False
abbrev TS := Ends → St → Hp → Prop
def EP (X : Cx) (pins : List (Addr × Obj)) (σ : St) (Q : VK) (u : Value) (s' : Shared) : Prop := ∃ v H',aM X pins σ H' s' ∧ RelV v u ∧ Q v H'
def TP (X : Cx) (pins : List (Addr × Obj)) (σ : St) (Q : Bool → Hp → Prop) (b : Bool) (s' : Shared) : Prop := ∃ H',aM X pins σ H' s' ∧ Q b H'
def AP (X : Cx) (pins : List (Addr × Obj)) (σ : St) (Q : List V → Hp → Prop) (us : List Value) (s' : Shared) : Prop := ∃ vs H',aM X pins σ H' s' ∧ bh vs us ∧ Q vs H'
def SP (X : Cx) (pins : List (Addr × Obj)) (D : Ends) (f : Flow) (s' : Shared) : Prop :=
 match f with
 | .next => ∃ σ' H',aM X pins σ' H' s' ∧ D.nx σ' H'
 | .brk => ∃ σ' H',aM X pins σ' H' s' ∧ D.bk σ' H'
 | .cont => ∃ σ' H',aM X pins σ' H' s' ∧ D.ct σ' H'
 | .ret u => ∃ v σ' H',aM X pins σ' H' s' ∧ RelV v u ∧ D.rt v H'
def PE (X : Cx) (e : Expr) (t : TE) : Prop :=
 ∀ (pins : List (Addr × Obj)) (s : Shared) (σ : St) (H : Hp) (Q : VK),aM X pins σ H s → t σ H Q → wpAny (model X.prog X.w) X.A (eval e X.env) (EP X pins σ Q) X.xe s
def PT (X : Cx) (e : Expr) (t : TT) : Prop :=
 ∀ (pins : List (Addr × Obj)) (s : Shared) (σ : St) (H : Hp) (Q : Bool → Hp → Prop),aM X pins σ H s → t σ H Q → wpAny (model X.prog X.w) X.A (isTrue e X.env (eval e X.env)) (TP X pins σ Q) X.xe s
def PW (X : Cx) (e : Expr) (t : TT) : Prop :=
 ∀ (whole : Sem Value) (pins : List (Addr × Obj)) (s : Shared) (σ : St) (H : Hp) (Q : Bool → Hp → Prop),aM X pins σ H s → t σ H Q → wpAny (model X.prog X.w) X.A (isTrue e X.env whole) (TP X pins σ Q) X.xe s
theorem PW.pt {X : Cx} {e : Expr} {t : TT} (h : PW X e t) : PT X e t := h _
def PA (X : Cx) (es : List Expr) (t : TA) : Prop :=
 ∀ (pos : Pos) (pins : List (Addr × Obj)) (s : Shared) (σ : St) (H : Hp) (Q : List V → Hp → Prop),aM X pins σ H s → t σ H Q → wpAny (model X.prog X.w) X.A (spliced (backTo pos (starEach es X.env))) (AP X pins σ Q) X.xe s
def PS (X : Cx) (st : Stmt) (t : TS) : Prop :=
 ∀ (pins : List (Addr × Obj)) (s : Shared) (σ : St) (H : Hp) (D : Ends),aM X pins σ H s → t D σ H → wpAny (model X.prog X.w) X.A (exec st X.env) (SP X pins D) X.xe s
def pC (X : Cx) (st : List Stmt) (t : TS) : Prop :=
 ∀ (pins : List (Addr × Obj)) (s : Shared) (σ : St) (H : Hp) (D : Ends),aM X pins σ H s → t D σ H → wpAny (model X.prog X.w) X.A (execs st X.env) (SP X pins D) X.xe s
theorem a9 {α : Type} {t : Sem α} {Q Q' : α → Shared → Prop} {M : Model} {A : Around} {E : Value → Shared → Prop} {s : Shared} (h : wpAny M A t Q E s) (hQ : ∀ a s,Q a s → Q' a s) : wpAny M A t Q' E s := wpAny_mono h hQ fun _ _ x => x
section
variable {X : Cx}
def ua (i : Nat) : TE := fun σ H Q => ∃ v,σ[i]? = some (some v) ∧ Q v H
def tC (v : V) : TE := fun _ H Q => Q v H
theorem sA {i : Nat} {x : Str} {pos : Pos} (hN : X.N[i]? = some x) (hv : vX X.env.scope x) (hd : (x == ("__debug__" : Str)) = false := by decide) (hcd : (x == ("__classdict__" : Str)) = false := by decide) : PE X (.Name x pos) (ua i) := by
 intro pins s σ H Q I h
 obtain ⟨v,e,h⟩ := h
 obtain ⟨m,hn,hl⟩ := I.loc
 obtain ⟨u,r,l⟩ := hl i x v hN e hv
 have fin : EP X pins σ Q u s := ⟨v,H,I,r,h⟩
 rcases l with ⟨hk,hm⟩ | ⟨hk,c,hc,hcell⟩
 ·exact wpAny_Name (wpAny_loadName_local I.ok.kind hk hn hm fin) hd
 ·rcases hk with hk | hk
  ·exact wpAny_Name (wpAny_loadName_cell I.ok.kind hk hc hcell fin) hd
  ·exact wpAny_Name (wpAny_loadName_free I.ok.kind hk hc hcell fin hcd) hd
theorem ac {i j pos} : PE X (.Constant (.int i) j pos) (tC (.int i)) := fun _ _ _ H _ I h => wpAny_Constant_int ⟨.int i,H,I.tok _,⟨_,rfl⟩,h⟩
theorem c6 {b j pos} : PE X (.Constant (.bool b) j pos) (tC (.bl b)) := fun _ _ _ H _ I h => Constant_bool ⟨.bl b,H,I,rfl,h⟩
theorem dX {j pos} : PE X (.Constant .none j pos) (tC .non) := fun _ _ _ H _ I h => Constant_none ⟨.non,H,I,rfl,h⟩
theorem cz {x j pos} : PE X (.Constant (.str x) j pos) (tC (.str x)) := fun _ _ _ H _ I h => Calls.Constant_str ⟨.str x,H,I.tok _,⟨_,rfl⟩,h⟩
def Gl (X : Cx) (x : Str) : Prop := X.env.kindOf x = some .globalImplicit
theorem jr {E : Value → Shared → Prop} {pins : List (Addr × Obj)} {s : Shared} {σ : St} {H : Hp} {x : Str} {u : Value} {pos : Pos} {Q : Value → Shared → Prop} (I : aM X pins σ H s) (hg : Gl X x) (hm : X.mg x = some u) (h : Q u s)
  (hd : (x == ("__debug__" : Str)) = false := by decide) : wpAny (model X.prog X.w) X.A (eval (.Name x pos) X.env) Q E s :=
 Calls.Name_function_global I.ok.kind hg (Calls.loadGlobal_global (by rw [I.ok.glob]; exact I.mod.glob.keeps I.bk) hm h) hd
theorem cA {E : Value → Shared → Prop} {pins : List (Addr × Obj)} {s : Shared} {σ : St} {H : Hp} {x : Str} {u : Value} {pos : Pos} {Q : Value → Shared → Prop} (I : aM X pins σ H s) (hg : Gl X x) (hm : X.mg x = none) (hv : bootBuiltins x = some u) (h : Q u s)
  (hn : x ≠ "__name__" := by decide) (hd : (x == ("__debug__" : Str)) = false := by decide) : wpAny (model X.prog X.w) X.A (eval (.Name x pos) X.env) Q E s := by
 obtain ⟨mb,h1,h2⟩ := I.mod.blt
 exact Calls.Name_function_global I.ok.kind hg (Calls.loadGlobal_builtin (by rw [I.ok.glob]; exact I.mod.glob.keeps I.bk) hm (by rw [I.ok.blt]; exact h1.keeps I.bk) ((h2 x hn).trans hv) h) hd
theorem mI {x : Str} {v : V} {u : Value} {pos : Pos} (hg : Gl X x) (hm : X.mg x = some u) (r : RelV v u) (hd : (x == ("__debug__" : Str)) = false := by decide) : PE X (.Name x pos) (tC v) :=
 fun _ _ _ H _ I h => jr I hg hm ⟨v,H,I,r,h⟩ hd
theorem eO {x : Str} {v : V} {u : Value} {pos : Pos} (hg : Gl X x) (hm : X.mg x = none) (hv : bootBuiltins x = some u) (r : RelV v u) (hn : x ≠ "__name__" := by decide) (hd : (x == ("__debug__" : Str)) = false := by decide) : PE X (.Name x pos) (tC v) :=
 fun _ _ _ H _ I h => cA I hg hm hv ⟨v,H,I,r,h⟩ hn hd
variable {a b : Expr} {ta tb : TE} {pos : Pos}
def PC (X : Cx) (op : CmpOp) (a b : Expr) (t : TE) : Prop :=
 ∀ (pins : List (Addr × Obj)) (s : Shared) (σ : St) (H : Hp) (Q : VK),aM X pins σ H s → t σ H Q →
  wpAny (model X.prog X.w) X.A (eval a X.env) (fun v s₁ => wpAny (model X.prog X.w) X.A (eval b X.env) (fun u s₂ => wpAny (model X.prog X.w) X.A (compareOp op v u) (EP X pins σ Q) X.xe s₂) X.xe s₁) X.xe s
def tB (t : TE) : TT := fun σ H Q => t σ H fun x H1 => ∃ c,x = .bl c ∧ Q c H1
theorem sB {op : CmpOp} {t : TE} (h : PC X op a b t) (h1 : behindInMarks op b = false := by first | exact nobehind _ (by decide) (by decide) | rfl) : PT X (.Compare a [op] [b] pos) (tB t) := by
 intro pins s σ H Q I hw
 refine wpAny_isTrue_Compare1 (a9 (h pins s σ H _ I hw) fun v s1 h1 => a9 h1 fun u s2 h2 => a9 h2 fun c s3 ⟨x,H1,I1,r1,q1⟩ => ?_) h1
 obtain ⟨d,rfl,q⟩ := q1
 cases r1
 exact wpAny_truthy_bool ⟨H1,I1,q⟩
theorem bX {e : Expr} {t : TE} (h : PE X e t) (he : ∀ whole,isTrue e X.env whole = (do let v ← whole; standAt e.pos; holding [v] (truthy v)) := by intro _; rfl) : PT X e (tB t) := by
 intro pins s σ H Q I hw
 refine isTrue_plain (a9 (h pins s σ H _ I hw) fun v s1 ⟨x,H1,I1,r1,q1⟩ => ?_) (he _)
 obtain ⟨d,rfl,q⟩ := q1
 cases r1
 exact wpAny_truthy_bool ⟨H1,I1,q⟩
variable {tA tB' : TT} {rest : List Expr}
def we (t u : TT) : TT := fun σ H Q => t σ H fun c H1 => if c = true then u σ H1 Q else Q false H1
def xw (t u : TT) : TT := fun σ H Q => t σ H fun c H1 => if c = true then Q true H1 else u σ H1 Q
def wg (t : TT) : TT := fun σ H Q => t σ H fun c H1 => Q (!c) H1
theorem eP (ha : PT X a tA) : PW X (.BoolOp .And [a] pos) tA := by
 intro wh pins s σ H Q I h
 refine isTrue_and (a9 (ha pins s σ H Q I h) fun c s1 e => ?_)
 cases c with
 | true => exact isTrue_and_nil e
 | false => exact e
theorem dY (ha : PT X a tA) : PW X (.BoolOp .Or [a] pos) tA := by
 intro wh pins s σ H Q I h
 refine isTrue_or (a9 (ha pins s σ H Q I h) fun c s1 e => ?_)
 cases c with
 | false => exact isTrue_or_nil e
 | true => exact e
theorem dZ (ha : PT X a tA) (hb : PW X (.BoolOp .And (b :: rest) pos) tB') : PW X (.BoolOp .And (a :: b :: rest) pos) (we tA tB') := by
 intro wh pins s σ H Q I h
 refine isTrue_and (a9 (ha pins s σ H _ I h) fun c s1 ⟨H1,I1,q1⟩ => ?_)
 cases c with
 | true => exact hb wh pins s1 σ H1 Q I1 q1
 | false => exact ⟨H1,I1,q1⟩
theorem fc (ha : PT X a tA) (hb : PW X (.BoolOp .Or (b :: rest) pos) tB') : PW X (.BoolOp .Or (a :: b :: rest) pos) (xw tA tB') := by
 intro wh pins s σ H Q I h
 refine isTrue_or (a9 (ha pins s σ H _ I h) fun c s1 ⟨H1,I1,q1⟩ => ?_)
 cases c with
 | true => exact ⟨H1,I1,q1⟩
 | false => exact hb wh pins s1 σ H1 Q I1 q1
theorem bQ (ha : PT X a tA) : PT X (.UnaryOp .Not a pos) (wg tA) := by
 intro pins s σ H Q I h
 exact isTrue_not (ha pins s σ H (fun c H1 => Q (!c) H1) I h)
def ub (ta tb : TE) : TE := fun σ H Q => ta σ H fun x H1 => ∃ c,x = .bl c ∧ if c = true then tb σ H1 Q else Q (.bl false) H1
theorem lL {op} {t : TE} (h : PE X a t) : PE X (.BoolOp op [a] pos) t := fun pins s σ H Q I hw => BoolOp_one (h pins s σ H Q I hw)
theorem hU (ha : PE X a ta) (hb : PE X (.BoolOp .And (b :: rest) pos) tb) : PE X (.BoolOp .And (a :: b :: rest) pos) (ub ta tb) := by
 intro pins s σ H Q I h
 refine BoolOp_and (a9 (ha pins s σ H _ I h) fun v s1 ⟨x,H1,I1,r1,q1⟩ => ?_)
 obtain ⟨c,rfl,q1⟩ := q1
 cases r1
 refine wpAny_truthy_bool ?_
 cases c with
 | true => exact hb pins s1 σ H1 Q I1 q1
 | false => exact ⟨.bl false,H1,I1,rfl,q1⟩
def xx (t : TT) (ta tb : TE) : TE := fun σ H Q => t σ H fun c H1 => if c = true then ta σ H1 Q else tb σ H1 Q
theorem pK {c : Expr} (hc : PT X c tA) (ha : PE X a ta) (hb : PE X b tb) : PE X (.IfExp c a b pos) (xx tA ta tb) := by
 intro pins s σ H Q I h
 refine wpAny_IfExp (a9 (hc pins s σ H _ I h) fun d s1 ⟨H1,I1,q1⟩ => ?_)
 cases d with
 | true => exact ha pins s1 σ H1 Q I1 q1
 | false => exact hb pins s1 σ H1 Q I1 q1
end
def az (K : PySem.W.Frag) (H : Hp) (a : Addr) (xs : List V) : Prop :=
 Rd H a (.lst xs) ∨
  ∃ (o : Obj) (its : Array Value) (n : Nat),K.lookup a = some o ∧ o.cls = .type "list" ∧ o.dict = none ∧ o.data = .seq its n ∧ its.size ≤ sizeLine ∧ bh xs its.toList
def bc (K : PySem.W.Frag) (H : Hp) (a : Addr) (xs : List V) : Prop :=
 Rd H a (.tup xs) ∨
  ∃ (o : Obj) (its : Array Value) (n : Nat),K.lookup a = some o ∧ o.cls = .type "tuple" ∧ o.data = .seq its n ∧ its.size ≤ sizeLine ∧ bh xs its.toList
def wj : Value → Option V
 | .none => some .non
 | .bool b => some (.bl b)
 | .int i _ => some (.int i)
 | .str x _ => some (.str x)
 | .bytes b _ => some (.byt b)
 | .float b _ => some (.flt b)
 | .ref a => some (.ref a)
 | .type n => some (.ty n)
 | _ => none
theorem RelV.abs {x : V} {u : Value} (r : RelV x u) : wj u = some x := by
 cases x with
 | non => cases r; rfl
 | bl _ => cases r; rfl
 | int _ => obtain ⟨t,rfl⟩ := r; rfl
 | str _ => obtain ⟨t,rfl⟩ := r; rfl
 | byt _ => obtain ⟨t,rfl⟩ := r; rfl
 | flt _ => obtain ⟨t,rfl⟩ := r; rfl
 | ref _ => cases r; rfl
 | ty _ => cases r; rfl
theorem RelV.inj {x y : V} {u : Value} (r : RelV x u) (q : RelV y u) : x = y := Option.some.inj (r.abs.symm.trans q.abs)
theorem bh.inj : ∀ {xs ys : List V} {us : List Value},bh xs us → bh ys us → xs = ys
 | _,_,_,.nil,.nil => rfl
 | _,_,_,.cons r t,.cons r' t' => by rw [r.inj r',bh.inj t t']
section
variable {X : Cx} {pins : List (Addr × Obj)} {σ : St} {H : Hp} {s : Shared} {a : Addr} {xs ys : List V}
theorem az.of {K : PySem.W.Frag} (h : H a = some (.lst xs)) : az K H a xs := .inl (.inl h)
theorem bc.of {K : PySem.W.Frag} (h : H a = some (.tup xs)) : bc K H a xs := .inl (.inl h)
theorem aM.list (I : aM X pins σ H s) (h : az X.K H a xs) : ∃ its : List Value,bh xs its ∧ PlainL s.heap a its.toArray ∧ xs.length ≤ sizeLine := by
 rcases h with h | ⟨o,its,n,hk,hc,hd,hs,hz,r⟩
 ·obtain ⟨z,its,n,r,e⟩ := h.ok I.hok
  exact ⟨its,r,⟨_,n,e,rfl,rfl,rfl⟩,z⟩
 ·refine ⟨its.toList,r,⟨o,n,I.kIn a o hk,hc,hd,by simpa using hs⟩,?_⟩
  have e := r.length
  simp only [Array.length_toList] at e
  omega
theorem aM.tuple (I : aM X pins σ H s) (h : bc X.K H a xs) : ∃ its : List Value,bh xs its ∧ IsTup s.heap a its.toArray ∧ xs.length ≤ sizeLine := by
 rcases h with h | ⟨o,its,n,hk,hc,hs,hz,r⟩
 ·obtain ⟨z,its,r,p⟩ := h.ok I.hok
  exact ⟨its,r,p,z⟩
 ·refine ⟨its.toList,r,⟨o,I.kIn a o hk,hc,n,by simpa using hs⟩,?_⟩
  have e := r.length
  simp only [Array.length_toList] at e
  omega
theorem aM.list_inj (I : aM X pins σ H s) (h : az X.K H a xs) (h' : az X.K H a ys) : xs = ys := by
 obtain ⟨its,r,⟨o,n,e,_,_,d⟩,_⟩ := I.list h
 obtain ⟨its',r',⟨o',n',e',_,_,d'⟩,_⟩ := I.list h'
 rw [e] at e'; cases e'
 rw [d] at d'
 injection d' with d1 _
 have : its = its' := by simpa using congrArg Array.toList d1
 subst this
 exact r.inj r'
theorem aM.tuple_inj (I : aM X pins σ H s) (h : bc X.K H a xs) (h' : bc X.K H a ys) : xs = ys := by
 obtain ⟨its,r,⟨o,e,_,n,d⟩,_⟩ := I.tuple h
 obtain ⟨its',r',⟨o',e',_,n',d'⟩,_⟩ := I.tuple h'
 rw [e] at e'; cases e'
 rw [d] at d'
 injection d' with d1 _
 have : its = its' := by simpa using congrArg Array.toList d1
 subst this
 exact r.inj r'
end
abbrev Cx.wish (X : Cx) (E : Value → Shared → Prop) : Cx := { X with xe := E }
abbrev Cx.nox (X : Cx) : Cx := X.wish fun _ _ => False
theorem Cx.Ok.wish {X : Cx} (ok : X.Ok) (E : Value → Shared → Prop) : (X.wish E).Ok :=
 ⟨ok.mod,ok.kind,ok.glob,ok.blt,ok.above,ok.inj,ok.has,ok.cab,ok.hd,ok.frames,ok.stk,ok.exf,ok.bs,ok.bsz,ok.noex,ok.exfs,ok.funs,ok.frf⟩
theorem Cx.Ok.unwish {X : Cx} {E : Value → Shared → Prop} (ok : (X.wish E).Ok) : X.Ok :=
 ⟨ok.mod,ok.kind,ok.glob,ok.blt,ok.above,ok.inj,ok.has,ok.cab,ok.hd,ok.frames,ok.stk,ok.exf,ok.bs,ok.bsz,ok.noex,ok.exfs,ok.funs,ok.frf⟩
section
variable {X : Cx} {pins : List (Addr × Obj)} {σ : St} {H : Hp} {s : Shared} {E : Value → Shared → Prop}
theorem aM.wish (I : aM X pins σ H s) (E : Value → Shared → Prop) : aM (X.wish E) pins σ H s := ⟨I.ok.wish E,I.os,I.bare,I.base,I.loc,I.cell,I.free,I.freeC,I.pin,I.hok,I.len⟩
theorem aM.unwish (I : aM (X.wish E) pins σ H s) : aM X pins σ H s := ⟨I.ok.unwish,I.os,I.bare,I.base,I.loc,I.cell,I.free,I.freeC,I.pin,I.hok,I.len⟩
theorem SP.unwish {D : Ends} {f : Flow} {s' : Shared} (h : SP (X.wish E) pins D f s') : SP X pins D f s' := by
 cases f with
 | next => obtain ⟨σ',H',I,q⟩ := h; exact ⟨σ',H',I.unwish,q⟩
 | brk => obtain ⟨σ',H',I,q⟩ := h; exact ⟨σ',H',I.unwish,q⟩
 | cont => obtain ⟨σ',H',I,q⟩ := h; exact ⟨σ',H',I.unwish,q⟩
 | ret u => obtain ⟨v,σ',H',I,r,q⟩ := h; exact ⟨v,σ',H',I.unwish,r,q⟩
theorem pC.nox {st : List Stmt} {t : TS} (h : pC X.nox st t) : pC X st t := fun pins s σ H D I hw =>
 wpAny_mono (h pins s σ H D (I.wish _) hw) (fun _ _ q => q.unwish) fun _ _ z => False.elim z
end
section
variable {X : Cx} {st : Stmt} {rest : List Stmt} {t u : TS} {e : Expr} {te : TE} {pos : Pos}
def c7 : TS := fun D σ H => D.nx σ H
def sC (t u : TS) : TS := fun D σ H => t { D with nx := u D } σ H
theorem aC : pC X [] c7 := fun _ _ σ H _ I h => wpAny_execs_nil ⟨σ,H,I,h⟩
theorem af (h1 : PS X st t) (h2 : pC X rest u) : pC X (st :: rest) (sC t u) := by
 intro pins s σ H D I h
 refine wpAny_execs_cons (a9 (h1 pins s σ H { D with nx := u D } I h) fun f s1 q => ?_)
 cases f with
 | next =>
  obtain ⟨σ',H',I',q⟩ := q
  exact h2 pins s1 σ' H' D I' q
 | ret v => exact q
 | brk => exact q
 | cont => exact q
theorem ai (h1 : PS X st t) : pC X [st] t := by
 intro pins s σ H D I h
 refine wpAny_execs_cons (a9 (h1 pins s σ H D I h) fun f s1 q => ?_)
 cases f with
 | next => exact wpAny_execs_nil q
 | ret v => exact q
 | brk => exact q
 | cont => exact q
theorem aM.quiet {pins : List (Addr × Obj)} {σ : St} {H : Hp} {s : Shared} (I : aM X pins σ H s) : interactive X.env = false := by simp [interactive,I.ok.kind]
def uc (te : TE) : TS := fun D σ H => te σ H fun _ H1 => D.nx σ H1
theorem be (he : PE X e te) (hs : swapsWith e none pos.line X.env = pure false := by rfl) : PS X (.Expr e pos) (uc te) := by
 intro pins s σ H D I h
 exact wpAny_Expr_any (a9 (he pins s σ H _ I h) fun v s1 ⟨x,H1,I1,r1,q1⟩ => ⟨σ,H1,I1,q1⟩) I.quiet hs
def wk (te : TE) : TS := fun D σ H => te σ H D.rt
theorem aO (he : PE X e te) : PS X (.Return (some e) pos) (wk te) := by
 intro pins s σ H D I h
 exact wpAny_Return_some (a9 (he pins s σ H _ I h) fun v s1 ⟨x,H1,I1,r1,q1⟩ => ⟨x,σ,H1,I1,r1,q1⟩)
def wm (c : TT) (t u : TS) : TS := fun D σ H => c σ H fun b H1 => if b = true then t D σ H1 else u D σ H1
theorem aU {c : Expr} {a b : List Stmt} {tc : TT} (hc : PT X c tc) (ha : pC X a t) (hb : pC X b u) : PS X (.If c a b pos) (wm tc t u) := by
 intro pins s σ H D I h
 refine wpAny_If (a9 (hc pins s σ H _ I h) fun d s1 ⟨H1,I1,q1⟩ => ?_)
 cases d with
 | true => exact ha pins s1 σ H1 D I1 q1
 | false => exact hb pins s1 σ H1 D I1 q1
def sD : TS := fun _ _ _ => False
theorem bx : PS X st sD := fun _ _ _ _ _ _ h => h.elim
end
abbrev TG := V → St → Hp → (St → Hp → Prop) → Prop
abbrev sE := List V → St → Hp → (St → Hp → Prop) → Prop
def PG (X : Cx) (target : Expr) (t : TG) : Prop :=
 ∀ (pins : List (Addr × Obj)) (s : Shared) (σ : St) (H : Hp) (v : V) (u : Value) (Q : St → Hp → Prop),aM X pins σ H s → RelV v u → t v σ H Q →
  wpAny (model X.prog X.w) X.A (assign target X.env u) (fun _ s' => ∃ σ' H',aM X pins σ' H' s' ∧ Q σ' H') X.xe s
def vY (X : Cx) (ts : List Expr) (t : sE) : Prop :=
 ∀ (pins : List (Addr × Obj)) (s : Shared) (σ : St) (H : Hp) (vs : List V) (us : List Value) (Q : St → Hp → Prop),aM X pins σ H s → bh vs us → t vs σ H Q →
  wpAny (model X.prog X.w) X.A (assignInOrder ((assignEach ts X.env).map (·.2)) us) (fun _ s' => ∃ σ' H',aM X pins σ' H' s' ∧ Q σ' H') X.xe s
abbrev vZ := V → V → Hp → VK → Prop
def xp (X : Cx) (op : Operator) (t : vZ) : Prop :=
 ∀ (pins : List (Addr × Obj)) (s : Shared) (σ : St) (H : Hp) (x y : V) (v u : Value) (Q : VK),aM X pins σ H s → RelV x v → RelV y u → t x y H Q →
  wpAny (model X.prog X.w) X.A (inplaceOp op v u) (EP X pins σ Q) X.xe s
section
variable {X : Cx} {pos : Pos}
def cB (i : Nat) : TG := fun v σ H Q => Q (σ.set i (some v)) H
theorem ay {i : Nat} {x : Str} (hN : X.N.Nodup) (hi : X.N[i]? = some x) (hx : Loc X.env.scope x) (hf : X.fn x = true ∨ X.env.scope.names.lookup x = some .local := by first | exact .inl rfl | exact .inr rfl | assumption) : PG X (.Name x pos) (cB i) := by
 intro pins s σ H v u Q I r h
 exact wpAny_assign_Name (hJ I hN hi hx r (fun s' I' => ⟨_,H,I',h⟩) hf)
def wn : sE := fun vs σ H Q => vs = [] ∧ Q σ H
def ud (t : TG) (u : sE) : sE := fun vs σ H Q => ∃ v r,vs = v :: r ∧ t v σ H fun σ' H' => u r σ' H' Q
theorem cV : vY X [] wn := by
 intro pins s σ H vs us Q I r h
 obtain ⟨e,h⟩ := h
 subst e
 cases r
 exact assignInOrder_nil ⟨σ,H,I,h⟩
theorem bn {e : Expr} {es : List Expr} {t : TG} {u : sE} (h1 : PG X e t) (h2 : vY X es u)
  (hs : (assignEach (e :: es) X.env).map (·.2) = assign e X.env :: (assignEach es X.env).map (·.2) := by rfl) : vY X (e :: es) (ud t u) := by
 intro pins s σ H vs us Q I r h
 obtain ⟨v,vr,e1,h⟩ := h
 subst e1
 cases r with
 | cons r rr =>
  rw [hs]
  refine assignInOrder_cons (a9 (h1 pins s σ H _ _ _ I r h) fun _ s1 ⟨σ1,H1,I1,q1⟩ => ?_)
  exact h2 pins s1 σ1 H1 _ _ Q I1 rr q1
def wo (K : PySem.W.Frag) (n : Nat) (t : sE) : TG := fun v σ H Q => ∃ a xs,v = .ref a ∧ bc K H a xs ∧ xs.length = n ∧ t xs σ H Q
theorem dI {es : List Expr} {k : Nat} {t : sE} {n : Nat} (hc : X.calm = true) (h : vY X es t)
  (hn : (assignEach es X.env).length = n := by rfl) (hst : (assignEach es X.env).findIdx? (·.1) = none := by rfl) : PG X (.Tuple es k pos) (wo X.K n t) := by
 intro pins s σ H v u Q I r hw
 obtain ⟨a,xs,e1,hq,hl,hw⟩ := hw
 subst e1
 cases r
 obtain ⟨its,rv,ht,hz⟩ := I.tuple hq
 refine assign_Tuple_tuple (I.ok.hd hc) ht (by simp [hn,← hl,rv.length]) hst fun h' hx => ?_
 have I1 : aM X pins σ H { s with heap := h' } := I.kept (t' := s.toks) fun b o e => hx b o (Nat.ne_of_lt (Heap.lt_size e)) e
 exact h pins _ σ H xs _ Q I1 (by simpa using rv) hw
def pL (te : TE) (g : TG) : TS := fun D σ H => te σ H fun x H1 => g x σ H1 D.nx
theorem pM {tg e : Expr} {te : TE} {g : TG} (he : PE X e te) (hg : PG X tg g) (hs : swapsWithSole [tg] e pos.line X.env = pure false := by rfl) (hw : swappedStores [tg] e X.env = pure none := by rfl)
  (h1 : (assignEach [tg] X.env).map (·.2) = [assign tg X.env] := by rfl) : PS X (.Assign [tg] e pos) (pL te g) := by
 intro pins s σ H D I h
 refine wpAny_Assign_stores (a9 (he pins s σ H _ I h) fun v s1 ⟨x,H1,I1,r1,q1⟩ => ?_) hs hw
 rw [h1]
 exact a9 (hg pins s1 σ H1 x v _ I1 r1 q1) fun _ s2 q => q
theorem aE {i : Nat} {x : Str} {e : Expr} {te : TE} {pos' : Pos} (hN : X.N.Nodup) (hi : X.N[i]? = some x) (hx : Loc X.env.scope x) (he : PE X e te) (hs : swapsWith e (some (.Name x pos')) pos.line X.env = pure false := by rfl) (hf : X.fn x = true ∨ X.env.scope.names.lookup x = some .local := by first | exact .inl rfl | exact .inr rfl | assumption) :
  PS X (.Assign [.Name x pos'] e pos) (pL te (cB i)) := by
 intro pins s σ H D I h
 refine wpAny_Assign_Name (a9 (he pins s σ H _ I h) fun v s1 ⟨y,H1,I1,r1,q1⟩ => ?_) hs
 exact hJ I1 hN hi hx r1 (fun s2 I2 => ⟨_,H1,I2,q1⟩) hf
def wp (i : Nat) (te : TE) (ti : vZ) : TS := fun D σ H => ∃ x,σ[i]? = some (some x) ∧ te σ H fun y H1 => ti x y H1 fun z H2 => D.nx (σ.set i (some z)) H2
theorem sF {i : Nat} {x : Str} {e : Expr} {te : TE} {op : Operator} {ti : vZ} {pos' : Pos} (hN : X.N.Nodup) (hi : X.N[i]? = some x) (hx : Loc X.env.scope x) (he : PE X e te) (ho : xp X op ti) (hf : X.fn x = true ∨ X.env.scope.names.lookup x = some .local := by first | exact .inl rfl | exact .inr rfl | assumption) :
  PS X (.AugAssign (.Name x pos') op e pos) (wp i te ti) := by
 intro pins s σ H D I h
 obtain ⟨v,e1,h⟩ := h
 obtain ⟨m,hn,hl⟩ := I.loc
 have vis : vX X.env.scope x := by rcases hx with k | k; exact .inl k; exact .inr (.inl k)
 obtain ⟨u,r,l⟩ := hl i x v hi e1 vis
 refine wpAny_AugAssign_Name ?_
 have go : wpAny (model X.prog X.w) X.A (eval e X.env) (fun w s₂ => wpAny (model X.prog X.w) X.A (inplaceOp op u w) (fun r s₃ => wpAny (model X.prog X.w) X.A (storeName X.env x r) (fun _ => SP X pins D .next) X.xe s₃) X.xe s₂) X.xe s := by
  refine a9 (he pins s σ H _ I h) fun w s1 ⟨y,H1,I1,r1,q1⟩ => ?_
  refine a9 (ho pins s1 σ H1 v y u w _ I1 r r1 q1) fun z s2 ⟨zv,H2,I2,r2,q2⟩ => ?_
  exact hJ I2 hN hi hx r2 (fun s3 I3 => ⟨_,H2,I3,q2⟩) hf
 rcases l with ⟨hk,hm⟩ | ⟨hk,c,hc,hcell⟩
 ·exact wpAny_loadName_local I.ok.kind hk hn hm go
 ·rcases hk with hk | hk
  ·exact wpAny_loadName_cell I.ok.kind hk hc hcell go
  ·rcases hx with k | k
   ·have : X.env.scope.names.lookup x = some .free := hk
    rw [k] at this; cases this
   ·have : X.env.scope.names.lookup x = some .free := hk
    rw [k] at this; cases this
def xz (f : Int → Int → Int) : vZ := fun x y H Q => ∃ i j,x = .int i ∧ y = .int j ∧ Q (.int (f i j)) H
theorem sG : xp X .Add (xz fun i j => i + j) := by
 intro pins s σ H x y v u Q I r1 r2 h
 obtain ⟨i,j,e1,e2,q⟩ := h
 subst e1; subst e2
 obtain ⟨t,rfl⟩ := r1
 obtain ⟨t',rfl⟩ := r2
 exact iadd_int ⟨.int _,H,I.tok _,⟨_,rfl⟩,q⟩
end
section
variable {X : Cx} {pos : Pos}
end
structure It where
 go : Nat → Hp → Prop
 yld : Nat → Hp → V → Hp → Prop
 stop : Nat → Hp → Prop
def cT (X : Cx) (pins : List (Addr × Obj)) (H : Hp) (b : Addr) : Prop :=
 H b = none ∧ b ≠ X.env.locals ∧ b ∉ X.fs ∧ (b ∈ X.ex ∨ X.s₀.heap.objs.size ≤ b) ∧ (∀ x c,X.env.cells.lookup x = some c → c ≠ b) ∧ ∀ p ∈ X.pn ++ pins,p.1 ≠ b
theorem aM.fpOk {X : Cx} {pins : List (Addr × Obj)} {σ : St} {H H' : Hp} {s : Shared} {b : Addr} (I : aM X pins σ H s) (hb : s.heap.objs.size ≤ b) (hn : H' b = none) : cT X pins H' b := by
 refine ⟨hn,Nat.ne_of_gt (Nat.lt_of_lt_of_le I.lt hb),I.nofs hb,.inr (Nat.le_trans I.sz hb),fun x c e z => ?_,fun p hp z => ?_⟩
 ·obtain ⟨v,q⟩ := I.cell x c e
  exact absurd (Nat.lt_of_lt_of_le q.lt (by rw [z]; exact hb)) (Nat.lt_irrefl _)
 ·exact absurd (Nat.lt_of_lt_of_le (Heap.lt_size (I.pin p hp).1) (by rw [z]; exact hb)) (Nat.lt_irrefl _)
structure Turn (P : Program) (w : World) (K : PySem.W.Frag) (tg : Expr) (J : It) (fp : List Addr) (it : Addr) (tn : Nat → Heap → Prop) : Prop where
 mem : it ∈ fp
 obj : ∀ i h,tn i h → ∀ b ∈ fp,∃ o,h.get? b = some o ∧ ∀ v,o.data ≠ .cell v
 keep : ∀ i h h',tn i h → (∀ b ∈ fp,∀ o,h.get? b = some o → h'.get? b = some o) → tn i h'
 item : ∀ (X : Cx),X.prog = P → X.w = w → X.K = K → X.calm = true → ∀ (i : Nat) (pins : List (Addr × Obj)) (s : Shared) (σ : St) (H : Hp) (E : Value → Shared → Prop),aM X pins σ H s → (∀ b ∈ fp,cT X pins H b) → tn i s.heap → J.go i H →
  wpAny (model P w) X.A (pyNext (.ref it)) (fun r s1 => ∃ u,r = some u ∧
   wpAny (model P w) X.A (letOwnedTupleGo tg (.ref it) u) (fun _ s2 => ∃ x H',aM X pins σ H' s2 ∧ RelV x u ∧ J.yld i H x H' ∧ tn (i + 1) s2.heap ∧ ∀ b ∈ fp,H' b = none) E s1) E s
 done : ∀ (X : Cx),X.prog = P → X.w = w → X.K = K → X.calm = true → ∀ (i : Nat) (pins : List (Addr × Obj)) (s : Shared) (σ : St) (H : Hp) (E : Value → Shared → Prop),aM X pins σ H s → (∀ b ∈ fp,cT X pins H b) → tn i s.heap → J.stop i H →
  wpAny (model P w) X.A (pyNext (.ref it)) (fun r s1 => r = none ∧ aM X pins σ H s1) E s
 self : ∀ (A : Around) (i : Nat) (s : Shared) (Q : Value → Shared → Prop) (E : Value → Shared → Prop),tn i s.heap → Q (.ref it) s → wpAny (model P w) A (pyIter (.ref it)) Q E s
abbrev TI := St → Hp → (It → Hp → Prop) → Prop
def wq (X : Cx) (pins : List (Addr × Obj)) (σ : St) (tg : Expr) (R : It → Hp → Prop) (itv : Value) (s2 : Shared) : Prop :=
 ∃ (it : Addr) (fp : List Addr) (tn : Nat → Heap → Prop) (J : It) (H' : Hp),itv = .ref it ∧ aM X pins σ H' s2 ∧ Turn X.prog X.w X.K tg J fp it tn ∧ tn 0 s2.heap ∧ (∀ b ∈ fp,cT X pins H' b) ∧ R J H'
def PI (X : Cx) (tg iter : Expr) (wi : TI) : Prop :=
 ∀ (pins : List (Addr × Obj)) (s : Shared) (σ : St) (H : Hp) (R : It → Hp → Prop),aM X pins σ H s → wi σ H R →
  wpAny (model X.prog X.w) X.A (eval iter X.env) (fun v s1 => wpAny (model X.prog X.w) X.A (pyIter v) (wq X pins σ tg R) X.xe s1) X.xe s
theorem j5 {M : Model} {A : Around} {E : Value → Shared → Prop} {s : Shared} {tg : Expr} {it : Addr} {u : Value} {o : Obj} {n : String} {vs : Array Value} {Q : Unit → Shared → Prop} (ho : s.heap.get? it = some o) (hc : o.cls = .type n) (hd : o.data = .fields vs)
    (hn : ["enumerate","zip","dict_itemiterator","dict_reverseitemiterator","odict_iterator","itertools.zip_longest","itertools.pairwise"].contains n = false) (hQ : Q () s) : wpAny M A (letOwnedTupleGo tg (.ref it) u) Q E s := by
  unfold letOwnedTupleGo
  cases tg <;> first
    | exact wpAny_pure hQ
    | (cases u <;> first
        | exact wpAny_pure hQ
        | (refine wpAny_bind (wpAny_load ho ?_)
           rw [hc,hd]
           show wpAny M A (if (["enumerate","zip","dict_itemiterator","dict_reverseitemiterator","odict_iterator","itertools.zip_longest","itertools.pairwise"].contains n && vs[0]? == some (rawInt _)) = true then _ else _) Q E s
           rw [if_neg (by intro h; rw [hn,Bool.false_and] at h; cases h)]
           exact wpAny_pure hQ))
def sH (K : PySem.W.Frag) (a : Addr) : It :=
 ⟨fun i H => ∃ xs x,az K H a xs ∧ xs[i]? = some x,fun i H x H' => H' = H ∧ ∀ xs,az K H a xs → xs[i]? = some x,fun i H => ∃ xs,az K H a xs ∧ xs.length ≤ i⟩
def wt (K : PySem.W.Frag) (a : Addr) : It :=
 ⟨fun i H => ∃ xs x,bc K H a xs ∧ xs[i]? = some x,fun i H x H' => H' = H ∧ ∀ xs,bc K H a xs → xs[i]? = some x,fun i H => ∃ xs,bc K H a xs ∧ xs.length ≤ i⟩
def sf (lo : Int) (n : Nat) : It := ⟨fun i _ => i < n,fun i H x H' => H' = H ∧ x = .int (lo + i),fun i _ => n ≤ i⟩
theorem nq {P : Program} {w : World} {K : PySem.W.Frag} {tg : Expr} (a it : Addr) : Turn P w K tg (sH K a) [it] it (fun i h => h.IsListIter it a i) where
 mem := by simp
 obj := fun i h st b hb => by
  have e : b = it := by simpa using hb
  subst e
  obtain ⟨o,e,c,d⟩ := st
  exact ⟨o,e,fun v z => by rw [d] at z; cases z⟩
 keep := fun i h h' st k => st.at fun o e => k it (by simp) o e
 item := by
  intro X hP hw hK hc i pins s σ H E I hf st hg
  subst hP hw hK
  obtain ⟨xs,x,hq,hx⟩ := hg
  obtain ⟨its,rv,p,hz⟩ := I.list hq
  obtain ⟨u,hu,ru⟩ := rv.get hx
  obtain ⟨f0,f1,f2,f3,f4,f5⟩ := hf it (by simp)
  refine wpAny_pyNext_list_item st p.isList (x := u) (by simpa using hu) fun h' st' sb => ?_
  have I1 : aM X pins σ H { s with heap := h' } := I.turned (t' := s.toks) (fun b o hb e => (sb.2 b hb).trans e) f0 f1 f3 f4 f5
  obtain ⟨o,e,c,d⟩ := id st'
  exact ⟨u,rfl,j5 (s := { s with heap := h' }) e c d (by decide) ⟨x,H,I1,ru,⟨rfl,fun ys hy => by rw [I.list_inj hy hq]; exact hx⟩,st',fun b hb => (hf b hb).1⟩⟩
 done := by
  intro X hP hw hK hc i pins s σ H E I hf st hg
  subst hP hw hK
  obtain ⟨xs,hq,hx⟩ := hg
  obtain ⟨its,rv,p,hz⟩ := I.list hq
  obtain ⟨f0,f1,f2,f3,f4,f5⟩ := hf it (by simp)
  have hl := rv.length
  exact wpAny_pyNext_list_end (I.ok.hd hc) st p.isList (by simp; omega) fun h' eb => ⟨rfl,I.turned (t' := s.toks) (fun b o hb e => eb b o hb e) f0 f1 f3 f4 f5⟩
 self := fun _ _ _ _ _ st h => wpAny_pyIter_listiter st h
theorem lN {P : Program} {w : World} {K : PySem.W.Frag} {tg : Expr} (a it : Addr) : Turn P w K tg (wt K a) [it] it (fun i h => h.IsTupleIter it a i) where
 mem := by simp
 obj := fun i h st b hb => by
  have e : b = it := by simpa using hb
  subst e
  obtain ⟨o,e,c,d⟩ := st
  exact ⟨o,e,fun v z => by rw [d] at z; cases z⟩
 keep := fun i h h' st k => st.at fun o e => k it (by simp) o e
 item := by
  intro X hP hw hK hc i pins s σ H E I hf st hg
  subst hP hw hK
  obtain ⟨xs,x,hq,hx⟩ := hg
  obtain ⟨its,rv,p,hz⟩ := I.tuple hq
  obtain ⟨u,hu,ru⟩ := rv.get hx
  obtain ⟨f0,f1,f2,f3,f4,f5⟩ := hf it (by simp)
  refine wpAny_pyNext_tuple_item st (show s.heap.IsTuple a its.toArray from p) (x := u) (by simpa using hu) fun h' st' sb => ?_
  have I1 : aM X pins σ H { s with heap := h' } := I.turned (t' := s.toks) (fun b o hb e => (sb.2 b hb).trans e) f0 f1 f3 f4 f5
  obtain ⟨o,e,c,d⟩ := id st'
  exact ⟨u,rfl,j5 (s := { s with heap := h' }) e c d (by decide) ⟨x,H,I1,ru,⟨rfl,fun ys hy => by rw [I.tuple_inj hy hq]; exact hx⟩,st',fun b hb => (hf b hb).1⟩⟩
 done := by
  intro X hP hw hK hc i pins s σ H E I hf st hg
  subst hP hw hK
  obtain ⟨xs,hq,hx⟩ := hg
  obtain ⟨its,rv,p,hz⟩ := I.tuple hq
  obtain ⟨f0,f1,f2,f3,f4,f5⟩ := hf it (by simp)
  have hl := rv.length
  exact wpAny_pyNext_tuple_end (I.ok.hd hc) st (show s.heap.IsTuple a its.toArray from p) (by simp; omega) fun h' eb => ⟨rfl,I.turned (t' := s.toks) (fun b o hb e => eb b o hb e) f0 f1 f3 f4 f5⟩
 self := fun _ _ _ _ _ st h => wpAny_pyIter_tupleiter st h
theorem lO {P : Program} {w : World} {K : PySem.W.Frag} {tg : Expr} (it : Addr) (lo : Int) (n : Nat) : Turn P w K tg (sf lo n) [it] it (fun i h => IsRangeIter h it (lo + (i : Nat) * 1) ((n : Int) - (i : Nat)) 1) where
 mem := by simp
 obj := fun i h st b hb => by
  have e : b = it := by simpa using hb
  subst e
  exact ⟨_,st,fun v z => by
   have z' : Data.fields _ = Data.cell v := z
   cases z'⟩
 keep := fun i h h' st k => k it (by simp) _ st
 item := by
  intro X hP hw hK hc i pins s σ H E I hf st hg
  subst hP hw hK
  obtain ⟨f0,f1,f2,f3,f4,f5⟩ := hf it (by simp)
  have W := Walks.range (prog := X.prog) (w := X.w) (I.ok.hd hc) it lo 1 n
  refine W.item i s _ _ hg st fun v h' tk hv st' kk => ?_
  obtain ⟨t,rfl⟩ := hv
  have I1 : aM X pins σ H { s with heap := h',toks := tk } := I.turned (fun b o hb e => kk b o (by simpa using hb) e) f0 f1 f3 f4 f5
  refine ⟨_,rfl,j5 (s := { s with heap := h',toks := tk }) (n := "range_iterator") st' rfl rfl (by decide) ⟨.int (lo + i),H,I1,⟨t,?_⟩,⟨rfl,rfl⟩,st',fun b hb => (hf b hb).1⟩⟩
  rw [Int.mul_one]
 done := by
  intro X hP hw hK hc i pins s σ H E I hf st hg
  subst hP hw hK
  obtain ⟨f0,f1,f2,f3,f4,f5⟩ := hf it (by simp)
  exact wpAny_pyNext_range_end (I.ok.hd hc) st (by have : n ≤ i := hg; omega) fun h' eb => ⟨rfl,I.turned (t' := s.toks) (fun b o hb e => eb b o hb e) f0 f1 f3 f4 f5⟩
 self := fun _ _ _ _ _ st h => wpAny_pyIter_rangeiter st h
section
variable {X : Cx} {tg : Expr}
def ue (K : PySem.W.Frag) (tl : TE) : TI := fun σ H R => tl σ H fun x H1 => ∃ a,x = .ref a ∧ (∃ xs,az K H1 a xs) ∧ R (sH K a) H1
def wu (K : PySem.W.Frag) (tl : TE) : TI := fun σ H R => tl σ H fun x H1 => ∃ a,x = .ref a ∧ (∃ xs,bc K H1 a xs) ∧ R (wt K a) H1
theorem aZ {l : Expr} {tl : TE} (hl : PE X l tl) : PI X tg l (ue X.K tl) := by
 intro pins s σ H R I h
 refine a9 (hl pins s σ H _ I h) fun v s1 ⟨x,H1,I1,r1,q1⟩ => ?_
 obtain ⟨a,e,⟨xs,hq⟩,q⟩ := q1
 subst e
 cases r1
 obtain ⟨its,rv,p,hz⟩ := I1.list hq
 refine wpAny_pyIter_list p.isList ?_
 refine ⟨s1.heap.objs.size,[s1.heap.objs.size],_,_,H1,rfl,I1.kept (t' := s1.toks) fun b o e => Heap.get?_push_of_some _ e,nq a _,⟨_,Heap.get?_push_size _ rfl,rfl,rfl⟩,fun b hb => ?_,q⟩
 have e : b = s1.heap.objs.size := by simpa using hb
 subst e
 exact I1.fpOk (Nat.le_refl _) (I1.hok.fresh (Nat.le_refl _))
theorem sI {l : Expr} {tl : TE} (hl : PE X l tl) : PI X tg l (wu X.K tl) := by
 intro pins s σ H R I h
 refine a9 (hl pins s σ H _ I h) fun v s1 ⟨x,H1,I1,r1,q1⟩ => ?_
 obtain ⟨a,e,⟨xs,hq⟩,q⟩ := q1
 subst e
 cases r1
 obtain ⟨its,rv,p,hz⟩ := I1.tuple hq
 refine wpAny_pyIter_tuple (show s1.heap.IsTuple a its.toArray from p) ?_
 refine ⟨s1.heap.objs.size,[s1.heap.objs.size],_,_,H1,rfl,I1.kept (t' := s1.toks) fun b o e => Heap.get?_push_of_some _ e,lN a _,⟨_,Heap.get?_push_size _ rfl,rfl,rfl⟩,fun b hb => ?_,q⟩
 have e : b = s1.heap.objs.size := by simpa using hb
 subst e
 exact I1.fpOk (Nat.le_refl _) (I1.hok.fresh (Nat.le_refl _))
theorem j6 {pins : List (Addr × Obj)} {σ : St} {H : Hp} {s : Shared} {R : It → Hp → Prop} {E : Value → Shared → Prop} {lo hi : Int} {t u v : Tok} {tk : Nat} (I : aM X pins σ H s) (h1 : -(2 ^ 62) ≤ lo) (h2 : lo < 2 ^ 62) (h3 : -(2 ^ 62) ≤ hi) (h4 : hi < 2 ^ 62)
  (q : R (sf lo (hi - lo).toNat) H) : wpAny (model X.prog X.w) X.A (pyIter (.ref s.heap.objs.size)) (wq X pins σ tg R) E { s with heap := s.heap.push { cls := .type "range",data := .fields #[.int lo t,.int hi u,.int 1 v] },toks := tk } := by
 refine wpAny_pyIter_range (IsRange.new ..) (small_one h1 h2 h3 h4) ?_
 have I1 : aM X pins σ H { s with heap := s.heap.push { cls := .type "range",data := .fields #[.int lo t,.int hi u,.int 1 v] },toks := tk } := I.kept fun b o e => Heap.get?_push_of_some _ e
 refine ⟨(s.heap.push { cls := .type "range",data := .fields #[.int lo t,.int hi u,.int 1 v] }).objs.size,[(s.heap.push { cls := .type "range",data := .fields #[.int lo t,.int hi u,.int 1 v] }).objs.size],_,_,H,rfl,
  I1.kept (t' := tk) fun b o e => Heap.get?_push_of_some _ e,lO _ lo (hi - lo).toNat,?_,fun b hb => ?_,q⟩
 ·have e1 : lo + ((0 : Nat) : Int) * 1 = lo := by simp
  have e2 : (((hi - lo).toNat : Nat) : Int) - ((0 : Nat) : Int) = Builtin.Range.rangeSize lo hi 1 := by rw [rangeSize_one]; split <;> omega
  show IsRangeIter _ _ (lo + ((0 : Nat) : Int) * 1) ((((hi - lo).toNat : Nat) : Int) - ((0 : Nat) : Int)) 1
  rw [e1,e2]
  exact Heap.get?_push_size _ rfl
 ·have e : b = (s.heap.push { cls := .type "range",data := .fields #[.int lo t,.int hi u,.int 1 v] }).objs.size := by simpa using hb
  subst e
  exact I1.fpOk (Nat.le_refl _) (I1.hok.fresh (Nat.le_refl _))
def uf (ta : TA) : TI := fun σ H R => ta σ H fun vs H1 => ∃ j : Int,vs = [.int j] ∧ -(2 ^ 62) ≤ j ∧ j < 2 ^ 62 ∧ R (sf 0 j.toNat) H1
def ug (ta : TA) : TI := fun σ H R => ta σ H fun vs H1 => ∃ i j : Int,vs = [.int i,.int j] ∧ (-(2 ^ 62) ≤ i ∧ i < 2 ^ 62 ∧ -(2 ^ 62) ≤ j ∧ j < 2 ^ 62) ∧ R (sf i (j - i).toNat) H1
theorem bN {a : Expr} {ta : TA} {p pos : Pos} (hg : Gl X "range") (hm : X.mg "range" = none) (ha : PA X [a] ta) (hs : starEach [a] X.env = [(false,eval a X.env)] := by rfl) : PI X tg (.Call (.Name "range" p) [a] [] pos) (uf ta) := by
 intro pins s σ H R I h
 refine Call_ (cA I hg hm boot_range (PyProof.Rows.callWith_type1 (a9 (ha pos pins s σ H _ I h) fun us s1 ⟨vs,H1,I1,r1,q1⟩ => ?_) hs rfl))
 obtain ⟨j,e,q1,q2,q⟩ := q1
 subst e
 cases r1 with
 | cons r rr =>
  cases rr
  obtain ⟨t,rfl⟩ := r
  exact call_range_1 (j6 I1 (by omega) (by omega) q1 q2 (by simpa using q))
theorem nr {a b : Expr} {ta : TA} {p pos : Pos} (hg : Gl X "range") (hm : X.mg "range" = none) (ha : PA X [a,b] ta) (hs : starEach [a,b] X.env = [(false,eval a X.env),(false,eval b X.env)] := by rfl) (hs2 : starEach [b] X.env = [(false,eval b X.env)] := by rfl) :
  PI X tg (.Call (.Name "range" p) [a,b] [] pos) (ug ta) := by
 intro pins s σ H R I h
 refine Call_ (cA I hg hm boot_range (PyProof.Rows.callWith_type1 (a9 (ha pos pins s σ H _ I h) fun us s1 ⟨vs,H1,I1,r1,q1⟩ => ?_) (by rw [hs,hs2]) (by rw [hs2]; rfl)))
 obtain ⟨i,j,e,⟨q1,q2,q3,q4⟩,q⟩ := q1
 subst e
 cases r1 with
 | cons r rr =>
  cases rr with
  | cons r' rr =>
   cases rr
   obtain ⟨t,rfl⟩ := r
   obtain ⟨t',rfl⟩ := r'
   exact call_range_2 (j6 I1 q1 q2 q3 q4 q)
def wv (wi : TI) (g : TG) (tb : TS) : TS := fun D σ H => wi σ H fun J H1 => ∃ W : Nat → Nat → St → Hp → Prop,(∃ m,W 0 m σ H1) ∧ ∀ i m σ H,W i m σ H →
 (J.stop i H ∧ D.nx σ H) ∨ (J.go i H ∧ ∃ N : St → Hp → Prop,(∀ σ' H',N σ' H' → ∃ m',m' < m ∧ W (i + 1) m' σ' H') ∧ ∀ x H',J.yld i H x H' → g x σ H' fun σ2 H2 => tb { D with nx := N,ct := N,bk := D.nx } σ2 H2)
def fW (fp : List Addr) (h : Heap) : List (Addr × Obj) := fp.filterMap fun b => (h.get? b).map fun o => (b,o)
theorem bv {fp : List Addr} {h : Heap} {b : Addr} {o : Obj} (hb : b ∈ fp) (e : h.get? b = some o) : (b,o) ∈ fW fp h := List.mem_filterMap.mpr ⟨b,hb,by rw [e]; rfl⟩
theorem ny {fp : List Addr} {h : Heap} {p : Addr × Obj} (hp : p ∈ fW fp h) : p.1 ∈ fp ∧ h.get? p.1 = some p.2 := by
 obtain ⟨b,hb,e⟩ := List.mem_filterMap.mp hp
 cases q : h.get? b with
 | none => rw [q] at e; cases e
 | some o =>
  rw [q] at e
  have e' : (b,o) = p := Option.some.inj e
  subst e'
  exact ⟨hb,q⟩
theorem aM.pinned {pins : List (Addr × Obj)} {σ : St} {H : Hp} {s : Shared} {fp : List Addr} (I : aM X pins σ H s) (hf : ∀ b ∈ fp,cT X pins H b) (ho : ∀ b ∈ fp,∃ o,s.heap.get? b = some o ∧ ∀ v,o.data ≠ .cell v) : aM X (pins ++ fW fp s.heap) σ H s :=
 I.pins_of fun p hp => (List.mem_append.mp hp).elim (fun z => I.pin p (List.mem_append_right _ z)) fun z => by
  obtain ⟨hb,e⟩ := ny z
  obtain ⟨f0,f1,f2,_⟩ := hf p.1 hb
  obtain ⟨o,e',d⟩ := ho p.1 hb
  rw [e] at e'; cases e'
  exact ⟨e,f0,f1,f2,d⟩
theorem aM.unpinned {pins pl : List (Addr × Obj)} {σ : St} {H : Hp} {s : Shared} (I : aM X (pins ++ pl) σ H s) : aM X pins σ H s := I.pins_of fun p hp => I.pin p (List.mem_append_right _ (List.mem_append_left _ hp))
theorem aX {iter : Expr} {body : List Stmt} {wi : TI} {g : TG} {tb : TS} {pos : Pos} (hp : PassesOwn (model X.prog X.w) X.A X.env X.xe) (hc : X.calm = true) (hi : PI X tg iter wi) (hg : PG X tg g) (hb : pC X body tb)
  (hs : ∀ x,foldedSetIterable iter X.env x = pure x := by intro _; rfl) : PS X (.For tg iter body [] pos) (wv wi g tb) := by
 intro pins s σ H D I h
 refine wpAny_For (a9 (hi pins s σ H _ I h) fun v s1 h1 => a9 h1 fun itv s2 h2 => ?_) hs
 obtain ⟨it,fp,tn,J,H2,e,I2,T,st2,f2,W,⟨m0,w0⟩,turn⟩ := h2
 subst e
 have stat : ∀ {H' : Hp},(∀ b ∈ fp,H' b = none) → ∀ b ∈ fp,cT X pins H' b := fun hn b hb => ⟨hn b hb,(f2 b hb).2⟩
 refine codeAny_forLoop_any (fun n s' => ∃ i σ' H',aM X pins σ' H' s' ∧ tn i s'.heap ∧ (∀ b ∈ fp,H' b = none) ∧ W i n σ' H') ?_ m0 ⟨0,σ,H2,I2,st2,fun b hb => (f2 b hb).1,w0⟩
 rintro n s3 ⟨i,σ3,H3,I3,st3,fr3,w3⟩
 rcases turn i n σ3 H3 w3 with ⟨stop,qn⟩ | ⟨go,N,hN,step⟩
 ·refine wpAny_passesOwn hp (a9 (T.done X rfl rfl rfl hc i pins s3 σ3 H3 X.xe I3 (stat fr3) st3 stop) fun r s4 ⟨hr,I4⟩ => ?_)
  subst hr
  exact wpAny_execs_nil ⟨σ3,H3,I4,qn⟩
 ·refine wpAny_passesOwn hp (a9 (T.item X rfl rfl rfl hc i pins s3 σ3 H3 X.xe I3 (stat fr3) st3 go) fun r s4 ⟨u,hr,h4⟩ => ?_)
  subst hr
  refine wpAny_passesOwn hp (a9 h4 fun _ s5 ⟨x,H5,I5,r5,y5,st5,fr5⟩ => ?_)
  have I5' := I5.pinned (stat fr5) (T.obj _ _ st5)
  refine wpAny_passesOwn hp (a9 (hg _ s5 σ3 H5 x u _ I5' r5 (step x H5 y5)) fun _ s6 ⟨σ6,H6,I6,q6⟩ => ?_)
  refine wpAny_passesOwn hp (a9 (hb _ s6 σ6 H6 _ I6 q6) fun f s7 q7 => ?_)
  have again : ∀ {σ7 : St} {H7 : Hp},aM X (pins ++ fW fp s5.heap) σ7 H7 s7 → N σ7 H7 → ∃ m,m < n ∧ ∃ i σ' H',aM X pins σ' H' s7 ∧ tn i s7.heap ∧ (∀ b ∈ fp,H' b = none) ∧ W i m σ' H' := fun {σ7 H7} I7 n7 => by
   obtain ⟨m',hm,w7⟩ := hN σ7 H7 n7
   refine ⟨m',hm,i + 1,σ7,H7,I7.unpinned,T.keep _ _ _ st5 fun b hb o e => (I7.pin (b,o) (List.mem_append_right _ (List.mem_append_right _ (bv hb e)))).1,fun b hb => ?_,w7⟩
   obtain ⟨o,e,d⟩ := T.obj _ _ st5 b hb
   exact (I7.pin (b,o) (List.mem_append_right _ (List.mem_append_right _ (bv hb e)))).2.1
  cases f with
  | next => obtain ⟨σ7,H7,I7,n7⟩ := q7; exact again I7 n7
  | cont => obtain ⟨σ7,H7,I7,n7⟩ := q7; exact again I7 n7
  | brk => obtain ⟨σ7,H7,I7,q7⟩ := q7; exact ⟨σ7,H7,I7.unpinned,q7⟩
  | ret v => obtain ⟨x7,σ7,H7,I7,r7,q7⟩ := q7; exact ⟨x7,σ7,H7,I7.unpinned,r7,q7⟩
end
theorem bq {K : PySem.W.Frag} {a : Addr} {xs : List V} {g : TG} {tb : TS} {D : Ends} {σ : St} {H : Hp} (Pv : Nat → St → Hp → Prop) (h0 : Pv 0 σ H) (hl : ∀ i σ H,i ≤ xs.length → Pv i σ H → az K H a xs)
  (hs : ∀ i x σ H,xs[i]? = some x → Pv i σ H → g x σ H fun σ2 H2 => tb { D with nx := Pv (i + 1),ct := Pv (i + 1),bk := D.nx } σ2 H2) (hd : ∀ σ H,Pv xs.length σ H → D.nx σ H) :
  ∃ W : Nat → Nat → St → Hp → Prop,(∃ m,W 0 m σ H) ∧ ∀ i m σ H,W i m σ H →
   ((sH K a).stop i H ∧ D.nx σ H) ∨ ((sH K a).go i H ∧ ∃ N : St → Hp → Prop,(∀ σ' H',N σ' H' → ∃ m',m' < m ∧ W (i + 1) m' σ' H') ∧ ∀ x H',(sH K a).yld i H x H' → g x σ H' fun σ2 H2 => tb { D with nx := N,ct := N,bk := D.nx } σ2 H2) := by
 refine ⟨fun i m σ H => m = xs.length - i ∧ i ≤ xs.length ∧ Pv i σ H,⟨xs.length,by simp,Nat.zero_le _,h0⟩,?_⟩
 rintro i m σ H ⟨rfl,hi,p⟩
 have q := hl i σ H hi p
 by_cases hlt : i < xs.length
 ·refine .inr ⟨⟨xs,xs[i],q,by simp [hlt]⟩,Pv (i + 1),fun σ' H' p' => ⟨xs.length - (i + 1),by omega,rfl,hlt,p'⟩,fun x H' y => ?_⟩
  obtain ⟨e,y⟩ := y
  subst e
  exact hs i x σ _ (y xs q) p
 ·have e : i = xs.length := by omega
  subst e
  exact .inl ⟨⟨xs,q,Nat.le_refl _⟩,hd σ H p⟩
theorem bW {lo : Int} {n : Nat} {g : TG} {tb : TS} {D : Ends} {σ : St} {H : Hp} (Pv : Nat → St → Hp → Prop) (h0 : Pv 0 σ H)
  (hs : ∀ i σ H,i < n → Pv i σ H → g (.int (lo + i)) σ H fun σ2 H2 => tb { D with nx := Pv (i + 1),ct := Pv (i + 1),bk := D.nx } σ2 H2) (hd : ∀ σ H,Pv n σ H → D.nx σ H) :
  ∃ W : Nat → Nat → St → Hp → Prop,(∃ m,W 0 m σ H) ∧ ∀ i m σ H,W i m σ H →
   ((sf lo n).stop i H ∧ D.nx σ H) ∨ ((sf lo n).go i H ∧ ∃ N : St → Hp → Prop,(∀ σ' H',N σ' H' → ∃ m',m' < m ∧ W (i + 1) m' σ' H') ∧ ∀ x H',(sf lo n).yld i H x H' → g x σ H' fun σ2 H2 => tb { D with nx := N,ct := N,bk := D.nx } σ2 H2) := by
 refine ⟨fun i m σ H => m = n - i ∧ i ≤ n ∧ Pv i σ H,⟨n,by simp,Nat.zero_le _,h0⟩,?_⟩
 rintro i m σ H ⟨rfl,hi,p⟩
 by_cases hlt : i < n
 ·refine .inr ⟨hlt,Pv (i + 1),fun σ' H' p' => ⟨n - (i + 1),by omega,rfl,hlt,p'⟩,fun x H' y => ?_⟩
  obtain ⟨e,y⟩ := y
  subst e y
  exact hs i σ _ hlt p
 ·have e : i = n := by omega
  subst e
  exact .inl ⟨Nat.le_refl _,hd σ H p⟩
abbrev R2 := V → V → Hp → VK → Prop
def dW (X : Cx) (f : Value → Value → Sem Value) (r : R2) : Prop :=
 ∀ (pins : List (Addr × Obj)) (s : Shared) (σ : St) (H : Hp) (x y : V) (v u : Value) (Q : VK),aM X pins σ H s → RelV x v → RelV y u → r x y H Q →
  wpAny (model X.prog X.w) X.A (f v u) (EP X pins σ Q) X.xe s
def ww (X : Cx) (f : Value → Sem Value) (r : V → Hp → VK → Prop) : Prop :=
 ∀ (pins : List (Addr × Obj)) (s : Shared) (σ : St) (H : Hp) (x : V) (v : Value) (Q : VK),aM X pins σ H s → RelV x v → r x H Q →
  wpAny (model X.prog X.w) X.A (f v) (EP X pins σ Q) X.xe s
def cu (X : Cx) (f : Value) (r : List V → Hp → VK → Prop) : Prop :=
 ∀ (pins : List (Addr × Obj)) (s : Shared) (σ : St) (H : Hp) (xs : List V) (us : List Value) (Q : VK),aM X pins σ H s → bh xs us → r xs H Q →
  wpAny (model X.prog X.w) X.A (call f us) (EP X pins σ Q) X.xe s
def v0 (r : R2) (ta tb : TE) : TE := fun σ H Q => ta σ H fun x H1 => tb σ H1 fun y H2 => r x y H2 Q
def xA (r : V → Hp → VK → Prop) (ta : TE) : TE := fun σ H Q => ta σ H fun x H1 => r x H1 Q
def rI (C : Int → Int → Prop) (g : Int → Int → V) : R2 := fun x y H Q => ∃ i j,x = .int i ∧ y = .int j ∧ C i j ∧ Q (g i j) H
def sg (g : Int → Int → V) : R2 := fun x y H Q => ∃ i j,x = .int i ∧ y = .int j ∧ Q (g i j) H
def rU (g : Int → V) : V → Hp → VK → Prop := fun x H Q => ∃ i,x = .int i ∧ Q (g i) H
section
variable {X : Cx} {a b c : Expr} {ta tb tc : TE} {pos : Pos}
theorem sJ (ha : PE X a ta) (hb : PE X b tb) {pins : List (Addr × Obj)} {s : Shared} {σ : St} {H : Hp} {R : V → V → Hp → Prop} (I : aM X pins σ H s)
  (h : ta σ H fun x H1 => tb σ H1 fun y H2 => R x y H2) {Q : Value → Shared → Prop} {f : Value → Value → Sem Value}
  (hf : ∀ v u s2 x y H2,aM X pins σ H2 s2 → RelV x v → RelV y u → R x y H2 → wpAny (model X.prog X.w) X.A (f v u) Q X.xe s2) :
  wpAny (model X.prog X.w) X.A (eval a X.env) (fun v s₁ => wpAny (model X.prog X.w) X.A (eval b X.env) (fun u s₂ => wpAny (model X.prog X.w) X.A (f v u) Q X.xe s₂) X.xe s₁) X.xe s := by
 refine a9 (ha pins s σ H _ I h) fun v s1 ⟨x,H1,I1,r1,q1⟩ => ?_
 refine a9 (hb pins s1 σ H1 _ I1 q1) fun u s2 ⟨y,H2,I2,r2,q2⟩ => ?_
 exact hf v u s2 x y H2 I2 r1 r2 q2
theorem aw {op : Operator} {r : R2} (ho : dW X (binaryOp op) r) (ha : PE X a ta) (hb : PE X b tb) : PE X (.BinOp a op b pos) (v0 r ta tb) := by
 intro pins s σ H Q I h
 exact wpAny_BinOp (sJ ha hb I h fun v u s2 x y H2 I2 rx ry q => ho pins s2 σ H2 x y v u Q I2 rx ry q)
theorem pN {op : UnaryOp} {r : V → Hp → VK → Prop} (ho : ww X (unaryOp op) r) (ha : PE X a ta) : PE X (.UnaryOp op a pos) (xA r ta) := by
 intro pins s σ H Q I h
 exact UnaryOp_ (a9 (ha pins s σ H _ I h) fun v s1 ⟨x,H1,I1,r1,q1⟩ => ho pins s1 σ H1 x v Q I1 r1 q1)
theorem v6 {f : Value → Value → Sem Value} {C : Int → Int → Prop} {g : Int → Int → Int}
  (rule : ∀ (i j : Int) (t u : Tok) (s : Shared) (Q : Value → Shared → Prop) (E : Value → Shared → Prop),C i j → Q (.int (g i j) s.toks) { s with toks := s.toks + 1 } → wpAny (model X.prog X.w) X.A (f (.int i t) (.int j u)) Q E s) :
  dW X f (rI C fun i j => .int (g i j)) := by
 intro pins s σ H x y v u Q I rx ry h
 obtain ⟨i,j,rfl,rfl,hc,q⟩ := h
 obtain ⟨t,rfl⟩ := rx
 obtain ⟨t',rfl⟩ := ry
 exact rule i j t t' s _ _ hc ⟨.int (g i j),H,I.tok _,⟨_,rfl⟩,q⟩
theorem uh {f : Value → Value → Sem Value} {g : Int → Int → Int}
  (rule : ∀ (i j : Int) (t u : Tok) (s : Shared) (Q : Value → Shared → Prop) (E : Value → Shared → Prop),Q (.int (g i j) s.toks) { s with toks := s.toks + 1 } → wpAny (model X.prog X.w) X.A (f (.int i t) (.int j u)) Q E s) :
  dW X f (sg fun i j => .int (g i j)) := by
 intro pins s σ H x y v u Q I rx ry h
 obtain ⟨i,j,rfl,rfl,q⟩ := h
 obtain ⟨t,rfl⟩ := rx
 obtain ⟨t',rfl⟩ := ry
 exact rule i j t t' s _ _ ⟨.int (g i j),H,I.tok _,⟨_,rfl⟩,q⟩
theorem qM {f : Value → Value → Sem Value} {g : Int → Int → Bool}
  (rule : ∀ (i j : Int) (t u : Tok) (s : Shared) (Q : Value → Shared → Prop) (E : Value → Shared → Prop),Q (.bool (g i j)) s → wpAny (model X.prog X.w) X.A (f (.int i t) (.int j u)) Q E s) :
  dW X f (sg fun i j => .bl (g i j)) := by
 intro pins s σ H x y v u Q I rx ry h
 obtain ⟨i,j,rfl,rfl,q⟩ := h
 obtain ⟨t,rfl⟩ := rx
 obtain ⟨t',rfl⟩ := ry
 exact rule i j t t' s _ _ ⟨.bl (g i j),H,I,rfl,q⟩
theorem bR : dW X (binaryOp .Add) (sg fun i j => .int (i + j)) := uh fun _ _ _ _ _ _ _ q => add_int q
theorem c8 : dW X (binaryOp .Sub) (sg fun i j => .int (i - j)) := uh fun _ _ _ _ _ _ _ q => sub_int q
theorem aR : dW X (binaryOp .Mod) (rI (fun _ j => j ≠ 0) fun i j => .int (i.fmod j)) := v6 fun _ _ _ _ _ _ _ hc q => mod_int' hc q
theorem xB {f : Value → Sem Value} {g : Int → Int}
  (rule : ∀ (i : Int) (t : Tok) (s : Shared) (Q : Value → Shared → Prop) (E : Value → Shared → Prop),Q (.int (g i) s.toks) { s with toks := s.toks + 1 } → wpAny (model X.prog X.w) X.A (f (.int i t)) Q E s) :
  ww X f (rU fun i => .int (g i)) := by
 intro pins s σ H x v Q I rx h
 obtain ⟨i,rfl,q⟩ := h
 obtain ⟨t,rfl⟩ := rx
 exact rule i t s _ _ ⟨.int (g i),H,I.tok _,⟨_,rfl⟩,q⟩
theorem lP : ww X (unaryOp .USub) (rU fun i => .int (-i)) := xB fun _ _ _ _ _ q => neg_int q
end
def ui : V → V → Bool
 | .non,.non => true | .non,.int _ => true | .int _,.non => true | .non,.bl _ => true | .bl _,.non => true | .non,.str _ => true | .str _,.non => true
 | .int _,.int _ => true | .bl _,.bl _ => true | .str _,.str _ => true | .byt _,.byt _ => true
 | .int _,.str _ => true | .str _,.int _ => true | .bl _,.str _ => true | .str _,.bl _ => true
 | _,_ => false
def xC : R2 := fun x y H Q => ui x y = true ∧ Q (.bl (decide (x = y))) H
def xD : R2 := fun x y H Q => ui x y = true ∧ Q (.bl (!decide (x = y))) H
theorem mJ {i j : Int} : decide (V.int i = V.int j) = (i == j) := by
 rw [Bool.eq_iff_iff]
 simp
theorem pO {i j : Bool} : decide (V.bl i = V.bl j) = (i == j) := by
 rw [Bool.eq_iff_iff]
 simp
theorem mK {i j : Str} : decide (V.str i = V.str j) = (i == j) := by
 rw [Bool.eq_iff_iff]
 simp
theorem mL {i j : Array UInt8} : decide (V.byt i = V.byt j) = (i.toList == j.toList) := by
 rw [Bool.eq_iff_iff]
 cases i
 cases j
 simp
section
variable {X : Cx} {a b c : Expr} {ta tb tc : TE} {pos : Pos}
theorem bo {pins : List (Addr × Obj)} {σ : St} {H : Hp} {s : Shared} {Q : VK} {k k' : Bool} (I : aM X pins σ H s) (q : Q (.bl k) H) (e : k = k') : EP X pins σ Q (.bool k') s := by
 subst e
 exact ⟨.bl k,H,I,rfl,q⟩
theorem gJ : dW X (compareOp .Eq) xC := by
 intro pins s σ H x y v u Q I rx ry h
 obtain ⟨hs,q⟩ := h
 cases x with
 | non =>
  cases rx
  cases y with
  | non => cases ry; exact PySem.EqNone.eq_none_none (bo I q (by simp))
  | bl j => cases ry; exact PySem.EqNone.eq_none_bool (bo I q (by simp))
  | int j => obtain ⟨t',rfl⟩ := ry; exact PySem.EqNone.eq_none_int (bo I q (by simp))
  | str j => obtain ⟨t',rfl⟩ := ry; exact PySem.EqNone.eq_none_str (bo I q (by simp))
  | _ => exact absurd (show false = true from hs) Bool.false_ne_true
 | bl i =>
  cases rx
  cases y with
  | non => cases ry; exact PySem.EqNone.eq_bool_none (bo I q (by simp))
  | bl j => cases ry; exact eq_bool (bo I q pO)
  | str j => obtain ⟨t',rfl⟩ := ry; exact PySem.EqMixed.eq_bool_str (bo I q (by simp))
  | _ => exact absurd (show false = true from hs) Bool.false_ne_true
 | int i =>
  obtain ⟨t,rfl⟩ := rx
  cases y with
  | non => cases ry; exact PySem.EqNone.eq_int_none (bo I q (by simp))
  | int j => obtain ⟨t',rfl⟩ := ry; exact eq_int (bo I q mJ)
  | str j => obtain ⟨t',rfl⟩ := ry; exact PySem.EqMixed.eq_int_str (bo I q (by simp))
  | _ => exact absurd (show false = true from hs) Bool.false_ne_true
 | str i =>
  obtain ⟨t,rfl⟩ := rx
  cases y with
  | non => cases ry; exact PySem.EqNone.eq_str_none (bo I q (by simp))
  | bl j => cases ry; exact PySem.EqMixed.eq_str_bool (bo I q (by simp))
  | int j => obtain ⟨t',rfl⟩ := ry; exact PySem.EqMixed.eq_str_int (bo I q (by simp))
  | str j => obtain ⟨t',rfl⟩ := ry; exact eq_str (bo I q mK)
  | _ => exact absurd (show false = true from hs) Bool.false_ne_true
 | byt i =>
  obtain ⟨t,rfl⟩ := rx
  cases y with
  | byt j => obtain ⟨t',rfl⟩ := ry; exact PySem.W.eq_bytes (bo I q mL)
  | _ => exact absurd (show false = true from hs) Bool.false_ne_true
 | _ => cases y <;> exact absurd (show false = true from hs) Bool.false_ne_true
theorem gK : dW X (compareOp .NotEq) xD := by
 intro pins s σ H x y v u Q I rx ry h
 obtain ⟨hs,q⟩ := h
 cases x with
 | non =>
  cases rx
  cases y with
  | non => cases ry; exact PySem.EqNone.ne_none_none (bo I q (by simp))
  | bl j => cases ry; exact PySem.EqNone.ne_none_bool (bo I q (by simp))
  | int j => obtain ⟨t',rfl⟩ := ry; exact PySem.EqNone.ne_none_int (bo I q (by simp))
  | str j => obtain ⟨t',rfl⟩ := ry; exact PySem.EqNone.ne_none_str (bo I q (by simp))
  | _ => exact absurd (show false = true from hs) Bool.false_ne_true
 | bl i =>
  cases rx
  cases y with
  | non => cases ry; exact PySem.EqNone.ne_bool_none (bo I q (by simp))
  | bl j => cases ry; exact ne_bool (bo I q (congrArg not pO))
  | str j => obtain ⟨t',rfl⟩ := ry; exact PySem.EqMixed.ne_bool_str (bo I q (by simp))
  | _ => exact absurd (show false = true from hs) Bool.false_ne_true
 | int i =>
  obtain ⟨t,rfl⟩ := rx
  cases y with
  | non => cases ry; exact PySem.EqNone.ne_int_none (bo I q (by simp))
  | int j => obtain ⟨t',rfl⟩ := ry; exact ne_int (bo I q (congrArg not mJ))
  | str j => obtain ⟨t',rfl⟩ := ry; exact PySem.EqMixed.ne_int_str (bo I q (by simp))
  | _ => exact absurd (show false = true from hs) Bool.false_ne_true
 | str i =>
  obtain ⟨t,rfl⟩ := rx
  cases y with
  | non => cases ry; exact PySem.EqNone.ne_str_none (bo I q (by simp))
  | bl j => cases ry; exact PySem.EqMixed.ne_str_bool (bo I q (by simp))
  | int j => obtain ⟨t',rfl⟩ := ry; exact PySem.EqMixed.ne_str_int (bo I q (by simp))
  | str j => obtain ⟨t',rfl⟩ := ry; exact ne_str (bo I q (congrArg not mK))
  | _ => exact absurd (show false = true from hs) Bool.false_ne_true
 | byt i =>
  obtain ⟨t,rfl⟩ := rx
  cases y with
  | byt j => obtain ⟨t',rfl⟩ := ry; exact PySem.W.ne_bytes (bo I q (congrArg not mL))
  | _ => exact absurd (show false = true from hs) Bool.false_ne_true
 | _ => cases y <;> exact absurd (show false = true from hs) Bool.false_ne_true
theorem cv : dW X (compareOp .Lt) (sg fun i j => .bl (decide (i < j))) := qM fun _ _ _ _ _ _ _ q => lt_int q
theorem ci : dW X (compareOp .LtE) (sg fun i j => .bl (decide (i ≤ j))) := qM fun _ _ _ _ _ _ _ q => le_int q
theorem fe : dW X (compareOp .Gt) (sg fun i j => .bl (decide (j < i))) := qM fun _ _ _ _ _ _ _ q => gt_int q
theorem uj : dW X (compareOp .GtE) (sg fun i j => .bl (decide (j ≤ i))) := qM fun _ _ _ _ _ _ _ q => ge_int q
theorem sK : dW X (compareOp .Is) (fun x y H Q => y = .non ∧ Q (.bl (decide (x = .non))) H) := by
 intro pins s σ H x y v u Q I rx ry h
 obtain ⟨rfl,q⟩ := h
 cases ry
 refine is_none_gen (bo I q ?_)
 cases x <;> first
  | (cases rx; rfl)
  | (obtain ⟨t,rfl⟩ := rx; rfl)
theorem fG : dW X (compareOp .IsNot) (fun x y H Q => y = .non ∧ Q (.bl (!decide (x = .non))) H) := by
 intro pins s σ H x y v u Q I rx ry h
 obtain ⟨rfl,q⟩ := h
 cases ry
 refine isnot_none_gen (bo I q ?_)
 cases x <;> first
  | (cases rx; rfl)
  | (obtain ⟨t,rfl⟩ := rx; rfl)
theorem aG (b : Expr) {op : CmpOp} (h : op ≠ .In := by decide) (h2 : op ≠ .NotIn := by decide) : behindInMarks op b = false := by
 have e1 : (op == CmpOp.In) = false := by cases op <;> first | rfl | exact absurd rfl h
 have e2 : (op == CmpOp.NotIn) = false := by cases op <;> first | rfl | exact absurd rfl h2
 cases b <;> simp [behindInMarks,e1,e2]
theorem ce {op : CmpOp} {r : R2} (ho : dW X (compareOp op) r) (ha : PE X a ta) (hb : PE X b tb) (hm : behindInMarks op b = false) : PE X (.Compare a [op] [b] pos) (v0 r ta tb) := by
 intro pins s σ H Q I h
 exact wpAny_Compare1 (sJ ha hb I h fun v u s2 x y H2 I2 rx ry q => ho pins s2 σ H2 x y v u Q I2 rx ry q) hm
def pP (t : TE) : TT := fun σ H Q => t σ H fun x H' => ∃ k,x = .bl k ∧ Q k H'
theorem aI {op : CmpOp} {r : R2} (ho : dW X (compareOp op) r) (ha : PE X a ta) (hb : PE X b tb) (hm : behindInMarks op b = false) : PT X (.Compare a [op] [b] pos) (pP (v0 r ta tb)) := by
 intro pins s σ H Q I h
 refine wpAny_isTrue_Compare1 (a9 (ha pins s σ H _ I h) fun v s1 ⟨x,H1,I1,r1,q1⟩ => a9 (hb pins s1 σ H1 _ I1 q1) fun u s2 ⟨y,H2,I2,r2,q2⟩ =>
  a9 (ho pins s2 σ H2 x y v u _ I2 r1 r2 q2) fun c s3 ⟨z,H3,I3,r3,k,e,q3⟩ => ?_) hm
 subst e
 cases r3
 exact wpAny_truthy_bool ⟨H3,I3,q3⟩
def pQ (r r' : R2) (ta tb tc : TE) : TE := fun σ H Q => ta σ H fun x H1 => tb σ H1 fun y H2 => r x y H2 fun z H3 => ∃ k,z = .bl k ∧
 (if k = true then tc σ H3 fun w' H4 => r' y w' H4 Q else Q (.bl false) H3)
theorem pR {op op' : CmpOp} {r r' : R2} (ho : dW X (compareOp op) r) (ho' : dW X (compareOp op') r') (ha : PE X a ta) (hb : PE X b tb) (hc : PE X c tc)
  (hm : lastMarks [op,op'] [b,c] = false := by with_unfolding_all rfl) : PE X (.Compare a [op,op'] [b,c] pos) (pQ r r' ta tb tc) := by
 intro pins s σ H Q I h
 refine Compare_chain (a9 (ha pins s σ H _ I h) fun v s1 ⟨x,H1,I1,r1,q1⟩ => chain_link (a9 (hb pins s1 σ H1 _ I1 q1) fun u s2 ⟨y,H2,I2,r2,q2⟩ =>
  a9 (ho pins s2 σ H2 x y v u _ I2 r1 r2 q2) fun d s3 ⟨z,H3,I3,r3,k,e,q3⟩ => ?_)) hm
 subst e
 cases r3
 refine wpAny_truthy_bool ?_
 cases k with
 | false => exact ite_ff ⟨.bl false,H3,I3,rfl,q3⟩
 | true => exact ite_tt (chain_last (a9 (hc pins s3 σ H3 _ I3 q3) fun w' s4 ⟨z',H4,I4,r4,q4⟩ => ho' pins s4 σ H4 y z' u w' Q I4 r2 r4 q4))
theorem bZ {op op' : CmpOp} {r r' : R2} (ho : dW X (compareOp op) r) (ho' : dW X (compareOp op') r') (ha : PE X a ta) (hb : PE X b tb) (hc : PE X c tc)
  (hm : lastMarks [op,op'] [b,c] = false := by with_unfolding_all rfl) : PT X (.Compare a [op,op'] [b,c] pos) (pP (pQ r r' ta tb tc)) := by
 intro pins s σ H Q I h
 refine isTrue_chain (a9 (ha pins s σ H _ I h) fun v s1 ⟨x,H1,I1,r1,q1⟩ => test_link (a9 (hb pins s1 σ H1 _ I1 q1) fun u s2 ⟨y,H2,I2,r2,q2⟩ =>
  a9 (ho pins s2 σ H2 x y v u _ I2 r1 r2 q2) fun d s3 ⟨z,H3,I3,r3,k,e,q3⟩ => ?_)) hm
 subst e
 cases r3
 refine wpAny_truthy_bool ?_
 cases k with
 | false =>
  obtain ⟨k',e',q'⟩ := q3
  cases e'
  exact ite_ff ⟨H3,I3,q'⟩
 | true =>
  refine ite_tt (test_last (a9 (hc pins s3 σ H3 _ I3 q3) fun w' s4 ⟨z',H4,I4,r4,q4⟩ => a9 (ho' pins s4 σ H4 y z' u w' _ I4 r2 r4 q4) fun d' s5 ⟨z2,H5,I5,r5,k2,e2,q5⟩ => ?_))
  subst e2
  cases r5
  exact wpAny_truthy_bool ⟨H5,I5,q5⟩
theorem hV : (sizeLine : Nat) < 2 ^ 63 := by rw [sizeLine_eq]; decide
theorem hW : dW X (binaryOp .Add) (fun x y H Q => ∃ i j,x = .str i ∧ y = .str j ∧ i.length + j.length ≤ sizeLine ∧ Q (.str (i ++ j)) H) := by
 intro pins s σ H x y v u Q I rx ry h
 obtain ⟨i,j,rfl,rfl,hz,q⟩ := h
 obtain ⟨t,rfl⟩ := rx
 obtain ⟨t',rfl⟩ := ry
 exact add_str (fun t' tk => ⟨.str (i ++ j),H,I.tok _,⟨_,rfl⟩,q⟩) hz
theorem vals1 {x : V} {us : List Value} (r : bh [x] us) : ∃ u,us = [u] ∧ RelV x u := by
 cases r with
 | cons r1 r2 => cases r2; exact ⟨_,rfl,r1⟩
theorem vals2 {x y : V} {us : List Value} (r : bh [x,y] us) : ∃ u w',us = [u,w'] ∧ RelV x u ∧ RelV y w' := by
 cases r with
 | cons r1 r2 =>
  cases r2 with
  | cons r3 r4 => cases r4; exact ⟨_,_,rfl,r1,r3⟩
theorem pS : cu X (.builtin "abs") (fun xs H Q => ∃ i,xs = [.int i] ∧ Q (.int (if i < 0 then -i else i)) H) := by
 intro pins s σ H xs us Q I r h
 obtain ⟨i,rfl,q⟩ := h
 obtain ⟨u,rfl,t,rfl⟩ := vals1 r
 exact call_abs_int fun u tk => ⟨.int (if i < 0 then -i else i),H,I.tok _,⟨_,rfl⟩,q⟩
theorem nA (hc : X.calm = true) : cu X (.builtin "max") (fun xs H Q => ∃ i j,xs = [.int i,.int j] ∧ Q (.int (if j > i then j else i)) H) := by
 intro pins s σ H xs us Q I r h
 obtain ⟨i,j,rfl,q⟩ := h
 obtain ⟨u,w',rfl,⟨t,rfl⟩,⟨t',rfl⟩⟩ := vals2 r
 refine max_two_ints (I.ok.hd hc) fun h' tk k => ⟨_,H,I.kept k,?_,q⟩
 by_cases hj : j > i
 ·rw [if_pos hj,if_pos hj]; exact ⟨_,rfl⟩
 ·rw [if_neg hj,if_neg hj]; exact ⟨_,rfl⟩
theorem nB (hc : X.calm = true) : cu X (.builtin "min") (fun xs H Q => ∃ i j,xs = [.int i,.int j] ∧ Q (.int (if j < i then j else i)) H) := by
 intro pins s σ H xs us Q I r h
 obtain ⟨i,j,rfl,q⟩ := h
 obtain ⟨u,w',rfl,⟨t,rfl⟩,⟨t',rfl⟩⟩ := vals2 r
 refine min_two_ints (I.ok.hd hc) fun h' tk k => ⟨_,H,I.kept k,?_,q⟩
 by_cases hj : j < i
 ·rw [if_pos hj,if_pos hj]; exact ⟨_,rfl⟩
 ·rw [if_neg hj,if_neg hj]; exact ⟨_,rfl⟩
end
structure nC (h : Heap) (x dx C : Addr) (mA : Str → Option Value) : Prop where
 obj : h.get? x = some (PySem.W.instObj C dx)
 ns : h.Ns1 dx mA
 ne : dx ≠ x
theorem nD {h : Heap} {dx : Addr} {mA : Str → Option Value} (n : h.Ns1 dx mA) : ∃ od,h.get? dx = some od ∧ ∀ name,PySem.W.lookIn name od = some (mA name) := by
 obtain ⟨o,es,ep,ho,hd,hk,_,hm⟩ := n
 refine ⟨o,ho,fun name => ?_⟩
 have e := hm name
 unfold nsFind findBy at e
 rw [← Array.find?_toList] at e
 unfold PySem.W.lookIn
 rw [hd]
 dsimp only
 split
 ·rename_i y q
  rw [q] at e
  exact congrArg some e
 ·rename_i q
  rw [q] at e
  have a : es.toList.any (·.refKey) = false := by
   rw [List.any_eq_false]
   intro y hy
   obtain ⟨z,t,hkey⟩ := hk y (Array.mem_toList_iff.mp hy)
   simp [DictEntry.refKey,hkey]
  have a' : ¬ es.toList.any (·.refKey) = true := by rw [a]; exact Bool.false_ne_true
  rw [if_neg a']
  exact congrArg some e
theorem nC.look {h : Heap} {x dx C : Addr} {mA : Str → Option Value} (I : nC h x dx C mA) : ∃ od,PySem.W.InstAt h x (PySem.W.instObj C dx) C (some od) ∧ ∀ name,PySem.W.lookIn name od = some (mA name) :=
 let ⟨od,ho,hl⟩ := nD I.ns
 ⟨od,⟨I.obj,rfl,rfl,ho⟩,hl⟩
section
variable {prog : Program} {w : World} {A : Around} {E : Value → Shared → Prop} {s : Shared} {K : PySem.W.Frag} {x dx C f : Addr} {mA : Str → Option Value} {name : Str} {v : Value}
theorem qN {expr : Bool} {Q : Value → Shared → Prop} (X : K.In s.heap) (I : nC s.heap x dx C mA) (hg : PySem.W.plainGet K C name = true) (hh : PySem.W.hasDictIn K C = true)
  (ha : PySem.W.findIn K (.ref C) name = some none) (hv : mA name = some v) (hv' : PySem.W.handedIn v = true) (h : Q v { s with toks := s.toks + 1 }) :
  wpAny (model prog w) A (getAttr (.ref x) name expr) Q E s := by
 obtain ⟨od,J,hl⟩ := I.look
 exact PySem.W.get_value X J (PySem.W.plainGet_of hg).1 (PySem.W.findObj_own hh ha rfl (by rw [hl,hv])) hv' h
theorem qO {ns : List Str} {Q : Unit → Shared → Prop} (X : K.In s.heap) (I : nC s.heap x dx C mA)
  (hs : PySem.W.findIn K (.ref C) "__setattr__" = some (some (.builtin "object.__setattr__"))) (hp : PySem.W.plainOver K C = true) (ht : PySem.W.takerIn K C name = some none) (hh : PySem.W.hasDictIn K C = true)
  (hw : PySem.Within mA ns) (hsz : ns.length ≤ sizeLine)
  (h : ∀ h',nC h' x dx C (fun y => if y = name then some v else mA y) → Heap.SameBut dx s.heap h' → Q () { s with heap := h',toks := s.toks + 2 }) :
  wpAny (model prog w) A (setAttr (.ref x) name v) Q E s := by
 obtain ⟨od,J,hl⟩ := I.look
 refine PySem.W.set_plain X J hs (PySem.W.osa_open (s := { s with toks := s.toks + 1 }) (r := none) X J hp ht fun b => ?_)
 obtain ⟨cd,hc,hd'⟩ := PySem.W.any_some hh
 have hx : s.heap.get? x = some ⟨.ref C,some dx,.plain,#[]⟩ := I.obj
 refine wpAny_bind (wpAny_pure (wpAny_bind (wpAny_bind (wpAny_loadPart hx (wpAny_bind (PySem.W.Looks.here (s := { s with toks := s.toks + 1 }) (PySem.W.looks_clsIn X hc) ?_))))))
 rw [hd']
 refine wpAny_pure (a := some dx) (wpAny_bind (wpAny_pure (wpAny_bind ?_)))
 refine wpAny_nsSet1 (s := { s with toks := s.toks + 1 }) I.ns fun h' hn2 hs2 => ?_
 obtain ⟨oD,esD,epD,hoD,hdD,hcD⟩ := hn2.count (PySem.Within.cons name v hw)
 refine wpAny_bind (wpAny_lookBehind hoD (by rw [hdD]; exact pastItsLine_dict (Nat.le_trans hcD (by rw [List.length_cons]; omega))) ?_)
 exact wpAny_pure (h _ ⟨(hs2.2 _ (Ne.symm I.ne)).trans I.obj,hn2,I.ne⟩ hs2)
theorem pT {R : Result → Shared → Prop} {vs : List Value} {kw : List (Str × Value)} (X : K.In s.heap) (hm : PySem.W.makesIn K C = true)
  (hi : PySem.W.findIn K (.ref C) "__init__" = some (some (.ref f))) (hf : PySem.W.typeIn K (.ref f) = some (.type "function"))
  (h : codeAny (model prog w) (A.under (.builtin "type.__call__" ⟨.ref C :: vs,kw⟩)) (.call (.ref f) ⟨.ref (s.heap.objs.size + 1) :: vs,kw⟩) (PySem.W.InitBack (s.heap.objs.size + 1) R)
   { s with heap := (s.heap.push PySem.W.emptyDict).push (PySem.W.instObj C s.heap.objs.size) }) :
  codeAny (model prog w) A (.call (.ref C) ⟨vs,kw⟩) R s := by
 obtain ⟨hh,g,d,t,os⟩ := s
 exact PySem.W.make_core (PySem.W.makes_of X hm) (PySem.W.looks_findIn X hi) (fun self => PySem.W.bind_fn X self hf) (.inl rfl) h
end
def aT (f : Str) (v : V) : List (Str × V) → List (Str × V)
 | [] => [(f,v)]
 | (g,x) :: r => if g = f then (g,v) :: r else (g,x) :: aT f v r
theorem aV (f g : Str) (v : V) : ∀ fs : List (Str × V),(aT f v fs).lookup g = if g = f then some v else fs.lookup g
 | [] => by
  show List.lookup g [(f,v)] = _
  by_cases h : g = f
  ·have hb : (g == f) = true := beq_iff_eq.mpr h
   simp only [List.lookup,hb,if_pos h]
  ·have hb : (g == f) = false := beq_eq_false_iff_ne.mpr h
   simp only [List.lookup,hb,if_neg h]
 | (k,x) :: r => by
  have ih := aV f g v r
  rw [show aT f v ((k,x) :: r) = (if k = f then (k,v) :: r else (k,x) :: aT f v r) from rfl]
  by_cases hk : k = f
  ·rw [if_pos hk]
   by_cases h : g = k
   ·have hb : (g == k) = true := beq_iff_eq.mpr h
    simp only [List.lookup,hb,if_pos (h.trans hk)]
   ·have hb : (g == k) = false := beq_eq_false_iff_ne.mpr h
    simp only [List.lookup,hb,if_neg (fun e : g = f => h (e.trans hk.symm))]
  ·rw [if_neg hk]
   by_cases h : g = k
   ·have hb : (g == k) = true := beq_iff_eq.mpr h
    simp only [List.lookup,hb,if_neg (fun e : g = f => hk (h.symm.trans e))]
   ·have hb : (g == k) = false := beq_eq_false_iff_ne.mpr h
    simp only [List.lookup,hb]
    exact ih
theorem fX (f : Str) (v : V) : ∀ fs : List (Str × V),f ∈ (aT f v fs).map (·.1) ∧ ∀ g,g ∈ fs.map (·.1) → g ∈ (aT f v fs).map (·.1)
 | [] => ⟨by simp [aT],fun g h => by simp at h⟩
 | (k,x) :: r => by
  obtain ⟨i1,i2⟩ := fX f v r
  rw [show aT f v ((k,x) :: r) = (if k = f then (k,v) :: r else (k,x) :: aT f v r) from rfl]
  by_cases hk : k = f
  ·rw [if_pos hk]
   subst hk
   exact ⟨by simp,fun g h => by simpa using h⟩
  ·rw [if_neg hk]
   refine ⟨?_,fun g h => ?_⟩
   ·rw [List.map_cons]
    exact List.mem_cons_of_mem _ i1
   ·rw [List.map_cons] at h ⊢
    rcases List.mem_cons.mp h with e | e
    ·exact List.mem_cons.mpr (.inl e)
    ·exact List.mem_cons_of_mem _ (i2 g e)
theorem a7 (f : Str) (v : V) : ∀ fs : List (Str × V),(aT f v fs).length ≤ fs.length + 1
 | [] => by simp [aT]
 | (k,x) :: r => by
  have ih := a7 f v r
  rw [show aT f v ((k,x) :: r) = (if k = f then (k,v) :: r else (k,x) :: aT f v r) from rfl]
  by_cases hk : k = f
  ·rw [if_pos hk,List.length_cons,List.length_cons]; omega
  ·rw [if_neg hk,List.length_cons,List.length_cons]; omega
theorem fE.some_of {v : V} {o : Option Value} (r : fE (some v) o) : ∃ u,o = some u ∧ RelV v u := by
 cases o with
 | none => exact (show False from r).elim
 | some u => exact ⟨u,rfl,r⟩
theorem nE {v : V} {u : Value} (r : RelV v u) : PySem.W.handedIn u = true := by
 cases v with
 | non => cases (show u = Value.none from r); rfl
 | bl b => cases (show u = Value.bool b from r); rfl
 | int i => obtain ⟨t,e⟩ := (show ∃ t,u = Value.int i t from r); cases e; rfl
 | str x => obtain ⟨t,e⟩ := (show ∃ t,u = Value.str x t from r); cases e; rfl
 | byt b => obtain ⟨t,e⟩ := (show ∃ t,u = Value.bytes b t from r); cases e; rfl
 | flt b => obtain ⟨t,e⟩ := (show ∃ t,u = Value.float b t from r); cases e; rfl
 | ref a => cases (show u = Value.ref a from r); rfl
 | ty n => cases (show u = Value.type n from r); rfl
section
variable {P : Program} {w : World} {H H' : Hp} {h h' : Heap} {a C dx : Addr} {fs fs' : List (Str × V)}
theorem jt (hok : fj P w H h) (e : H a = some (.ins C dx fs)) : ∃ mA,nC h a dx C mA ∧ (∀ f,fE (fs.lookup f) (mA f)) ∧ PySem.Within mA (fs.map (·.1)) ∧ fs.length ≤ 1000 ∧ H dx = some (.own a) := by
 obtain ⟨d,z,ne,ob,mA,n,r,q⟩ := (show bD P w H h a (.ins C dx fs) from hok a _ e)
 exact ⟨mA,⟨ob,n,ne⟩,r,q,z,d⟩
end
structure qP (K : PySem.W.Frag) (C : Addr) : Prop where
 pg : PySem.W.plainGet K C Str.empty = true
 hd : PySem.W.hasDictIn K C = true
 po : PySem.W.plainOver K C = true
 sa : PySem.W.findIn K (.ref C) "__setattr__" = some (some (.builtin "object.__setattr__"))
theorem qP.get {K : PySem.W.Frag} {C : Addr} (c : qP K C) (f : Str) : PySem.W.plainGet K C f = true := c.pg
def bS (K : PySem.W.Frag) (C : Addr) (f : Str) : Prop := PySem.W.findIn K (.ref C) f = some none
theorem bS.taker {K : PySem.W.Frag} {C : Addr} {f : Str} (n : bS K C f) : PySem.W.takerIn K C f = some none := by
 unfold PySem.W.takerIn
 rw [show PySem.W.findIn K (.ref C) f = some none from n]
 rfl
section
variable {X : Cx} {pins : List (Addr × Obj)} {σ : St} {H : Hp} {s : Shared} {a C dx : Addr} {fs : List (Str × V)} {f : Str} {v : V} {A : Around} {E : Value → Shared → Prop}
theorem lQ {b : Bool} {Q : Value → Shared → Prop} (I : aM X pins σ H s) (e : H a = some (.ins C dx fs)) (c : qP X.K C) (n : bS X.K C f) (l : fs.lookup f = some v)
  (h : ∀ u s',aM X pins σ H s' → RelV v u → Q u s') : wpAny (model X.prog X.w) A (getAttr (.ref a) f b) Q E s := by
 obtain ⟨mA,O,r,_,_,_⟩ := jt I.hok e
 obtain ⟨u,hu,ru⟩ := fE.some_of (v := v) (o := mA f) (by rw [← l]; exact r f)
 exact qN I.kIn O (c.get f) c.hd n hu (nE ru) (h u _ (I.tok _) ru)
theorem lS {y : V} {u : Value} {Q : Unit → Shared → Prop} (I : aM X pins σ H s) (e : H a = some (.ins C dx fs)) (c : qP X.K C) (n : bS X.K C f) (hl : fs.length < 1000) (ry : RelV y u)
  (h : ∀ s',aM X pins σ (aD H a (.ins C dx (aT f y fs))) s' → Q () s') : wpAny (model X.prog X.w) A (setAttr (.ref a) f u) Q E s := by
 obtain ⟨mA,O,r,wi,_,ho⟩ := jt I.hok e
 have hz : (fs.map (·.1)).length ≤ sizeLine := by rw [List.length_map,sizeLine_eq]; omega
 refine qO I.kIn O c.sa c.po n.taker c.hd wi hz fun h' O' sb => h _ ?_
 have hd : ∃ o,h'.get? dx = some o := let ⟨o,_,_,e',_⟩ := O'.ns; ⟨o,e'⟩
 refine I.write (x := a) (e := dx) (by rw [e]; exact True.intro) (.inr ho) (fun b q hb z => (sb.2 b hb).trans z) hd ?_
 refine ⟨by rw [aA O.ne]; exact ho,?_,O.ne,O'.obj,_,O'.ns,fun g => ?_,fun g hg => ?_⟩
 ·have := a7 f y fs; omega
 ·show fE ((aT f y fs).lookup g) (if g = f then some u else mA g)
  rw [aV]
  by_cases q : g = f
  ·rw [if_pos q,if_pos q]; exact ry
  ·rw [if_neg q,if_neg q]; exact r g
 ·by_cases q : g = f
  ·rw [q]; exact (fX f y fs).1
  ·refine (fX f y fs).2 g (wi g fun z => hg ?_)
   show (if g = f then some u else mA g) = none
   rw [if_neg q]; exact z
theorem aM.made (I : aM X pins σ H s) : aM X pins σ (aD (aD H s.heap.objs.size (.own (s.heap.objs.size + 1))) (s.heap.objs.size + 1) (.ins C s.heap.objs.size []))
  { s with heap := (s.heap.push PySem.W.emptyDict).push (PySem.W.instObj C s.heap.objs.size) } := by
 have e1 : (s.heap.push PySem.W.emptyDict).get? s.heap.objs.size = some PySem.W.emptyDict := Heap.get?_push_size s.heap rfl
 have e2 : ((s.heap.push PySem.W.emptyDict).push (PySem.W.instObj C s.heap.objs.size)).get? (s.heap.objs.size + 1) = some (PySem.W.instObj C s.heap.objs.size) := by
  have := Heap.get?_push_size (s.heap.push PySem.W.emptyDict) (o := PySem.W.instObj C s.heap.objs.size) rfl
  rwa [Heap.size_push] at this
 have e3 : (s.heap.push PySem.W.emptyDict).Ns s.heap.objs.size (fun _ => none) := ⟨PySem.W.emptyDict,#[],_,e1,rfl,(fun e he => absurd he (by simp)),fun _ => rfl⟩
 have I1 := I.laid (a := s.heap.objs.size) (o := .own (s.heap.objs.size + 1)) (h' := s.heap.push PySem.W.emptyDict) (t' := s.toks) (fun b u q => Heap.get?_push_of_some _ q) (Nat.le_refl _) ⟨_,e1⟩
 refine I1.laid (a := s.heap.objs.size + 1) (o := .ins C s.heap.objs.size []) (t' := s.toks) (fun b u q => Heap.get?_push_of_some _ q) (Nat.le_of_eq (Heap.size_push _ _)) ?_
 have ne : s.heap.objs.size ≠ s.heap.objs.size + 1 := Nat.ne_of_lt (Nat.lt_succ_self _)
 refine ⟨by rw [aA ne,aj],Nat.zero_le _,ne,e2,fun _ => none,(Heap.Ns1.of_empty e3).at fun o q => Heap.get?_push_of_some _ q,fun _ => True.intro,fun y hy => absurd rfl hy⟩
theorem qQ {prog : Program} {w : World} {env : Env} {e : Expr} {f : Str} {pos : Pos} {s : Shared} {Q : Value → Shared → Prop} (hb : attributeBase e f env (eval e env) = eval e env)
  (h : wpAny (model prog w) A (eval e env) (fun o s₁ => wpAny (model prog w) A (getAttr o f true) Q E s₁) E s) : wpAny (model prog w) A (eval (.Attribute e f pos) env) Q E s :=
 Attribute_any_ h (by rw [arm_eval_Attribute,hb])
end
def wx (K : PySem.W.Frag) (ta : TE) (f : Str) : TE := fun σ H Q => ta σ H fun x H1 => ∃ a C dx fs v,x = .ref a ∧ H1 a = some (.ins C dx fs) ∧ qP K C ∧ bS K C f ∧ fs.lookup f = some v ∧ Q v H1
def wA (K : PySem.W.Frag) (ta tv : TE) (f : Str) : TS := fun D σ H => tv σ H fun y H1 => ta σ H1 fun x H2 => ∃ a C dx fs,x = .ref a ∧ H2 a = some (.ins C dx fs) ∧ qP K C ∧ bS K C f ∧ fs.length < 1000 ∧
 D.nx σ (aD H2 a (.ins C dx (aT f y fs)))
section
variable {X : Cx} {o e value : Expr} {f : Str} {pos pos' tpos : Pos} {ta tv : TE}
theorem bJ (he : PE X e ta) (hb : attributeBase e f X.env (eval e X.env) = eval e X.env) : PE X (.Attribute e f pos) (wx X.K ta f) := by
 intro pins s σ H Q I h
 refine qQ hb (a9 (he pins s σ H _ I h) fun u s1 ⟨x,H1,I1,rx,a,C,dx,fs,v,ex,ea,c,n,l,q⟩ => ?_)
 subst ex
 obtain rfl : u = Value.ref a := rx
 exact lQ I1 ea c n l fun u' s2 I2 ru => ⟨v,H1,I2,ru,q⟩
theorem ic (ha : PE X o ta) (hv : PE X value tv) (hs : swapsWith value (some (.Attribute o f pos')) pos.line X.env = pure false) : PS X (.Assign [.Attribute o f pos'] value pos) (wA X.K ta tv f) := by
 intro pins s σ H D I h
 refine plainObj_wpAny_Assign_Attribute (a9 (hv pins s σ H _ I h) fun u s1 ⟨y,H1,I1,ry,q⟩ => a9 (ha pins s1 σ H1 _ I1 q) fun ov s2 ⟨x,H2,I2,rx,a,C,dx,fs,ex,ea,c,n,l,q2⟩ => ?_) hs
 subst ex
 obtain rfl : ov = Value.ref a := rx
 exact lS I2 ea c n l ry fun s3 I3 => ⟨σ,_,I3,q2⟩
end
section
variable {X : Cx} {pins : List (Addr × Obj)} {σ : St} {H : Hp} {s : Shared} {A : Around} {E : Value → Shared → Prop} {Q : Value → Shared → Prop} {c : Value} {b : Bool}
inductive fH (K : PySem.W.Frag) (H : Hp) : V → Value → Prop where
 | non : fH K H .non (.type "NoneType")
 | bl (x : Bool) : fH K H (.bl x) (.type "bool")
 | int (i : Int) : fH K H (.int i) (.type "int")
 | str (x : Str) : fH K H (.str x) (.type "str")
 | flt (x : UInt64) : fH K H (.flt x) (.type "float")
 | lst {a : Addr} {xs : List V} (e : H a = some (.lst xs)) : fH K H (.ref a) (.type "list")
 | frz {a : Addr} {o : Obj} {xs : List V} (e : H a = some (.frz o (.lst xs))) : fH K H (.ref a) (.type "list")
 | tup {a : Addr} {xs : List V} (e : H a = some (.tup xs)) : fH K H (.ref a) (.type "tuple")
 | dK {a : Addr} {kvs : List (Key × V)} (e : H a = some (.dK kvs)) : fH K H (.ref a) (.type "dict")
 | dT {a : Addr} {kvs : List (List Key × V)} (e : H a = some (.dT kvs)) : fH K H (.ref a) (.type "dict")
 | ins {a C dx : Addr} {fs : List (Str × V)} (e : H a = some (.ins C dx fs)) (cl : qP K C) (ha : PySem.W.findIn K (.ref C) "__class__" = some (some (.builtin "object.__class__")))
   (hn : PySem.W.specialIn K (.builtin "object.__class__") "__get__" = some (some (.builtin "getset_descriptor.__get__"))) (htk : PySem.W.takesIn K (.builtin "object.__class__") = some true)
   (hm : PySem.W.mroIn K C (.type "object") = some true) : fH K H (.ref a) (.ref C)
theorem nG {x : V} {u t : Value} (I : aM X pins σ H s) (rx : RelV x u) (ty : fH X.K H x t) (e : PySem.W.kitOne X.K t c = some b) (h : ∀ tk,Q (.bool b) { s with toks := tk }) :
  wpAny (model X.prog X.w) A (call (.builtin "isinstance") [u,c]) Q E s := by
 cases ty with
 | non => cases (show u = Value.none from rx); exact PySem.W.kia_one PySem.W.kitx_none I.kIn True.intro e (fun z => nomatch z) h
 | bl y => cases (show u = Value.bool y from rx); exact PySem.W.kia_one PySem.W.kitx_bool I.kIn True.intro e (fun z => nomatch z) h
 | int i => obtain ⟨t,q⟩ := (show ∃ t,u = Value.int i t from rx); cases q; exact PySem.W.kia_one PySem.W.kitx_int I.kIn True.intro e (fun z => nomatch z) h
 | str y => obtain ⟨t,q⟩ := (show ∃ t,u = Value.str y t from rx); cases q; exact PySem.W.kia_one PySem.W.kitx_str I.kIn True.intro e (fun z => nomatch z) h
 | flt y => obtain ⟨t,q⟩ := (show ∃ t,u = Value.float y t from rx); cases q; exact PySem.W.kia_one PySem.W.kitx_float I.kIn True.intro e (fun z => nomatch z) h
 | @lst a xs ea =>
  cases (show u = Value.ref a from rx)
  obtain ⟨_,_,n,_,h1⟩ := (show bD X.prog X.w H s.heap a (.lst xs) from I.hok a _ ea)
  exact PySem.W.kia_one PySem.W.kitx_list I.kIn ⟨_,h1,rfl⟩ e (fun z => nomatch z) h
 | @frz a ob xs ea =>
  cases (show u = Value.ref a from rx)
  obtain ⟨_,_,_,n,_,h1⟩ := (show bD X.prog X.w H s.heap a (.frz ob (.lst xs)) from I.hok a _ ea)
  exact PySem.W.kia_one PySem.W.kitx_list I.kIn ⟨_,h1,rfl⟩ e (fun z => nomatch z) h
 | @tup a xs ea =>
  cases (show u = Value.ref a from rx)
  obtain ⟨_,_,_,p⟩ := (show bD X.prog X.w H s.heap a (.tup xs) from I.hok a _ ea)
  obtain ⟨o,h1,h2,_⟩ := p
  exact PySem.W.kia_one PySem.W.kitx_tuple I.kIn ⟨o,h1,h2⟩ e (fun z => nomatch z) h
 | @dK a kvs ea =>
  cases (show u = Value.ref a from rx)
  obtain ⟨_,_,vs,_,p⟩ := (show bD X.prog X.w H s.heap a (.dK kvs) from I.hok a _ ea)
  obtain ⟨o,es,ep,h1,h2,_⟩ := p
  exact PySem.W.kia_one PySem.W.kitx_dict I.kIn ⟨o,h1,h2.1⟩ e (fun z => nomatch z) h
 | @dT a kvs ea =>
  cases (show u = Value.ref a from rx)
  obtain ⟨_,_,xs,_,o,es,ep,h1,h2,_⟩ := (show bD X.prog X.w H s.heap a (.dT kvs) from I.hok a _ ea)
  exact PySem.W.kia_one PySem.W.kitx_dict I.kIn ⟨o,h1,h2.1⟩ e (fun z => nomatch z) h
 | @ins a C dx fs ea cl ha hn htk hm =>
  cases (show u = Value.ref a from rx)
  obtain ⟨mA,O,_⟩ := jt I.hok ea
  obtain ⟨od,J,_⟩ := O.look
  exact PySem.W.kia_one (PySem.W.kitx_own (cl.get _) cl.hd ha hn htk hm) I.kIn J e (fun z => nomatch z) h
end
structure cJ (k : Nat) (A : Around) : Prop where
 hd : A.handled = none
 dp : A.depth + 3 * k + 5 < recursionLimit
 un : A.units + 16 * k + 200 < cLine
theorem cJ.mono {j k : Nat} {A : Around} (r : cJ k A) (h : j ≤ k) : cJ j A := ⟨r.hd,by have := r.dp; omega,by have := r.un; omega⟩
theorem cJ.deeper {k : Nat} {A : Around} (r : cJ (k + 1) A) (env : Env) : cJ k (A.deeper env) :=
 ⟨r.hd,by have := r.dp; show A.depth + 1 + 3 * k + 5 < _; omega,by have := r.un; show A.units + 3 + 16 * k + 200 < _; omega⟩
theorem lV {A : Around} {C : Addr} {us : List Value} {kw : List (Str × Value)} : (A.under (.builtin "type.__call__" ⟨.ref C :: us,kw⟩)).depth = A.depth + 1 := by
 first | rfl | simp [Around.under,Code.weight,Code.isCreation,Code.isGuard,Code.isCaller,Code.frames,Code.isFrame,guardIds]
theorem lW {A : Around} {C : Addr} {us : List Value} {kw : List (Str × Value)} : (A.under (.builtin "type.__call__" ⟨.ref C :: us,kw⟩)).units = A.units + 1 := by
 first | rfl | simp [Around.under,Code.cUnits,Code.frames,Code.isFrame]
theorem cJ.make {k : Nat} {A : Around} (r : cJ (k + 1) A) (C : Addr) (us : List Value) (kw : List (Str × Value)) : cJ k (A.under (.builtin "type.__call__" ⟨.ref C :: us,kw⟩)) :=
 ⟨r.hd,by have := r.dp; rw [lV]; omega,by have := r.un; rw [lW]; omega⟩
theorem cJ.depth {k : Nat} {A : Around} (r : cJ k A) : A.depth < recursionLimit := by have := r.dp; omega
theorem cJ.units {k : Nat} {A : Around} (r : cJ k A) : A.units + 64 < cLine := by have := r.un; omega
theorem cJ.units0 {k : Nat} {A : Around} (r : cJ k A) : A.units < cLine := by have := r.un; omega
def wB : TA := fun _ H Q => Q [] H
def um (ta : TE) (tr : TA) : TA := fun σ H Q => ta σ H fun x H1 => tr σ H1 fun xs H2 => Q (x :: xs) H2
section
variable {X : Cx} {e : Expr} {es : List Expr} {te : TE} {t : TA} {pos : Pos}
theorem ae : PA X [] wB := fun _ _ _ _ H Q I h => Calls.spliced_nil ⟨[],H,I,.nil,h⟩
theorem aa (ha : PE X e te) (hr : PA X es t) (hs : starEach (e :: es) X.env = (false,eval e X.env) :: starEach es X.env := by rfl) : PA X (e :: es) (um te t) := by
 intro pos pins s σ H Q I h
 rw [hs]
 show wpAny _ _ (spliced ((false,eval e X.env) :: backTo pos (starEach es X.env))) _ _ s
 refine Calls.spliced_cons (a9 (ha pins s σ H _ I h) fun u s1 ⟨x,H1,I1,r1,q1⟩ => ?_)
 exact a9 (hr pos pins s1 σ H1 _ I1 q1) fun us s2 ⟨xs,H2,I2,r2,q2⟩ => ⟨x :: xs,H2,I2,.cons r1 r2,q2⟩
def wC (t : TA) : TE := fun σ H Q => t σ H fun xs H1 => xs.length ≤ sizeLine ∧ ∀ p,H1 p = none → Q (.ref p) (aD H1 p (.tup xs))
def wD (t : TA) : TE := fun σ H Q => t σ H fun xs H1 => xs.length ≤ sizeLine ∧ ∀ p,H1 p = none → Q (.ref p) (aD H1 p (.lst xs))
theorem bK {x1} (h : PA X es t) : PE X (.Tuple es x1 pos) (wC t) := by
 intro pins s σ H Q I hq
 refine wpAny_Tuple_spliced (a9 (h pos pins s σ H _ I hq) fun us s1 ⟨xs,H1,I1,r,z,q⟩ => ⟨by rw [← r.length]; exact z,?_⟩)
 have hf : H1 s1.heap.objs.size = none := I1.hok.fresh (Nat.le_refl _)
 refine ⟨.ref s1.heap.objs.size,aD H1 s1.heap.objs.size (.tup xs),I1.laid (t' := s1.toks) (fun b u e => Heap.get?_push_of_some _ e) (Nat.le_refl _) ?_,rfl,q _ hf⟩
 exact ⟨z,us,r,⟨_,Heap.get?_push_size _ rfl,rfl,_,rfl⟩⟩
theorem bw (h : PA X es t) : PE X (.List es pos) (wD t) := by
 intro pins s σ H Q I hq
 refine wpAny_List_spliced (a9 (h pos pins s σ H _ I hq) fun us s1 ⟨xs,H1,I1,r,z,q⟩ => ⟨by rw [← r.length]; exact z,?_⟩)
 have hf : H1 s1.heap.objs.size = none := I1.hok.fresh (Nat.le_refl _)
 refine ⟨.ref s1.heap.objs.size,aD H1 s1.heap.objs.size (.lst xs),I1.laid (t' := s1.toks) (fun b u e => Heap.get?_push_of_some _ e) (Nat.le_refl _) ?_,rfl,q _ hf⟩
 exact ⟨z,us,0,r,Heap.get?_push_size _ rfl⟩
end
abbrev Sp := List V → Hp → VK → XK → Prop
abbrev nJ := List Env → Hp → Shared → XK → Value → Shared → Prop
structure lX (P : Program) (w : World) (K : PySem.W.Frag) (mg : Str → Option Value) (base : Heap) (A : Around) (outer : List Env) (s : Shared) (H : Hp) : Prop where
 frames : A.frames = some outer
 mod : Mod K mg base
 bs : ∀ b o,base.get? b = some o → s.heap.get? b = some o ∧ H b = none
 bsz : base.objs.size ≤ s.heap.objs.size
 funs : s.heap.FunFrames base outer
 frf : ∀ b ∈ pA outer,H b = none
 hok : fj P w H s.heap
 bare : AllBare s.gens
def CE (outer : List Env) (P : Program) (w : World) (H : Hp) (s : Shared) (Q : VK) (u : Value) (s' : Shared) : Prop :=
 ∃ v H',s'.os = s.os ∧ AllBare s'.gens ∧ Un (pA outer) [] H H' s.heap s'.heap ∧ fj P w H' s'.heap ∧ RelV v u ∧ Q v H'
def CR (CX : nJ) (outer : List Env) (P : Program) (w : World) (H : Hp) (s : Shared) (Q : VK) (E : XK) (r : Result) (s' : Shared) : Prop :=
 match r with
 | .ok (.ret u) => CE outer P w H s Q u s'
 | .ok _ => False
 | .error e => CX outer H s E e s'
structure bG (P : Program) (w : World) (K : PySem.W.Frag) (mg : Str → Option Value) (base : Heap) (CX : nJ) (k : Nat) (f : Addr) (fd : FuncData) (ps : List Str) (sp : Sp) : Prop where
 len : ∀ vs H Q E,sp vs H Q E → vs.length = ps.length
 run : ∀ (A : Around) (outer : List Env) (s : Shared) (H : Hp) (args : Args) (us : List Value) (vs : List V) (Q : VK) (E : XK),cJ k A → lX P w K mg base A outer s H → BindsTo s fd args (ps.zip us) → bh vs us → sp vs H Q E →
  codeAny (model P w) A (.call (.ref f) args) (CR CX outer P w H s Q E) s
theorem lX.make {P : Program} {w : World} {K : PySem.W.Frag} {mg : Str → Option Value} {base : Heap} {A : Around} {outer : List Env} {s : Shared} {H : Hp} (e : lX P w K mg base A outer s H) (C : Addr) (us : List Value) (kw : List (Str × Value)) :
  lX P w K mg base (A.under (.builtin "type.__call__" ⟨.ref C :: us,kw⟩)) outer s H := ⟨by first | exact e.frames | (simpa [Around.under,Code.envs,Code.isFrame,pushEnvs] using e.frames),e.mod,e.bs,e.bsz,e.funs,e.frf,e.hok,e.bare⟩
section
variable {X : Cx} {pins : List (Addr × Obj)} {σ : St} {H : Hp} {s s' : Shared}
theorem aM.env0 (I : aM X pins σ H s) : lX X.prog X.w X.K X.mg X.base X.A X.stack s H :=
 ⟨I.ok.frames,I.ok.mod,I.bs,Nat.le_trans I.ok.bsz I.sz,I.stack,I.stkFree,I.hok,I.bare⟩
theorem aM.after {Q : VK} {u : Value} (I : aM X pins σ H s) (h : CE X.stack X.prog X.w H s Q u s') : EP X pins σ Q u s' := by
 obtain ⟨v,H',os,bare,un,hok,r,q⟩ := h
 obtain ⟨hh,g,d,t,os'⟩ := s'
 obtain rfl : os' = s.os := os
 exact ⟨v,H',I.call (h' := hh) (g' := g) (d' := d) (t' := t) (ch := []) un hok bare (fun b z => absurd z (by simp)),r,q⟩
end
def sh (sp : Sp) (dvs : List V) (E : XK) (t : TA) : TE := fun σ H Q => t σ H fun vs H1 => sp (vs ++ dvs) H1 Q E
def si (C : Addr) (sp : Sp) (dvs : List V) (E : XK) (t : TA) : TE := fun σ H Q => t σ H fun vs H1 => ∀ x dx,H1 x = none → H1 dx = none → dx ≠ x →
 sp (.ref x :: (vs ++ dvs)) (aD (aD H1 dx (.own x)) x (.ins C dx [])) (fun v H2 => v = .non ∧ Q (.ref x) H2) E
def Binds (K : PySem.W.Frag) (fd : FuncData) (ps : List Str) (ds : List Value) : Prop :=
 ∀ (s : Shared) (us : List Value),K.In s.heap → (us ++ ds).length = ps.length → BindsTo s fd ⟨us,[]⟩ (ps.zip (us ++ ds))
theorem Binds.all {K : PySem.W.Frag} {fd : FuncData} {ps : List Str} (h : ∀ us : List Value,us.length = ps.length → bindArgs fd ⟨us,[]⟩ = pure (ps.zip us)) : Binds K fd ps [] := fun s us _ hl => by
 rw [List.append_nil] at hl ⊢
 exact .of_eq (h us hl)
def ie (CX : nJ) (X : Cx) (E : XK) : Prop := ∀ (pins : List (Addr × Obj)) (σ : St) (H : Hp) (s : Shared) (e : Value) (s' : Shared),aM X pins σ H s → CX X.stack H s E e s' → X.xe e s'
section
variable {X : Cx} {CX : nJ} {k : Nat} {f C : Addr} {fd : FuncData} {ps : List Str} {sp : Sp} {dvs : List V} {ds : List Value} {E : XK} {x m : Str} {p pos apos : Pos} {e o : Expr} {es : List Expr} {ta : TE} {t : TA}
theorem sM {pins : List (Addr × Obj)} {σ : St} {H : Hp} {s : Shared} {Q : VK} {us : List Value} {vs : List V} (F : bG X.prog X.w X.K X.mg X.base CX k f fd ps sp) (hr : cJ k X.A) (hb : Binds X.K fd ps ds) (hd : bh dvs ds) (hx : ie CX X E)
  (I : aM X pins σ H s) (r : bh vs us) (h : sp (vs ++ dvs) H Q E) : wpAny (model X.prog X.w) X.A (call (.ref f) us) (EP X pins σ Q) X.xe s := by
 have r2 : bh (vs ++ dvs) (us ++ ds) := r.append hd
 have hl : (us ++ ds).length = ps.length := by rw [← r2.length]; exact F.len _ _ _ _ h
 refine wpAny_call (codeAny_mono (F.run X.A X.stack s H ⟨us,[]⟩ (us ++ ds) (vs ++ dvs) Q E hr I.env0 (hb s us I.kIn hl) r2 h) fun r s' hq => ?_)
 cases r with
 | error e => exact hx pins σ H s e s' I hq
 | ok fl =>
  cases fl with
  | ret u => exact I.after hq
  | next => exact False.elim hq
  | brk => exact False.elim hq
  | cont => exact False.elim hq
theorem qR (F : bG X.prog X.w X.K X.mg X.base CX k f fd ps sp) (hr : cJ k X.A) (hg : Gl X x) (hm : X.mg x = some (.ref f)) (hk : PySem.W.keepIn X.K (.ref f) = true) (hb : Binds X.K fd ps ds) (hd : bh dvs ds) (hx : ie CX X E)
  (ha : PA X (e :: es) t) (hdb : (x == ("__debug__" : Str)) = false := by decide) (he : starEach (e :: es) X.env = (false,eval e X.env) :: starEach es X.env := by rfl) (hpl : (backTo pos (starEach es X.env)).any (·.1) = false := by rfl) :
  PE X (.Call (.Name x p) (e :: es) [] pos) (sh sp dvs E t) := by
 intro pins s σ H Q I h
 refine wpAny_Call_Name_kw (jr I hg hm ?_ hdb)
 refine PySem.W.callWith_K (h₀ := X.base) I.ok.mod.kin hk (a9 (ha pos pins s σ H _ I h) fun us s1 ⟨vs,H1,I1,r,q⟩ => ⟨I1.kIn,?_⟩) he hpl
 exact sM F hr hb hd hx I1 r q
structure Mk (K : PySem.W.Frag) (C f : Addr) : Prop where
 makes : PySem.W.makesIn K C = true
 init : PySem.W.findIn K (.ref C) "__init__" = some (some (.ref f))
 fn : PySem.W.isFn K (.ref f) = true
 kp : PySem.W.keepIn K (.ref C) = true
theorem pU {pins : List (Addr × Obj)} {σ : St} {H : Hp} {s : Shared} {Q : VK} {us : List Value} {vs : List V} (M : Mk X.K C f) (F : bG X.prog X.w X.K X.mg X.base CX k f fd ps sp) (hr : cJ (k + 1) X.A) (hb : Binds X.K fd ps ds) (hd : bh dvs ds)
  (hx : ie CX X E) (I : aM X pins σ H s) (r : bh vs us)
  (h : ∀ x dx,H x = none → H dx = none → dx ≠ x → sp (.ref x :: (vs ++ dvs)) (aD (aD H dx (.own x)) x (.ins C dx [])) (fun v H2 => v = .non ∧ Q (.ref x) H2) E) :
  wpAny (model X.prog X.w) X.A (call (.ref C) us) (EP X pins σ Q) X.xe s := by
 have hq := h (s.heap.objs.size + 1) s.heap.objs.size (I.hok.fresh (Nat.le_succ _)) (I.hok.fresh (Nat.le_refl _)) (Nat.ne_of_lt (Nat.lt_succ_self _))
 have I2 := aM.made (C := C) I
 have r2 : bh (V.ref (s.heap.objs.size + 1) :: (vs ++ dvs)) (Value.ref (s.heap.objs.size + 1) :: (us ++ ds)) := .cons rfl (r.append hd)
 have hl : (Value.ref (s.heap.objs.size + 1) :: us ++ ds).length = ps.length := by
  have e := r2.length
  rw [F.len _ _ _ _ hq] at e
  exact e.symm
 refine wpAny_call (pT (f := f) I.kIn M.makes M.init (beq_iff_eq.mp M.fn) (codeAny_mono (F.run _ X.stack _ _ ⟨Value.ref (s.heap.objs.size + 1) :: us,[]⟩ (Value.ref (s.heap.objs.size + 1) :: (us ++ ds)) _ _ E (hr.make C us [])
  (I2.env0.make C us []) (hb _ (Value.ref (s.heap.objs.size + 1) :: us) I2.kIn hl) r2 hq) fun r s' hq' => ?_))
 cases r with
 | error e => exact hx pins σ _ _ e s' I2 hq'
 | ok fl =>
  cases fl with
  | ret u =>
   obtain ⟨v,H',I3,rv,ev,q3⟩ := I2.after hq'
   subst ev
   exact ⟨rv,⟨V.ref (s.heap.objs.size + 1),H',I3,rfl,q3⟩⟩
  | next => exact False.elim hq'
  | brk => exact False.elim hq'
  | cont => exact False.elim hq'
theorem qS (M : Mk X.K C f) (F : bG X.prog X.w X.K X.mg X.base CX k f fd ps sp) (hr : cJ (k + 1) X.A) (hg : Gl X x) (hm : X.mg x = some (.ref C)) (hb : Binds X.K fd ps ds) (hd : bh dvs ds) (hx : ie CX X E)
  (ha : PA X (e :: es) t) (hdb : (x == ("__debug__" : Str)) = false := by decide) (he : starEach (e :: es) X.env = (false,eval e X.env) :: starEach es X.env := by rfl) (hpl : (backTo pos (starEach es X.env)).any (·.1) = false := by rfl) :
  PE X (.Call (.Name x p) (e :: es) [] pos) (si C sp dvs E t) := by
 intro pins s σ H Q I h
 refine wpAny_Call_Name_kw (jr I hg hm ?_ hdb)
 refine PySem.W.callWith_K (h₀ := X.base) I.ok.mod.kin M.kp (a9 (ha pos pins s σ H _ I h) fun us s1 ⟨vs,H1,I1,r,q⟩ => ⟨I1.kIn,?_⟩) he hpl
 exact pU M F hr hb hd hx I1 r q
end
section
variable {X : Cx} {CX : nJ} {k : Nat} {f C : Addr} {fd : FuncData} {ps ks : List Str} {sp : Sp} {E : XK} {x m : Str} {p pos apos kpos : Pos} {e o : Expr} {es : List Expr} {kws : List Keyword} {te ta : TE} {t tk : TA} {nm : Option Str}
variable {g : List Value → List Value → List Value} {gV : List V → List V → List V}
end
structure aN (N P : List Str) (sc : Scope) : Prop where
 kind : sc.kind = .function
 co : sc.isCoroutine = false
 gen : sc.isGenerator = false
 nd : N.Nodup
 pre : N.take P.length = P
 par : ∀ x ∈ P,sc.names.lookup x = some .local ∨ sc.names.lookup x = some .cell
 nofree : ∀ y ∈ sc.names,y.2 ≠ .free
theorem i7 {kindOf : Str → Option NameKind} {x : Str} : ∀ {binds : List (Str × Value)} {m : Str → Option Value},(∀ v,(x,v) ∉ binds) → bindL kindOf binds m x = m x
 | [],_,_ => rfl
 | (n,v) :: r,m,h => by
  unfold bindL
  rw [i7 fun w hw => h w (List.mem_cons_of_mem _ hw)]
  split
  ·have : x ≠ n := by rintro rfl; exact h v List.mem_cons_self
   simp [this]
  ·rfl
theorem i8 {kindOf : Str → Option NameKind} {x : Str} : ∀ {binds : List (Str × Value)} {m : Str → Option Value},(∀ v,(x,v) ∉ binds) → bindC kindOf binds m x = m x
 | [],_,_ => rfl
 | (n,v) :: r,m,h => by
  unfold bindC
  rw [i8 fun w hw => h w (List.mem_cons_of_mem _ hw)]
  split
  ·rfl
  ·have : x ≠ n := by rintro rfl; exact h v List.mem_cons_self
   simp [this]
theorem i9 {kindOf : Str → Option NameKind} {x : Str} {v : Value} : ∀ {P : List Str} {vs : List Value} {i : Nat} {m : Str → Option Value},P.Nodup → P[i]? = some x → vs[i]? = some v → kindOf x = some .local →
  bindL kindOf (P.zip vs) m x = some v
 | [],_,_,_,_,h,_,_ => by simp at h
 | _ :: _,[],_,_,_,_,h,_ => by simp at h
 | p :: P,w :: vs,0,m,nd,h1,h2,hk => by
  simp at h1 h2; subst h1; subst h2
  show bindL kindOf ((p,w) :: P.zip vs) m p = _
  unfold bindL
  rw [i7 fun v hv => (List.nodup_cons.mp nd).1 (List.of_mem_zip hv).1,if_pos hk]
  simp
 | p :: P,w :: vs,i + 1,m,nd,h1,h2,hk => by
  show bindL kindOf ((p,w) :: P.zip vs) m x = _
  unfold bindL
  exact i9 (i := i) (List.nodup_cons.mp nd).2 (by simpa using h1) (by simpa using h2) hk
theorem ja {kindOf : Str → Option NameKind} {x : Str} {v : Value} : ∀ {P : List Str} {vs : List Value} {i : Nat} {m : Str → Option Value},P.Nodup → P[i]? = some x → vs[i]? = some v → kindOf x ≠ some .local →
  bindC kindOf (P.zip vs) m x = some v
 | [],_,_,_,_,h,_,_ => by simp at h
 | _ :: _,[],_,_,_,_,h,_ => by simp at h
 | p :: P,w :: vs,0,m,nd,h1,h2,hk => by
  simp at h1 h2; subst h1; subst h2
  show bindC kindOf ((p,w) :: P.zip vs) m p = _
  unfold bindC
  rw [i8 fun v hv => (List.nodup_cons.mp nd).1 (List.of_mem_zip hv).1,if_neg hk]
  simp
 | p :: P,w :: vs,i + 1,m,nd,h1,h2,hk => by
  show bindC kindOf ((p,w) :: P.zip vs) m x = _
  unfold bindC
  exact ja (i := i) (List.nodup_cons.mp nd).2 (by simpa using h1) (by simpa using h2) hk
def start (N : List Str) (vs : List V) : St := vs.map some ++ List.replicate (N.length - vs.length) none
def nK (CX : nJ) (P : Program) (w : World) (K : PySem.W.Frag) (mg : Str → Option Value) (base : Heap) (N : List Str) (qual : Str) (scope : Scope) (f : Addr) (cd : Value) (A : Around) (outer : List Env) (s : Shared) (H : Hp) (E : XK) : Cx where
 prog := P
 w := w
 K := K
 mg := mg
 base := base
 A := A.deeper (envOfC qual scope s.heap.objs.size f cd)
 N := N
 s₀ := s
 H₀ := H
 env := envOfC qual scope s.heap.objs.size f cd
 outer := outer
 stack := envOfC qual scope s.heap.objs.size f cd :: outer
 ex := []
 calm := true
 fn := fun _ => true
 pn := []
 xe := fun e s' => wpAny (model P w) (A.deeper (envOfC qual scope s.heap.objs.size f cd)) (leaving (envOfC qual scope s.heap.objs.size f cd) e) (fun _ s'' => CX outer H s E e s'') (fun e' s'' => CX outer H s E e' s'') s'
theorem j7 {sc : Scope} {n : Nat} {x : Str} (h : sc.names.lookup x = some .cell) : ∃ c,(cellsFrom n sc.names []).lookup x = some c := by
 have q := PySem.W.cellsFrom_some sc.names n [] (.inl h)
 exact Option.isSome_iff_exists.mp q
theorem nL {CX : nJ} {P : Program} {w : World} {K : PySem.W.Frag} {mg : Str → Option Value} {base : Heap} {N ps : List Str} {qual : Str} {scope : Scope} {f : Addr} {cd : Value} {A : Around} {outer : List Env} {s s1 : Shared} {H : Hp} {E : XK} {us : List Value} {vs : List V}
  (S : aN N ps scope) (hd : A.handled = none) (e0 : lX P w K mg base A outer s H) (hl : vs.length = ps.length) (r : bh vs us)
  (x : InCallC s s.heap.objs.size (bindL (envOfC qual scope s.heap.objs.size f cd).kindOf (ps.zip us) fun _ => none) (cellsFrom (s.heap.objs.size + 1) scope.names []) (bindC (envOfC qual scope s.heap.objs.size f cd).kindOf (ps.zip us) fun _ => none) s1) :
  aM (nK CX P w K mg base N qual scope f cd A outer s H E) [] (start N vs) H s1 := by
 have hpl : ps.length ≤ N.length := by have := congrArg List.length S.pre; rw [List.length_take] at this; omega
 obtain ⟨h1,tk,rfl,hk⟩ := x.done
 have noA : ∀ b : Addr,b ∉ (nK CX P w K mg base N qual scope f cd A outer s H E).ex := fun b z => absurd (show b ∈ ([] : List Addr) from z) (by simp)
 refine ⟨⟨e0.mod,S.kind,rfl,rfl,Nat.le_refl _,fun y z c h1 h2 => ?_,fun y hy => ?_,fun y c _ h => ?_,fun _ => hd,Around.frames_deeper e0.frames,.inr ⟨rfl,rfl⟩,fun b z => absurd z (noA b),e0.bs,e0.bsz,fun b _ _ => noA b,fun b z => absurd z (noA b),e0.funs,e0.frf⟩,
  rfl,e0.bare,Un.kept hk,⟨_,x.toInCall.ns,fun i y v h1 h2 h3 => ?_⟩,fun y c h => ⟨_,x.cell y c h⟩,e0.hok.fresh (Nat.le_refl _),fun y c h => ?_,fun p hp => absurd (show p ∈ ([] : List (Addr × Obj)) from hp) (by simp),e0.hok.kept hk,?_⟩
 ·exact name_of_addr x.apart (PySem.mem_of_lookup h1) (PySem.mem_of_lookup h2)
 ·have hy : scope.names.lookup y = some .cell ∨ scope.names.lookup y = some .free := hy
  rcases hy with hy | hy
  ·exact j7 hy
  ·exact absurd rfl (S.nofree _ (PySem.mem_of_lookup hy))
 ·exact Nat.le_of_lt (x.above y c (PySem.mem_of_lookup h))
 ·have hi : i < vs.length := by
   unfold start at h2
   by_cases hi : i < vs.length
   ·exact hi
   ·rw [List.getElem?_append_right (by simpa using hi)] at h2
    rw [List.getElem?_replicate] at h2
    split at h2 <;> cases h2
  have ha : vs[i]? = some v := by
   unfold start at h2
   rw [List.getElem?_append_left (by simpa using hi),List.getElem?_map] at h2
   cases e : vs[i]? with
   | none => rw [e] at h2; cases h2
   | some a => rw [e] at h2; cases h2; rfl
  obtain ⟨u,hu,rv⟩ := r.get ha
  have hp : ps[i]? = some y := by
   rw [← S.pre,List.getElem?_take_of_lt (by omega)]; exact h1
  have ndP : ps.Nodup := by rw [← S.pre]; exact S.nd.sublist (List.take_sublist _ _)
  refine ⟨u,rv,?_⟩
  rcases S.par y (List.mem_of_getElem? hp) with k | k
  ·exact .inl ⟨k,i9 ndP hp hu k⟩
  ·obtain ⟨c,e⟩ := j7 (n := s.heap.objs.size + 1) k
   refine .inr ⟨.inl k,c,e,?_⟩
   have q := x.cell y c e
   rw [ja ndP hp hu (by show scope.names.lookup y ≠ _; rw [k]; decide)] at q
   exact q
 ·exact e0.hok.fresh (Nat.le_of_lt (x.above y c (PySem.mem_of_lookup h)))
 ·unfold start
  show _ = N.length
  rw [List.length_append,List.length_map,List.length_replicate]
  omega
theorem uo {CX : nJ} {P : Program} {w : World} {K : PySem.W.Frag} {mg : Str → Option Value} {base : Heap} {k : Nat} {f : Addr} {name qual : Str} {params : Arguments} {body : List Stmt} {scope : Scope} {dV kV doc pm cdv ct oc : Value} {an od : Option Addr}
  {osl : Array (Option Value)} {N ps : List Str} {sp : Sp} (lk : K.lookup f = some ⟨oc,od,.func (PySem.W.fnOf name qual params body scope dV kV doc pm an cdv ct),osl⟩) (hcd : PySem.W.codeIn K cdv qual = true) (S : aN N ps scope)
  (len : ∀ vs H Q E,sp vs H Q E → vs.length = ps.length)
  (hbody : ∀ (A : Around) (outer : List Env) (s : Shared) (H : Hp) (vs : List V) (Q : VK) (E : XK),cJ k (A.deeper (envOfC qual scope s.heap.objs.size f cdv)) → sp vs H Q E →
   ∃ t,pC (nK CX P w K mg base N qual scope f cdv A outer s H E) body t ∧ t { nx := fun _ H' => Q .non H',rt := Q } (start N vs) H) :
  bG P w K mg base CX (k + 1) f (PySem.W.fnOf name qual params body scope dV kV doc pm an cdv ct) ps sp := by
 refine ⟨len,fun A outer s H args us vs Q E hr e0 hb r hsp => ?_⟩
 have hl := len _ _ _ _ hsp
 have KX : K.In s.heap := e0.mod.kin.keeps fun b o e => (e0.bs b o e).1
 have lim : s.heap.NoLimit := e0.mod.nolimit.keeps fun b o e => (e0.bs b o e).1
 have hkind : ∀ y ∈ ps.zip us,scope.names.lookup y.1 = some .local ∨ (scope.names.lookup y.1 = some .cell ∧ ((cellsFrom (s.heap.objs.size + 1) scope.names []).lookup y.1).isSome = true) := fun ⟨n,v⟩ hy => by
  rcases S.par n (List.of_mem_zip hy).1 with q | q
  ·exact .inl q
  ·exact .inr ⟨q,PySem.W.cellsFrom_some _ _ _ (.inl q)⟩
 refine codeAny_call_function hr.depth (KX _ _ lk) rfl S.co S.gen rfl (PySem.W.codeRec_of KX hcd) (hb _ _ _ _ ?_)
 refine wpAny_newFunctionEnv_cells S.kind hkind fun env he s1 x => ?_
 subst he
 refine ⟨lim.keeps x.toInCall.keep,codeAny_func ?_⟩
 obtain ⟨t,ht,hq⟩ := hbody A outer s H vs Q E (hr.deeper _) hsp
 have I : aM (nK CX P w K mg base N qual scope f cdv A outer s H E) [] (start N vs) H s1 := nL S hr.hd e0 hl r x
 refine wpAny_mono (ht [] s1 (start N vs) H _ I hq) (fun fl s' hs => ?_) fun e s' hs => hs
 have fin : ∀ {σ' : St} {H' : Hp} {v : V} {u : Value},aM (nK CX P w K mg base N qual scope f cdv A outer s H E) [] σ' H' s' → RelV v u → Q v H' → CE outer P w H s Q u s' :=
  fun {σ' H' v u} J rv q => ⟨v,H',J.os,J.bare,J.base,J.hok,rv,q⟩
 cases fl with
 | ret u =>
  obtain ⟨v,σ',H',J,rv,q⟩ := hs
  exact fin J rv q
 | next =>
  obtain ⟨σ',H',J,q⟩ := hs
  exact fin (v := V.non) (u := Value.none) J rfl q
 | brk =>
  obtain ⟨_,_,_,q⟩ := hs
  exact False.elim q
 | cont =>
  obtain ⟨_,_,_,q⟩ := hs
  exact False.elim q
section
variable {X : Cx} {x : Str} {p pos : Pos} {e : Expr} {es : List Expr} {t : TA} {id T : String} {r : List V → Hp → VK → Prop}
def xq (r : List V → Hp → VK → Prop) (t : TA) : TE := fun σ H Q => t σ H fun vs H1 => r vs H1 Q
theorem av (hc : cu X (.builtin id) r) (hg : Gl X x) (hm : X.mg x = none) (hv : bootBuiltins x = some (.builtin id)) (ha : PA X (e :: es) t) (hn : x ≠ "__name__" := by decide) (hdb : (x == ("__debug__" : Str)) = false := by decide)
  (he : starEach (e :: es) X.env = (false,eval e X.env) :: starEach es X.env := by rfl) (hpl : (backTo pos (starEach es X.env)).any (·.1) = false := by rfl) : PE X (.Call (.Name x p) (e :: es) [] pos) (xq r t) := by
 intro pins s σ H Q I h
 refine wpAny_Call_Name_kw (cA I hg hm hv ?_ hn hdb)
 exact PyProof.Rows.callWith_builtin1 (a9 (ha pos pins s σ H _ I h) fun us s1 ⟨vs,H1,I1,r1,q1⟩ => hc pins s1 σ H1 vs us Q I1 r1 q1) he hpl
theorem bO (hc : cu X (.type T) r) (hg : Gl X x) (hm : X.mg x = none) (hv : bootBuiltins x = some (.type T)) (ha : PA X (e :: es) t) (hn : x ≠ "__name__" := by decide) (hdb : (x == ("__debug__" : Str)) = false := by decide)
  (he : starEach (e :: es) X.env = (false,eval e X.env) :: starEach es X.env := by rfl) (hpl : (backTo pos (starEach es X.env)).any (·.1) = false := by rfl) : PE X (.Call (.Name x p) (e :: es) [] pos) (xq r t) := by
 intro pins s σ H Q I h
 refine wpAny_Call_Name_kw (cA I hg hm hv ?_ hn hdb)
 exact PyProof.Rows.callWith_type1 (a9 (ha pos pins s σ H _ I h) fun us s1 ⟨vs,H1,I1,r1,q1⟩ => hc pins s1 σ H1 vs us Q I1 r1 q1) he hpl
end
end L2
namespace HT
open PySem PyProof.Rows
section
open PySem.SeqAt
open PySem.AutoSeq1 (wpAny_loadPart')
open PySem.MeetsSeq PySem.MeetsSeq2 PySem.MeetsSeq3
end
section
variable {prog : Program} {w : World} {A : Around} {E : Value → Shared → Prop} {s : Shared}
def dh (n d : Nat) : Option Int → Nat
 | none => d
 | some v => if v < 0 then (v + (n : Int)).toNat else min v.toNat n
end
end HT
namespace L2
open PySem PySem.Spec PyProof.Rows
abbrev TO := St → Hp → (Option Int → Hp → Prop) → Prop
def PO (X : Cx) (e : Option Expr) (t : TO) : Prop :=
 ∀ (pins : List (Addr × Obj)) (s : Shared) (σ : St) (H : Hp) (Q : Option Int → Hp → Prop),aM X pins σ H s → t σ H Q →
  wpAny (model X.prog X.w) X.A (evalPart e X.env) (fun u s' => ∃ o H',aM X pins σ H' s' ∧ IsPart u o ∧ Q o H') X.xe s
def qT : TO := fun _ H Q => Q none H
def uq (t : TE) : TO := fun σ H Q => t σ H fun x H1 => ∃ i,x = .int i ∧ Q (some i) H1
section
variable {X : Cx} {e : Expr} {te : TE} {lo hi : Option Expr} {tl th : TO} {pos p2 : Pos}
theorem gY : PO X none qT := by
 intro pins s σ H Q I h
 rw [evalPart_none]
 exact wpAny_pure ⟨none,H,I,.none,h⟩
theorem cp (h : PE X e te) : PO X (some e) (uq te) := by
 intro pins s σ H Q I hw
 rw [evalPart_some]
 refine a9 (h pins s σ H _ I hw) fun u s1 ⟨x,H1,I1,r1,q1⟩ => ?_
 obtain ⟨i,rfl,q⟩ := q1
 obtain ⟨t,rfl⟩ := r1
 exact ⟨some i,H1,I1,.int i t,q⟩
def wE (X : Cx) (r : V → Option Int → Option Int → Hp → VK → Prop) : Prop :=
 ∀ (pins : List (Addr × Obj)) (s : Shared) (σ : St) (H : Hp) (x : V) (v vl vu : Value) (lo hi : Option Int) (sl : Addr) (Q : VK),aM X pins σ H s → RelV x v → s.heap.IsSliceOf sl vl vu .none → IsPart vl lo → IsPart vu hi → r x lo hi H Q →
  ∃ T id,typeLookup (.type T) "__getitem__" = pure (some (.builtin id)) ∧ s.TypeIs v T ∧ wpAny (model X.prog X.w) X.A (getItem v (.ref sl)) (EP X pins σ Q) X.xe s
def xE (r : V → Option Int → Option Int → Hp → VK → Prop) (te : TE) (tl th : TO) : TE := fun σ H Q => te σ H fun x H1 => tl σ H1 fun l H2 => th σ H2 fun u H3 => r x l u H3 Q
theorem cP {r : V → Option Int → Option Int → Hp → VK → Prop} (hr : wE X r) (he : PE X e te) (hl : PO X lo tl) (hu : PO X hi th) : PE X (.Subscript e (.Slice lo hi none p2) pos) (xE r te tl th) := by
 intro pins s σ H Q I h
 refine Subscript_ (a9 (he pins s σ H _ I h) fun v s1 ⟨x,H1,I1,r1,q1⟩ => ?_)
 refine wpAny_Slice (a9 (hl pins s1 σ H1 _ I1 q1) fun vl s2 ⟨l,H2,I2,pl,q2⟩ => a9 (hu pins s2 σ H2 _ I2 q2) fun vu s3 ⟨u,H3,I3,pu,q3⟩ => ?_)
 rw [evalPart_none]
 refine wpAny_pure ?_
 have I4 : aM X pins σ H3 { s3 with heap := s3.heap.push { cls := .type "slice",data := .fields #[vl,vu,.none] } } := I3.kept (t' := s3.toks) fun b ob q => Heap.get?_push_of_some _ q
 obtain ⟨T,id,hT,ht,hg⟩ := hr pins { s3 with heap := s3.heap.push { cls := .type "slice",data := .fields #[vl,vu,.none] } } σ H3 x v vl vu l u s3.heap.objs.size Q I4 r1 (Heap.IsSliceOf.new ..) pl pu q3
 show wpAny (model X.prog X.w) X.A (subscriptTail e (.Slice lo hi none p2) v (.ref s3.heap.objs.size)) (EP X pins σ Q) X.xe { s3 with heap := s3.heap.push { cls := .type "slice",data := .fields #[vl,vu,.none] } }
 exact tail_any (ops := [.ref s3.heap.objs.size,v]) ht hT hg (by with_unfolding_all rfl)
def eZ (xs : List V) (lo hi : Option Int) : List V := (xs.drop (HT.dh xs.length 0 lo)).take (HT.dh xs.length xs.length hi - HT.dh xs.length 0 lo)
theorem j8 (xs : List V) (lo hi : Option Int) : (eZ xs lo hi).length ≤ xs.length := by
 unfold eZ
 rw [List.length_take,List.length_drop]
 omega
end
def tN (n : Nat) (i : Int) : Option Nat := if 0 ≤ i then (if i < n then some i.toNat else none) else if -(n : Int) ≤ i then some (i + n).toNat else none
def fb {α : Type} (xs : List α) (i : Int) : Option α := (tN xs.length i).bind fun j => xs[j]?
theorem qU {n : Nat} {i : Int} {j : Nat} (h : tN n i = some j) : seqIndex? i n = some j ∧ j < n ∧ -(n : Int) ≤ i ∧ i < n := by
 unfold tN at h
 by_cases h0 : 0 ≤ i
 ·rw [if_pos h0] at h
  by_cases h1 : i < n
  ·rw [if_pos h1] at h
   have e : i.toNat = j := Option.some.inj h
   exact ⟨by rw [seqIndex_of h0 h1,e],by omega,by omega,h1⟩
  ·rw [if_neg h1] at h; cases h
 ·rw [if_neg h0] at h
  by_cases h1 : -(n : Int) ≤ i
  ·rw [if_pos h1] at h
   have e : (i + n).toNat = j := Option.some.inj h
   exact ⟨by rw [seqIndex_neg (by omega) h1,e],by omega,h1,by omega⟩
  ·rw [if_neg h1] at h; cases h
theorem ju {α : Type} {xs : List α} {i : Int} {v : α} (h : fb xs i = some v) : ∃ j,seqIndex? i xs.length = some j ∧ xs[j]? = some v ∧ j < xs.length ∧ -(xs.length : Int) ≤ i ∧ i < xs.length := by
 unfold fb at h
 cases e : tN xs.length i with
 | none => rw [e] at h; cases h
 | some j =>
  rw [e] at h
  obtain ⟨h1,h2,h3,h4⟩ := qU e
  exact ⟨j,h1,h,h2,h3,h4⟩
theorem aL {α : Type} {xs : List α} {j : Nat} {v : α} (h : xs[j]? = some v) : fb xs (j : Int) = some v := by
 have hj : j < xs.length := (List.getElem?_eq_some_iff.mp h).1
 have e : tN xs.length (j : Int) = some j := by
  unfold tN
  rw [if_pos (by omega),if_pos (by omega)]; simp
 unfold fb; rw [e]; exact h
def qV (b : Expr) : Prop := ∀ o i,subscripted b false o i = operate [o,i] (getItem o i)
def sj (X : Cx) (r : R2) : Prop :=
 ∀ (value slice : Expr) (pins : List (Addr × Obj)) (s : Shared) (σ : St) (H : Hp) (x y : V) (v u : Value) (Q : VK),aM X pins σ H s → RelV x v → RelV y u → r x y H Q →
  subscripted slice false v u = operate [v,u] (getItem v u) → wpAny (model X.prog X.w) X.A (subscriptTail value slice v u) (EP X pins σ Q) X.xe s
def xr (X : Cx) (id : String) (r : V → List V → Hp → VK → Prop) : Prop :=
 ∀ (pins : List (Addr × Obj)) (s : Shared) (σ : St) (H : Hp) (x : V) (xs : List V) (v : Value) (us : List Value) (Q : VK),aM X pins σ H s → RelV x v → bh xs us → r x xs H Q →
  wpAny (model X.prog X.w) X.A (call (.builtin id) (v :: us)) (EP X pins σ Q) X.xe s
section
variable {X : Cx} {a b : Expr} {ta tb : TE} {pos : Pos}
theorem am {r : R2} (hr : sj X r) (ha : PE X a ta) (hb : PE X b tb) (hs : qV b) : PE X (.Subscript a b pos) (v0 r ta tb) := by
 intro pins s σ H Q I h
 exact Subscript_ (sJ ha hb I h fun v u s2 x y H2 I2 rx ry q => hr a b pins s2 σ H2 x y v u Q I2 rx ry q (hs _ _))
def sN (K : PySem.W.Frag) : R2 := fun x y H Q => ∃ p xs i v,x = .ref p ∧ y = .int i ∧ az K H p xs ∧ fb xs i = some v ∧ Q v H
def sO (K : PySem.W.Frag) : R2 := fun x y H Q => ∃ p xs i v,x = .ref p ∧ y = .int i ∧ bc K H p xs ∧ fb xs i = some v ∧ Q v H
def wF : R2 := fun x y H Q => ∃ z i c,x = .str z ∧ y = .int i ∧ z.length ≤ sizeLine ∧ fb z.cps.toList i = some c ∧ Q (.str ⟨#[c]⟩) H
theorem au : sj X (sN X.K) := by
 intro value slice pins s σ H x y v u Q I rx ry h hs
 obtain ⟨p,xs,i,z,rfl,rfl,hq,he,q⟩ := h
 cases rx
 obtain ⟨t,rfl⟩ := ry
 obtain ⟨its,r,pl,hz⟩ := I.list hq
 obtain ⟨j,h1,h2,h3,h4,h5⟩ := ju he
 obtain ⟨w,ew,rw'⟩ := r.get h2
 have hl := r.length
 have hn := hV
 have fin : EP X pins σ Q w s := ⟨z,H,I,rw',q⟩
 by_cases h0 : 0 ≤ i
 ·have hj : i.toNat = j := by
   rw [seqIndex_of h0 h5] at h1
   exact Option.some.inj h1
  exact item_listR pl.isList h0 (by omega) (by rw [hj]; simpa using ew) fin hs
 ·have hj : (i + (its.toArray.size : Int)).toNat = j := by
   rw [seqIndex_neg (by omega) h4] at h1
   rw [List.size_toArray,← hl]
   exact Option.some.inj h1
  exact subscriptTail_builtinR (x := w) pl.isList.typeIs slot_list_getitem.lookup
   (wpAny_getItem_list_neg (Q := fun r s' => r = w ∧ EP X pins σ Q r s') pl.isList (by omega) (by rw [List.size_toArray] <;> omega) (by omega) (by rw [hj]; simpa using ew) ⟨rfl,fin⟩) hs
theorem ar : sj X (sO X.K) := by
 intro value slice pins s σ H x y v u Q I rx ry h hs
 obtain ⟨p,xs,i,z,rfl,rfl,hq,he,q⟩ := h
 cases rx
 obtain ⟨t,rfl⟩ := ry
 obtain ⟨its,r,pl,hz⟩ := I.tuple hq
 obtain ⟨j,h1,h2,h3,h4,h5⟩ := ju he
 obtain ⟨w,ew,rw'⟩ := r.get h2
 have hl := r.length
 have hn := hV
 have fin : EP X pins σ Q w s := ⟨z,H,I,rw',q⟩
 exact subscriptTail_builtinR (x := w) pl.typeIs slot_tuple_getitem.lookup
  (getItem_tuple (j := j) (Q := fun r s' => r = w ∧ EP X pins σ Q r s') pl (by omega) (by omega) (by rw [List.size_toArray,← hl]; exact h1) (by simpa using ew) ⟨rfl,fin⟩) hs
theorem pV : sj X wF := by
 intro value slice pins s σ H x y v u Q I rx ry h hs
 obtain ⟨z,i,c,rfl,rfl,hz,he,q⟩ := h
 obtain ⟨t,rfl⟩ := rx
 obtain ⟨t',rfl⟩ := ry
 obtain ⟨j,h1,h2,h3,h4,h5⟩ := ju he
 have hl : z.cps.toList.length = z.length := by simp [Str.length]
 rw [hl] at h1 h4 h5
 have hn := hV
 exact tail_any (typeIs_str s z t) slot_str_getitem.lookup (getItem_str (c := c) (by
  have e1 : decide (i < -(2 ^ 63 : Int)) = false := decide_eq_false (by omega)
  have e2 : decide (i ≥ 2 ^ 63) = false := decide_eq_false (by omega)
  rw [e1,e2,Bool.or_false]) (by rw [h1]; simpa using h2) ⟨.str ⟨#[c]⟩,H,I.tok _,⟨_,rfl⟩,q⟩) hs
theorem jv (lo hi : Option Int) (n : Nat) : (sliceBounds lo hi none n).1 = ((HT.dh n 0 lo : Nat) : Int) ∧ (sliceBounds lo hi none n).2.1 = ((HT.dh n n hi : Nat) : Int) ∧ (sliceBounds lo hi none n).2.2 = 1 := by
 refine ⟨?_,?_,rfl⟩
 ·cases lo with
  | none => simp [sliceBounds,HT.dh]
  | some i =>
   simp only [sliceBounds,HT.dh,Option.getD_none,show (1 : Int) > 0 by decide,if_true]
   by_cases h : i < 0
   ·simp only [h,if_true] <;> omega
   ·simp only [h,if_false] <;> omega
 ·cases hi with
  | none => simp [sliceBounds,HT.dh]
  | some i =>
   simp only [sliceBounds,HT.dh,Option.getD_none,show (1 : Int) > 0 by decide,if_true]
   by_cases h : i < 0
   ·simp only [h,if_true] <;> omega
   ·simp only [h,if_false] <;> omega
theorem iV (its : List Value) (lo hi : Option Int) : slicePick its.toArray lo hi none = ((its.drop (HT.dh its.length 0 lo)).take (HT.dh its.length its.length hi - HT.dh its.length 0 lo)).toArray := by
 obtain ⟨h1,h2,h3⟩ := jv lo hi its.toArray.size
 unfold slicePick
 rw [h1,h2,h3]
 simp only [sliceRange_one,pick_run,List.size_toArray] <;> rfl
def wG (K : PySem.W.Frag) : V → Option Int → Option Int → Hp → VK → Prop := fun x lo hi H Q => ∃ a xs,x = .ref a ∧ az K H a xs ∧ ∀ p,H p = none → Q (.ref p) (aD H p (.lst (eZ xs lo hi)))
theorem eQ : wE X (wG X.K) := by
 intro pins s σ H x v vl vu lo hi sl Q I rx hs pl pu h
 obtain ⟨a,xs,rfl,hx,q⟩ := h
 cases rx
 obtain ⟨its,r,ht,hz⟩ := I.list hx
 have hlen := r.length
 refine ⟨"list",_,slot_list_getitem.lookup,ht.isList.typeIs,?_⟩
 refine wpAny_getItem_list_slice ht.isList hs pl pu .none (by simp) ?_ (by rw [List.size_toArray] <;> omega)
 rw [iV,← hlen]
 refine ⟨.ref s.heap.objs.size,_,I.laid (t' := s.toks) (o := .lst (eZ xs lo hi)) (fun b ob q => Heap.get?_push_of_some _ q) (Nat.le_refl _) ?_,rfl,q _ (I.hok.fresh (Nat.le_refl _))⟩
 exact ⟨Nat.le_trans (j8 xs lo hi) hz,_,0,(r.drop (HT.dh xs.length 0 lo)).take (HT.dh xs.length xs.length hi - HT.dh xs.length 0 lo),Heap.get?_push_size _ rfl⟩
theorem jw : dW X (compareOp .NotIn) (fun x y H Q => ∃ i j,x = .str i ∧ y = .str j ∧ Q (.bl (!(!(Builtin.Str.occurrences j i 0 j.length 1).isEmpty))) H) := by
 intro pins s σ H x y v u Q I rx ry h
 obtain ⟨i,j,rfl,rfl,q⟩ := h
 obtain ⟨t,rfl⟩ := rx
 obtain ⟨t',rfl⟩ := ry
 exact notIn_str ⟨.bl _,H,I,rfl,q⟩
theorem ao : cu X (.builtin "len") (fun xs H Q => ∃ p ys,xs = [.ref p] ∧ (az X.K H p ys ∨ bc X.K H p ys) ∧ Q (.int ys.length) H) := by
 intro pins s σ H xs us Q I r h
 obtain ⟨p,ys,rfl,hq,q⟩ := h
 obtain ⟨u,rfl,rx⟩ := vals1 r
 cases rx
 have hn := hV
 rcases hq with hq | hq
 ·obtain ⟨its,r',pl,hz⟩ := I.list hq
  have hlen := r'.length
  exact Calls.call_len_list pl.isList (by simp only [List.size_toArray] <;> omega) ⟨.int ys.length,H,I.tok _,⟨s.toks + 1,by rw [List.size_toArray,hlen]⟩,q⟩
 ·obtain ⟨its,r',pl,hz⟩ := I.tuple hq
  have hlen := r'.length
  exact len_tuple pl (by simp only [List.size_toArray] <;> omega) ⟨.int ys.length,H,I.tok _,⟨s.toks + 1,by rw [List.size_toArray,hlen]⟩,q⟩
theorem dJ : cu X (.builtin "len") (fun xs H Q => ∃ z,xs = [.str z] ∧ z.length ≤ sizeLine ∧ Q (.int z.length) H) := by
 intro pins s σ H xs us Q I r h
 obtain ⟨z,rfl,hz,q⟩ := h
 obtain ⟨u,rfl,t,rfl⟩ := vals1 r
 have hn := hV
 exact len_str (by omega) ⟨.int z.length,H,I.tok _,⟨_,rfl⟩,q⟩
theorem cC : cu X (.type "list") (fun xs H Q => ∃ p ys,xs = [.ref p] ∧ (az X.K H p ys ∨ bc X.K H p ys) ∧ ∀ l,H l = none → Q (.ref l) (aD H l (.lst ys))) := by
 intro pins s σ H xs us Q I r h
 obtain ⟨p,ys,rfl,hq,q⟩ := h
 obtain ⟨u,rfl,rx⟩ := vals1 r
 cases rx
 have fin : ∀ (its : List Value),bh ys its → ys.length ≤ sizeLine → ∀ (h' : Heap) (c' : Nat),(∀ b o',s.heap.get? b = some o' → h'.get? b = some o') →
   h'.get? s.heap.objs.size = some { cls := .type "list",dict := none,data := .seq its.toArray c',slots := #[] } → EP X pins σ Q (.ref s.heap.objs.size) { s with heap := h' } := fun its r' hz h' c' kp e =>
  ⟨.ref s.heap.objs.size,_,I.laid (t' := s.toks) kp (Nat.le_refl _) (show bD X.prog X.w _ h' _ (.lst ys) from ⟨hz,its,c',r',e⟩),rfl,q _ (I.hok.fresh (Nat.le_refl _))⟩
 rcases hq with hq | hq
 ·obtain ⟨its,r',pl,hz⟩ := I.list hq
  have hlen := r'.length
  obtain ⟨o,ho,hc,n,hd⟩ := pl.isList
  exact call_list_seq p (.inl rfl) ho hc hd (fun h' c' kp e => fin its r' hz h' c' kp e) (by simp only [List.size_toArray] <;> omega)
 ·obtain ⟨its,r',pl,hz⟩ := I.tuple hq
  have hlen := r'.length
  obtain ⟨o,ho,hc,n,hd⟩ := pl
  exact call_list_seq p (.inr rfl) ho hc hd (fun h' c' kp e => fin its r' hz h' c' kp e) (by simp only [List.size_toArray] <;> omega)
def wH (K : PySem.W.Frag) (T : String) (x : V) (H : Hp) : Prop := match x with
 | .str _ => T = "str"
 | .int _ => T = "int"
 | .ref p => (T = "list" ∧ ∃ xs,az K H p xs) ∨ (T = "tuple" ∧ ∃ o,K.lookup p = some o ∧ o.cls = .type "tuple" ∧ o.dict = none) ∨
   (T = "dict" ∧ ((∃ kvs,H p = some (.dK kvs)) ∨ ∃ kvs,H p = some (.dT kvs))) ∨ (T = "set" ∧ ∃ S n,H p = some (.set S n))
 | _ => False
theorem pW {pins : List (Addr × Obj)} {σ : St} {H : Hp} {s : Shared} {T : String} {x : V} {v : Value} (I : aM X pins σ H s) (r : RelV x v) (ty : wH X.K T x H) :
  s.TypeIs v T ∧ ∀ a,v = .ref a → ∃ ob,s.heap.get? a = some ob ∧ ob.dict = none := by
 cases x with
 | str z =>
  obtain ⟨t,rfl⟩ := r
  cases (show T = "str" from ty)
  exact ⟨typeIs_str s z t,fun _ e => nomatch e⟩
 | int i =>
  obtain ⟨t,rfl⟩ := r
  cases (show T = "int" from ty)
  exact ⟨typeIs_int s i t,fun _ e => nomatch e⟩
 | ref p =>
  cases r
  rcases ty with ⟨rfl,xs,hq⟩ | ⟨rfl,o,hk,hc,hd⟩ | ⟨rfl,hk⟩ | ⟨rfl,S,n,hk⟩
  ·obtain ⟨its,_,pl,_⟩ := I.list hq
   refine ⟨pl.isList.typeIs,fun a e => ?_⟩
   cases e
   obtain ⟨o,n,e,c,hd,_⟩ := pl
   exact ⟨o,e,hd⟩
  ·refine ⟨⟨o,I.kIn p o hk,hc⟩,fun a e => ?_⟩
   cases e
   exact ⟨o,I.kIn _ o hk,hd⟩
  ·have z : ∃ o,s.heap.get? p = some o ∧ o.ExactDict := by
    rcases hk with ⟨kvs,hk⟩ | ⟨kvs,hk⟩
    ·obtain ⟨_,_,_,_,o,_,_,e,ex,_⟩ := I.hok p _ hk
     exact ⟨o,e,ex⟩
    ·obtain ⟨_,_,_,_,o,_,_,e,ex,_⟩ := I.hok p _ hk
     exact ⟨o,e,ex⟩
   obtain ⟨o,e,ex⟩ := z
   refine ⟨⟨o,e,ex.1⟩,fun a e2 => ?_⟩
   cases e2
   exact ⟨o,e,ex.2.1⟩
  ·obtain ⟨o,_,_,_,e,ex,_⟩ := I.hok p _ hk
   refine ⟨⟨o,e,ex.1⟩,fun a e2 => ?_⟩
   cases e2
   exact ⟨o,e,ex.2.1⟩
 | _ => exact False.elim ty
def wI (K : PySem.W.Frag) (T : String) (r : V → List V → Hp → VK → Prop) (to : TE) : TE := fun σ H Q => to σ H fun x H1 => wH K T x H1 ∧ r x [] H1 Q
def xF (K : PySem.W.Frag) (T : String) (r : V → List V → Hp → VK → Prop) (to : TE) (t : TA) : TE := fun σ H Q => to σ H fun x H1 => wH K T x H1 ∧ t σ H1 fun xs H2 => r x xs H2 Q
variable {o e : Expr} {es : List Expr} {to : TE} {t : TA} {name : Str} {apos cpos : Pos} {T id : String} {r : V → List V → Hp → VK → Prop}
theorem sP (pa : PlainAttrs T) (slot : Slot T name id) (hty : typeOf (.builtin id) = pure (.type "method_descriptor")) (hm : xr X id r) (ho : PE X o to)
  (hbase : attributeBase o name X.env (eval o X.env) = eval o X.env := by rfl) (hline : (apos.endLine == cpos.line) = true := by rfl) : PE X (.Call (.Attribute o name apos) [] [] cpos) (wI X.K T r to) := by
 intro pins s σ H Q I h
 refine wpAny_Call_method0_late hbase hline (a9 (ho pins s σ H _ I h) fun v s1 ⟨x,H1,I1,r1,ty,q1⟩ => ?_)
 obtain ⟨h1,h2⟩ := pW I1 r1 ty
 exact ⟨T,id,pa,slot,hty,h1,h2,Calls.callWith_builtin rfl (PySem.evalArgs_none (hm pins s1 σ H1 x [] v [] Q I1 r1 .nil q1))⟩
theorem cn (pa : PlainAttrs T) (slot : Slot T name id) (hty : typeOf (.builtin id) = pure (.type "method_descriptor")) (hm : xr X id r) (ho : PE X o to) (ha : PA X (e :: es) t)
  (hbase : attributeBase o name X.env (eval o X.env) = eval o X.env := by rfl)
  (hfew : ((backTo cpos (starEach (e :: es) X.env)).all (fun x => !x.1) && (backToKw cpos (keywordEach [] X.env)).all (fun x => x.1.isSome)
   && decide ((e :: es).length + ([] : List Keyword).length + (if ([] : List Keyword).isEmpty then 0 else 1) < 30)) = true := by rfl)
  (hline : (apos.endLine == cpos.line) = true := by rfl) (hs : starEach (e :: es) X.env = (false,eval e X.env) :: starEach es X.env := by rfl) (hplain : (backTo cpos (starEach es X.env)).any (·.1) = false := by rfl) :
  PE X (.Call (.Attribute o name apos) (e :: es) [] cpos) (xF X.K T r to t) := by
 intro pins s σ H Q I h
 refine wpAny_Call_method_late hbase hfew hline rfl (a9 (ho pins s σ H _ I h) fun v s1 ⟨x,H1,I1,r1,ty,q1⟩ => ?_)
 obtain ⟨h1,h2⟩ := pW I1 r1 ty
 refine ⟨T,id,pa,slot,hty,h1,h2,?_⟩
 have hA := ha cpos pins s1 σ H1 _ I1 q1
 rw [hs] at hA ⊢
 refine Calls.callWith_builtin (by show (false || (backTo cpos (starEach es X.env)).any (·.1)) = false; rw [hplain] <;> rfl) (Calls.evalArgs_plain ?_)
 exact a9 hA fun us s2 ⟨vs,H2,I2,r2,q2⟩ => hm pins s2 σ H2 x vs v us Q I2 r1 r2 q2
end
def wJ (X : Cx) (id : String) (r : V → List V → Hp → VK → Prop) : Prop :=
 ∀ (pins : List (Addr × Obj)) (s : Shared) (σ : St) (H : Hp) (x : V) (xs : List V) (v : Value) (us : List Value) (Q : VK),aM X pins σ H s → RelV x v → bh xs us → r x xs H Q →
  wpAny (model X.prog X.w) X.A (call (.builtin id) (v :: us)) (EP X pins σ Q) X.xe s
theorem bh.one : ∀ {x : V} {us : List Value},bh [x] us → ∃ u,us = [u] ∧ RelV x u
 | _,_,.cons r .nil => ⟨_,rfl,r⟩
theorem bh.zero : ∀ {us : List Value},bh [] us → us = []
 | _,.nil => rfl
section
variable {X : Cx} {pins : List (Addr × Obj)} {σ : St} {H : Hp} {s : Shared} {l b : Addr} {xs ys zs : List V}
theorem aM.lset {its its' : List Value} {n : Nat} {f : Array Value → Array Value} {t' : Nat} (I : aM X pins σ H s) (hH : H l = some (.lst xs))
  (e : s.heap.get? l = some { cls := .type "list",data := .seq its.toArray n }) (hf : f its.toArray = its'.toArray) (hv : bh ys its') (hz : ys.length ≤ sizeLine) :
  aM X pins σ (aD H l (.lst ys)) { s with heap := s.heap.update l (Obj.mapSeq f),toks := t' } := by
 have q := PySem.IsL.update e f
 rw [hf] at q
 refine I.write (x := l) (e := l) (by rw [hH]; exact trivial) (.inl rfl) (fun b' u hb hu => (Heap.get?_update_other s.heap (Obj.mapSeq f) (Ne.symm hb)).trans hu) ⟨_,q⟩ ?_
 exact ⟨hz,its',_,hv,q⟩
theorem aM.lnew {its : List Value} {t' : Nat} (I : aM X pins σ H s) (hv : bh ys its) (hz : ys.length ≤ sizeLine) :
  aM X pins σ (aD H s.heap.objs.size (.lst ys)) { s with heap := s.heap.push { cls := .type "list",data := .seq its.toArray },toks := t' } :=
 I.laid (fun _ _ q => Heap.get?_push_of_some _ q) (Nat.le_refl _) ⟨hz,its,0,hv,Heap.get?_push_size _ rfl⟩
theorem aM.fresh (I : aM X pins σ H s) : H s.heap.objs.size = none := I.hok.fresh (Nat.le_refl _)
theorem aM.lstM (I : aM X pins σ H s) (hH : H l = some (.lst xs)) : xs.length ≤ sizeLine ∧ ∃ (its : List Value) (n : Nat),bh xs its ∧ xs.length = its.length ∧ s.heap.get? l = some { cls := .type "list",data := .seq its.toArray n } := by
 obtain ⟨z,its,n,r,e⟩ := I.hok l _ hH
 exact ⟨z,its,n,r,r.length,e⟩
theorem pX {n : Nat} (h : n ≤ sizeLine) : Builtin.List.listTooLong n = false := by
 unfold Builtin.List.listTooLong
 exact decide_eq_false (by omega)
end
section
variable {X : Cx}
def qW : V → List V → Hp → VK → Prop := fun x vs H Q => ∃ l xs y,x = .ref l ∧ vs = [y] ∧ H l = some (.lst xs) ∧ xs.length < sizeLine ∧ Q .non (aD H l (.lst (xs ++ [y])))
theorem aW : wJ X "list.append" qW := by
 intro pins s σ H x vs v us Q I rx rv h
 obtain ⟨l,xs,y,rfl,rfl,hH,hz,q⟩ := h
 cases rx
 obtain ⟨u,rfl,ru⟩ := rv.one
 obtain ⟨z,its,n,r,hl,e⟩ := I.lstM hH
 refine call_meets F.slot_list_append ⟨_,e,rfl⟩ F.entry_list_append (F.args_list_append_2 _ _) (PySem.list_append l its.toArray n u (by rw [List.size_toArray]; omega)) ⟨e,?_⟩
 refine ⟨.non,_,I.lset (its' := its ++ [u]) hH e (by simp) (r.append (.cons ru .nil)) ?_,rfl,q⟩
 rw [List.length_append,List.length_singleton]
 omega
def qX : V → List V → Hp → VK → Prop := fun x vs H Q => ∃ l b xs zs,x = .ref l ∧ vs = [.ref b] ∧ H l = some (.lst xs) ∧ H b = some (.lst zs) ∧ xs.length + zs.length ≤ sizeLine ∧ Q .non (aD H l (.lst (xs ++ zs)))
theorem dB : wJ X "list.extend" qX := by
 intro pins s σ H x vs v us Q I rx rv h
 obtain ⟨l,b,xs,zs,rfl,rfl,hH,hB,hz,q⟩ := h
 cases rx
 obtain ⟨u,rfl,ru⟩ := rv.one
 cases ru
 obtain ⟨z,its,n,r,hl,e⟩ := I.lstM hH
 obtain ⟨z2,its2,n2,r2,hl2,e2⟩ := I.lstM hB
 have hsz : its.toArray.size + its2.toArray.size ≤ sizeLine := by rw [List.size_toArray,List.size_toArray]; omega
 have hlong : ¬ (!its.toArray.isEmpty && Builtin.List.listTooLong (its.toArray.size + its2.toArray.size)) = true := by
  rw [pX hsz,Bool.and_false]
  exact Bool.false_ne_true
 refine call_meets F.slot_list_extend ⟨_,e,rfl⟩ F.entry_list_extend (F.args_list_extend_2 _ _)
  (AutoSeq1.list_extend_list_list_0 l its.toArray n b its2.toArray n2 hlong (by rw [List.size_toArray]; omega) (by omega)) ⟨e,e2,?_⟩
 refine ⟨.non,_,I.lset (its' := its ++ its2) hH e (by simp) (r.append r2) ?_,rfl,q⟩
 rw [List.length_append]
 omega
def wK : R2 := fun x y H Q => ∃ l b xs zs,x = .ref l ∧ y = .ref b ∧ H l = some (.lst xs) ∧ H b = some (.lst zs) ∧ xs.length + zs.length ≤ sizeLine ∧ ∀ p,H p = none → Q (.ref p) (aD H p (.lst (xs ++ zs)))
theorem fk : dW X (binaryOp .Add) wK := by
 intro pins s σ H x y v u Q I rx ry h
 obtain ⟨l,b,xs,zs,rfl,rfl,hH,hB,hz,q⟩ := h
 cases rx
 cases ry
 obtain ⟨z,its,n,r,hl,e⟩ := I.lstM hH
 obtain ⟨z2,its2,n2,r2,hl2,e2⟩ := I.lstM hB
 refine PySem.P.add_list e e2 ?_ (by rw [List.size_toArray,List.size_toArray]; omega)
 have ea : its.toArray ++ its2.toArray = (its ++ its2).toArray := by simp
 rw [ea]
 exact ⟨.ref _,_,I.lnew (t' := s.toks) (r.append r2) (by rw [List.length_append]; omega),rfl,q _ I.fresh⟩
end
section
variable {prog : Program} {w : World} {A : Around} {E : Value → Shared → Prop} {s : Shared}
end
section
variable {X : Cx}
end
section
variable {κ : Type} [DecidableEq κ]
def gS (kvs : List (κ × V)) (k : κ) : Option V := (kvs.find? fun kv => decide (kv.1 = k)).map (·.2)
def putK (kvs : List (κ × V)) (k : κ) (v : V) : List (κ × V) :=
 if (kvs.any fun kv => decide (kv.1 = k)) = true then kvs.map (fun kv => if kv.1 = k then (kv.1,v) else kv) else kvs ++ [(k,v)]
theorem fJ {p : κ × V} {r : List (κ × V)} {k : κ} (e : p.1 = k) : gS (p :: r) k = some p.2 := by simp [gS,List.find?_cons,e]
theorem fK {p : κ × V} {r : List (κ × V)} {k : κ} (e : ¬ p.1 = k) : gS (p :: r) k = gS r k := by simp [gS,List.find?_cons,e]
theorem j9 (k : κ) : ∀ kvs : List (κ × V),(kvs.any fun kv => decide (kv.1 = k)) = (gS kvs k).isSome
 | [] => rfl
 | p :: r => by
  rw [List.any_cons]
  by_cases e : p.1 = k
  ·simp only [fJ e,decide_eq_true e,Bool.true_or,Option.isSome_some]
  ·rw [fK e,decide_eq_false e,Bool.false_or]; exact j9 k r
theorem gM (kvs : List (κ × V)) (k : κ) (v : V) : (putK kvs k v).length ≤ kvs.length + 1 := by
 unfold putK
 split
 ·rw [List.length_map]; omega
 ·rw [List.length_append,List.length_cons,List.length_nil]; omega
theorem fE.isSome_eq {o : Option V} {u : Option Value} (r : fE o u) : o.isSome = u.isSome := by
 cases o with
 | none => cases u with
  | none => rfl
  | some _ => exact (show False from r).elim
 | some _ => cases u with
  | none => exact (show False from r).elim
  | some _ => rfl
theorem KV.val {kvs : List (κ × V)} {vs : List (κ × Value)} (r : KV kvs vs) (k : κ) : fE (gS kvs k) (valueAt vs k) := by
 unfold KV at r
 induction r with
 | nil => exact True.intro
 | @cons p q ps qs h t ih =>
  obtain ⟨h1,h2⟩ := h
  by_cases e : p.1 = k
  ·have e' : q.1 = k := h1.symm.trans e
   have b : valueAt (q :: qs) k = some q.2 := by simp [valueAt,List.find?_cons,e']
   rw [fJ e,b]; exact h2
  ·have e' : ¬ q.1 = k := fun z => e (h1.trans z)
   have b : valueAt (q :: qs) k = valueAt qs k := by simp [valueAt,List.find?_cons,e']
   rw [fK e,b]; exact ih
theorem KV.any {kvs : List (κ × V)} {vs : List (κ × Value)} (r : KV kvs vs) (k : κ) : (kvs.any fun kv => decide (kv.1 = k)) = vs.any fun kv => decide (kv.1 = k) := by
 unfold KV at r
 induction r with
 | nil => rfl
 | cons h t ih => rw [List.any_cons,List.any_cons,ih,h.1]
theorem KV.repl {kvs : List (κ × V)} {vs : List (κ × Value)} (r : KV kvs vs) (k : κ) {y : V} {u : Value} (ry : RelV y u) :
  KV (kvs.map fun kv => if kv.1 = k then (kv.1,y) else kv) (vs.map fun kv => if kv.1 = k then (kv.1,u) else kv) := by
 unfold KV at r ⊢
 induction r with
 | nil => exact .nil
 | @cons p q ps qs h t ih =>
  rw [List.map_cons,List.map_cons]
  refine .cons ?_ ih
  obtain ⟨h1,h2⟩ := h
  by_cases e : p.1 = k
  ·rw [if_pos e,if_pos (h1.symm.trans e)]; exact ⟨h1,ry⟩
  ·rw [if_neg e,if_neg (fun z => e (h1.trans z))]; exact ⟨h1,h2⟩
theorem KV.put {kvs : List (κ × V)} {vs : List (κ × Value)} (r : KV kvs vs) (k : κ) {y : V} {u : Value} (ry : RelV y u) : KV (putK kvs k y) (stored vs k u) := by
 unfold putK stored
 rw [r.any k]
 by_cases e : (vs.any fun kv => decide (kv.1 = k)) = true
 ·rw [if_pos e,if_pos e]; exact r.repl k ry
 ·rw [if_neg e,if_neg e]; exact Paired.snoc r ⟨rfl,ry⟩
theorem KV.length {kvs : List (κ × V)} {vs : List (κ × Value)} (r : KV kvs vs) : kvs.length = vs.length := Paired.length r
end
theorem jb {P : Program} {w : World} {k : Key} {u : Value} (r : RelV (kV k) u) : (aF P w).is k u = true := by
 cases k with
 | inl i => obtain ⟨t,e⟩ := (show ∃ t,u = Value.int i t from r); subst e; exact j2 P w i t
 | inr x => obtain ⟨t,e⟩ := (show ∃ t,u = Value.str x t from r); subst e; exact j3 P w x t
theorem jc {P : Program} {w : World} : ∀ {ks : List Key} {us : List Value},bh (ks.map kV) us → ItemsAre (aF P w) ks us
 | [],_,r => by rw [List.map_nil] at r; cases r; exact .nil
 | k :: ks,_,r => by
  rw [List.map_cons] at r
  cases r with
  | cons h t => exact .cons (jb h) (jc t)
abbrev KT (H : Hp) : List (List Key × V) → List (List Key × Addr × Value) → Prop := Paired fun p q => p.1 = q.1 ∧ H q.2.1 = some (.tup (p.1.map kV)) ∧ RelV p.2 q.2.2
theorem KT.val {H : Hp} {kvs : List (List Key × V)} {xs : List (List Key × Addr × Value)} (r : KT H kvs xs) (k : List Key) : fE (gS kvs k) ((atKey xs k).map (·.2)) := by
 induction r with
 | nil => exact True.intro
 | @cons p q ps qs h t ih =>
  obtain ⟨h1,_,h2⟩ := h
  by_cases e : p.1 = k
  ·have e' : q.1 = k := h1.symm.trans e
   have b : atKey (q :: qs) k = some q.2 := by simp [atKey,List.find?_cons,e']
   rw [fJ e,b]; exact h2
  ·have e' : ¬ q.1 = k := fun z => e (h1.trans z)
   have b : atKey (q :: qs) k = atKey qs k := by simp [atKey,List.find?_cons,e']
   rw [fK e,b]; exact ih
theorem KT.repl {H : Hp} {kvs : List (List Key × V)} {xs : List (List Key × Addr × Value)} (r : KT H kvs xs) (k : List Key) {y : V} {u : Value} (ry : RelV y u) :
  KT H (kvs.map fun kv => if kv.1 = k then (kv.1,y) else kv) (xs.map (putAt k u)) := by
 induction r with
 | nil => exact .nil
 | @cons p q ps qs h t ih =>
  rw [List.map_cons,List.map_cons]
  refine .cons ?_ ih
  obtain ⟨h1,h2,h3⟩ := h
  unfold putAt
  by_cases e : p.1 = k
  ·rw [if_pos e,if_pos (h1.symm.trans e)]; exact ⟨h1,h2,ry⟩
  ·rw [if_neg e,if_neg (fun z => e (h1.trans z))]; exact ⟨h1,h2,h3⟩
theorem KT.put {H : Hp} {kvs : List (List Key × V)} {xs : List (List Key × Addr × Value)} (r : KT H kvs xs) (k : List Key) {b : Addr} {y : V} {u : Value} (hb : H b = some (.tup (k.map kV))) (ry : RelV y u) :
  KT H (putK kvs k y) (storedH xs k b u) := by
 have e : (kvs.any fun kv => decide (kv.1 = k)) = (atKey xs k).isSome := by
  rw [j9,(r.val k).isSome_eq,Option.isSome_map]
 unfold putK storedH
 rw [e]
 by_cases q : (atKey xs k).isSome = true
 ·rw [if_pos q,if_pos q]; exact r.repl k ry
 ·rw [if_neg q,if_neg q]; exact Paired.snoc r ⟨rfl,hb,ry⟩
theorem KT.keeps {H H' : Hp} {kvs : List (List Key × V)} {xs : List (List Key × Addr × Value)} (r : KT H kvs xs) (ht : ∀ b ys,H b = some (.tup ys) → H' b = some (.tup ys)) : KT H' kvs xs :=
 Paired.mapP r fun _ _ z => ⟨z.1,ht _ _ z.2.1,z.2.2⟩
section
variable {P : Program} {w : World} {H : Hp} {h : Heap} {a : Addr}
theorem sk {u : HO} (ok : fj P w H h) (e : Rd H a u) : bD P w H h a u := e.ok ok
theorem kc {kvs : List (Key × V)} (ok : fj P w H h) (e : Rd H a (.dK kvs)) : kvs.length ≤ sizeLine ∧ (a == sysModules) = false ∧ ∃ vs,KV kvs vs ∧ h.DictOf (aF P w) a vs :=
 show bD P w H h a (.dK kvs) from sk ok e
theorem ig {kvs : List (Key × V)} (ok : fj P w H h) (e : H a = some (.dK kvs)) : kvs.length ≤ sizeLine ∧ (a == sysModules) = false ∧ ∃ vs,KV kvs vs ∧ h.DictOf (aF P w) a vs := kc ok (.inl e)
theorem jx {ks : List Key} (ok : fj P w H h) (e : H a = some (.tup (ks.map kV))) : (tupleKind (aF P w)).is h ks a := by
 obtain ⟨_,its,r,o,h1,h2,n,h3⟩ := (show bD P w H h a (.tup (ks.map kV)) from ok a _ e)
 exact ⟨o,its.toArray,n,h1,h2,h3,by simpa using jc r⟩
theorem mM {kvs : List (List Key × V)} (ok : fj P w H h) (e : Rd H a (.dT kvs)) : kvs.length ≤ sizeLine ∧ (a == sysModules) = false ∧
  ∃ xs,KT H kvs xs ∧ h.DictOfH (tupleKind (aF P w)) a xs := by
 obtain ⟨z,y,xs,r,o,es,ep,h1,h2,h3,h4,h5⟩ := (show bD P w H h a (.dT kvs) from sk ok e)
 refine ⟨z,y,xs,r,o,es,ep,h1,h2,h3,h4,fun x hx => ?_,h5⟩
 have all : ∀ {l : List (List Key × V)} {m : List (List Key × Addr × Value)},KT H l m → ∀ x ∈ m,(tupleKind (aF P w)).is h x.1 x.2.1 := by
  intro l m q
  induction q with
  | nil => intro x hx; exact nomatch hx
  | @cons p q ps qs hq t ih =>
   intro x hx
   rcases List.mem_cons.mp hx with e | hx
   ·subst e
    exact jx ok (by rw [← hq.1]; exact hq.2.1)
   ·exact ih x hx
 exact all r x hx
theorem ur {kvs : List (List Key × V)} (ok : fj P w H h) (e : H a = some (.dT kvs)) : kvs.length ≤ sizeLine ∧ (a == sysModules) = false ∧
  ∃ xs,KT H kvs xs ∧ h.DictOfH (tupleKind (aF P w)) a xs := mM ok (.inl e)
end
def lY (H : Hp) (a : Addr) (y : V) (r : Option V) : Prop :=
 (∃ kvs k,Rd H a (.dK kvs) ∧ y = kV k ∧ r = gS kvs k) ∨ ∃ kvs k b,Rd H a (.dT kvs) ∧ y = .ref b ∧ H b = some (.tup (k.map kV)) ∧ r = gS kvs k
def pY (H : Hp) (a : Addr) (y v : V) (H' : Hp) : Prop :=
 (∃ kvs k,H a = some (.dK kvs) ∧ y = kV k ∧ kvs.length < sizeLine ∧ H' = aD H a (.dK (putK kvs k v))) ∨
 ∃ kvs k b,H a = some (.dT kvs) ∧ y = .ref b ∧ H b = some (.tup (k.map kV)) ∧ kvs.length < sizeLine ∧ H' = aD H a (.dT (putK kvs k v))
theorem pY.k {H : Hp} {a : Addr} {kvs : List (Key × V)} {k : Key} {v : V} (e : H a = some (.dK kvs)) (hl : kvs.length < sizeLine) : pY H a (kV k) v (aD H a (.dK (putK kvs k v))) := .inl ⟨kvs,k,e,rfl,hl,rfl⟩
section
variable {X : Cx} {pins : List (Addr × Obj)} {σ : St} {H : Hp} {s : Shared} {a : Addr} {y v : V} {u r : Value} {o : Option V} {A : Around} {E : Value → Shared → Prop}
theorem aM.big (I : aM X pins σ H s) : sysModules < s.heap.objs.size := by
 have h : mainGlobals < s.heap.objs.size := (I.mod.glob.keeps I.bk).lt
 exact Nat.lt_trans (by decide) h
theorem nM {Q : Value → Shared → Prop} (hu : A.units + 1 < cLine) (I : aM X pins σ H s) (g : lY H a y (some v)) (ry : RelV y u) (h : ∀ w' s',aM X pins σ H s' → RelV v w' → Q w' s') :
  wpAny (model X.prog X.w) A (getItem (.ref a) u) Q E s := by
 rcases g with ⟨kvs,k,e,ey,l⟩ | ⟨kvs,k,b,e,ey,eb,l⟩
 ·subst ey
  obtain ⟨z,hd,vs,rel,dd⟩ := kc I.hok e
  obtain ⟨w',hw,rw'⟩ := fE.some_of (v := v) (o := valueAt vs k) (by rw [l]; exact rel.val k)
  exact wpAny_getItem_of (jb ry) dd.mapOf hw (h w' _ (I.tok _) rw')
 ·subst ey
  cases (show u = Value.ref b from ry)
  obtain ⟨z,hd,xs,rel,dd⟩ := mM I.hok e
  obtain ⟨w',hw,rw'⟩ := fE.some_of (v := v) (o := (atKey xs k).map (·.2)) (by rw [l]; exact rel.val k)
  obtain ⟨p,hp,hp2⟩ := Option.map_eq_some_iff.mp hw
  refine wpAny_getItem_heap (tupleKind_room_in1 hu) (jx I.hok eb) dd hp ?_
  rw [hp2]
  exact h w' _ (I.tok _) rw'
theorem qY {Q : Value → Shared → Prop} (hu : A.units + 1 < cLine) (I : aM X pins σ H s) (g : lY H a y o) (ry : RelV y u) (h : ∀ s',aM X pins σ H s' → Q (.bool (!o.isSome)) s') :
  wpAny (model X.prog X.w) A (compareOp .NotIn u (.ref a)) Q E s := by
 rcases g with ⟨kvs,k,e,ey,l⟩ | ⟨kvs,k,b,e,ey,eb,l⟩
 ·subst ey
  obtain ⟨z,hd,vs,rel,dd⟩ := kc I.hok e
  refine wpAny_notIn_of (jb ry) hd dd.mapOf ?_
  rw [← (rel.val k).isSome_eq,← l]
  exact h _ (I.tok _)
 ·subst ey
  cases (show u = Value.ref b from ry)
  obtain ⟨z,hd,xs,rel,dd⟩ := mM I.hok e
  refine wpAny_notIn_heap (tupleKind_room_in1 hu) (jx I.hok eb) hd dd ?_
  have q := (rel.val k).isSome_eq
  rw [Option.isSome_map] at q
  rw [← q,← l]
  exact h _ (I.tok _)
theorem mN {h' : Heap} {t' : Nat} {ob : HO} (I : aM X pins σ H s) (mu : t8 (H a)) (hs : Heap.SameBut a s.heap h') (he : ∃ q,h'.get? a = some q) (new : bD X.prog X.w (aD H a ob) h' a ob) :
  aM X pins σ (aD H a ob) { s with heap := h',toks := t' } :=
 I.write (x := a) (e := a) mu (.inl rfl) (fun b q hb z => (hs.2 b hb).trans z) he new
theorem sQ {P : Program} {w : World} {H' : Hp} {h' : Heap} {kvs : List (Key × V)} {vs : List (Key × Value)} (z : kvs.length ≤ sizeLine) (hd : (a == sysModules) = false) (rel : KV kvs vs) (dd : h'.DictOf (aF P w) a vs) :
  bD P w H' h' a (.dK kvs) := ⟨z,hd,vs,rel,dd⟩
theorem nN {H' : Hp} {Q : Unit → Shared → Prop} (hu : A.units + 1 < cLine) (I : aM X pins σ H s) (g : pY H a y v H') (ry : RelV y u) (rv : RelV v r) (h : ∀ s',aM X pins σ H' s' → Q () s') :
  wpAny (model X.prog X.w) A (setItem (.ref a) u r) Q E s := by
 rcases g with ⟨kvs,k,e,ey,l,eH⟩ | ⟨kvs,k,b,e,ey,eb,l,eH⟩
 ·subst ey eH
  obtain ⟨z,hd,vs,rel,dd⟩ := ig I.hok e
  have hz : vs.length ≤ sizeLine := by rw [← rel.length]; exact z
  have hl : (putK kvs k v).length ≤ sizeLine := by have := gM kvs k v; omega
  refine wpAny_setItem_pairs (hsz := hz) (jb ry) dd fun h' dd' hs => h _ ?_
  have he : ∃ q,h'.get? a = some q := let ⟨q,_,_,hq,_⟩ := dd'; ⟨q,hq⟩
  exact mN I (by rw [e]; exact True.intro) hs he (sQ hl hd (rel.put k rv) dd')
 ·subst ey eH
  cases (show u = Value.ref b from ry)
  obtain ⟨z,hd,xs,rel,dd⟩ := ur I.hok e
  have hz : xs.length ≤ sizeLine := by rw [← Paired.length rel]; exact z
  have hl : (putK kvs k v).length ≤ sizeLine := by have := gM kvs k v; omega
  refine wpAny_setItem_heap (hsz := hz) (tupleKind_room_in1 hu) (jx I.hok eb) dd fun h' dd' hs => h _ ?_
  obtain ⟨q,es,ep,hq,h2,h3,h4,_,h5⟩ := dd'
  refine mN I (by rw [e]; exact True.intro) hs ⟨q,hq⟩ ⟨hl,hd,_,(rel.put k eb rv).keeps fun c ys ec => ?_,q,es,ep,hq,h2,h3,h4,h5⟩
  rw [aA (fF ec e (fun z => nomatch z))]
  exact ec
end
section
variable {X : Cx} {pins : List (Addr × Obj)} {σ : St} {H : Hp} {s : Shared} {a : Addr} {kvs : List (Key × V)} {k : Key} {u : Value} {A : Around} {E : Value → Shared → Prop}
theorem ut {Q : Value → Shared → Prop} (I : aM X pins σ H s) (e : Rd H a (.dK kvs)) (h : ∀ t s',aM X pins σ H s' → Q (.int kvs.length t) s') : wpAny (model X.prog X.w) A (call (.builtin "len") [.ref a]) Q E s := by
 obtain ⟨z,hd,vs,rel,dd⟩ := kc I.hok e
 refine call_len_dict hd dd (by rw [← rel.length]; rw [sizeLine_eq] at z; omega) ?_
 rw [← rel.length]
 exact h _ _ (I.tok _)
end
def uu (i : Expr) : Prop := ∀ ov iv,subscripted i false ov iv = operate [ov,iv] (getItem ov iv)
theorem qZ {prog : Program} {w : World} {A : Around} {E : Value → Shared → Prop} {s : Shared} {env : Env} {value slice : Expr} {pos : Pos} {T id : String} {Q : Value → Shared → Prop}
  (hl : typeLookup (.type T) "__getitem__" = pure (some (.builtin id))) (hs : uu slice)
  (h : wpAny (model prog w) A (eval value env) (fun o s₁ => wpAny (model prog w) A (eval slice env) (fun i s₂ => s₂.TypeIs o T ∧ wpAny (model prog w) A (getItem o i) Q E s₂) E s₁) E s) :
  wpAny (model prog w) A (eval (.Subscript value slice pos) env) Q E s := by
 refine Subscript_ (wpAny_mono h (fun o s₁ h₁ => wpAny_mono h₁ (fun i s₂ h₂ => ?_) fun _ _ x => x) fun _ _ x => x)
 obtain ⟨hT,h₂⟩ := h₂
 unfold subscriptTail
 refine wpAny_bind ?_
 rw [getitemInPython_of_ne hT.not_modules]
 refine wpAny_bind (wpAny_specialOf hT hl ?_)
 have fin : wpAny (model prog w) A (subscripted slice false o i) (fun r s₃ => wpAny (model prog w) A (letTemporaryGo value o r >>= fun _ => pure r) Q E s₃) E s₂ := by
  rw [hs o i]
  exact wpAny_operating (wpAny_mono h₂ (fun r s₃ h₃ => wpAny_bind (wpAny_letTemporaryGo (wpAny_pure h₃))) fun _ _ x => x)
 first
  | exact wpAny_pure (wpAny_bind fin)
  | exact wpAny_bind (wpAny_pure (wpAny_bind fin))
  | exact wpAny_bind fin
theorem ke {X : Cx} {pins : List (Addr × Obj)} {σ : St} {H : Hp} {s : Shared} {a : Addr} {y : V} {o : Option V} (I : aM X pins σ H s) (g : lY H a y o) : s.TypeIs (.ref a) "dict" := by
 rcases g with ⟨kvs,k,e,_,_⟩ | ⟨kvs,k,b,e,_,_,_⟩
 ·obtain ⟨_,_,vs,_,dd⟩ := kc I.hok e
  exact dd.typeIs
 ·obtain ⟨_,_,xs,_,dd⟩ := mM I.hok e
  exact dd.typeIs
def uv (td ty : TE) : TE := fun σ H Q => td σ H fun x H1 => ty σ H1 fun y H2 => ∃ a v,x = .ref a ∧ lY H2 a y (some v) ∧ Q v H2
def q8 (ty td : TE) : TE := fun σ H Q => ty σ H fun y H1 => td σ H1 fun x H2 => ∃ a o,x = .ref a ∧ lY H2 a y o ∧ Q (.bl (!o.isSome)) H2
def ux (td ty tv : TE) : TS := fun D σ H => tv σ H fun v H1 => td σ H1 fun x H2 => ty σ H2 fun y H3 => ∃ a H4,x = .ref a ∧ pY H3 a y v H4 ∧ D.nx σ H4
section
variable {X : Cx} {o i e value : Expr} {pos pos' tpos : Pos} {td ty tv : TE}
theorem gZ (hu : X.A.units + 1 < cLine) (ho : PE X o td) (hi : PE X i ty) (hs : uu i) : PE X (.Subscript o i pos) (uv td ty) := by
 intro pins s σ H Q I h
 refine qZ PySem.F.slot_dict_getitem.lookup hs (a9 (ho pins s σ H _ I h) fun u s1 ⟨x,H1,I1,rx,q1⟩ => a9 (hi pins s1 σ H1 _ I1 q1) fun iv s2 ⟨y,H2,I2,ry,a,v,ex,g,q2⟩ => ?_)
 subst ex
 obtain rfl : u = Value.ref a := rx
 exact ⟨ke I2 g,nM hu I2 g ry fun w' s3 I3 rw' => ⟨v,H2,I3,rw',q2⟩⟩
theorem nO (hu : X.A.units + 1 < cLine) (hi : PE X i ty) (ho : PE X o td) : PC X .NotIn i o (q8 ty td) := by
 intro pins s σ H Q I h
 refine a9 (hi pins s σ H _ I h) fun iv s1 ⟨y,H1,I1,ry,q1⟩ => a9 (ho pins s1 σ H1 _ I1 q1) fun u s2 ⟨x,H2,I2,rx,a,ov,ex,g,q2⟩ => ?_
 subst ex
 obtain rfl : u = Value.ref a := rx
 exact qY hu I2 g ry fun s3 I3 => ⟨.bl (!ov.isSome),H2,I3,rfl,q2⟩
theorem q9 (hu : X.A.units + 1 < cLine) (ho : PE X o td) (hi : PE X i ty) (hv : PE X value tv) (hs : swapsWith value (some (.Subscript o i pos')) pos.line X.env = pure false) :
  PS X (.Assign [.Subscript o i pos'] value pos) (ux td ty tv) := by
 intro pins s σ H D I h
 refine wpAny_Assign_Subscript (a9 (hv pins s σ H _ I h) fun r s1 ⟨v,H1,I1,rv,q1⟩ => a9 (ho pins s1 σ H1 _ I1 q1) fun u s2 ⟨x,H2,I2,rx,q2⟩ => a9 (hi pins s2 σ H2 _ I2 q2) fun iv s3 ⟨y,H3,I3,ry,a,H4,ex,g,q3⟩ => ?_) hs
 subst ex
 obtain rfl : u = Value.ref a := rx
 exact nN hu I3 g ry rv fun s4 I4 => ⟨σ,H4,I4,q3⟩
end
theorem pZ {P : Program} {w : World} {H : Hp} (h : Heap) (hb : sysModules < h.objs.size) : bD P w H (h.push { cls := .type "dict",data := .dict #[] }) h.objs.size (.dK []) :=
 ⟨Nat.zero_le _,beq_eq_false_iff_ne.mpr (Ne.symm (Nat.ne_of_lt hb)),[],.nil,Heap.DictOf.new h⟩
def sR : TE := fun _ H Q => ∀ p,H p = none → Q (.ref p) (aD H p (.dK []))
section
variable {X : Cx} {pos : Pos}
theorem p6 : PE X (.Dict [] [] pos) sR := fun pins s σ H Q I h =>
 wpAny_Dict_empty ⟨.ref s.heap.objs.size,_,I.laid (a := s.heap.objs.size) (o := .dK []) (t' := s.toks) (fun _ _ q => Heap.get?_push_of_some _ q) (Nat.le_refl _) (pZ s.heap I.big),rfl,h _ (I.hok.fresh (Nat.le_refl _))⟩
end
section
variable {X : Cx} {pins : List (Addr × Obj)} {σ : St} {H : Hp} {s : Shared} {a : Addr} {y d : V} {u r : Value} {o : Option V} {A : Around} {E : Value → Shared → Prop}
end
section
variable {X : Cx} {o e f : Expr} {apos cpos : Pos} {td ty tx : TE}
end
section
variable {X : Cx} {pins : List (Addr × Obj)} {σ : St} {H : Hp} {s : Shared} {a : Addr} {kvs : List (Key × V)} {A : Around} {E : Value → Shared → Prop}
end
section
variable {X : Cx} {pins : List (Addr × Obj)} {σ : St} {H : Hp} {s : Shared} {a : Addr} {y : V} {u : Value} {A : Around} {E : Value → Shared → Prop}
end
end L2
namespace Att
open PySem PySem.W PySem.Calls PyProof.Rows
theorem gU {P : Params} {h : Heap} : ∀ (ns : List Int) (vs : List Value),WellAll P h vs (ns.map WData.int) → IntsAre vs ns := by
 intro ns
 induction ns with
 | nil =>
  intro vs w
  rw [List.map_nil] at w
  cases w
  exact .nil
 | cons n ns ih =>
  intro vs w
  rw [List.map_cons] at w
  cases w with
  | cons a b =>
   cases a
   exact .cons _ _ (ih _ b)
theorem nP {l : OpenLaw} {n : Nat} (hn : l.most = some n) {P : Params} {h : Heap} {args : List WData} {vals : List Value}
  (hpre : l.row.toRowW.claim.pre args = true) (hwl : WellAll P h vals args) :
  ∃ a vs ns,vals = [Value.ref a] ∧ args = [WData.list (ns.map WData.int)] ∧ h.get? a = some { cls := .type "list",data := .seq vs.toArray } ∧ IntsAre vs ns ∧ ns.length ≤ n := by
 have hsh : WShape.hasAll [] args [.list .int] = true := (pre_splitW hpre).1
 have hc : l.pre.holds [] { args := args } = true := (pre_splitW hpre).2
 obtain ⟨d,r,rfl,h1,h2⟩ := hasAllW_cons hsh
 obtain rfl := hasAllW_nil h2
 obtain ⟨xs,rfl,h3⟩ := hasW_list h1
 obtain ⟨ns,rfl⟩ := items_int h3
 have hlen : ns.length ≤ n := by
  unfold OpenLaw.pre at hc
  have h4 : (WTm.not (.lt (.lit (.int (n : Int))) (.len (.arg 0)))).holds [] { args := [.list (ns.map .int)] } = true := by
   have h4 := (holds_andW hc).1
   rw [hn] at h4
   exact h4
  have h5 := condW_of h4 (w_not (w_lt w_lit (w_len_list (w_arg rfl))))
  rw [List.length_map] at h5
  refine Nat.le_of_not_lt fun q => ?_
  have q' : (n : Int) < ((ns.length : Nat) : Int) := by omega
  first
   | (rw [decide_eq_true q'] at h5; exact absurd h5 (by decide))
   | (simp at h5; omega)
 cases hwl with
 | cons w1 w2 =>
  cases w2
  cases w1 with
  | list ho hall => exact ⟨_,_,ns,rfl,rfl,ho,gU ns _ hall,hlen⟩
theorem nQ (l : OpenLaw) (args : List WData) : l.row.toRowW.claim.post args (.bool true) args = true :=
 postW_of (r := l.row.toRowW) (X := (true == true))
  (show WShape.has [] (.bool true) .bool = true by first | rfl | decide | simp [WShape.has,WShape.arms,WShape.armsAll])
  (show (WTm.eq .res (.lit (.bool true))).value [] { args := args,res := some (.bool true),after := args } = some (.bool (true == true)) from w_eq_bool (w_res rfl) w_lit) rfl
theorem kf {l : OpenLaw} {n : Nat} {q : Program} {loose : List Str} {XP : (Str → Option Value) → Heap → Prop} {YP : World → Heap → Prop} {d : DefRec}
  (hn : l.most = some n) (hdf : d.params.defaults = [])
  (call : ∀ (w : World) (s₀ s₁ : Shared) (mg mb : Str → Option Value) (fa : Addr) (o : Obj) (pm cd doc : Value) (a : Addr) (vs : List Value) (ns : List Int),
   Ground q loose [] XP w s₀ mg mb s₁.heap → YP w s₁.heap →
   s₁.heap.get? fa = some o → o.data = .func (docDef d.name d.params d.body d.scope pm cd doc) → s₁.heap.CodeRec cd d.name → mg d.name = some (.ref fa) →
   s₁.heap.get? a = some { cls := .type "list",data := .seq vs.toArray } → IntsAre vs ns → ns.length ≤ n → s₁.gens = #[] →
   codeAny (model l.prog w) callerA (.call (.ref fa) ⟨[.ref a],[]⟩) (fun r s' => r = .ok (.ret (.bool true)) ∧ OldK s₁.heap s'.heap ∧ s'.os = s₁.os ∧ AllBare s'.gens) s₁) :
  WalkO q loose XP YP l.row.toRowW d [] (fun f vs => PySem.call f vs) := by
 intro w s₀ s₁ mg mb G Y fa o pm cd doc dV kV ho hd hcd hD hmg hg args vals as hpre hlay hrd hwl hlo
 obtain rfl : dV = .none := Dflts.none hD hdf
 obtain rfl : kV = .none := Dflts.noKw hD
 obtain ⟨a,vs,ns,rfl,rfl,hobj,hints,hlen⟩ := nP hn hpre hwl
 refine enter_call (codeAny_mono (call w s₀ s₁ mg mb fa o pm cd doc a vs ns G Y ho (fd_plain hd) hcd hmg hobj hints hlen hg) fun r s' hq => ?_)
 obtain ⟨rfl,h2,h3,h4⟩ := hq
 exact ⟨.inl ⟨.bool true,.bool true,[],rfl,fun _ => rfl,.bool true,nQ l _,fun _ => ⟨List.Pairwise.nil,fun _ hm => (nomatch hm)⟩⟩,h2,h3,h4⟩
section
variable {prog : Program} {w : World} {A : Around} {E : Value → Shared → Prop} {s : Shared} {K : Frag}
end
end Att
namespace L2
open PySem PySem.Spec PyProof.Rows
theorem fY : ∀ {vs : List Value} {ns : List Int},IntsAre vs ns → bh (ns.map V.int) vs
 | _,_,.nil => .nil
 | _,_,.cons n t h => .cons ⟨t,rfl⟩ (fY h)
def sS (H : Hp) : Prop := ∀ b,H b = none ∨ ∃ o xs,H b = some (.frz o (.lst xs))
theorem qa {P : Program} {w : World} {K : PySem.W.Frag} {mg mb : Str → Option Value} {CX : nJ} {k : Nat} {fa a : Addr} {fd : FuncData} {x : Str} {sp : Sp} {s₁ : Shared} {vs : List Value} {ns : List Int}
  (KX : K.In s₁.heap) (hns : s₁.heap.Ns mainGlobals mg) (hb : s₁.heap.Ns builtinsNs mb) (hbb : ∀ x : Str,x ≠ "__name__" → mb x = bootBuiltins x) (hlim : s₁.heap.NoLimit) (hg : s₁.gens = #[])
  (ha : s₁.heap.get? a = some { cls := .type "list",data := .seq vs.toArray }) (hi : IntsAre vs ns) (hl : ns.length ≤ sizeLine) (hr : cJ k callerA)
  (F : ∀ base : Heap,K.In base → base.Ns mainGlobals mg → bG P w K mg base CX k fa fd [x] sp) (hbind : ∀ (s : Shared) (u : Value),BindsTo s fd ⟨[u],[]⟩ [(x,u)])
  (hsp : ∀ H : Hp,sS H → az K H a (ns.map V.int) → sp [.ref a] H (fun v _ => v = .bl true) fun _ _ _ => False)
  (hCX : ∀ H e s',CX [] H s₁ (fun _ _ _ => False) e s' → False) :
  codeAny (model P w) callerA (.call (.ref fa) ⟨[.ref a],[]⟩) (fun r s' => r = .ok (.ret (.bool true)) ∧ OldK s₁.heap s'.heap ∧ s'.os = s₁.os ∧ AllBare s'.gens) s₁ := by
 have rv := fY hi
 have lenV := hi.length
 have core : ∀ H : Hp,sS H → az K H a (ns.map V.int) → fj P w H s₁.heap → (∀ b,H b ≠ none → b = a) → (H a ≠ none → K.lookup a = none) →
   codeAny (model P w) callerA (.call (.ref fa) ⟨[.ref a],[]⟩) (fun r s' => r = .ok (.ret (.bool true)) ∧ OldK s₁.heap s'.heap ∧ s'.os = s₁.os ∧ AllBare s'.gens) s₁ := by
  intro H hO hS hok hA hK
  have base_of : ∀ {b : Addr} {o : Obj},s₁.heap.get? b = some o → H b = none → (jq s₁.heap H).get? b = some o := fun e n => pJ e n
  have noA : ∀ {b : Addr} {o : Obj} {es : Array DictEntry} {ep : Nat},s₁.heap.get? b = some o → o.data = .dict es ep → H b = none := fun {b o es ep} e d => by
   cases q : H b with
   | none => rfl
   | some u =>
    have e' : b = a := hA b (by rw [q]; simp)
    subst e'
    rw [ha] at e; cases e
    have d' : Data.seq vs.toArray _ = Data.dict es ep := d
    cases d'
  have nsK : ∀ {b : Addr} {m : Str → Option Value},s₁.heap.Ns b m → (jq s₁.heap H).Ns b m := fun {b m} ⟨o,es,ep,e,d,r⟩ => ⟨o,es,ep,base_of e (noA e d),d,r⟩
  have hKb : K.In (jq s₁.heap H) := fun b o e => base_of (KX b o e) (by
   cases q : H b with
   | none => rfl
   | some u =>
    have e' : b = a := hA b (by rw [q]; simp)
    subst e'
    rw [hK (by rw [q]; simp)] at e; cases e)
  have hM : Mod K mg (jq s₁.heap H) := ⟨hKb,nsK hns,⟨mb,nsK hb,hbb⟩,let ⟨mc,h1,h2⟩ := hlim; ⟨mc,nsK h1,h2⟩⟩
  have e0 : lX P w K mg (jq s₁.heap H) callerA [] s₁ H := ⟨rfl,hM,fun b o e => qL e,Nat.le_of_eq (nn _ _),trivial,fun b hb => absurd (show b ∈ ([] : List Addr) from hb) (by simp),hok,.of_eq hg⟩
  refine codeAny_mono ((F _ hKb (nsK hns)).run callerA [] s₁ H ⟨[.ref a],[]⟩ [.ref a] [.ref a] _ _ hr e0 (hbind s₁ (.ref a)) (.cons rfl .nil) (hsp H hO hS)) fun r s' h => ?_
  cases r with
  | error e => exact (hCX H e s' h).elim
  | ok fl =>
   cases fl with
   | next => exact False.elim h
   | brk => exact False.elim h
   | cont => exact False.elim h
   | ret u =>
    obtain ⟨v,H',os,bare,un,hok',r',q⟩ := h
    have q' : v = .bl true := q
    subst q'
    obtain rfl : u = Value.bool true := r'
    refine ⟨rfl,OldK.of_keep fun b o e => ?_,os,bare⟩
    cases q : H b with
    | none => exact un.keep b o e q (by intro z; exact absurd (show b ∈ ([] : List Addr) from z) (by simp)) (by simp)
    | some u =>
     rcases hO b with z | ⟨ob,xs,z⟩
     ·rw [q] at z; cases z
     ·have z2 := un.frzs b ob _ z
      obtain ⟨e1,_⟩ := hok b _ z
      obtain ⟨e2,_⟩ := hok' b _ z2
      rw [e] at e1; cases e1
      exact e2
 cases hk : K.lookup a with
 | some o =>
  have e := KX a o hk
  rw [ha] at e
  cases e
  refine core (fun _ => none) (fun _ => .inl rfl) (.inr ⟨_,vs.toArray,_,hk,rfl,rfl,rfl,by rw [List.size_toArray,lenV]; exact hl,by simpa using rv⟩) (fun b u z => by have z' : (none : Option HO) = some u := z; cases z') (fun b z => absurd rfl z) fun z => absurd rfl z
 | none =>
  refine core (fun b => if b = a then some (.frz { cls := .type "list",data := .seq vs.toArray } (.lst (ns.map V.int))) else none) (fun b => ?_) (.inl (.inr ⟨{ cls := .type "list",data := .seq vs.toArray },if_pos rfl⟩)) (fun b u z => ?_) (fun b z => ?_) fun _ => hk
  ·by_cases hb : b = a
   ·exact .inr ⟨_,_,if_pos hb⟩
   ·exact .inl (if_neg hb)
  ·by_cases hb : b = a
   ·have z' := (if_pos hb).symm.trans z
    cases z'
    subst hb
    exact ⟨ha,by rw [List.length_map]; exact hl,vs,_,rv,ha⟩
   ·have z' := (if_neg hb).symm.trans z
    cases z'
  ·by_cases hb : b = a
   ·exact hb
   ·exact absurd (if_neg hb) z
theorem rf {l : PySem.W.OpenLaw} {n k : Nat} {q : Program} {loose : List Str} {XP : (Str → Option Value) → Heap → Prop} {YP : World → Heap → Prop} {d : DefRec} {K : Params → PySem.W.Frag} {CX : World → nJ} {sp : World → Sp} {x : Str}
  (hn : l.most = some n) (hn2 : n ≤ sizeLine) (hdf : d.params.defaults = []) (hr : cJ k callerA)
  (hY : ∀ (w : World) (h : Heap),YP w h → (K w.params).In h)
  (F : ∀ (w : World) (mg : Str → Option Value) (fa : Addr) (h : Heap),(K w.params).In h → h.Ns mainGlobals mg → mg d.name = some (.ref fa) →
   ∃ fd : FuncData,(∀ (s : Shared) (u : Value),BindsTo s fd ⟨[u],[]⟩ [(x,u)]) ∧
    ∀ base : Heap,(K w.params).In base → base.Ns mainGlobals mg → bG l.prog w (K w.params) mg base (CX w) k fa fd [x] (sp w))
  (hsp : ∀ (w : World) (H : Hp) (a : Addr) (ns : List Int),ns.length ≤ n → sS H → az (K w.params) H a (ns.map V.int) → sp w [.ref a] H (fun v _ => v = .bl true) fun _ _ _ => False)
  (hCX : ∀ (w : World) (H : Hp) (s : Shared) (e : Value) (s' : Shared),CX w [] H s (fun _ _ _ => False) e s' → False) :
  PySem.W.WalkO q loose XP YP l.row.toRowW d [] (fun f vs => PySem.call f vs) := by
 refine Att.kf hn hdf fun w s₀ s₁ mg mb fa o pm cd doc a vs ns G Y ho hd hcd hmg hobj hints hlen hg => ?_
 have KX := hY w _ Y
 obtain ⟨fd,hb,hF⟩ := F w mg fa _ KX G.T.g hmg
 exact qa KX G.T.g G.T.b G.T.builtins G.T.nolimit hg hobj hints (Nat.le_trans hlen hn2) hr hF hb (fun H hO hS => hsp w H a ns hlen hO hS) fun H e s' => hCX w H s₁ e s'
def aK (s : Stmt) : Arguments := match s with
 | .FunctionDef _ a _ _ _ _ _ _ _ _ => a
 | _ => { posonlyargs := [],args := [],vararg := none,kwonlyargs := [],kw_defaults := [],kwarg := none,defaults := [] }
def aJ (s : Stmt) : List Stmt := match s with
 | .FunctionDef _ _ b _ _ _ _ _ _ _ => b
 | _ => []
def ak (s : Stmt) : Scope := match s with
 | .FunctionDef _ _ _ _ _ _ sc _ _ _ => sc
 | _ => { kind := .function,names := [],isGenerator := false,isCoroutine := false }
abbrev bj : nJ := fun _ _ _ _ _ _ => False
abbrev E0 : XK := fun _ _ _ => False
theorem so {X : Cx} : ie bj X E0 := fun _ _ _ _ _ _ _ h => h.elim
section
variable {P : Program} {w : World} {K : PySem.W.Frag} {mg : Str → Option Value} {base : Heap}
end
theorem jd {A : Around} {k : Nat} (hr : cJ k A) : A.units + 1 < cLine := Nat.lt_of_le_of_lt (Nat.add_le_add_left (by decide : 1 ≤ 64) _) hr.units
section
variable {X : Cx}
theorem pv (i : Nat) {x : Str} {pos : Pos} (hN : X.N[i]? = some x := by rfl) (hv : vX X.env.scope x := by first | exact Or.inl rfl | exact Or.inr (Or.inl rfl) | exact Or.inr (Or.inr rfl)) (hd : (x == ("__debug__" : Str)) = false := by decide)
  (hcd : (x == ("__classdict__" : Str)) = false := by decide) : PE X (.Name x pos) (ua i) := sA hN hv hd hcd
end
theorem cQ {A B : Prop} (h : B) : if false = true then A else B := by
 rw [if_neg Bool.false_ne_true]
 exact h
theorem d0 {A B : Prop} (h : A) : if true = true then A else B := by
 rw [if_pos rfl]
 exact h
def aB (H H' : Hp) : Prop := ∀ b o,H b = some o → H' b = some o
theorem aB.refl (H : Hp) : aB H H := fun _ _ h => h
theorem aB.trans {H H1 H2 : Hp} (a : aB H H1) (b : aB H1 H2) : aB H H2 := fun c o h => b c o (a c o h)
theorem aB.free {H H' : Hp} (e : aB H H') {l : Addr} (h : H' l = Option.none) : H l = Option.none := by
 cases q : H l with
 | none => rfl
 | some o =>
  rw [e l o q] at h
  cases h
theorem aB.seq {K : PySem.W.Frag} {H H' : Hp} {a : Addr} {xs : List V} (e : aB H H') (h : az K H a xs) : az K H' a xs := by
 rcases h with (h | ⟨o,h⟩) | h
 ·exact .inl (.inl (e _ _ h))
 ·exact .inl (.inr ⟨o,e _ _ h⟩)
 ·exact .inr h
section
variable {X : Cx} {pins : List (Addr × Obj)} {σ : St} {H : Hp} {s : Shared} {h' : Heap}
theorem aM.turnedNew {ch : List Addr} {T : Addr} {o : HO} {t' : Nat} (I : aM X pins σ H s) (hf : ∀ b ∈ ch,cT X pins H b) (k : ∀ b u,b ∉ ch → s.heap.get? b = some u → h'.get? b = some u) (hp : s.heap.objs.size ≤ T) (new : bD X.prog X.w (aD H T o) h' T o) :
  aM X pins σ (aD H T o) { s with heap := h',toks := t' } := by
 have nT : H T = none := I.hok.fresh hp
 have ne : ∀ b u,H b = some u → b ≠ T := fun b u e z => by rw [z,nT] at e; cases e
 have nch : ∀ b u,H b = some u → b ∉ ch := fun b u e z => by rw [(hf b z).1] at e; cases e
 have up : ∀ b u,H b = some u → aD H T o b = some u := fun b u e => by rw [aA (ne b u e)]; exact e
 refine I.step (g' := s.gens) (d' := s.drawn) (ch := ch) (fun b hb => ?_) (fun b u _ _ hc e _ => k b u hc e) (fun b u _ _ hc e _ => ⟨u.slots,k b u hc e⟩) (fun b u _ e n => ?_)
  (fun b u hc e => ⟨u,k b u hc e⟩) (fun b xs e => up b _ e) (fun b u v e => up b _ e) (fun b ps e => ⟨#[],by rw [up b _ e]; simp⟩) (fun m hm => ?_) (fun b u e => ?_) I.bare
 ·obtain ⟨f0,f1,f2,f3,f4,f5⟩ := hf b hb
  exact ⟨f3,f1,f4,f5⟩
 ·have : b ≠ T := Nat.ne_of_lt (Nat.lt_of_lt_of_le (Heap.lt_size e) hp)
  rw [aA this]
  exact n
 ·obtain ⟨u,es,ep,ho,r⟩ := hm
  exact ⟨u,es,ep,k _ u (fun z => (hf _ z).2.1 rfl) ho,r⟩
 ·by_cases c : b = T
  ·subst c
   rw [aj] at e
   cases e
   exact new
  ·rw [aA c] at e
   refine (I.hok b u e).stay (fun c' v hc q => k c' v ?_ q) (fun _ q => up _ _ q) fun _ _ q => up _ _ q
   rcases hc with z | z
   ·rw [z]; exact nch b u e
   ·exact nch c' _ z
theorem aM.turnedAll {ch : List Addr} {t' : Nat} (I : aM X pins σ H s) (hf : ∀ b ∈ ch,cT X pins H b) (k : ∀ b u,b ∉ ch → s.heap.get? b = some u → h'.get? b = some u) : aM X pins σ H { s with heap := h',toks := t' } := by
 have nch : ∀ b u,H b = some u → b ∉ ch := fun b u e z => by rw [(hf b z).1] at e; cases e
 refine I.step (g' := s.gens) (d' := s.drawn) (ch := ch) (fun b hb => ?_) (fun b u _ _ hc e _ => k b u hc e) (fun b u _ _ hc e _ => ⟨u.slots,k b u hc e⟩) (fun b u _ e n => n)
  (fun b u hc e => ⟨u,k b u hc e⟩) (fun b xs e => e) (fun b u v e => e) (fun b ps e => ⟨#[],by rw [e]; simp⟩) (fun m hm => ?_) (fun b u e => ?_) I.bare
 ·obtain ⟨f0,f1,f2,f3,f4,f5⟩ := hf b hb
  exact ⟨f3,f1,f4,f5⟩
 ·obtain ⟨u,es,ep,ho,r⟩ := hm
  exact ⟨u,es,ep,k _ u (fun z => (hf _ z).2.1 rfl) ho,r⟩
 ·refine (I.hok b u e).stay (fun c' v hc q => k c' v ?_ q) (fun _ q => q) fun _ _ q => q
  rcases hc with z | z
  ·rw [z]; exact nch b u e
  ·exact nch c' _ z
end
def uy (K : PySem.W.Frag) (l : Addr) : It :=
 ⟨fun i H => ∃ xs x,az K H l xs ∧ xs[i]? = some x,fun i H v H' => ∃ (T : Addr) (x : V),v = .ref T ∧ H T = none ∧ (∀ xs,az K H l xs → xs[i]? = some x) ∧ H' = aD H T (.tup [.int i,x]),fun i H => ∃ xs,az K H l xs ∧ xs.length ≤ i⟩
theorem nR {P : Program} {w : World} {K : PySem.W.Frag} {elts : List Expr} {k : Nat} {pos : Pos} (l e it : Addr) (ne : e ≠ it) : Turn P w K (.Tuple elts k pos) (uy K l) [e,it] e (fun i h => (∃ old,IsEnum h e it i old) ∧ h.IsListIter it l i) where
 mem := by simp
 obj := fun i h st b hb => by
  obtain ⟨⟨old,he⟩,o,e1,c,d⟩ := st
  rcases List.mem_cons.mp hb with z | z
  ·subst z
   exact ⟨_,he,fun v z => by cases z⟩
  ·rw [List.mem_singleton.mp z]
   exact ⟨o,e1,fun v z => by rw [d] at z; cases z⟩
 keep := fun i h h' st k => ⟨let ⟨old,he⟩ := st.1; ⟨old,k e (by simp) _ he⟩,st.2.at fun o q => k it (by simp) o q⟩
 item := by
  intro X hP hw hK hc i pins s σ H E I hf st hg
  subst hP hw hK
  obtain ⟨xs,x,hq,hx⟩ := hg
  obtain ⟨its,rv,p,hz⟩ := I.list hq
  obtain ⟨u,hu,ru⟩ := rv.get hx
  obtain ⟨⟨old,he⟩,hit⟩ := st
  refine wpAny_pyNext_enum_item he hit p.isList (x := u) (by simpa using hu) ne fun h1 ho hit' hT hsz hk => ?_
  refine ⟨_,rfl,wpAny_letOwnedTupleGo_enum (s := { s with heap := h1,toks := s.toks + 1 }) ho fun h2 he2 hs2 => ?_⟩
  have nT : H s.heap.objs.size = none := I.hok.fresh (Nat.le_refl _)
  have el : e < s.heap.objs.size := Heap.lt_size he
  have il : it < s.heap.objs.size := by obtain ⟨_,q,_⟩ := hit; exact Heap.lt_size q
  have hT2 : h2.get? s.heap.objs.size = some { cls := .type "tuple",data := .seq #[.int i s.toks,u] } := (hs2.2 _ (Nat.ne_of_gt el)).trans hT
  have kp : ∀ b o,b ∉ [e,it] → s.heap.get? b = some o → h2.get? b = some o := fun b o hb q => by
   simp at hb
   exact (hs2.2 b hb.1).trans (hk b o hb.1 hb.2 q)
  refine ⟨.ref s.heap.objs.size,aD H s.heap.objs.size (.tup [.int i,x]),I.turnedNew (t' := s.toks + 1) (ch := [e,it]) hf kp (Nat.le_refl _) ⟨by show 2 ≤ sizeLine; decide,[.int i s.toks,u],.cons ⟨_,rfl⟩ (.cons ru .nil),⟨_,hT2,rfl,0,rfl⟩⟩,rfl,
   ⟨_,x,rfl,nT,fun ys hy => by rw [I.list_inj hy hq]; exact hx,rfl⟩,⟨⟨u,?_⟩,?_⟩,fun b hb => ?_⟩
  ·simpa using he2
  ·exact hit'.at fun o q => (hs2.2 it (Ne.symm ne)).trans q
  ·have bl : b ≠ s.heap.objs.size := by
    rcases List.mem_cons.mp hb with z | z
    ·rw [z]; exact Nat.ne_of_lt el
    ·rw [List.mem_singleton.mp z]; exact Nat.ne_of_lt il
   rw [aA bl]
   exact (hf b hb).1
 done := by
  intro X hP hw hK hc i pins s σ H E I hf st hg
  subst hP hw hK
  obtain ⟨xs,hq,hx⟩ := hg
  obtain ⟨its,rv,p,hz⟩ := I.list hq
  obtain ⟨⟨old,he⟩,hit⟩ := st
  have hl := rv.length
  exact wpAny_pyNext_enum_end (I.ok.hd hc) he hit p.isList (by simp; omega) fun h' eb => ⟨rfl,I.turnedAll (t' := s.toks) (ch := [e,it]) hf fun b o hb q => eb b o (fun z => hb (by simp [z])) q⟩
 self := fun _ _ _ _ _ st h => let ⟨_,he⟩ := st.1; wpAny_pyIter_enum he h
def uz (K : PySem.W.Frag) (ta : TA) : TI := fun σ H R => ta σ H fun vs H1 => ∃ l : Addr,vs = [.ref l] ∧ (∃ xs,az K H1 l xs) ∧ R (uy K l) H1
theorem boot_enumerate : bootBuiltins "enumerate" = some (.type "enumerate") := by kernel_rfl
theorem fL {X : Cx} {a : Expr} {ta : TA} {elts : List Expr} {k : Nat} {tp p pos : Pos} (hg : Gl X "enumerate") (hm : X.mg "enumerate" = none) (ha : PA X [a] ta) (hs : starEach [a] X.env = [(false,eval a X.env)] := by rfl) : PI X (.Tuple elts k tp) (.Call (.Name "enumerate" p) [a] [] pos) (uz X.K ta) := by
 intro pins s σ H R I h
 refine Call_ (cA I hg hm boot_enumerate (PyProof.Rows.callWith_type1 (a9 (ha pos pins s σ H _ I h) fun us s1 ⟨vs,H1,I1,r1,q1⟩ => ?_) hs rfl))
 obtain ⟨l,e,⟨xs,hq⟩,q⟩ := q1
 subst e
 cases r1 with
 | cons r rr =>
  cases rr
  cases r
  obtain ⟨its,rv,p1,hz⟩ := I1.list hq
  refine call_enumerate_list p1.isList fun h' he hit hsz hk => ?_
  refine wpAny_pyIter_enum (s := { s1 with heap := h' }) he ?_
  have I2 : aM X pins σ H1 { s1 with heap := h' } := I1.kept (t' := s1.toks) hk
  refine ⟨s1.heap.objs.size + 1,[s1.heap.objs.size + 1,s1.heap.objs.size],_,_,H1,rfl,I2,nR l _ _ (Nat.succ_ne_self _),⟨⟨_,by simpa using he⟩,hit⟩,fun b hb => ?_,q⟩
  have bl : s1.heap.objs.size ≤ b := by
   rcases List.mem_cons.mp hb with z | z
   ·rw [z]; exact Nat.le_succ _
   ·rw [List.mem_singleton.mp z]; exact Nat.le_refl _
  exact I1.fpOk bl (I1.hok.fresh bl)
theorem ee {K : PySem.W.Frag} {a : Addr} {xs : List V} {g : TG} {tb : TS} {D : Ends} {σ : St} {H : Hp} (Pv : Nat → St → Hp → Prop) (h0 : Pv 0 σ H) (hl : ∀ i σ H,i ≤ xs.length → Pv i σ H → az K H a xs)
  (hs : ∀ i x σ H (T : Addr),xs[i]? = some x → Pv i σ H → H T = none → g (.ref T) σ (aD H T (.tup [.int i,x])) fun σ2 H2 => tb { D with nx := Pv (i + 1),ct := Pv (i + 1),bk := D.nx } σ2 H2) (hd : ∀ σ H,Pv xs.length σ H → D.nx σ H) :
  ∃ W : Nat → Nat → St → Hp → Prop,(∃ m,W 0 m σ H) ∧ ∀ i m σ H,W i m σ H →
   ((uy K a).stop i H ∧ D.nx σ H) ∨ ((uy K a).go i H ∧ ∃ N : St → Hp → Prop,(∀ σ' H',N σ' H' → ∃ m',m' < m ∧ W (i + 1) m' σ' H') ∧ ∀ x H',(uy K a).yld i H x H' → g x σ H' fun σ2 H2 => tb { D with nx := N,ct := N,bk := D.nx } σ2 H2) := by
 refine ⟨fun i m σ H => m = xs.length - i ∧ i ≤ xs.length ∧ Pv i σ H,⟨xs.length,by simp,Nat.zero_le _,h0⟩,?_⟩
 rintro i m σ H ⟨rfl,hi,p⟩
 have q := hl i σ H hi p
 by_cases hlt : i < xs.length
 ·refine .inr ⟨⟨xs,xs[i],q,by simp [hlt]⟩,Pv (i + 1),fun σ' H' p' => ⟨xs.length - (i + 1),by omega,rfl,hlt,p'⟩,fun x H' y => ?_⟩
  obtain ⟨T,z,rfl,nT,hz,rfl⟩ := y
  exact hs i z σ H T (hz xs q) p nT
 ·have e : i = xs.length := by omega
  subst e
  exact .inl ⟨⟨xs,q,Nat.le_refl _⟩,hd σ H p⟩
def uA (K : PySem.W.Frag) (l1 l2 : Addr) : It :=
  ⟨fun i H => ∃ xs ys x y,az K H l1 xs ∧ az K H l2 ys ∧ xs[i]? = some x ∧ ys[i]? = some y,
   fun i H v H' => ∃ (T : Addr) (x y : V),v = .ref T ∧ H T = none ∧ (∀ xs,az K H l1 xs → xs[i]? = some x) ∧ (∀ ys,az K H l2 ys → ys[i]? = some y) ∧ H' = aD H T (.tup [x,y]),
   fun i H => ∃ xs ys,az K H l1 xs ∧ az K H l2 ys ∧ (xs.length ≤ i ∨ ys.length ≤ i)⟩
structure qb (h : Heap) (z TI TO i1 i2 l1 l2 : Addr) (i : Nat) : Prop where
 zip : IsZip h z TI TO .none
 ti : IsPair h TI (.ref i1) (.ref i2)
 to : ∃ a b,IsPair h TO a b
 it1 : h.IsListIter i1 l1 i
 it2 : h.IsListIter i2 l2 i
theorem fM {h : Heap} {l b : Addr} {its : Array Value} {o : Obj} {n : String} (hl : h.IsList l its) (e : h.get? b = some o) (c : o.cls = .type n) (ne : n ≠ "list") : l ≠ b := fun z => by
 obtain ⟨o',e',c',_⟩ := hl
 rw [z,e] at e'
 cases e'
 rw [c] at c'
 injection c' with c'
 exact ne c'
theorem qb.apart {h : Heap} {z TI TO i1 i2 l1 l2 : Addr} {i : Nat} {xs ys : Array Value} (st : qb h z TI TO i1 i2 l1 l2 i) (d : [z,TI,TO,i1,i2].Nodup) (h1 : h.IsList l1 xs) (h2 : h.IsList l2 ys) : ZipApart z TI TO i1 i2 l1 l2 := by
 obtain ⟨a,b,eto⟩ := st.to
 obtain ⟨o1,e1,c1,_⟩ := st.it1
 obtain ⟨o2,e2,c2,_⟩ := st.it2
 simp only [List.nodup_cons,List.mem_cons,List.not_mem_nil,or_false,not_or,List.nodup_nil,and_true] at d
 obtain ⟨⟨d1,d2,d3,d4⟩,⟨d5,d6,d7⟩,⟨d8,d9⟩,d10,_⟩ := d
 have lz : ∀ {l : Addr} {its : Array Value},h.IsList l its → l ≠ z ∧ l ≠ TI ∧ l ≠ TO ∧ l ≠ i1 ∧ l ≠ i2 := fun hl => ⟨fM hl st.zip rfl (by decide),fM hl st.ti rfl (by decide),fM hl eto rfl (by decide),fM hl e1 c1 (by decide),fM hl e2 c2 (by decide)⟩
 obtain ⟨p1,p2,p3,p4,p5⟩ := lz h1
 obtain ⟨q1,q2,q3,q4,q5⟩ := lz h2
 constructor <;> first | assumption | exact Ne.symm (by assumption)
theorem qc {P : Program} {w : World} {K : PySem.W.Frag} {elts : List Expr} {k : Nat} {pos : Pos} (l1 l2 z TI TO i1 i2 : Addr) (d : [z,TI,TO,i1,i2].Nodup) : Turn P w K (.Tuple elts k pos) (uA K l1 l2) [z,TI,TO,i1,i2] z (fun i h => qb h z TI TO i1 i2 l1 l2 i) where
 mem := by simp
 obj := fun i h st b hb => by
  obtain ⟨a,b',eto⟩ := st.to
  obtain ⟨o1,e1,c1,d1⟩ := st.it1
  obtain ⟨o2,e2,c2,d2⟩ := st.it2
  simp only [List.mem_cons,List.not_mem_nil,or_false] at hb
  rcases hb with q | q | q | q | q <;> subst q
  ·exact ⟨_,st.zip,fun v z => by cases z⟩
  ·exact ⟨_,st.ti,fun v z => by cases z⟩
  ·exact ⟨_,eto,fun v z => by cases z⟩
  ·exact ⟨o1,e1,fun v z => by rw [d1] at z; cases z⟩
  ·exact ⟨o2,e2,fun v z => by rw [d2] at z; cases z⟩
 keep := fun i h h' st k => ⟨k _ (by simp) _ st.zip,k _ (by simp) _ st.ti,let ⟨a,b,e⟩ := st.to; ⟨a,b,k _ (by simp) _ e⟩,st.it1.at fun o q => k _ (by simp) o q,st.it2.at fun o q => k _ (by simp) o q⟩
 item := by
  intro X hP hw hK hc i pins s σ H E I hf st hg
  subst hP hw hK
  obtain ⟨xs,ys,x,y,hq1,hq2,hx,hy⟩ := hg
  obtain ⟨is1,rv1,p1,hz1⟩ := I.list hq1
  obtain ⟨is2,rv2,p2,hz2⟩ := I.list hq2
  obtain ⟨u,hu,ru⟩ := rv1.get hx
  obtain ⟨v,hv,rv⟩ := rv2.get hy
  have ap := st.apart d p1.isList p2.isList
  obtain ⟨a,b,eto⟩ := st.to
  refine wpAny_pyNext_zip_item ap st.zip st.ti eto st.it1 st.it2 p1.isList p2.isList (x := u) (y := v) (by simpa using hu) (by simpa using hv) fun h1 ho hto hi1 hi2 hT hsz hk => ?_
  refine ⟨_,rfl,wpAny_letOwnedTupleGo_zip (s := { s with heap := h1 }) ho fun h2 hz2' hs2 => ?_⟩
  have nT : H s.heap.objs.size = none := I.hok.fresh (Nat.le_refl _)
  have lt : ∀ b ∈ [z,TI,TO,i1,i2],b < s.heap.objs.size := fun b hb => by
   obtain ⟨o1,e1,_⟩ := st.it1
   obtain ⟨o2,e2,_⟩ := st.it2
   simp only [List.mem_cons,List.not_mem_nil,or_false] at hb
   rcases hb with q | q | q | q | q <;> subst q
   ·exact Heap.lt_size st.zip
   ·exact Heap.lt_size st.ti
   ·exact Heap.lt_size eto
   ·exact Heap.lt_size e1
   ·exact Heap.lt_size e2
  have zl := lt z (by simp)
  have hT2 : IsPair h2 s.heap.objs.size u v := (hs2.2 _ (Nat.ne_of_gt zl)).trans hT
  have kp : ∀ b o,b ∉ [z,TI,TO,i1,i2] → s.heap.get? b = some o → h2.get? b = some o := fun b o hb q => by
   simp only [List.mem_cons,List.not_mem_nil,or_false,not_or] at hb
   exact (hs2.2 b hb.1).trans (hk b o hb.1 hb.2.2.1 hb.2.2.2.1 hb.2.2.2.2 q)
  have eti : h1.get? TI = some { cls := .type "tuple",data := .seq #[.ref i1,.ref i2] } := hk TI _ ap.TIz ap.TITO ap.TIi1 ap.TIi2 st.ti
  refine ⟨.ref s.heap.objs.size,aD H s.heap.objs.size (.tup [x,y]),I.turnedNew (t' := s.toks) (ch := [z,TI,TO,i1,i2]) hf kp (Nat.le_refl _) ⟨by show 2 ≤ sizeLine; decide,[u,v],.cons ru (.cons rv .nil),⟨_,hT2,rfl,0,rfl⟩⟩,rfl,
   ⟨_,x,y,rfl,nT,fun ys hy' => by rw [I.list_inj hy' hq1]; exact hx,fun ys hy' => by rw [I.list_inj hy' hq2]; exact hy,rfl⟩,⟨hz2',(hs2.2 _ ap.TIz).trans eti,⟨u,v,(hs2.2 _ ap.TOz).trans hto⟩,hi1.at fun o q => (hs2.2 _ ap.i1z).trans q,hi2.at fun o q => (hs2.2 _ ap.i2z).trans q⟩,fun b hb => ?_⟩
  rw [aA (Nat.ne_of_lt (lt b hb))]
  exact (hf b hb).1
 done := by
  intro X hP hw hK hc i pins s σ H E I hf st hg
  subst hP hw hK
  obtain ⟨xs,ys,hq1,hq2,hx⟩ := hg
  obtain ⟨is1,rv1,p1,hz1⟩ := I.list hq1
  obtain ⟨is2,rv2,p2,hz2⟩ := I.list hq2
  have ap := st.apart d p1.isList p2.isList
  obtain ⟨a,b,eto⟩ := st.to
  have e1 := rv1.length
  have e2 := rv2.length
  refine wpAny_pyNext_zip_end (I.ok.hd hc) ap st.zip st.ti eto st.it1 st.it2 p1.isList p2.isList (by rcases hx with q | q; exact .inl (by simp; omega); exact .inr (by simp; omega)) fun h' hk => ⟨rfl,I.turnedAll (t' := s.toks) (ch := [z,TI,TO,i1,i2]) hf fun b o hb q => ?_⟩
  simp only [List.mem_cons,List.not_mem_nil,or_false,not_or] at hb
  exact hk b o hb.1 hb.2.2.1 hb.2.2.2.1 hb.2.2.2.2 q
 self := fun _ _ _ _ _ st h => wpAny_pyIter_zip st.zip h
theorem sT (n : Nat) : [n + 4,n + 2,n + 3,n,n + 1].Nodup := by
 simp
def wM (K : PySem.W.Frag) (ta : TA) : TI := fun σ H R => ta σ H fun vs H1 => ∃ l1 l2 : Addr,vs = [.ref l1,.ref l2] ∧ (∃ xs,az K H1 l1 xs) ∧ (∃ ys,az K H1 l2 ys) ∧ R (uA K l1 l2) H1
theorem boot_zip : bootBuiltins "zip" = some (.type "zip") := by kernel_rfl
theorem sU {X : Cx} {a b : Expr} {ta : TA} {elts : List Expr} {k : Nat} {tp p pos : Pos} (hg : Gl X "zip") (hm : X.mg "zip" = none) (ha : PA X [a,b] ta) (hs : starEach [a,b] X.env = [(false,eval a X.env),(false,eval b X.env)] := by rfl) (hs2 : starEach [b] X.env = [(false,eval b X.env)] := by rfl) :
  PI X (.Tuple elts k tp) (.Call (.Name "zip" p) [a,b] [] pos) (wM X.K ta) := by
 intro pins s σ H R I h
 refine Call_ (cA I hg hm boot_zip (PyProof.Rows.callWith_type1 (a9 (ha pos pins s σ H _ I h) fun us s1 ⟨vs,H1,I1,r1,q1⟩ => ?_) (by rw [hs,hs2]) (by rw [hs2]; rfl)))
 obtain ⟨l1,l2,e,⟨xs,hq1⟩,⟨ys,hq2⟩,q⟩ := q1
 subst e
 cases r1 with
 | cons r rr =>
  cases rr with
  | cons r' rr =>
   cases rr
   cases r
   cases r'
   obtain ⟨is1,rv1,p1,hz1⟩ := I1.list hq1
   obtain ⟨is2,rv2,p2,hz2⟩ := I1.list hq2
   refine call_zip_2 p1.isList p2.isList fun h' hz hti hto hi1 hi2 hsz hk => ?_
   refine wpAny_pyIter_zip (s := { s1 with heap := h' }) hz ?_
   have I2 : aM X pins σ H1 { s1 with heap := h' } := I1.kept (t' := s1.toks) hk
   refine ⟨s1.heap.objs.size + 4,[s1.heap.objs.size + 4,s1.heap.objs.size + 2,s1.heap.objs.size + 3,s1.heap.objs.size,s1.heap.objs.size + 1],_,_,H1,rfl,I2,qc l1 l2 _ _ _ _ _ (sT _),⟨hz,hti,⟨_,_,hto⟩,hi1,hi2⟩,fun b hb => ?_,q⟩
   have bl : s1.heap.objs.size ≤ b := by
    simp only [List.mem_cons,List.not_mem_nil,or_false] at hb
    rcases hb with q | q | q | q | q <;> rw [q] <;> first | exact Nat.le_refl _ | exact Nat.le_add_right _ _
   exact I1.fpOk bl (I1.hok.fresh bl)
theorem rg {K : PySem.W.Frag} {l1 l2 : Addr} {xs ys : List V} {g : TG} {tb : TS} {D : Ends} {σ : St} {H : Hp} (Pv : Nat → St → Hp → Prop) (h0 : Pv 0 σ H) (hl : ∀ i σ H,i ≤ min xs.length ys.length → Pv i σ H → az K H l1 xs ∧ az K H l2 ys)
  (hs : ∀ i x y σ H (T : Addr),xs[i]? = some x → ys[i]? = some y → Pv i σ H → H T = none → g (.ref T) σ (aD H T (.tup [x,y])) fun σ2 H2 => tb { D with nx := Pv (i + 1),ct := Pv (i + 1),bk := D.nx } σ2 H2) (hd : ∀ σ H,Pv (min xs.length ys.length) σ H → D.nx σ H) :
  ∃ W : Nat → Nat → St → Hp → Prop,(∃ m,W 0 m σ H) ∧ ∀ i m σ H,W i m σ H →
   ((uA K l1 l2).stop i H ∧ D.nx σ H) ∨ ((uA K l1 l2).go i H ∧ ∃ N : St → Hp → Prop,(∀ σ' H',N σ' H' → ∃ m',m' < m ∧ W (i + 1) m' σ' H') ∧ ∀ x H',(uA K l1 l2).yld i H x H' → g x σ H' fun σ2 H2 => tb { D with nx := N,ct := N,bk := D.nx } σ2 H2) := by
 refine ⟨fun i m σ H => m = min xs.length ys.length - i ∧ i ≤ min xs.length ys.length ∧ Pv i σ H,⟨min xs.length ys.length,by simp,Nat.zero_le _,h0⟩,?_⟩
 rintro i m σ H ⟨rfl,hi,p⟩
 obtain ⟨q1,q2⟩ := hl i σ H hi p
 by_cases hlt : i < min xs.length ys.length
 ·refine .inr ⟨⟨xs,ys,xs[i]'(by omega),ys[i]'(by omega),q1,q2,List.getElem?_eq_getElem _,List.getElem?_eq_getElem _⟩,Pv (i + 1),fun σ' H' p' => ⟨min xs.length ys.length - (i + 1),by omega,rfl,by omega,p'⟩,fun x H' y => ?_⟩
  obtain ⟨T,a,b,rfl,nT,ha,hb,rfl⟩ := y
  exact hs i a b σ H T (ha xs q1) (hb ys q2) p nT
 ·have e : i = min xs.length ys.length := by omega
  subst e
  exact .inl ⟨⟨xs,ys,q1,q2,by omega⟩,hd σ H p⟩
section
variable {X : Cx}
theorem di : dW X (binaryOp .Mult) (rI (fun i j => IntMulOk i j) fun i j => .int (i * j)) := v6 fun _ _ _ _ _ _ _ hc q => mul_int q hc
theorem bH : dW X (binaryOp .FloorDiv) (rI (fun i j => j ≠ 0 ∧ Builtin.divisionGoesByPylong i j = false) fun i j => .int (i.fdiv j)) := v6 fun _ _ _ _ _ _ _ hc q => floordiv_int hc.1 q (.inl hc.2)
theorem fN : dW X (binaryOp .Pow) (rI (fun i j => 0 ≤ j ∧ (Builtin.Int.intBits i : Int) * j ≤ 2 ^ 27) fun i j => .int (i ^ j.toNat)) := v6 fun _ _ _ _ _ _ _ hc q => pow_int hc.1 hc.2 q
theorem kg : cu X (.builtin "isinstance") (fun xs H Q => ∃ i,xs = [.int i,.ty "int"] ∧ Q (.bl true) H) := by
 intro pins s σ H xs us Q I r h
 obtain ⟨i,rfl,q⟩ := h
 obtain ⟨u,w',rfl,⟨t,rfl⟩,e2⟩ := vals2 r
 cases e2
 exact PySem.call_isinstance (PySem.isinstance_true (Tx := "int") PySem.F.isi_meta_int PySem.F.isi_self_int) ⟨rfl,⟨.bl true,H,I,rfl,q⟩⟩
theorem jy : cu X (.builtin "isinstance") (fun xs H Q => ∃ i,xs = [.int i,.ty "bool"] ∧ Q (.bl false) H) := by
 intro pins s σ H xs us Q I r h
 obtain ⟨i,rfl,q⟩ := h
 obtain ⟨u,w',rfl,⟨t,rfl⟩,e2⟩ := vals2 r
 cases e2
 exact PySem.call_isinstance (PySem.isinstance_false_int (T := "bool") (by decide) PySem.F.isi_meta_bool PySem.F.sub_int_bool) ⟨.bl false,H,I.tok _,rfl,q⟩
theorem kh : cu X (.builtin "isinstance") (fun xs H Q => ∃ i,xs = [.bl i,.ty "bool"] ∧ Q (.bl true) H) := by
 intro pins s σ H xs us Q I r h
 obtain ⟨i,rfl,q⟩ := h
 obtain ⟨u,w',rfl,e1,e2⟩ := vals2 r
 cases e1
 cases e2
 exact PySem.call_isinstance (PySem.isinstance_true (Tx := "bool") PySem.F.isi_meta_bool PySem.F.isi_self_bool) ⟨rfl,⟨.bl true,H,I,rfl,q⟩⟩
theorem ki : cu X (.builtin "isinstance") (fun xs H Q => ∃ a ys,xs = [.ref a,.ty "tuple"] ∧ bc X.K H a ys ∧ Q (.bl true) H) := by
 intro pins s σ H xs us Q I r h
 obtain ⟨a,ys,rfl,hs,q⟩ := h
 obtain ⟨u,w',rfl,e1,e2⟩ := vals2 r
 cases e1
 cases e2
 obtain ⟨its,_,p1,_⟩ := I.tuple hs
 exact PySem.call_isinstance (PySem.isinstance_true (Tx := "tuple") PySem.F.isi_meta_tuple PySem.F.isi_self_tuple) ⟨p1.typeIs,⟨.bl true,H,I,rfl,q⟩⟩
end
end L2
namespace Sw
open PySem
end Sw
namespace L2
open PySem
inductive uB (K : PySem.W.Frag) (H : Hp) : V → String → Bool → Prop where
 | ii (i : Int) : uB K H (.int i) "int" true
 | ib (i : Int) : uB K H (.int i) "bool" false
 | bb (b : Bool) : uB K H (.bl b) "bool" true
 | tt (a : Addr) (ys : List V) (h : bc K H a ys) : uB K H (.ref a) "tuple" true
theorem qd {X : Cx} : cu X (.builtin "isinstance") (fun xs H Q => ∃ x T b,xs = [x,.ty T] ∧ uB X.K H x T b ∧ Q (.bl b) H) := by
 intro pins s σ H xs us Q I r h
 obtain ⟨x,T,b,rfl,i,q⟩ := h
 cases i with
 | ii i => exact kg pins s σ H _ us Q I r ⟨i,rfl,q⟩
 | ib i => exact jy pins s σ H _ us Q I r ⟨i,rfl,q⟩
 | bb i => exact kh pins s σ H _ us Q I r ⟨i,rfl,q⟩
 | tt a ys h => exact ki pins s σ H _ us Q I r ⟨a,ys,rfl,h,q⟩
end L2
namespace Sw
open PySem L2
theorem dT {p A B : Prop} [Decidable p] (h : p) (a : A) : if decide p = true then A else B := by rw [if_pos (decide_eq_true h)]; exact a
theorem dF {p A B : Prop} [Decidable p] (h : ¬ p) (b : B) : if decide p = true then A else B := by rw [if_neg (by simp [h])]; exact b
theorem d2 {p A B : Prop} [Decidable p] (h1 : p → A) (h2 : ¬ p → B) : if decide p = true then A else B := by
 by_cases h : p
 ·exact dT h (h1 h)
 ·exact dF h (h2 h)
theorem nT {p A B : Prop} [Decidable p] (h : ¬ p) (a : A) : if (!decide p) = true then A else B := by rw [if_pos (by simp [h])]; exact a
theorem nF {p A B : Prop} [Decidable p] (h : p) (b : B) : if (!decide p) = true then A else B := by rw [if_neg (by simp [h])]; exact b
theorem vi {a b : Int} (h : a = b) : V.int a = V.int b := by rw [h]
theorem vj {a b : Int} (h : V.int a = V.int b) : a = b := by cases h; rfl
theorem xt {a b : Int} {A B : Prop} (h1 : a ≠ b → A) (h2 : a = b → B) : if (!decide (V.int a = V.int b)) = true then A else B := by
 by_cases h : a = b
 ·exact nF (vi h) (h2 h)
 ·exact nT (fun e => h (vj e)) (h1 h)
theorem xG {a b : Int} {A B : Prop} (h : a ≠ b) (x : B) : if decide (V.int a = V.int b) = true then A else B := dF (fun e => h (vj e)) x
theorem v7 {a b : Int} {A B : Prop} (h : a = b) (x : B) : if (!decide (V.int a = V.int b)) = true then A else B := nF (vi h) x
section
variable {X : Cx} {k j : Nat} {x : Str} {ps : List Str} {sp : Sp} {p pos : Pos} {e : Expr} {es : List Expr} {t : TA}
end
def jz (K : PySem.W.Frag) : Sp := fun vs H Q _ => ∃ (a : Addr) (ns : List Int) (k : Int),vs = [.ref a,.int k] ∧ az K H a (ns.map V.int) ∧ 0 ≤ k ∧ ∀ v : Int,Q (.int v) H
def mO (K : PySem.W.Frag) : Sp := fun vs H Q _ => ∃ (a : Addr) (ns : List Int),vs = [.ref a] ∧ az K H a (ns.map V.int) ∧ ns.length ≤ 63 ∧ ∀ H',Q (.bl true) H'
theorem rh {ns : List Int} {k : Int} (h0 : 0 ≤ k) (h : k < (((ns.map V.int).length : Nat) : Int)) : ∃ v : Int,fb (ns.map V.int) k = some (.int v) := by
 rw [List.length_map] at h
 have hk : k.toNat < ns.length := by omega
 have ek : k = ((k.toNat : Nat) : Int) := by omega
 have q : fb (ns.map V.int) ((k.toNat : Nat) : Int) = some (.int ns[k.toNat]) := aL (by rw [List.getElem?_map,List.getElem?_eq_getElem hk] <;> rfl)
 rw [← ek] at q
 exact ⟨_,q⟩
theorem cut {t u : TS} {D : Ends} {σ : L2.St} {H : Hp} (I : L2.St → Hp → Prop) (h1 : ∀ N : L2.St → Hp → Prop,(∀ σ H,I σ H → N σ H) → t { D with nx := N } σ H) (h2 : ∀ σ H,I σ H → u D σ H) : sC t u D σ H := h1 _ h2
theorem ag {H : Hp} {p : Addr} (h : H p = none) (o : HO) : aB H (aD H p o) := fun b u q => by rw [aA (cr q h)]; exact q
structure bL (K : PySem.W.Frag) (x qual : Str) (st : Stmt) (dV : Value) (f : Addr) (fd : FuncData) : Prop where
 ex : ∃ (oc : Value) (od : Option Addr) (kV doc pm : Value) (an : Option Addr) (cdv ct : Value) (osl : Array (Option Value)),
  fd = PySem.W.fnOf x qual (aK st) (aJ st) (ak st) dV kV doc pm an cdv ct ∧ K.lookup f = some ⟨oc,od,.func fd,osl⟩ ∧ PySem.W.codeIn K cdv qual = true
 kp : PySem.W.keepIn K (.ref f) = true
section
variable {P : Program} {w : World} {K : PySem.W.Frag} {mg : Str → Option Value} {base : Heap}
theorem bL.ok {x qual : Str} {st : Stmt} {dV : Value} {f : Addr} {fd : FuncData} {N ps : List Str} {k : Nat} {sp : Sp} (F : bL K x qual st dV f fd) (S : aN N ps (ak st)) (len : ∀ vs H Q E,sp vs H Q E → vs.length = ps.length)
  (hbody : ∀ (cdv : Value) (A : Around) (outer : List Env) (s : Shared) (H : Hp) (vs : List V) (Q : VK) (E : XK),cJ k (A.deeper (PyProof.Rows.envOfC qual (ak st) s.heap.objs.size f cdv)) → sp vs H Q E →
   ∃ t,pC (nK bj P w K mg base N qual (ak st) f cdv A outer s H E).nox (aJ st) t ∧ t { nx := fun _ H' => Q .non H',rt := Q } (start N vs) H) : bG P w K mg base bj (k + 1) f fd ps sp := by
 obtain ⟨oc,od,kV,doc,pm,an,cdv,ct,osl,rfl,lk,hcd⟩ := F.ex
 refine uo lk hcd S len fun A outer s H vs Q E hr hsp => ?_
 obtain ⟨t,h,q⟩ := hbody cdv A outer s H vs Q E hr hsp
 exact ⟨t,h.nox,q⟩
theorem bL.binds {x qual : Str} {st : Stmt} {T : Addr} {f : Addr} {fd : FuncData} {ps : List Str} {o : Obj} {items : Array Value} {n : Nat} {ds : List Value} (F : bL K x qual st (.ref T) f fd) (ho : K.lookup T = some o) (hs : o.data = .seq items n)
  (h : ∀ (kV doc pm : Value) (an : Option Addr) (cdv ct : Value) (us : List Value),(us ++ ds).length = ps.length → ∃ k : Option (Array Value) → Sem (List (Str × Value)),bindArgs (PySem.W.fnOf x qual (aK st) (aJ st) (ak st) (.ref T) kV doc pm an cdv ct) ⟨us,[]⟩ = seqItems? (.ref T) >>= k ∧ k (some items) = pure (ps.zip (us ++ ds))) : Binds K fd ps ds := by
 obtain ⟨oc,od,kV,doc,pm,an,cdv,ct,osl,rfl,lk,hcd⟩ := F.ex
 intro s us KX hl
 obtain ⟨k,h1,h2⟩ := h kV doc pm an cdv ct us hl
 exact PySem.W.binds_K KX rfl ho hs h1 h2
theorem bL.binds0 {x qual : Str} {st : Stmt} {dV : Value} {f : Addr} {fd : FuncData} {ps : List Str} (F : bL K x qual st dV f fd)
  (h : ∀ (kV doc pm : Value) (an : Option Addr) (cdv ct : Value) (us : List Value),us.length = ps.length → bindArgs (PySem.W.fnOf x qual (aK st) (aJ st) (ak st) dV kV doc pm an cdv ct) ⟨us,[]⟩ = pure (ps.zip us)) : Binds K fd ps [] := by
 obtain ⟨oc,od,kV,doc,pm,an,cdv,ct,osl,rfl,lk,hcd⟩ := F.ex
 exact .all (h kV doc pm an cdv ct)
theorem aP {x qual : Str} {st : Stmt} {f : Addr} {oc dV : Value} {od an : Option Addr} {osl : Array (Option Value)} {kV doc pm cdv ct : Value} (l : K.lookup f = some ⟨oc,od,.func (PySem.W.fnOf x qual (aK st) (aJ st) (ak st) dV kV doc pm an cdv ct),osl⟩)
  (c : PySem.W.codeIn K cdv qual = true) (k : PySem.W.keepIn K (.ref f) = true) : bL K x qual st dV f (PySem.W.fnOf x qual (aK st) (aJ st) (ak st) dV kV doc pm an cdv ct) := ⟨⟨oc,od,kV,doc,pm,an,cdv,ct,osl,rfl,l,c⟩,k⟩
end
section
variable {X : Cx} {k j : Nat} {x : Str} {ps : List Str} {sp : Sp} {p pos : Pos} {e : Expr} {es : List Expr} {t : TA} {dvs : List V}
end
end Sw
namespace XH
open PySem
section
variable {M : Model} {A : Around} {E : Value → Shared → Prop} {s : Shared}
end
end XH
namespace L2
open PySem PySem.Spec PyProof.Rows XH
section
variable {P : Program} {w : World} {H H' : Hp} {h h' h0 : Heap} {fs ch : List Addr} {a : Addr} {o : HO}
end
section
variable {P : Program} {w : World} {H H' : Hp} {s s' : Shared} {a L : Addr} {cls v : Value} {dx : Option Addr} {st : XSt} {env : Env} {outer : List Env} {base : Heap} {M : Model} {A : Around} {Z : Value → Shared → Prop} {Q : Unit → Shared → Prop}
end
section
variable {X : Cx} {k : Nat} {f C : Addr} {fd : FuncData} {ps : List Str} {sp : Sp} {dvs : List V} {ds : List Value} {E : St → XK} {x m : Str} {p pos apos : Pos} {e o : Expr} {es : List Expr} {ta : TE} {t : TA}
end
section
variable {P : Program} {w : World} {K : PySem.W.Frag} {mg : Str → Option Value} {base : Heap}
end
def uC (n : Bool) (a : Addr) (cls : Value) (dx : Option Addr) : HO := .ext fun h => ∃ ox vs,h.get? a = some ox ∧ ox.cls = cls ∧ ox.dict = dx ∧ ox.data = .fields vs ∧ vs[2]? = some .none ∧ (n = true → 1 < vs.size ∧ vs[1]? = some .none)
section
variable {X : Cx} {pins : List (Addr × Obj)} {σ : St} {H H' : Hp} {s s' : Shared}
end
section
variable {X : Cx} {body : List Stmt} {h₀ : ExceptHandler} {hs : List ExceptHandler} {pos : Pos} {th : TH}
end
section
variable {prog : Program} {w : World} {A : Around} {E : Value → Shared → Prop} {K : PySem.W.Frag} {h : Heap} {g : Array GenState} {d : Drawn} {t : Nat} {os : OsState} {x C : Addr} {ox : Obj} {od : Option Obj} {name : Str}
end
section
variable {prog : Program} {w : World} {A : Around} {E : Value → Shared → Prop} {K : PySem.W.Frag}
end
section
variable {X : Cx} {x n : Str} {np pos : Pos} {b0 : Stmt} {suite : List Stmt} {rest : List ExceptHandler} {i : Nat} {C' : Addr} {t : TS} {th : TH}
end
section
variable {X : Cx} {x : Str} {np cpos pos : Pos} {e₀ : Expr} {rest : List Expr} {C : Addr} {t : TA} {E : St → XK}
end
abbrev Cx.block (X : Cx) (scope : Scope) (cl : List (Str × Addr)) (C : Addr) (N : List Str) (own : Str) (fp : List Addr) (s : Shared) (H : Hp) : Cx :=
 { X with env := compEnvC scope cl C X.env,N := N,s₀ := s,H₀ := H,outer := X.stack,stack := X.stack,ex := fp,fn := fun y => y == own,pn := [],xe := fun _ _ => False }
structure eh (X : Cx) (scope : Scope) (cl : List (Str × Addr)) (own : Str) (ys : List Str) (js : List Nat) : Prop where
 clos : closureFor scope X.env = pure cl
 nocell : (scope.names.all fun p => !(p.2 == .cell)) = true
 kind : scope.kind = .function
 loc : (scope.names.all fun p => !(p.2 == .local) || scope.names.lookup p.1 == some .local) = true
 ownL : scope.names.lookup own = some .local
 sub : ∀ p ∈ cl,X.env.cells.lookup p.1 = some p.2
 has : ((relabel scope X.env).names.all fun p => !(p.2 == .cell || p.2 == .free) || (cl.lookup p.1).isSome) = true
 noown : cl.lookup own = none
 nd : (own :: ys).Nodup
 at_ : ∀ (i : Nat) (y : Str),ys[i]? = some y → ∃ j : Nat,js[i]? = some j ∧ X.N[j]? = some y ∧ (X.env.scope.names.lookup y = some .cell ∨ X.env.scope.names.lookup y = some .free) ∧ ((relabel scope X.env).names.lookup y = some .cell ∨ (relabel scope X.env).names.lookup y = some .free)
 len : js.length = ys.length
def aS (js : List Nat) (σ : St) : St := js.map fun j => (σ[j]?).getD none
def mP (js : List Nat) (te : TE) (σ : St) (Q : VK) : It → Hp → Prop := fun J H1 => ∀ p,H1 p = none → ∃ W : Nat → Nat → List V → Hp → Prop,(∃ m,W 0 m [] (aD H1 p (.lst []))) ∧
 ∀ i m ys H2,W i m ys H2 → H2 p = some (.lst ys) ∧ ((J.stop i H2 ∧ Q (.ref p) H2) ∨ (J.go i H2 ∧ ys.length < sizeLine ∧ ∀ x H3,J.yld i H2 x H3 → te (some x :: aS js σ) H3 fun y H4 => H4 p = some (.lst ys) ∧ ∃ m',m' < m ∧ W (i + 1) m' (ys ++ [y]) (aD H4 p (.lst (ys ++ [y])))))
def mQ (wi : TI) (js : List Nat) (te : TE) : TE := fun σ H Q => wi σ H (mP js te σ Q)
theorem lookup_all {α : Type} {f : Str × α → Bool} {x : Str} {a : α} : ∀ {l : List (Str × α)},l.all f = true → l.lookup x = some a → f (x,a) = true := by
 intro l h e
 exact List.all_eq_true.mp h _ (PySem.mem_of_lookup e)
section
variable {prog : Program} {w : World} {A : Around} {R : Result → Shared → Prop} {s : Shared}
theorem cW {elt target iter : Expr} {scope : Scope} {pos : Pos} {it acc : Value} {env : Env} (I : Nat → Shared → Prop)
  (turn : ∀ n s,I n s → wpAny (model prog w) A (pyNext it) (fun r s1 => match r with
   | none => R (.ok .next) s1
   | some v => wpAny (model prog w) A (letOwnedTupleGo target it v) (fun _ s2 => wpAny (model prog w) A (assign target env v) (fun _ s3 => wpAny (model prog w) A (eval elt env) (fun x s4 =>
     wpAny (model prog w) A (call (.builtin "list.append") [acc,x]) (fun _ s5 => ∃ m,m < n ∧ I m s5) (fun _ _ => False) s4) (fun _ _ => False) s3) (fun _ _ => False) s2) (fun _ _ => False) s1) (fun _ _ => False) s)
  (n : Nat) (h : I n s) : codeAny (model prog w) A (.compLoop (.ListComp elt [⟨target,iter,[],0⟩] scope pos) 0 it acc env) R s := by
 apply codeAny_loop rfl I ?_ n h
 intro n s hI
 show wpAny _ _ ((compTurn (.ListComp elt [⟨target,iter,[],0⟩] scope pos) 0 it acc env).onRaise _) _ _ s
 apply wpAny_noted
 rw [compTurn_list1]
 apply wpAny_bind
 apply wpAny_standAt
 apply wpAny_bind
 refine wpAny_mono (turn n s hI) (fun r s1 h1 => ?_) fun _ _ z => z.elim
 cases r with
 | none => exact wpAny_pure h1
 | some v =>
  apply wpAny_bind
  refine wpAny_mono h1 (fun _ s2 h2 => ?_) fun _ _ z => z.elim
  apply wpAny_bind
  refine wpAny_mono h2 (fun _ s3 h3 => ?_) fun _ _ z => z.elim
  apply wpAny_bind
  apply wpAny_bind
  refine wpAny_mono h3 (fun x s4 h4 => ?_) fun _ _ z => z.elim
  apply wpAny_bind
  refine wpAny_mono h4 (fun _ s5 h5 => ?_) fun _ _ z => z.elim
  exact wpAny_pure (wpAny_pure ⟨rfl,h5⟩)
end
section
variable {X : Cx} {scope : Scope} {cl : List (Str × Addr)} {own : Str} {ys : List Str} {js : List Nat} {fp : List Addr} {pins : List (Addr × Obj)} {σ : St} {H : Hp} {s s4 : Shared}
theorem cw {h1 : Heap} (ok : eh X scope cl own ys js) (I : aM X pins σ H s) (hf : ∀ b ∈ fp,cT X pins H b) (hlt : ∀ b ∈ fp,b < s.heap.objs.size) (hns : h1.Ns s.heap.objs.size (fun _ => none))
  (hk : ∀ b o,s.heap.get? b = some o → h1.get? b = some o) (tk : Nat) :
  aM (X.block scope cl s.heap.objs.size (own :: ys) own fp s H) [] (none :: aS js σ) H { s with heap := h1,toks := tk } := by
 have sub : ∀ y c,cl.lookup y = some c → X.env.cells.lookup y = some c := fun y c e => ok.sub (y,c) (PySem.mem_of_lookup e)
 refine ⟨⟨I.ok.mod,ok.kind,I.ok.glob,I.ok.blt,Nat.le_refl _,fun x y c e1 e2 => I.ok.inj x y c (sub x c e1) (sub y c e2),fun x hx => ?_,fun x c e1 e2 => ?_,I.ok.hd,I.ok.frames,.inl rfl,fun b hb => ⟨Nat.ne_of_lt (hlt b hb),fun x c e => (hf b hb).2.2.2.2.1 x c (sub x c e)⟩,
  I.bs,Nat.le_trans I.ok.bsz I.sz,fun b o e hb => ?_,fun b hb z => ?_,I.stack,I.stkFree⟩,rfl,I.bare,Un.kept hk,⟨_,hns,fun i y v e1 e2 e3 => ?_⟩,fun y c e => ?_,I.hok.fresh (Nat.le_refl _),fun y c e => I.freeC y c (sub y c e),fun p hp => absurd (show p ∈ ([] : List (Addr × Obj)) from hp) (by simp),I.hok.kept hk,?_⟩
 ·have hx' : (relabel scope X.env).names.lookup x = some .cell ∨ (relabel scope X.env).names.lookup x = some .free := hx
  rcases hx' with z | z
  ·have q := lookup_all ok.has z
   simp only [beq_self_eq_true,Bool.true_or,Bool.not_true,Bool.false_or] at q
   exact Option.isSome_iff_exists.mp q
  ·have q := lookup_all ok.has z
   simp only [beq_self_eq_true,Bool.or_true,Bool.not_true,Bool.false_or] at q
   exact Option.isSome_iff_exists.mp q
 ·have e1' : (x == own) = true := e1
  have e : x = own := beq_iff_eq.mp e1'
  have e2' : cl.lookup x = some c := e2
  rw [e,ok.noown] at e2'
  cases e2'
 ·rcases (hf b hb).2.2.2.1 with z | z
  ·exact I.ok.noex b o e z
  ·exact absurd (Nat.lt_of_lt_of_le (Heap.lt_size (I.ok.bs b o e).1) z) (Nat.lt_irrefl _)
 ·rcases List.mem_cons.mp (I.stkSub b z) with q | q
  ·exact (hf b hb).2.1 q
  ·exact (hf b hb).2.2.1 q
 ·cases i with
  | zero => cases e2
  | succ i =>
   have e1' : ys[i]? = some y := e1
   obtain ⟨j,hj,hN,hX,hc⟩ := ok.at_ i y e1'
   have e2' : (aS js σ)[i]? = some (some v) := e2
   unfold aS at e2'
   rw [List.getElem?_map,hj] at e2'
   have hs : σ[j]? = some (some v) := by
    cases q : σ[j]? with
    | none => rw [Option.map_some,q] at e2'; cases e2'
    | some o => rw [Option.map_some,q] at e2'; exact e2'
   obtain ⟨m,hn,hl⟩ := I.loc
   obtain ⟨u,r,l⟩ := hl j y v hN hs (hX.elim (fun z => .inr (.inl z)) fun z => .inr (.inr z))
   refine ⟨u,r,.inr ⟨hc,?_⟩⟩
   rcases l with ⟨k,_⟩ | ⟨k,c,hcl,hcell⟩
   ·have k' : X.env.scope.names.lookup y = some .local := k
    rcases hX with z | z <;> (rw [z] at k'; cases k')
   ·have ex : ∃ c',cl.lookup y = some c' := by
     rcases hc with z | z
     ·have q := lookup_all ok.has z
      simp only [beq_self_eq_true,Bool.true_or,Bool.not_true,Bool.false_or] at q
      exact Option.isSome_iff_exists.mp q
     ·have q := lookup_all ok.has z
      simp only [beq_self_eq_true,Bool.or_true,Bool.not_true,Bool.false_or] at q
      exact Option.isSome_iff_exists.mp q
    obtain ⟨c',hc'⟩ := ex
    have e := sub y c' hc'
    rw [hcl] at e
    cases e
    obtain ⟨oc,hoc,hd⟩ := hcell
    exact ⟨c,hc',oc,hk _ _ hoc,hd⟩
 ·obtain ⟨v,oc,hoc,hd⟩ := I.cell y c (sub y c e)
  exact ⟨v,oc,hk _ _ hoc,hd⟩
 ·show (none :: aS js σ).length = (own :: ys).length
  simp [aS,ok.len]
theorem c5 {H' : Hp} {h' : Heap} {σ' : St} (I : aM X pins σ H s) (hf : ∀ b ∈ fp,cT X pins H b) (J : aM (X.block scope cl s.heap.objs.size (own :: ys) own fp s H) [] σ' H' s4) (hs : Heap.SameBut s.heap.objs.size s4.heap h') :
  aM X pins σ H' { s4 with heap := h' } := by
 have low : ∀ b o,s.heap.get? b = some o → b ≠ s.heap.objs.size := fun b o e => Nat.ne_of_lt (Heap.lt_size e)
 have B := J.base
 have u : Un (pA X.stack) fp H H' s.heap h' := {
  keep := fun b o q n hb hx => (hs.2 b (low b o q)).trans (B.keep b o q n hb hx)
  slot := fun b o q n hb hx => by
   obtain ⟨sl,e⟩ := B.slot b o q n hb hx
   exact ⟨sl,(hs.2 b (low b o q)).trans e⟩
  free := B.free
  there := fun b o q hx => by
   obtain ⟨o',e⟩ := B.there b o q hx
   exact ⟨o',(hs.2 b (low b o q)).trans e⟩
  tups := B.tups
  frzs := B.frzs
  tbls := B.tbls }
 have hn : H' s.heap.objs.size = none := J.free
 have hk : fj X.prog X.w H' h' := fun a o e => (J.hok a o e).stay (fun b v hb q => (hs.2 b (by
  intro z
  rcases hb with z' | z'
  ·rw [← z',z,hn] at e; cases e
  ·rw [z,hn] at z'; cases z')).trans q) (fun _ q => q) fun _ _ q => q
 exact I.call' (s' := { s4 with heap := h' }) (ch := fp) J.os u hk J.bare fun b hb => ⟨(hf b hb).2.2.2.1,(hf b hb).2.1,(hf b hb).2.2.2.2.1,(hf b hb).2.2.2.2.2⟩
end
section
variable {X : Cx} {scope : Scope} {cl : List (Str × Addr)} {own : Str} {ys : List Str} {js : List Nat} {elt iter : Expr} {px pos : Pos} {wi : TI} {te : TE}
theorem dL (hc : X.calm = true) (ok : eh X scope cl own ys js) (hi : PI X (.Name own px) iter wi)
  (he : ∀ (C : Addr) (fp : List Addr) (s : Shared) (H : Hp),PE (X.block scope cl C (own :: ys) own fp s H) elt te)
  (hs : ∀ x,foldedSetIterable iter X.env x = pure x := by intro _; rfl) : PE X (.ListComp elt [⟨.Name own px,iter,[],0⟩] scope pos) (mQ wi js te) := by
 intro pins s σ H Q I h
 rw [eval_ListComp]
 have ncell : ∀ y ∈ scope.names,y.2 ≠ .cell := fun y hy z => by
  have q := List.all_eq_true.mp ok.nocell y hy
  rw [z] at q
  simp at q
 have nloc : ∀ y ∈ scope.names,y.2 = .local → scope.names.lookup y.1 = some .local := fun y hy z => by
  have q := List.all_eq_true.mp ok.loc y hy
  rw [z] at q
  simpa using q
 refine wpAny_comprehension_free (use := none) rfl hs ok.clos ok.kind nloc (a9 (hi pins s σ H _ I h) fun v s1 h1 => a9 h1 fun itv s2 h2 => ?_)
 obtain ⟨it,fp,tn,J,H2,rfl,I2,T,st2,f2,q2⟩ := h2
 obtain ⟨W,⟨m0,w0⟩,turn⟩ := q2 s2.heap.objs.size (I2.hok.fresh (Nat.le_refl _))
 refine wpAny_newObj_type (wpAny_newFunctionEnv ncell (by intro y hy; simp at hy) (fun h1 hns hsb => ?_) ok.kind)
 have I3 := I2.laid (a := s2.heap.objs.size) (o := .lst []) (h' := s2.heap.push { cls := .type "list",dict := none,data := .seq ([] : List Value).toArray }) (t' := s2.toks) (fun b u q => Heap.get?_push_of_some _ q) (Nat.le_refl _)
  ⟨Nat.zero_le _,[],0,.nil,Heap.get?_push_size _ rfl⟩
 have fpo : ∀ b ∈ fp,b < s2.heap.objs.size := fun b hb => by
  obtain ⟨o,e,_⟩ := T.obj 0 _ st2 b hb
  exact Heap.lt_size e
 have f3 : ∀ b ∈ fp,cT X pins (aD H2 s2.heap.objs.size (.lst [])) b := fun b hb => ⟨by rw [aA (Nat.ne_of_lt (fpo b hb))]; exact (f2 b hb).1,(f2 b hb).2⟩
 generalize hs3 : ({ s2 with heap := s2.heap.push { cls := .type "list",dict := none,data := .seq ([] : List Value).toArray },toks := s2.toks } : Shared) = s3 at I3
 have e3 : s3.heap = s2.heap.push { cls := .type "list",dict := none,data := .seq ([] : List Value).toArray } := by rw [← hs3]
 have lt3 : ∀ b ∈ fp,b < s3.heap.objs.size := fun b hb => by rw [e3,Heap.size_push]; exact Nat.lt_succ_of_lt (fpo b hb)
 dsimp only at hns hsb ⊢
 rw [← e3] at hns hsb
 have hk : ∀ b o,s3.heap.get? b = some o → h1.get? b = some o := fun b o e => hsb.extBut b o (Nat.ne_of_lt (Heap.lt_size e)) (Heap.get?_push_of_some _ e)
 have J0 := cw (h1 := h1) ok I3 f3 lt3 hns hk (s2.toks + 0)
 have t0 : tn 0 h1 := T.keep 0 _ _ st2 fun b hb o e => hk b o (by rw [e3]; exact Heap.get?_push_of_some _ e)
 have fpB : ∀ {H' : Hp},(∀ b ∈ fp,H' b = none) → ∀ b ∈ fp,cT (X.block scope cl s3.heap.objs.size (own :: ys) own fp s3 (aD H2 s2.heap.objs.size (.lst []))) [] H' b := fun {H'} hn b hb =>
  ⟨hn b hb,Nat.ne_of_lt (lt3 b hb),fun z => (List.mem_cons.mp (I3.stkSub b z)).elim (f3 b hb).2.1 (f3 b hb).2.2.1,.inl hb,fun x c e => (f3 b hb).2.2.2.2.1 x c (ok.sub (x,c) (PySem.mem_of_lookup e)),fun p hp => absurd (show p ∈ ([] : List (Addr × Obj)) from hp) (by simp)⟩
 have loop : codeAny (model X.prog X.w) X.A (.compLoop (.ListComp elt [⟨.Name own px,iter,[],0⟩] scope pos) 0 (.ref it) (.ref s2.heap.objs.size) (compEnvC scope cl s3.heap.objs.size X.env))
   (compPost (model X.prog X.w) X.A X.xe none (EP X pins σ Q) (.ref s2.heap.objs.size) s3.heap.objs.size) { s3 with heap := h1,toks := s2.toks + 0 } := by
  refine cW (fun n s' => ∃ i zs o0 H',aM (X.block scope cl s3.heap.objs.size (own :: ys) own fp s3 (aD H2 s2.heap.objs.size (.lst []))) [] (o0 :: aS js σ) H' s' ∧ tn i s'.heap ∧ (∀ b ∈ fp,H' b = none) ∧ W i n zs H') ?_ m0
   ⟨0,[],none,_,J0,t0,fun b hb => (f3 b hb).1,w0⟩
  rintro n s5 ⟨i,zs,o0,H5,I5,t5,n5,w5⟩
  obtain ⟨hD,hw⟩ := turn i n zs H5 w5
  rcases hw with ⟨stop,qn⟩ | ⟨go,hz,step⟩
  ·refine a9 (T.done (X.block scope cl s3.heap.objs.size (own :: ys) own fp s3 (aD H2 s2.heap.objs.size (.lst []))) rfl rfl rfl hc i [] s5 _ H5 (fun _ _ => False) I5 (fpB n5) t5 stop) fun r s6 ⟨hr,I6⟩ => ?_
   subst hr
   obtain ⟨m,hn,_⟩ := id I6.loc
   exact ⟨m,hn,fun h' hs' => ⟨V.ref s2.heap.objs.size,H5,c5 I3 f3 I6 hs',rfl,qn⟩⟩
  ·refine a9 (T.item (X.block scope cl s3.heap.objs.size (own :: ys) own fp s3 (aD H2 s2.heap.objs.size (.lst []))) rfl rfl rfl hc i [] s5 _ H5 (fun _ _ => False) I5 (fpB n5) t5 go) fun r s6 ⟨u,hr,h6⟩ => ?_
   subst hr
   refine a9 h6 fun _ s7 ⟨x,H7,I7,r7,y7,t7,n7⟩ => ?_
   have I7' := I7.pinned (fpB n7) (T.obj _ _ t7)
   have hst := step x H7 y7
   have own' : (relabel scope X.env).names.lookup own = some .local := lookup_relabel_local ok.ownL
   refine a9 (ay (X := X.block scope cl s3.heap.objs.size (own :: ys) own fp s3 (aD H2 s2.heap.objs.size (.lst []))) (i := 0) (x := own) (pos := px) ok.nd rfl (.inl own') (.inr own') _ s7 _ H7 x u (fun σ' H' => σ' = some x :: aS js σ ∧ H' = H7) I7' r7 ⟨rfl,rfl⟩) fun _ s8 ⟨σ8,H8,I8,e8,eH8⟩ => ?_
   subst e8 eH8
   refine a9 (he _ _ _ _ _ s8 _ H8 _ I8 hst) fun yv s9 ⟨y,H9,I9,r9,hD9,m',hm,w9⟩ => ?_
   refine a9 (aW _ s9 _ H9 (.ref s2.heap.objs.size) [y] (.ref s2.heap.objs.size) [yv] (fun _ H' => H' = aD H9 s2.heap.objs.size (.lst (zs ++ [y]))) I9 rfl (.cons r9 .nil) ⟨_,zs,y,rfl,rfl,hD9,hz,rfl⟩) fun _ s10 ⟨_,H10,I10,_,e10⟩ => ?_
   subst e10
   refine ⟨m',hm,i + 1,zs ++ [y],some x,_,I10.unpinned,T.keep _ _ _ t7 fun b hb o e => (I10.pin (b,o) (List.mem_append_right _ (List.mem_append_right _ (bv hb e)))).1,fun b hb => ?_,w9⟩
   obtain ⟨o,e,d⟩ := T.obj _ _ t7 b hb
   exact (I10.pin (b,o) (List.mem_append_right _ (List.mem_append_right _ (bv hb e)))).2.1
 subst hs3
 exact codeAny_compStart_list loop (T.self _ 0 _ _ _ t0 loop)
end
open PySem.Builtin PySem.Builtin.ObjectAttr
section
variable {prog : Program} {w : World} {A : Around} {E : Value → Shared → Prop} {s : Shared} {K : PySem.W.Frag} {x C S : Addr} {ox : Obj} {od : Option Obj} {name : Str} {v : Value}
end
section
variable {X : Cx} {o value : Expr} {f : Str} {pos pos' : Pos} {ta tv : TE}
end
section
variable {X : Cx} {o e value : Expr} {f : Str} {pos pos' : Pos} {ta tv : TE}
end
section
variable {prog : Program} {w : World} {A : Around} {E : Value → Shared → Prop} {h : Heap} {g : Array GenState} {d : Drawn} {t : Nat} {os : OsState}
variable {nm q : Str} {C N : Addr} {bs bm : List Value} {hdct : Bool} {sn : List Str} {sub : List Value} {ab : Bool} {col : Option Bool} {dd : Option Addr} {k0 k1 k2 k3 k5 : Option Value}
end
section
variable {X : Cx} {x : Str} {p pos : Pos} {e : Expr} {es : List Expr} {C fI : Addr} {t : TA} {k : Nat} {fd : FuncData} {ps : List Str} {sp : Sp}
end
section
variable {M : Model} {A : Around} {E : Value → Shared → Prop} {env : Env}
variable {nm q : Str} {C N : Addr} {bs bm : List Value} {hdct : Bool} {sn : List Str} {sub : List Value} {ab : Bool} {col : Option Bool} {dd : Option Addr} {k0 k1 k2 k3 k5 : Option Value} {nw : String}
end
section
variable {X : Cx} {x : Str} {np cpos pos : Pos} {e₀ : Expr} {rest : List Expr} {C fI : Addr} {t : TA} {k : Nat} {fd : FuncData} {ps : List Str} {sp : Sp} {E : St → XK}
end
theorem iW : entryFor table "proto.unchain" = some Builtin.«proto.unchain» := entryFor_of_fast (by kernel_rfl)
def jA (hd : Option Value) (H : Hp) : Prop := ∀ v,hd = some v → ∃ a n cls dx,v = .ref a ∧ H a = some (uC n a cls dx)
theorem jA.no {H : Hp} : jA none H := fun _ z => nomatch z
section
variable {prog : Program} {w : World} {A : Around} {E : Value → Shared → Prop} {s : Shared}
theorem lZ {it hx : Addr} {ox : Obj} {vs : Array Value} {x left step : Int} {Q : Option Value → Shared → Prop} (hh : A.handled = some (.ref hx)) (ho : s.heap.get? hx = some ox) (hd : ox.data = .fields vs) (h2 : vs[2]? = some .none)
  (hit : IsRangeIter s.heap it x left step) (hleft : left ≤ 0) (hQ : ∀ h',Heap.ExtBut it s.heap h' → Q none { s with heap := h' }) : wpAny (model prog w) A (pyNext (.ref it)) Q E s := by
 have hT : s.TypeIs (.ref it) "range_iterator" := ⟨_,hit,rfl⟩
 unfold pyNext
 refine wpAny_bind (wpAny_attempt (wpAny_callSpecial?_slot (name := Str.ofString "__next__") hT F.slot_range_iterator_next
  (wpAny_call_entry F.slot_range_iterator_next hT F.entry_range_iterator_next ?_ (F.args_range_iterator_next_1 _))))
 show wpAny _ _ (field (.ref it) 0 >>= _) _ _ s
 refine wpAny_bind (wpAny_field hit rfl (x := rawInt x) rfl ?_)
 show wpAny _ _ (field (.ref it) 1 >>= _) _ _ s
 refine wpAny_bind (wpAny_field hit rfl (x := rawInt left) rfl ?_)
 show wpAny _ _ (field (.ref it) 2 >>= _) _ _ s
 refine wpAny_bind (wpAny_field hit rfl (x := rawInt step) rfl ?_)
 show wpAny _ _ (if left ≤ 0 then _ else _) _ _ s
 rw [if_pos hleft]
 refine wpAny_bind (wpAny_rule ?_)
 refine wpAny_bind ?_
 show wpAny _ _ (newExc (.type "StopIteration") [] >>= _) _ _ _
 refine wpAny_bind ?_
 simp only [newExc,newTuple]
 refine wpAny_bind (wpAny_newObj_type ?_ (by size_fits))
 refine wpAny_bind (m := firstArgMember _ _) (wpAny_of_eq (a := Value.none) (by first | rfl | (simp only [firstArgMember]; rfl)) ?_)
 refine wpAny_newObj_type ?_ (by size_fits)
 simp only [raiseNew]
 refine wpAny_bind (wpAny_handled ?_)
 rw [show A.in1.handled = some (.ref hx) from hh]
 have g0 : s.heap.get? (s.heap.push { cls := .type "tuple",dict := none,data := .seq ([] : List Value).toArray }).objs.size = none := Heap.get?_none_of_le (by rw [Heap.size_push]; omega)
 have ne : hx ≠ (s.heap.push { cls := .type "tuple",dict := none,data := .seq ([] : List Value).toArray }).objs.size := fun z => by
  rw [z,g0] at ho
  cases ho
 dsimp only
 rw [if_pos (bne_iff_ne.mpr fun z => ne (Value.ref.inj z))]
 refine wpAny_bind (wpAny_holding (wpAny_runValue (codeAny_builtin iW ?_)))
 show wpAny _ _ (field (.ref hx) 2 >>= _) _ _ _
 refine wpAny_bind (wpAny_field (Heap.get?_push_of_some _ (Heap.get?_push_of_some _ ho)) hd h2 ?_)
 rw [if_pos (by rfl)]
 refine wpAny_bind (wpAny_pure (wpAny_pure ?_))
 refine wpAny_bind (m := updateField _ 2 _) (wpAny_setField (Heap.get?_push_size _ rfl) rfl (by show 2 < 6; decide) ?_)
 refine wpAny_throw ?_
 refine wpAny_bind (wpAny_isInstance (T := "StopIteration") (b := true) ⟨_,Heap.get?_update_self _ (Heap.get?_push_size _ rfl) rfl,rfl⟩ isSubtype_stop ?_)
 refine wpAny_pure (hQ _ fun b o hb e => ?_)
 rw [Heap.get?_update_other _ _ (by
  intro z
  rw [z] at g0
  rw [g0] at e
  cases e)]
 exact Heap.get?_push_of_some _ (Heap.get?_push_of_some _ e)
end
structure sr (hd : Option Value) (P : Program) (w : World) (K : PySem.W.Frag) (tg : Expr) (J : It) (fp : List Addr) (it : Addr) (tn : Nat → Heap → Prop) : Prop where
 mem : it ∈ fp
 obj : ∀ i h,tn i h → ∀ b ∈ fp,∃ o,h.get? b = some o ∧ ∀ v,o.data ≠ .cell v
 keep : ∀ i h h',tn i h → (∀ b ∈ fp,∀ o,h.get? b = some o → h'.get? b = some o) → tn i h'
 item : ∀ (X : Cx),X.prog = P → X.w = w → X.K = K → X.A.handled = hd → ∀ (i : Nat) (pins : List (Addr × Obj)) (s : Shared) (σ : St) (H : Hp) (E : Value → Shared → Prop),aM X pins σ H s → (∀ b ∈ fp,cT X pins H b) → tn i s.heap → J.go i H →
  wpAny (model P w) X.A (pyNext (.ref it)) (fun r s1 => ∃ u,r = some u ∧
   wpAny (model P w) X.A (letOwnedTupleGo tg (.ref it) u) (fun _ s2 => ∃ x H',aM X pins σ H' s2 ∧ RelV x u ∧ J.yld i H x H' ∧ tn (i + 1) s2.heap ∧ ∀ b ∈ fp,H' b = none) E s1) E s
 done : ∀ (X : Cx),X.prog = P → X.w = w → X.K = K → X.A.handled = hd → ∀ (i : Nat) (pins : List (Addr × Obj)) (s : Shared) (σ : St) (H : Hp) (E : Value → Shared → Prop),aM X pins σ H s → (∀ b ∈ fp,cT X pins H b) → tn i s.heap → J.stop i H →
  wpAny (model P w) X.A (pyNext (.ref it)) (fun r s1 => r = none ∧ aM X pins σ H s1) E s
 self : ∀ (A : Around) (i : Nat) (s : Shared) (Q : Value → Shared → Prop) (E : Value → Shared → Prop),tn i s.heap → Q (.ref it) s → wpAny (model P w) A (pyIter (.ref it)) Q E s
def uD (hd : Option Value) (X : Cx) (pins : List (Addr × Obj)) (σ : St) (tg : Expr) (R : It → Hp → Prop) (itv : Value) (s2 : Shared) : Prop :=
 ∃ (it : Addr) (fp : List Addr) (tn : Nat → Heap → Prop) (J : It) (H' : Hp),itv = .ref it ∧ aM X pins σ H' s2 ∧ sr hd X.prog X.w X.K tg J fp it tn ∧ tn 0 s2.heap ∧ (∀ b ∈ fp,cT X pins H' b) ∧ R J H'
def wN (hd : Option Value) (X : Cx) (tg iter : Expr) (wi : TI) : Prop :=
 ∀ (pins : List (Addr × Obj)) (s : Shared) (σ : St) (H : Hp) (R : It → Hp → Prop),aM X pins σ H s → wi σ H R →
  wpAny (model X.prog X.w) X.A (eval iter X.env) (fun v s1 => wpAny (model X.prog X.w) X.A (pyIter v) (uD hd X pins σ tg R) X.xe s1) X.xe s
def rq (hd : Option Value) (lo : Int) (n : Nat) : It := ⟨fun i _ => i < n,fun i H x H' => H' = H ∧ x = .int (lo + i),fun i H => n ≤ i ∧ jA hd H⟩
theorem kj {hd : Option Value} {P : Program} {w : World} {K : PySem.W.Frag} {tg : Expr} (it : Addr) (lo : Int) (n : Nat) : sr hd P w K tg (rq hd lo n) [it] it (fun i h => IsRangeIter h it (lo + (i : Nat) * 1) ((n : Int) - (i : Nat)) 1) where
 mem := by simp
 obj := fun i h st b hb => by
  have e : b = it := by simpa using hb
  subst e
  exact ⟨_,st,fun v z => by
   have z' : Data.fields _ = Data.cell v := z
   cases z'⟩
 keep := fun i h h' st k => k it (by simp) _ st
 item := by
  intro X hP hw hK hA i pins s σ H E I hf st hg
  subst hP hw hK
  obtain ⟨f0,f1,f2,f3,f4,f5⟩ := hf it (by simp)
  have hg' : i < n := hg
  refine wpAny_pyNext_range_item st (by omega) fun h' st' sb => ?_
  have I1 : aM X pins σ H { s with heap := h',toks := s.toks + 1 } := I.turned (fun b o hb e => (sb.2 b hb).trans e) f0 f1 f3 f4 f5
  have st2 : IsRangeIter h' it (lo + ((i + 1 : Nat) : Int) * 1) ((n : Int) - ((i + 1 : Nat) : Int)) 1 := by
   have e1 : lo + ((i + 1 : Nat) : Int) * 1 = lo + (i : Int) * 1 + 1 := by push_cast; omega
   have e2 : (n : Int) - ((i + 1 : Nat) : Int) = (n : Int) - (i : Int) - 1 := by push_cast; omega
   rw [e1,e2]
   exact st'
  refine ⟨_,rfl,j5 (s := { s with heap := h',toks := s.toks + 1 }) (n := "range_iterator") st2 rfl rfl (by decide) ⟨.int (lo + i),H,I1,⟨s.toks,?_⟩,⟨rfl,rfl⟩,st2,fun b hb => (hf b hb).1⟩⟩
  rw [Int.mul_one]
 done := by
  intro X hP hw hK hA i pins s σ H E I hf st hg
  subst hP hw hK
  obtain ⟨f0,f1,f2,f3,f4,f5⟩ := hf it (by simp)
  obtain ⟨hl,hk⟩ := hg
  cases hd with
  | none => exact wpAny_pyNext_range_end hA st (by omega) fun h' eb => ⟨rfl,I.turned (t' := s.toks) (fun b o hb e => eb b o hb e) f0 f1 f3 f4 f5⟩
  | some v =>
   obtain ⟨a,m,cls,dx,rfl,e⟩ := hk v rfl
   obtain ⟨⟨ox,vs,h1,h2,h3,h4,h6,h5⟩,_⟩ := (show bD X.prog X.w H s.heap a (uC m a cls dx) from I.hok a _ e)
   exact lZ hA h1 h4 h6 st (by omega) fun h' eb => ⟨rfl,I.turned (t' := s.toks) (fun b o hb e => eb b o hb e) f0 f1 f3 f4 f5⟩
 self := fun _ _ _ _ _ st h => wpAny_pyIter_rangeiter st h
def uE (hd : Option Value) (ta : TA) : TI := fun σ H R => ta σ H fun vs H1 => ∃ j : Int,vs = [.int j] ∧ -(2 ^ 62) ≤ j ∧ j < 2 ^ 62 ∧ R (rq hd 0 j.toNat) H1
section
variable {X : Cx} {tg : Expr} {hd : Option Value}
theorem nS {pins : List (Addr × Obj)} {σ : St} {H : Hp} {s : Shared} {R : It → Hp → Prop} {E : Value → Shared → Prop} {lo hi : Int} {t u v : Tok} {tk : Nat} (I : aM X pins σ H s) (h1 : -(2 ^ 62) ≤ lo) (h2 : lo < 2 ^ 62) (h3 : -(2 ^ 62) ≤ hi) (h4 : hi < 2 ^ 62)
  (q : R (rq hd lo (hi - lo).toNat) H) : wpAny (model X.prog X.w) X.A (pyIter (.ref s.heap.objs.size)) (uD hd X pins σ tg R) E { s with heap := s.heap.push { cls := .type "range",data := .fields #[.int lo t,.int hi u,.int 1 v] },toks := tk } := by
 refine wpAny_pyIter_range (IsRange.new ..) (small_one h1 h2 h3 h4) ?_
 have I1 : aM X pins σ H { s with heap := s.heap.push { cls := .type "range",data := .fields #[.int lo t,.int hi u,.int 1 v] },toks := tk } := I.kept fun b o e => Heap.get?_push_of_some _ e
 refine ⟨(s.heap.push { cls := .type "range",data := .fields #[.int lo t,.int hi u,.int 1 v] }).objs.size,[(s.heap.push { cls := .type "range",data := .fields #[.int lo t,.int hi u,.int 1 v] }).objs.size],_,_,H,rfl,
  I1.kept (t' := tk) fun b o e => Heap.get?_push_of_some _ e,kj _ lo (hi - lo).toNat,?_,fun b hb => ?_,q⟩
 ·have e1 : lo + ((0 : Nat) : Int) * 1 = lo := by simp
  have e2 : (((hi - lo).toNat : Nat) : Int) - ((0 : Nat) : Int) = Builtin.Range.rangeSize lo hi 1 := by rw [rangeSize_one]; split <;> omega
  show IsRangeIter _ _ (lo + ((0 : Nat) : Int) * 1) ((((hi - lo).toNat : Nat) : Int) - ((0 : Nat) : Int)) 1
  rw [e1,e2]
  exact Heap.get?_push_size _ rfl
 ·have e : b = (s.heap.push { cls := .type "range",data := .fields #[.int lo t,.int hi u,.int 1 v] }).objs.size := by simpa using hb
  subst e
  exact I1.fpOk (Nat.le_refl _) (I1.hok.fresh (Nat.le_refl _))
theorem fZ {a : Expr} {ta : TA} {p pos : Pos} (hg : Gl X "range") (hm : X.mg "range" = none) (ha : PA X [a] ta) (hs : starEach [a] X.env = [(false,eval a X.env)] := by rfl) : wN hd X tg (.Call (.Name "range" p) [a] [] pos) (uE hd ta) := by
 intro pins s σ H R I h
 refine Call_ (cA I hg hm boot_range (PyProof.Rows.callWith_type1 (a9 (ha pos pins s σ H _ I h) fun us s1 ⟨vs,H1,I1,r1,q1⟩ => ?_) hs rfl))
 obtain ⟨j,e,q1,q2,q⟩ := q1
 subst e
 cases r1 with
 | cons r rr =>
  cases rr
  obtain ⟨t,rfl⟩ := r
  exact call_range_1 (nS I1 (by omega) (by omega) q1 q2 (by simpa using q))
end
section
variable {X : Cx} {scope : Scope} {cl : List (Str × Addr)} {own : Str} {ys : List Str} {js : List Nat} {elt iter : Expr} {px pos : Pos} {wi : TI} {te : TE} {hd : Option Value}
theorem qe (hA : X.A.handled = hd) (ok : eh X scope cl own ys js) (hi : wN hd X (.Name own px) iter wi)
  (he : ∀ (C : Addr) (fp : List Addr) (s : Shared) (H : Hp),PE (X.block scope cl C (own :: ys) own fp s H) elt te)
  (hs : ∀ x,foldedSetIterable iter X.env x = pure x := by intro _; rfl) : PE X (.ListComp elt [⟨.Name own px,iter,[],0⟩] scope pos) (mQ wi js te) := by
 intro pins s σ H Q I h
 rw [eval_ListComp]
 have ncell : ∀ y ∈ scope.names,y.2 ≠ .cell := fun y hy z => by
  have q := List.all_eq_true.mp ok.nocell y hy
  rw [z] at q
  simp at q
 have nloc : ∀ y ∈ scope.names,y.2 = .local → scope.names.lookup y.1 = some .local := fun y hy z => by
  have q := List.all_eq_true.mp ok.loc y hy
  rw [z] at q
  simpa using q
 refine wpAny_comprehension_free (use := none) rfl hs ok.clos ok.kind nloc (a9 (hi pins s σ H _ I h) fun v s1 h1 => a9 h1 fun itv s2 h2 => ?_)
 obtain ⟨it,fp,tn,J,H2,rfl,I2,T,st2,f2,q2⟩ := h2
 obtain ⟨W,⟨m0,w0⟩,turn⟩ := q2 s2.heap.objs.size (I2.hok.fresh (Nat.le_refl _))
 refine wpAny_newObj_type (wpAny_newFunctionEnv ncell (by intro y hy; simp at hy) (fun h1 hns hsb => ?_) ok.kind)
 have I3 := I2.laid (a := s2.heap.objs.size) (o := .lst []) (h' := s2.heap.push { cls := .type "list",dict := none,data := .seq ([] : List Value).toArray }) (t' := s2.toks) (fun b u q => Heap.get?_push_of_some _ q) (Nat.le_refl _)
  ⟨Nat.zero_le _,[],0,.nil,Heap.get?_push_size _ rfl⟩
 have fpo : ∀ b ∈ fp,b < s2.heap.objs.size := fun b hb => by
  obtain ⟨o,e,_⟩ := T.obj 0 _ st2 b hb
  exact Heap.lt_size e
 have f3 : ∀ b ∈ fp,cT X pins (aD H2 s2.heap.objs.size (.lst [])) b := fun b hb => ⟨by rw [aA (Nat.ne_of_lt (fpo b hb))]; exact (f2 b hb).1,(f2 b hb).2⟩
 generalize hs3 : ({ s2 with heap := s2.heap.push { cls := .type "list",dict := none,data := .seq ([] : List Value).toArray },toks := s2.toks } : Shared) = s3 at I3
 have e3 : s3.heap = s2.heap.push { cls := .type "list",dict := none,data := .seq ([] : List Value).toArray } := by rw [← hs3]
 have lt3 : ∀ b ∈ fp,b < s3.heap.objs.size := fun b hb => by rw [e3,Heap.size_push]; exact Nat.lt_succ_of_lt (fpo b hb)
 dsimp only at hns hsb ⊢
 rw [← e3] at hns hsb
 have hk : ∀ b o,s3.heap.get? b = some o → h1.get? b = some o := fun b o e => hsb.extBut b o (Nat.ne_of_lt (Heap.lt_size e)) (Heap.get?_push_of_some _ e)
 have J0 := cw (h1 := h1) ok I3 f3 lt3 hns hk (s2.toks + 0)
 have t0 : tn 0 h1 := T.keep 0 _ _ st2 fun b hb o e => hk b o (by rw [e3]; exact Heap.get?_push_of_some _ e)
 have fpB : ∀ {H' : Hp},(∀ b ∈ fp,H' b = none) → ∀ b ∈ fp,cT (X.block scope cl s3.heap.objs.size (own :: ys) own fp s3 (aD H2 s2.heap.objs.size (.lst []))) [] H' b := fun {H'} hn b hb =>
  ⟨hn b hb,Nat.ne_of_lt (lt3 b hb),fun z => (List.mem_cons.mp (I3.stkSub b z)).elim (f3 b hb).2.1 (f3 b hb).2.2.1,.inl hb,fun x c e => (f3 b hb).2.2.2.2.1 x c (ok.sub (x,c) (PySem.mem_of_lookup e)),fun p hp => absurd (show p ∈ ([] : List (Addr × Obj)) from hp) (by simp)⟩
 have loop : codeAny (model X.prog X.w) X.A (.compLoop (.ListComp elt [⟨.Name own px,iter,[],0⟩] scope pos) 0 (.ref it) (.ref s2.heap.objs.size) (compEnvC scope cl s3.heap.objs.size X.env))
   (compPost (model X.prog X.w) X.A X.xe none (EP X pins σ Q) (.ref s2.heap.objs.size) s3.heap.objs.size) { s3 with heap := h1,toks := s2.toks + 0 } := by
  refine cW (fun n s' => ∃ i zs o0 H',aM (X.block scope cl s3.heap.objs.size (own :: ys) own fp s3 (aD H2 s2.heap.objs.size (.lst []))) [] (o0 :: aS js σ) H' s' ∧ tn i s'.heap ∧ (∀ b ∈ fp,H' b = none) ∧ W i n zs H') ?_ m0
   ⟨0,[],none,_,J0,t0,fun b hb => (f3 b hb).1,w0⟩
  rintro n s5 ⟨i,zs,o0,H5,I5,t5,n5,w5⟩
  obtain ⟨hD,hw⟩ := turn i n zs H5 w5
  rcases hw with ⟨stop,qn⟩ | ⟨go,hz,step⟩
  ·refine a9 (T.done (X.block scope cl s3.heap.objs.size (own :: ys) own fp s3 (aD H2 s2.heap.objs.size (.lst []))) rfl rfl rfl hA i [] s5 _ H5 (fun _ _ => False) I5 (fpB n5) t5 stop) fun r s6 ⟨hr,I6⟩ => ?_
   subst hr
   obtain ⟨m,hn,_⟩ := id I6.loc
   exact ⟨m,hn,fun h' hs' => ⟨V.ref s2.heap.objs.size,H5,c5 I3 f3 I6 hs',rfl,qn⟩⟩
  ·refine a9 (T.item (X.block scope cl s3.heap.objs.size (own :: ys) own fp s3 (aD H2 s2.heap.objs.size (.lst []))) rfl rfl rfl hA i [] s5 _ H5 (fun _ _ => False) I5 (fpB n5) t5 go) fun r s6 ⟨u,hr,h6⟩ => ?_
   subst hr
   refine a9 h6 fun _ s7 ⟨x,H7,I7,r7,y7,t7,n7⟩ => ?_
   have I7' := I7.pinned (fpB n7) (T.obj _ _ t7)
   have hst := step x H7 y7
   have own' : (relabel scope X.env).names.lookup own = some .local := lookup_relabel_local ok.ownL
   refine a9 (ay (X := X.block scope cl s3.heap.objs.size (own :: ys) own fp s3 (aD H2 s2.heap.objs.size (.lst []))) (i := 0) (x := own) (pos := px) ok.nd rfl (.inl own') (.inr own') _ s7 _ H7 x u (fun σ' H' => σ' = some x :: aS js σ ∧ H' = H7) I7' r7 ⟨rfl,rfl⟩) fun _ s8 ⟨σ8,H8,I8,e8,eH8⟩ => ?_
   subst e8 eH8
   refine a9 (he _ _ _ _ _ s8 _ H8 _ I8 hst) fun yv s9 ⟨y,H9,I9,r9,hD9,m',hm,w9⟩ => ?_
   refine a9 (aW _ s9 _ H9 (.ref s2.heap.objs.size) [y] (.ref s2.heap.objs.size) [yv] (fun _ H' => H' = aD H9 s2.heap.objs.size (.lst (zs ++ [y]))) I9 rfl (.cons r9 .nil) ⟨_,zs,y,rfl,rfl,hD9,hz,rfl⟩) fun _ s10 ⟨_,H10,I10,_,e10⟩ => ?_
   subst e10
   refine ⟨m',hm,i + 1,zs ++ [y],some x,_,I10.unpinned,T.keep _ _ _ t7 fun b hb o e => (I10.pin (b,o) (List.mem_append_right _ (List.mem_append_right _ (bv hb e)))).1,fun b hb => ?_,w9⟩
   obtain ⟨o,e,d⟩ := T.obj _ _ t7 b hb
   exact (I10.pin (b,o) (List.mem_append_right _ (List.mem_append_right _ (bv hb e)))).2.1
 subst hs3
 exact codeAny_compStart_list loop (T.self _ 0 _ _ _ t0 loop)
theorem km {i : Nat} {y : Str} {py spos : Pos} (hN : X.N.Nodup) (hi' : X.N[i]? = some y) (hy : X.env.scope.names.lookup y = some .local) (hA : X.A.handled = hd) (ok : eh X scope cl own ys js) (hi : wN hd X (.Name own px) iter wi)
  (he : ∀ (C : Addr) (fp : List Addr) (s : Shared) (H : Hp),PE (X.block scope cl C (own :: ys) own fp s H) elt te)
  (hsw : swapsWith (.ListComp elt [⟨.Name own px,iter,[],0⟩] scope pos) (some (.Name y py)) spos.line X.env = pure true := by rfl) (hs : ∀ x,foldedSetIterable iter X.env x = pure x := by intro _; rfl) :
  PS X (.Assign [.Name y py] (.ListComp elt [⟨.Name own px,iter,[],0⟩] scope pos) spos) (pL (mQ wi js te) (cB i)) := by
 intro pins s σ H D I h
 have ncell : ∀ y ∈ scope.names,y.2 ≠ .cell := fun y hy z => by
  have q := List.all_eq_true.mp ok.nocell y hy
  rw [z] at q
  simp at q
 have nloc : ∀ y ∈ scope.names,y.2 = .local → scope.names.lookup y.1 = some .local := fun y hy z => by
  have q := List.all_eq_true.mp ok.loc y hy
  rw [z] at q
  simpa using q
 show wpAny _ _ (exec _ X.env) _ _ _
 rw [exec_Assign_Name_used _ _ _ _ hsw]
 refine wpAny_bind (wpAny_standAt (wpAny_bind ?_))
 show wpAny _ X.A (do let _ ← comprehension (.ListComp elt [⟨.Name own px,iter,[],0⟩] scope pos) scope X.env _ (newList []) false (eval iter X.env) (some (assign (.Name y py) X.env))) _ _ s
 refine wpAny_bind (wpAny_mono (wpAny_comprehension_free (use := some (assign (.Name y py) X.env)) (Q := fun _ s' => SP X pins D .next s') rfl hs ok.clos ok.kind nloc (a9 (hi pins s σ H _ I h) fun v s1 h1 => a9 h1 fun itv s2 h2 => ?_)) (fun _ s' hq => wpAny_pure (wpAny_pure hq)) fun _ _ e => e)
 obtain ⟨it,fp,tn,J,H2,rfl,I2,T,st2,f2,q2⟩ := h2
 obtain ⟨W,⟨m0,w0⟩,turn⟩ := q2 s2.heap.objs.size (I2.hok.fresh (Nat.le_refl _))
 refine wpAny_newObj_type (wpAny_newFunctionEnv ncell (by intro y hy; simp at hy) (fun h1 hns hsb => ?_) ok.kind)
 have I3 := I2.laid (a := s2.heap.objs.size) (o := .lst []) (h' := s2.heap.push { cls := .type "list",dict := none,data := .seq ([] : List Value).toArray }) (t' := s2.toks) (fun b u q => Heap.get?_push_of_some _ q) (Nat.le_refl _)
  ⟨Nat.zero_le _,[],0,.nil,Heap.get?_push_size _ rfl⟩
 have fpo : ∀ b ∈ fp,b < s2.heap.objs.size := fun b hb => by
  obtain ⟨o,e,_⟩ := T.obj 0 _ st2 b hb
  exact Heap.lt_size e
 have f3 : ∀ b ∈ fp,cT X pins (aD H2 s2.heap.objs.size (.lst [])) b := fun b hb => ⟨by rw [aA (Nat.ne_of_lt (fpo b hb))]; exact (f2 b hb).1,(f2 b hb).2⟩
 generalize hs3 : ({ s2 with heap := s2.heap.push { cls := .type "list",dict := none,data := .seq ([] : List Value).toArray },toks := s2.toks } : Shared) = s3 at I3
 have e3 : s3.heap = s2.heap.push { cls := .type "list",dict := none,data := .seq ([] : List Value).toArray } := by rw [← hs3]
 have lt3 : ∀ b ∈ fp,b < s3.heap.objs.size := fun b hb => by rw [e3,Heap.size_push]; exact Nat.lt_succ_of_lt (fpo b hb)
 dsimp only at hns hsb ⊢
 rw [← e3] at hns hsb
 have hk : ∀ b o,s3.heap.get? b = some o → h1.get? b = some o := fun b o e => hsb.extBut b o (Nat.ne_of_lt (Heap.lt_size e)) (Heap.get?_push_of_some _ e)
 have J0 := cw (h1 := h1) ok I3 f3 lt3 hns hk (s2.toks + 0)
 have t0 : tn 0 h1 := T.keep 0 _ _ st2 fun b hb o e => hk b o (by rw [e3]; exact Heap.get?_push_of_some _ e)
 have fpB : ∀ {H' : Hp},(∀ b ∈ fp,H' b = none) → ∀ b ∈ fp,cT (X.block scope cl s3.heap.objs.size (own :: ys) own fp s3 (aD H2 s2.heap.objs.size (.lst []))) [] H' b := fun {H'} hn b hb =>
  ⟨hn b hb,Nat.ne_of_lt (lt3 b hb),fun z => (List.mem_cons.mp (I3.stkSub b z)).elim (f3 b hb).2.1 (f3 b hb).2.2.1,.inl hb,fun x c e => (f3 b hb).2.2.2.2.1 x c (ok.sub (x,c) (PySem.mem_of_lookup e)),fun p hp => absurd (show p ∈ ([] : List (Addr × Obj)) from hp) (by simp)⟩
 have loop : codeAny (model X.prog X.w) X.A (.compLoop (.ListComp elt [⟨.Name own px,iter,[],0⟩] scope pos) 0 (.ref it) (.ref s2.heap.objs.size) (compEnvC scope cl s3.heap.objs.size X.env))
   (compPost (model X.prog X.w) X.A X.xe (some (assign (.Name y py) X.env)) (fun _ s' => SP X pins D .next s') (.ref s2.heap.objs.size) s3.heap.objs.size) { s3 with heap := h1,toks := s2.toks + 0 } := by
  refine cW (fun n s' => ∃ i zs o0 H',aM (X.block scope cl s3.heap.objs.size (own :: ys) own fp s3 (aD H2 s2.heap.objs.size (.lst []))) [] (o0 :: aS js σ) H' s' ∧ tn i s'.heap ∧ (∀ b ∈ fp,H' b = none) ∧ W i n zs H') ?_ m0
   ⟨0,[],none,_,J0,t0,fun b hb => (f3 b hb).1,w0⟩
  rintro n s5 ⟨i,zs,o0,H5,I5,t5,n5,w5⟩
  obtain ⟨hD,hw⟩ := turn i n zs H5 w5
  rcases hw with ⟨stop,qn⟩ | ⟨go,hz,step⟩
  ·refine a9 (T.done (X.block scope cl s3.heap.objs.size (own :: ys) own fp s3 (aD H2 s2.heap.objs.size (.lst []))) rfl rfl rfl hA i [] s5 _ H5 (fun _ _ => False) I5 (fpB n5) t5 stop) fun r s6 ⟨hr,I6⟩ => ?_
   subst hr
   obtain ⟨m,hn,_⟩ := id I6.loc
   have J : aM X pins σ H5 s6 := c5 (h' := s6.heap) I3 f3 I6 (Heap.SameBut.refl _ _)
   have fC := I3.fpOk (Nat.le_refl _) (show H5 s3.heap.objs.size = none from I6.free)
   obtain ⟨k0,k1,k2,k3,k4,k5⟩ := fC
   show wpAny _ X.A (assign (.Name y py) X.env (.ref s2.heap.objs.size)) _ _ _
   refine wpAny_assign_Name (eN (v := .ref s2.heap.objs.size) J hN hi' (.inl hy) rfl (fun s7 I7 hsb => ?_) (.inr hy))
   obtain ⟨a',sb,ha⟩ := hsb
   have ne : s3.heap.objs.size ≠ a' := by
    rcases ha with z | z
    ·rw [z]; exact k1
    ·exact fun w => k4 _ _ z w.symm
   exact ⟨m,hn.sameBut sb ne,fun h' hs' => ⟨_,H5,I7.turned (t' := s7.toks) (fun b o hb e => (hs'.2 b hb).trans e) k0 k1 k3 k4 k5,qn⟩⟩
  ·refine a9 (T.item (X.block scope cl s3.heap.objs.size (own :: ys) own fp s3 (aD H2 s2.heap.objs.size (.lst []))) rfl rfl rfl hA i [] s5 _ H5 (fun _ _ => False) I5 (fpB n5) t5 go) fun r s6 ⟨u,hr,h6⟩ => ?_
   subst hr
   refine a9 h6 fun _ s7 ⟨x,H7,I7,r7,y7,t7,n7⟩ => ?_
   have I7' := I7.pinned (fpB n7) (T.obj _ _ t7)
   have hst := step x H7 y7
   have own' : (relabel scope X.env).names.lookup own = some .local := lookup_relabel_local ok.ownL
   refine a9 (ay (X := X.block scope cl s3.heap.objs.size (own :: ys) own fp s3 (aD H2 s2.heap.objs.size (.lst []))) (i := 0) (x := own) (pos := px) ok.nd rfl (.inl own') (.inr own') _ s7 _ H7 x u (fun σ' H' => σ' = some x :: aS js σ ∧ H' = H7) I7' r7 ⟨rfl,rfl⟩) fun _ s8 ⟨σ8,H8,I8,e8,eH8⟩ => ?_
   subst e8 eH8
   refine a9 (he _ _ _ _ _ s8 _ H8 _ I8 hst) fun yv s9 ⟨y,H9,I9,r9,hD9,m',hm,w9⟩ => ?_
   refine a9 (aW _ s9 _ H9 (.ref s2.heap.objs.size) [y] (.ref s2.heap.objs.size) [yv] (fun _ H' => H' = aD H9 s2.heap.objs.size (.lst (zs ++ [y]))) I9 rfl (.cons r9 .nil) ⟨_,zs,y,rfl,rfl,hD9,hz,rfl⟩) fun _ s10 ⟨_,H10,I10,_,e10⟩ => ?_
   subst e10
   refine ⟨m',hm,i + 1,zs ++ [y],some x,_,I10.unpinned,T.keep _ _ _ t7 fun b hb o e => (I10.pin (b,o) (List.mem_append_right _ (List.mem_append_right _ (bv hb e)))).1,fun b hb => ?_,w9⟩
   obtain ⟨o,e,d⟩ := T.obj _ _ t7 b hb
   exact (I10.pin (b,o) (List.mem_append_right _ (List.mem_append_right _ (bv hb e)))).2.1
 subst hs3
 exact codeAny_compStart_list loop (T.self _ 0 _ _ _ t0 loop)
end
section
variable {X : Cx} {x n : Str} {np pos : Pos} {b0 : Stmt} {suite : List Stmt} {rest : List ExceptHandler} {i : Nat} {C' : Addr} {tA : Addr → TS} {th : TH}
end
section
variable {P : Program} {w : World} {K : PySem.W.Frag} {mg : Str → Option Value} {base : Heap} {hd : Option Value}
end
section
variable {X : Cx} {k : Nat} {f : Addr} {fd : FuncData} {ps : List Str} {sp : Sp} {dvs : List V} {ds : List Value} {x : Str} {p pos : Pos} {e : Expr} {es : List Expr} {t : TA} {hd : Option Value}
end
end L2
namespace Sw
open PySem L2 XH
structure Dx (P : Program) (w : World) (K : PySem.W.Frag) (mg : Str → Option Value) (base : Heap) (CX : nJ) (k : Nat) (x : Str) (ps : List Str) (dvs : List V) (sp : Sp) where
 f : Addr
 fd : FuncData
 ok : bG P w K mg base CX k f fd ps sp
 m : mg x = some (.ref f)
 q : PySem.W.keepIn K (.ref f) = true
 b : Binds K fd ps []
 bd : ∃ ds,Binds K fd ps ds ∧ bh dvs ds
section
variable {X : Cx} {k j : Nat} {x : Str} {ps : List Str} {sp : Sp} {p pos : Pos} {e : Expr} {es : List Expr} {t : TA} {dvs : List V} {E : St → XK}
theorem aH (D : Dx X.prog X.w X.K X.mg X.base bj k x ps dvs sp) (hr : cJ j X.A) (hk : k ≤ j) (hg : Gl X x) (ha : PA X (e :: es) t) (hdb : (x == ("__debug__" : Str)) = false := by decide)
  (he : starEach (e :: es) X.env = (false,eval e X.env) :: starEach es X.env := by rfl) (hpl : (backTo pos (starEach es X.env)).any (·.1) = false := by rfl) :
  PE X (.Call (.Name x p) (e :: es) [] pos) (sh sp [] E0 t) :=
 qR D.ok (hr.mono hk) hg D.m D.q D.b .nil so ha hdb he hpl
end
end Sw
namespace L2
open PySem PySem.Spec PyProof.Rows XH
theorem dC {X : Cx} {K : PySem.W.Frag} (hK : X.K = K) : cu X (.builtin "isinstance") (fun xs H Q => ∃ x t T b,xs = [x,.ty T] ∧ fH K H x t ∧ PySem.W.kitOne K t (.type T) = some b ∧ Q (.bl b) H) := by
 subst hK
 intro pins s σ H xs us Q I r h
 obtain ⟨x,t,T,b,rfl,ty,e,q⟩ := h
 obtain ⟨u,w',rfl,e1,e2⟩ := vals2 r
 cases e2
 exact nG I e1 ty e fun tk => ⟨.bl b,H,I.tok tk,rfl,q⟩
end L2
namespace Sw
open PySem L2 XH
section
variable {K : PySem.W.Frag} {H : Hp}
end
end Sw
namespace L2
open PySem PySem.Spec PyProof.Rows XH
def v8 : V → Prop
 | .bl _ => True
 | .int _ => True
 | .str _ => True
 | .non => True
 | _ => False
theorem ko {A : Around} {s : Shared} {v : V} {u w : Value} (h : v8 v) (r1 : RelV v u) (r2 : RelV v w) : SeqAt.EqAt A s u w true := by
 cases v with
 | bl b =>
  cases r1
  cases r2
  have z := SeqAt.EqAt.bool_bool (A := A) (s := s) b b
  rw [beq_self_eq_true] at z
  exact z
 | int i =>
  obtain ⟨t,rfl⟩ := r1
  obtain ⟨t',rfl⟩ := r2
  have z := SeqAt.EqAt.int_int (A := A) (s := s) i t i t'
  rw [beq_self_eq_true] at z
  exact z
 | str i =>
  obtain ⟨t,rfl⟩ := r1
  obtain ⟨t',rfl⟩ := r2
  have z := SeqAt.EqAt.str_str (A := A) (s := s) i t i t'
  rw [beq_self_eq_true] at z
  exact z
 | non =>
  cases r1
  cases r2
  exact SeqAt.EqAt.same _
 | _ => exact absurd h (fun z => z)
def uF (x : Str) : It := ⟨fun i _ => i < x.cps.size,fun i H v H' => H' = H ∧ ∃ c,x.cps[i]? = some c ∧ v = .str ⟨#[c]⟩,fun i _ => i = x.cps.size⟩
theorem qf {P : Program} {w : World} {K : PySem.W.Frag} {tg : Expr} {ty : String} (hty : ty = "str_ascii_iterator" ∨ ty = "str_iterator") (it : Addr) (x : Str) (t : Tok) : Turn P w K tg (uF x) [it] it (fun i h => h.IsStrIter it ty x t i) where
 mem := by simp
 obj := fun i h st b hb => by
  have e : b = it := by simpa using hb
  subst e
  obtain ⟨o,e,c,d⟩ := st
  exact ⟨o,e,fun v z => by rw [d] at z; cases z⟩
 keep := fun i h h' st k => by
  obtain ⟨o,e,c,d⟩ := st
  exact ⟨o,k it (by simp) o e,c,d⟩
 item := by
  intro X hP hw hK hc i pins s σ H E I hf st hg
  subst hP hw hK
  obtain ⟨f0,f1,f2,f3,f4,f5⟩ := hf it (by simp)
  have W : Walks X.prog X.w X.A it [it] [it] x.cps.size (SignAt x) (fun i h => h.IsStrIter it ty x t i) := by
   rcases hty with rfl | rfl
   ·exact Walks.strAscii (I.ok.hd hc) it x t
   ·exact Walks.strWide (I.ok.hd hc) it x t
  refine W.item i s _ _ hg st fun v h' tk hv st' kk => ?_
  obtain ⟨c,u,hc',rfl⟩ := hv
  have I1 : aM X pins σ H { s with heap := h',toks := tk } := I.turned (fun b o hb e => kk b o (by simpa using hb) e) f0 f1 f3 f4 f5
  obtain ⟨o,e,c1,d1⟩ := id st'
  refine ⟨_,rfl,j5 (s := { s with heap := h',toks := tk }) (n := ty) e c1 d1 (by rcases hty with rfl | rfl <;> decide) ⟨.str ⟨#[c]⟩,H,I1,⟨u,rfl⟩,⟨rfl,c,hc',rfl⟩,st',fun b hb => (hf b hb).1⟩⟩
 done := by
  intro X hP hw hK hc i pins s σ H E I hf st hg
  subst hP hw hK
  obtain ⟨f0,f1,f2,f3,f4,f5⟩ := hf it (by simp)
  have W : Walks X.prog X.w X.A it [it] [it] x.cps.size (SignAt x) (fun i h => h.IsStrIter it ty x t i) := by
   rcases hty with rfl | rfl
   ·exact Walks.strAscii (I.ok.hd hc) it x t
   ·exact Walks.strWide (I.ok.hd hc) it x t
  have hg' : i = x.cps.size := hg
  subst hg'
  exact W.done s _ _ st fun h' tk kk => ⟨rfl,I.turned (fun b o hb e => kk b o (by simpa using hb) e) f0 f1 f3 f4 f5⟩
 self := fun _ _ _ _ _ st h => by
  rcases hty with rfl | rfl
  ·exact wpAny_pyIter_striter_ascii st h
  ·exact wpAny_pyIter_striter_wide st h
def wO (tl : TE) : TI := fun σ H R => tl σ H fun x H1 => ∃ z,x = .str z ∧ R (uF z) H1
section
variable {X : Cx} {tg : Expr}
theorem sV {l : Expr} {tl : TE} (hl : PE X l tl) : PI X tg l (wO tl) := by
 intro pins s σ H R I h
 refine a9 (hl pins s σ H _ I h) fun v s1 ⟨x,H1,I1,r1,q1⟩ => ?_
 obtain ⟨z,rfl,q⟩ := q1
 obtain ⟨t,rfl⟩ := r1
 have fin : ∀ {ty : String} {o : Obj},(ty = "str_ascii_iterator" ∨ ty = "str_iterator") → (s1.heap.push o).IsStrIter s1.heap.objs.size ty z t 0 → wq X pins σ tg R (.ref s1.heap.objs.size) { s1 with heap := s1.heap.push o } := fun {ty o} hty st => by
  refine ⟨s1.heap.objs.size,[s1.heap.objs.size],_,_,H1,rfl,I1.kept (t' := s1.toks) fun b o e => Heap.get?_push_of_some _ e,qf hty _ z t,st,fun b hb => ?_,q⟩
  have e : b = s1.heap.objs.size := by simpa using hb
  subst e
  exact I1.fpOk (Nat.le_refl _) (I1.hok.fresh (Nat.le_refl _))
 cases ha : z.cps.all (· < 128)
 ·exact wpAny_pyIter_wide ha (fin (.inr rfl) ⟨_,Heap.get?_push_size _ rfl,rfl,rfl⟩)
 ·exact wpAny_pyIter_ascii ha (fin (.inl rfl) ⟨_,Heap.get?_push_size _ rfl,rfl,rfl⟩)
end
theorem rs {z : Str} {g : TG} {tb : TS} {D : Ends} {σ : St} {H : Hp} (Pv : Nat → St → Hp → Prop) (h0 : Pv 0 σ H)
  (hs : ∀ i c σ H,z.cps[i]? = some c → Pv i σ H → g (.str ⟨#[c]⟩) σ H fun σ2 H2 => tb { D with nx := Pv (i + 1),ct := Pv (i + 1),bk := D.nx } σ2 H2) (hd : ∀ σ H,Pv z.cps.size σ H → D.nx σ H) :
  ∃ W : Nat → Nat → St → Hp → Prop,(∃ m,W 0 m σ H) ∧ ∀ i m σ H,W i m σ H →
   ((uF z).stop i H ∧ D.nx σ H) ∨ ((uF z).go i H ∧ ∃ N : St → Hp → Prop,(∀ σ' H',N σ' H' → ∃ m',m' < m ∧ W (i + 1) m' σ' H') ∧ ∀ x H',(uF z).yld i H x H' → g x σ H' fun σ2 H2 => tb { D with nx := N,ct := N,bk := D.nx } σ2 H2) := by
 refine ⟨fun i m σ H => m = z.cps.size - i ∧ i ≤ z.cps.size ∧ Pv i σ H,⟨z.cps.size,by simp,Nat.zero_le _,h0⟩,?_⟩
 rintro i m σ H ⟨rfl,hi,p⟩
 by_cases hlt : i < z.cps.size
 ·refine .inr ⟨hlt,Pv (i + 1),fun σ' H' p' => ⟨z.cps.size - (i + 1),by omega,rfl,hlt,p'⟩,fun x H' y => ?_⟩
  obtain ⟨e,c,hc,rfl⟩ := y
  subst e
  exact hs i c σ _ hc p
 ·have e : i = z.cps.size := by omega
  subst e
  exact .inl ⟨rfl,hd σ H p⟩
def fo (x : Str) (lo hi : Option Int) : Str := ⟨((x.cps.toList.drop (HT.dh x.length 0 lo)).take (HT.dh x.length x.length hi - HT.dh x.length 0 lo)).toArray⟩
theorem uG (lo hi : Option Int) (n : Nat) : Builtin.Str.strSliceIndices lo hi 1 n = (List.range (HT.dh n n hi - HT.dh n 0 lo)).map (HT.dh n 0 lo + ·) := by
 have h1 : (match lo with | none => (0 : Int) | some i => max 0 (min (if i < 0 then i + (n : Int) else i) n)) = ((HT.dh n 0 lo : Nat) : Int) := by
  cases lo with
  | none => simp [HT.dh]
  | some i =>
   simp only [HT.dh]
   by_cases h : i < 0
   ·simp only [h,if_true] <;> omega
   ·simp only [h,if_false] <;> omega
 have h2 : (match hi with | none => (n : Int) | some i => max 0 (min (if i < 0 then i + (n : Int) else i) n)) = ((HT.dh n n hi : Nat) : Int) := by
  cases hi with
  | none => simp [HT.dh]
  | some i =>
   simp only [HT.dh]
   by_cases h : i < 0
   ·simp only [h,if_true] <;> omega
   ·simp only [h,if_false] <;> omega
 rw [← sliceRange_one,← h1,← h2]
 cases lo <;> cases hi <;> rfl
theorem kq (x : Str) (l u : Option (Int × Tok)) : (⟨((slicePicked x l u none).filterMap (x.cps[·]?)).toArray⟩ : Str) = fo x (l.map (·.1)) (u.map (·.1)) := by
 show (⟨((Builtin.Str.strSliceIndices (l.map (·.1)) (u.map (·.1)) 1 x.length).filterMap (x.cps[·]?)).toArray⟩ : Str) = _
 rw [uG,pick_run]
 rfl
theorem kr (x : Str) (lo hi : Option Int) : (fo x lo hi).length ≤ x.length := by
 show ((x.cps.toList.drop _).take _).toArray.size ≤ x.cps.size
 rw [List.size_toArray,List.length_take,List.length_drop]
 simp only [Array.length_toList]
 omega
theorem l0 (x : Str) (l u : Option (Int × Tok)) (h : (slicePicked x l u none).length = x.length) : fo x (l.map (·.1)) (u.map (·.1)) = x := by
 have h' : (Builtin.Str.strSliceIndices (l.map (·.1)) (u.map (·.1)) 1 x.length).length = x.length := h
 rw [uG,List.length_map,List.length_range] at h'
 have hs : HT.dh x.length x.length (u.map (·.1)) ≤ x.length ∨ x.length < HT.dh x.length x.length (u.map (·.1)) := by omega
 have hu : HT.dh x.length x.length (u.map (·.1)) ≤ x.length := by
  cases u with
  | none => exact Nat.le_refl _
  | some p =>
   show (if p.1 < 0 then (p.1 + (x.length : Int)).toNat else min p.1.toNat x.length) ≤ x.length
   by_cases hp : p.1 < 0
   ·rw [if_pos hp]; omega
   ·rw [if_neg hp]; omega
 unfold fo
 by_cases hx : x.length = 0
 ·have e : x.cps.toList = [] := by
   have : x.cps.toList.length = 0 := by rw [Array.length_toList]; exact hx
   exact List.eq_nil_of_length_eq_zero this
  rw [e,List.drop_nil,List.take_nil]
  obtain ⟨c⟩ := x
  have e' : c = #[] := Array.toList_inj.mp (by simpa using e)
  rw [e']
 ·have h0 : HT.dh x.length 0 (l.map (·.1)) = 0 := by omega
  rw [h0,List.drop_zero,List.take_of_length_le (by rw [Array.length_toList]; show x.length ≤ _; omega)]
theorem part_of {v : Value} {o : Option Int} (p : IsPart v o) : ∃ l : Option (Int × Tok),partValue l = v ∧ l.map (·.1) = o := by
 cases p with
 | none => exact ⟨none,rfl,rfl⟩
 | int i t => exact ⟨some (i,t),rfl,rfl⟩
theorem qg {X : Cx} : wE X (fun x lo hi H Q => ∃ z,x = .str z ∧ z.length ≤ sizeLine ∧ Q (.str (fo z lo hi)) H) := by
 intro pins s σ H x v vl vu lo hi sl Q I rx hs pl pu h
 obtain ⟨z,rfl,hz,q⟩ := h
 obtain ⟨t,rfl⟩ := rx
 obtain ⟨l,rfl,rfl⟩ := part_of pl
 obtain ⟨u,rfl,rfl⟩ := part_of pu
 refine ⟨"str",_,slot_str_getitem.lookup,typeIs_str s z t,?_⟩
 refine wpAny_getItem_str_slice (l := l) (u := u) (st := none) hs rfl ?_
 unfold sliceMade
 by_cases hw : (slicePicked z l u none).length = z.length
 ·rw [if_pos (by simp [hw])]
  refine ⟨.str (fo z (l.map (·.1)) (u.map (·.1))),H,I,⟨t,by rw [l0 z l u hw]⟩,q⟩
 ·rw [if_neg (by simp [hw])]
  rw [kq]
  exact ⟨Nat.le_trans (kr _ _ _) hz,.str (fo z (l.map (·.1)) (u.map (·.1))),H,I.tok _,⟨_,rfl⟩,q⟩
end L2
namespace Sw
open PySem L2 XH PyProof.Rows
section
variable {X : Cx} {k j : Nat} {x : Str} {ps : List Str} {sp : Sp} {p np pos cpos : Pos} {e : Expr} {es : List Expr} {t : TA} {hd : Option Value} {C : Addr} {E : L2.St → XK}
end
theorem sW {hd : Option Value} {H H' : Hp} (h : jA hd H) (g : aB H H') : jA hd H' := fun v e => by
 obtain ⟨a,n,cls,dx,e1,e2⟩ := h v e
 exact ⟨a,n,cls,dx,e1,g _ _ e2⟩
theorem f9 {H H' : Hp} {p : Addr} (g : aB H H') (h : H p = none) (o : HO) : aB H (aD H' p o) := fun b u q => by
 rw [aA (cr q h)]
 exact g b u q
def jB (X : Cx) (scope : Scope) (ys : List Str) (js : List Nat) : Prop := ∀ (i : Nat) (y : Str),ys[i]? = some y → ∃ j : Nat,js[i]? = some j ∧ X.N[j]? = some y ∧ (X.env.scope.names.lookup y = some .cell ∨ X.env.scope.names.lookup y = some .free) ∧ ((relabel scope X.env).names.lookup y = some .cell ∨ (relabel scope X.env).names.lookup y = some .free)
theorem lF {X : Cx} {scope : Scope} : jB X scope [] [] := fun i y h => by simp at h
theorem mR {X : Cx} {scope : Scope} {ys : List Str} {js : List Nat} {y : Str} {j : Nat} (t : jB X scope ys js) (h1 : X.N[j]? = some y := by rfl) (h2 : X.env.scope.names.lookup y = some .cell ∨ X.env.scope.names.lookup y = some .free := by first | exact Or.inl rfl | exact Or.inr rfl)
  (h3 : (relabel scope X.env).names.lookup y = some .cell ∨ (relabel scope X.env).names.lookup y = some .free := by first | exact Or.inl rfl | exact Or.inr rfl) : jB X scope (y :: ys) (j :: js) := fun i z h => by
 cases i with
 | zero =>
  cases h
  exact ⟨j,rfl,h1,h2,h3⟩
 | succ i => exact t i z h
inductive nU (X : Cx) : List (Str × Addr) → Prop where
 | nil : nU X []
 | cons {y : Str} {c : Addr} {cl : List (Str × Addr)} (h : X.env.cells.lookup y = some c) (t : nU X cl) : nU X ((y,c) :: cl)
theorem nU.all {X : Cx} {cl : List (Str × Addr)} (h : nU X cl) : ∀ p ∈ cl,X.env.cells.lookup p.1 = some p.2 := by
 induction h with
 | nil => intro p hp; simp at hp
 | cons h _ ih =>
  intro p hp
  rcases List.mem_cons.mp hp with e | e
  ·rw [e]; exact h
  ·exact ih p e
theorem lG {X : Cx} {scope : Scope} {cl : List (Str × Addr)} {own : Str} {ys : List Str} {js : List Nat} (a : jB X scope ys js) (s : nU X cl) (nd : (own :: ys).Nodup) (len : js.length = ys.length) (clos : closureFor scope X.env = pure cl) (nocell : (scope.names.all fun p => !(p.2 == .cell)) = true) (kind : scope.kind = .function)
  (loc : (scope.names.all fun p => !(p.2 == .local) || scope.names.lookup p.1 == some .local) = true) (ownL : scope.names.lookup own = some .local) (has : ((relabel scope X.env).names.all fun p => !(p.2 == .cell || p.2 == .free) || (cl.lookup p.1).isSome) = true) (noown : cl.lookup own = none) : eh X scope cl own ys js :=
 ⟨clos,nocell,kind,loc,ownL,s.all,has,noown,nd,a,len⟩
theorem c9 {X : Cx} {K : PySem.W.Frag} (hK : X.K = K) : sj X (sN K) := by
 subst hK
 exact au
section
variable {K : PySem.W.Frag} {cs : List Addr} {S C D : Addr} {i j : Nat}
end
open PySem.NumText
end Sw
namespace L2
open PySem PySem.Spec PyProof.Rows XH
section
variable {X : Cx} {a b e o : Expr} {es : List Expr} {t te to : TE} {ta : TA} {pos apos cpos : Pos} {x y : Str}
theorem qh {z : Str} {p : Pos} (hg : Gl X x) (h : ∃ t,X.mg x = some (.str z t)) (hd : (x == ("__debug__" : Str)) = false := by decide) : PE X (.Name x p) (tC (.str z)) := by
 obtain ⟨t,h⟩ := h
 exact mI hg h ⟨t,rfl⟩ hd
theorem ca {i : Int} {p : Pos} (hg : Gl X x) (h : ∃ t,X.mg x = some (.int i t)) (hd : (x == ("__debug__" : Str)) = false := by decide) : PE X (.Name x p) (tC (.int i)) := by
 obtain ⟨t,h⟩ := h
 exact mI hg h ⟨t,rfl⟩ hd
end
theorem mS {P : Program} {w : World} {k : Key} {u : Value} (h : (aF P w).is k u = true) : RelV (kV k) u := by
 rcases bI h with ⟨i,t,rfl,rfl⟩ | ⟨x,t,rfl,rfl⟩
 ·exact ⟨t,rfl⟩
 ·exact ⟨t,rfl⟩
theorem qi {κ : Type} : ∀ {kvs : List (κ × V)} {vs : List (κ × Value)} (r : KV kvs vs) (i : Nat) {k : κ} {x : V},kvs[i]? = some (k,x) → ∃ u,vs[i]? = some (k,u) ∧ RelV x u
 | _,_,.nil,i,k,x,h => by simp at h
 | _,_,.cons (b := q) r t,0,k,x,h => by
  simp at h
  subst h
  obtain ⟨q1,q2⟩ := q
  have e : k = q1 := r.1
  subst e
  exact ⟨q2,by simp,r.2⟩
 | _,_,.cons r t,i + 1,k,x,h => by
  obtain ⟨u,e,rx⟩ := qi t i (by simpa using h)
  exact ⟨u,by simpa using e,rx⟩
theorem ku {X : Cx} {pins : List (Addr × Obj)} {σ : St} {H : Hp} {s : Shared} {a : Addr} {o : Obj} {kvs : List (Key × V)} {es0 : Array DictEntry} {ep : Nat} (I : aM X pins σ H s) (h : H a = some (.frz o (.dK kvs))) (hd : o.data = .dict es0 ep) :
  ∃ vs,KV kvs vs ∧ s.heap.DictAt (aF X.prog X.w) a vs ep := by
 obtain ⟨ho,z,y,vs,rel,ob,es,ep',e,c,d,rest⟩ := (show bD X.prog X.w H s.heap a (.frz o (.dK kvs)) from I.hok a _ h)
 rw [ho] at e
 cases e
 have e2 : ep' = ep := by rw [hd] at d; cases d; rfl
 subst e2
 exact ⟨vs,rel,o,es,ho,c,d,rest⟩
def NF (X : Cx) (a : Addr) : Prop := ∀ o u,X.H₀ a ≠ some (.frz o u)
theorem aM.nf {X : Cx} {pins : List (Addr × Obj)} {σ : St} {H : Hp} {s : Shared} {a : Addr} {kvs : List (Key × V)} (I : aM X pins σ H s) (h : H a = some (.dK kvs)) : NF X a := fun o u e => by
 have := I.base.frzs a o u e
 rw [h] at this
 cases this
theorem aM.freeze {X : Cx} {pins : List (Addr × Obj)} {σ : St} {H : Hp} {s : Shared} {a : Addr} {kvs : List (Key × V)} {o : Obj} (I : aM X pins σ H s) (h : H a = some (.dK kvs)) (ho : s.heap.get? a = some o) : aM X pins σ (aD H a (.frz o (.dK kvs))) s := by
 refine I.un (H' := aD H a (.frz o (.dK kvs))) (h' := s.heap) (t' := s.toks) ⟨fun b ob q n _ _ => q,fun b ob q n _ _ => ⟨ob.slots,q⟩,fun b ob q n _ => ?_,fun b ob q _ => ⟨ob,q⟩,fun b xs q => ?_,fun b ob u q => ?_,fun b ps q => ⟨#[],?_⟩⟩ ?_
 ·rw [aA (fun z => by subst z; rw [h] at n; cases n)]; exact n
 ·rw [aA (fun z => by subst z; rw [h] at q; cases q)]; exact q
 ·rw [aA (fun z => by subst z; rw [h] at q; cases q)]; exact q
 ·rw [aA (fun z => by subst z; rw [h] at q; cases q),q]; simp
 ·intro b u q
  by_cases hb : b = a
  ·subst hb
   rw [aj] at q
   cases q
   exact ⟨ho,(I.hok b _ h).stay (fun _ _ _ q => q) (fun c q => by rw [aA (fun z => by subst z; rw [h] at q; cases q)]; exact q) fun c xs q => by rw [aA (fun z => by subst z; rw [h] at q; cases q)]; exact q⟩
  ·rw [aA hb] at q
   exact (I.hok b _ q).stay (fun _ _ _ q => q) (fun c q => by rw [aA (fun z => by subst z; rw [h] at q; cases q)]; exact q) fun c xs q => by rw [aA (fun z => by subst z; rw [h] at q; cases q)]; exact q
theorem aM.thaw {X : Cx} {pins : List (Addr × Obj)} {σ : St} {H : Hp} {s : Shared} {a : Addr} {kvs : List (Key × V)} {o : Obj} (I : aM X pins σ H s) (h : H a = some (.frz o (.dK kvs))) (nf : NF X a) : aM X pins σ (aD H a (.dK kvs)) s := by
 have hn : ∀ {b : Addr} {u : HO},H b = some u → (∀ o' v,u ≠ .frz o' v) → aD H a (.dK kvs) b = some u := fun {b u} q n => by
  rw [aA (fun z => by subst z; rw [h] at q; cases q; exact n _ _ rfl)]; exact q
 have hf : ∀ {b : Addr},H b = none → aD H a (.dK kvs) b = none := fun {b} n => by
  rw [aA (fun z => by subst z; rw [h] at n; cases n)]; exact n
 refine ⟨I.ok,I.os,I.bare,⟨I.base.keep,I.base.slot,fun b ob q n hx => hf (I.base.free b ob q n hx),I.base.there,fun b xs q => hn (I.base.tups b xs q) (fun _ _ z => nomatch z),fun b ob u q => ?_,fun b ps q => ?_⟩,I.loc,I.cell,hf I.free,fun y c e => hf (I.freeC y c e),fun p hp => ?_,?_,I.len⟩
 ·have q' := I.base.frzs b ob u q
  rw [aA (fun z => by subst z; exact nf _ _ q)]
  exact q'
 ·obtain ⟨more,q'⟩ := I.base.tbls b ps q
  exact ⟨more,hn q' (fun _ _ z => nomatch z)⟩
 ·obtain ⟨p1,p2,p3⟩ := I.pin p hp
  exact ⟨p1,hf p2,p3⟩
 ·intro b u q
  by_cases hb : b = a
  ·subst hb
   rw [aj] at q
   cases q
   obtain ⟨_,q2⟩ := (show bD X.prog X.w H s.heap b (.frz o (.dK kvs)) from I.hok b _ h)
   exact bD.stay (o := .dK kvs) q2 (fun _ _ _ q => q) (fun c q => hn q (fun _ _ z => nomatch z)) fun c xs q => hn q (fun _ _ z => nomatch z)
  ·rw [aA hb] at q
   exact (I.hok b _ q).stay (fun _ _ _ q => q) (fun c q => hn q (fun _ _ z => nomatch z)) fun c xs q => hn q (fun _ _ z => nomatch z)
section
variable {X : Cx} {tg : Expr}
end
def v9 (X : Cx) (P : Hp → Prop) (H : Hp) : Prop := ∃ a o kvs,H a = some (.frz o (.dK kvs)) ∧ NF X a ∧ P (aD H a (.dK kvs))
def wP (X : Cx) (D : Ends) : Ends := { nx := fun σ => v9 X (D.nx σ),bk := fun σ => v9 X (D.bk σ),ct := fun σ => v9 X (D.ct σ),rt := fun v => v9 X (D.rt v) }
theorem sX {X : Cx} {st : Stmt} {t : TS} (h : PS X st t) : PS X st (fun D σ H => t (wP X D) σ H) := by
 intro pins s σ H D I q
 refine a9 (h pins s σ H _ I q) fun f s1 q1 => ?_
 cases f with
 | next =>
  obtain ⟨σ',H',I',a,o,kvs,e,nf,p⟩ := q1
  exact ⟨σ',_,I'.thaw e nf,p⟩
 | brk =>
  obtain ⟨σ',H',I',a,o,kvs,e,nf,p⟩ := q1
  exact ⟨σ',_,I'.thaw e nf,p⟩
 | cont =>
  obtain ⟨σ',H',I',a,o,kvs,e,nf,p⟩ := q1
  exact ⟨σ',_,I'.thaw e nf,p⟩
 | ret u =>
  obtain ⟨v,σ',H',I',r,a,o,kvs,e,nf,p⟩ := q1
  exact ⟨v,σ',_,I'.thaw e nf,r,p⟩
section
variable {X : Cx} {a b c d : Expr} {ta tb tc td : TE} {pos : Pos}
def rz (r r' r'' : R2) (ta tb tc td : TE) : TE := fun σ H Q => ta σ H fun x H1 => tb σ H1 fun y H2 => r x y H2 fun z H3 => ∃ k,z = .bl k ∧
 (if k = true then tc σ H3 fun w H4 => r' y w H4 fun z' H5 => ∃ k',z' = .bl k' ∧ (if k' = true then td σ H5 fun v H6 => r'' w v H6 Q else Q (.bl false) H5) else Q (.bl false) H3)
theorem nV {o1 o2 o3 : CmpOp} {r r' r'' : R2} (h1 : dW X (compareOp o1) r) (h2 : dW X (compareOp o2) r') (h3 : dW X (compareOp o3) r'') (ha : PE X a ta) (hb : PE X b tb) (hc : PE X c tc) (hd : PE X d td)
  (hm : lastMarks [o1,o2,o3] [b,c,d] = false := by with_unfolding_all rfl) : PT X (.Compare a [o1,o2,o3] [b,c,d] pos) (pP (rz r r' r'' ta tb tc td)) := by
 intro pins s σ H Q I h
 refine isTrue_chain (a9 (ha pins s σ H _ I h) fun v s1 ⟨x,H1,I1,r1,q1⟩ => test_link (a9 (hb pins s1 σ H1 _ I1 q1) fun u s2 ⟨y,H2,I2,r2,q2⟩ =>
  a9 (h1 pins s2 σ H2 x y v u _ I2 r1 r2 q2) fun e1 s3 ⟨z,H3,I3,r3,k,e,q3⟩ => ?_)) hm
 subst e
 cases r3
 refine wpAny_truthy_bool ?_
 cases k with
 | false =>
  obtain ⟨k',e',q'⟩ := q3
  cases e'
  exact ite_ff ⟨H3,I3,q'⟩
 | true =>
  refine ite_tt (test_link (a9 (hc pins s3 σ H3 _ I3 q3) fun w' s4 ⟨z',H4,I4,r4,q4⟩ => a9 (h2 pins s4 σ H4 y z' u w' _ I4 r2 r4 q4) fun d' s5 ⟨z2,H5,I5,r5,k2,e2,q5⟩ => ?_))
  subst e2
  cases r5
  refine wpAny_truthy_bool ?_
  cases k2 with
  | false =>
   obtain ⟨k',e',q'⟩ := q5
   cases e'
   exact ite_ff ⟨H5,I5,q'⟩
  | true =>
   refine ite_tt (test_last (a9 (hd pins s5 σ H5 _ I5 q5) fun w2 s6 ⟨z3,H6,I6,r6,q6⟩ => a9 (h3 pins s6 σ H6 z' z3 w' w2 _ I6 r4 r6 q6) fun d2 s7 ⟨z4,H7,I7,r7,k3,e3,q7⟩ => ?_))
   subst e3
   cases r7
   exact wpAny_truthy_bool ⟨H7,I7,q7⟩
end
theorem ij {X : Cx} : cu X (.type "dict") (fun xs H Q => ∃ (d : Addr) (kvs : List (Key × V)),xs = [.ref d] ∧ H d = some (.dK kvs) ∧ ∀ p,H p = none → Q (.ref p) (aD H p (.dK kvs))) := by
 intro pins s σ H xs us Q I r h
 obtain ⟨d,kvs,rfl,hd,q⟩ := h
 cases r with
 | cons r rr =>
  cases rr
  cases r
  obtain ⟨z,y,vs,rel,D⟩ := ig I.hok hd
  refine kt_call_dict y D (by rw [← rel.length]; exact z) fun h' hm hs => ?_
  have kp : ∀ b o,s.heap.get? b = some o → h'.get? b = some o := fun b o e => (hs.2 b (Nat.ne_of_lt (Heap.lt_size e))).trans (Heap.get?_push_of_some _ e)
  have big : (s.heap.objs.size == sysModules) = false := by
   have := I.big
   exact beq_eq_false_iff_ne.mpr (Nat.ne_of_gt this)
  exact ⟨.ref s.heap.objs.size,_,I.laid (o := .dK kvs) (t' := s.toks) kp (Nat.le_refl _) ⟨z,big,vs,rel,hm⟩,rfl,q _ I.fresh⟩
def sY : V → List V → Hp → VK → Prop := fun x vs H Q => ∃ (d : Addr) (kvs : List (Key × V)),x = .ref d ∧ vs = [] ∧ H d = some (.dK kvs) ∧ ∀ v,H v = none → Q (.ref v) (aD H v (.ext fun h => h.IsItemsView v d))
theorem qj {X : Cx} : wJ X "dict.items" sY := by
 intro pins s σ H x vs v us Q I rx rv h
 obtain ⟨d,kvs,rfl,rfl,hd,q⟩ := h
 cases rx
 have hus := rv.zero
 subst hus
 obtain ⟨z,y,ws,rel,D⟩ := ig I.hok hd
 refine call_meetsIn PySem.F.slot_dict_items D.typeIs PySem.F.entry_dict_items (PySem.F.args_dict_items_1 _) (meets_dict_items (aF X.prog X.w) d y) ⟨⟨ws,D⟩,?_⟩
 refine ⟨.ref s.heap.objs.size,_,I.laid (o := .ext fun h => h.IsItemsView s.heap.objs.size d) (t' := s.toks) (fun b o e => Heap.get?_push_of_some _ e) (Nat.le_refl _) ⟨⟨_,Heap.get?_push_size _ rfl,rfl,rfl⟩,⟨_,Heap.get?_push_size _ rfl⟩,fun h1 h2 ⟨o,e,c,f⟩ k => ⟨o,k o e,c,f⟩⟩,rfl,q _ I.fresh⟩
def Itm (a : Addr) (o : Obj) (kvs : List (Key × V)) : It :=
 ⟨fun i H => H a = some (.frz o (.dK kvs)) ∧ i < kvs.length,fun i H v H' => ∃ (T : Addr) (k : Key) (x : V),v = .ref T ∧ H T = none ∧ kvs[i]? = some (k,x) ∧ H' = aD H T (.tup [kV k,x]),fun i H => H a = some (.frz o (.dK kvs)) ∧ i = kvs.length⟩
theorem im : entryFor table "dict_itemiterator.__iter__" = some Builtin.«dict_keyiterator.__iter__» :=
 entryFor_alias (id' := "dict_keyiterator.__iter__") (by kernel_rfl) rfl (by decide +kernel) (by kernel_rfl)
theorem iX {prog : Program} {w : World} {A : Around} {E : Value → Shared → Prop} {s : Shared} {it d : Addr} {i n ep : Nat} {ok ov : Value} {Q : Value → Shared → Prop} (e : IsItemIter s.heap it d i n ep ok ov) (h : Q (.ref it) s) : wpAny (model prog w) A (pyIter (.ref it)) Q E s := by
 have T : s.TypeIs (.ref it) "dict_itemiterator" := ⟨_,e,rfl⟩
 refine wpAny_pyIter_slot T PySem.F.slot_dict_itemiterator_iter (wpAny_call_entry PySem.F.slot_dict_itemiterator_iter T im ?_ (PySem.F.args_dict_itemiterator_iter_1 _))
 exact (show wpAny _ _ (ret (.ref it)) _ _ s from wpAny_pure ⟨_,rfl,"dict_itemiterator",_,T,PySem.F.slot_dict_itemiterator_next.lookup,h⟩)
theorem l7 {P : Program} {w : World} {K : PySem.W.Frag} {elts : List Expr} {kk : Nat} {pos : Pos} (it a : Addr) (o : Obj) (kvs : List (Key × V)) {es0 : Array DictEntry} {ep : Nat} (hd : o.data = .dict es0 ep) : Turn P w K (.Tuple elts kk pos) (Itm a o kvs) [it] it (fun i h => ∃ ok ov,IsItemIter h it a i kvs.length ep ok ov) where
 mem := by simp
 obj := fun i h st b hb => by
  have e : b = it := by simpa using hb
  subst e
  obtain ⟨ok,ov,e⟩ := st
  exact ⟨_,e,fun v z => by cases z⟩
 keep := fun i h h' st k => by
  obtain ⟨ok,ov,e⟩ := st
  exact ⟨ok,ov,k it (by simp) _ e⟩
 item := by
  intro X hP hw hK hc i pins s σ H E I hf st hg
  subst hP hw hK
  obtain ⟨hz,hlt⟩ := hg
  obtain ⟨vs,rel,D⟩ := ku I hz hd
  obtain ⟨⟨k,x⟩,hx⟩ : ∃ p,kvs[i]? = some p := ⟨kvs[i],List.getElem?_eq_getElem hlt⟩
  obtain ⟨u,hu,ru⟩ := qi rel i hx
  obtain ⟨ok,ov,st'⟩ := st
  rw [rel.length] at st'
  refine wpAny_pyNext_items_item st' D hu fun key h1 hkey ho hT hsz hk => ?_
  refine ⟨_,rfl,wpAny_letOwnedTupleGo_items (s := { s with heap := h1 }) ho fun h2 he2 hs2 => ?_⟩
  have nT : H s.heap.objs.size = none := I.hok.fresh (Nat.le_refl _)
  have il : it < s.heap.objs.size := Heap.lt_size st'
  have hT2 : h2.get? s.heap.objs.size = some { cls := .type "tuple",data := .seq #[key,u] } := (hs2.2 _ (Nat.ne_of_gt il)).trans hT
  have kp : ∀ b o,b ∉ [it] → s.heap.get? b = some o → h2.get? b = some o := fun b o hb q => by
   simp at hb
   exact (hs2.2 b hb).trans (hk b o hb q)
  rw [← rel.length] at he2
  refine ⟨.ref s.heap.objs.size,aD H s.heap.objs.size (.tup [kV k,x]),I.turnedNew (t' := s.toks) (ch := [it]) hf kp (Nat.le_refl _) ⟨by show 2 ≤ sizeLine; decide,[key,u],.cons (mS hkey) (.cons ru .nil),⟨_,hT2,rfl,0,rfl⟩⟩,rfl,
   ⟨_,k,x,rfl,nT,hx,rfl⟩,⟨_,_,he2⟩,fun b hb => ?_⟩
  have bl : b ≠ s.heap.objs.size := by
   rw [List.mem_singleton.mp hb]; exact Nat.ne_of_lt il
  rw [aA bl]
  exact (hf b hb).1
 done := by
  intro X hP hw hK hc i pins s σ H E I hf st hg
  subst hP hw hK
  obtain ⟨hz,rfl⟩ := hg
  obtain ⟨vs,rel,D⟩ := ku I hz hd
  obtain ⟨ok,ov,st'⟩ := st
  rw [rel.length] at st'
  refine wpAny_pyNext_items_end (I.ok.hd hc) st' D (by simp) fun h' he' => ⟨rfl,I.turnedAll (t' := s.toks) (ch := [it]) hf fun b o hb q => he' b o (fun z => hb (by simp [z])) q⟩
 self := fun A i s Q E st h => by
  obtain ⟨ok,ov,e⟩ := st
  exact iX e h
def sZ (X : Cx) (tl : TE) : TI := fun σ H R => tl σ H fun x H1 => ∃ (v d : Addr) (kvs : List (Key × V)),x = .ref v ∧ H1 v = some (.ext fun h => h.IsItemsView v d) ∧ H1 d = some (.dK kvs) ∧ ∀ o,NF X d → R (Itm d o kvs) (aD H1 d (.frz o (.dK kvs)))
theorem qk {X : Cx} {l : Expr} {tl : TE} {elts : List Expr} {kk : Nat} {tp : Pos} (hl : PE X l tl) : PI X (.Tuple elts kk tp) l (sZ X tl) := by
 intro pins s σ H R I h
 refine a9 (hl pins s σ H _ I h) fun u s1 ⟨x,H1,I1,r1,q1⟩ => ?_
 obtain ⟨v,a,kvs,rfl,hv,hk,q⟩ := q1
 cases r1
 obtain ⟨z,y,vs,rel,ob,es,ep,e,c,d,rest⟩ := (show bD X.prog X.w H1 s1.heap a (.dK kvs) from I1.hok a _ hk)
 have D : s1.heap.DictAt (aF X.prog X.w) a vs ep := ⟨ob,es,e,c,d,rest⟩
 have I2 := I1.freeze hk e
 obtain ⟨view,_⟩ := (show bD X.prog X.w H1 s1.heap v (.ext fun h => h.IsItemsView v a) from I1.hok v _ hv)
 refine wpAny_pyIter_items view D ?_
 refine ⟨s1.heap.objs.size,[s1.heap.objs.size],_,_,_,rfl,I2.kept (t' := s1.toks) fun b o e => Heap.get?_push_of_some _ e,l7 _ a ob kvs d,⟨_,_,by rw [rel.length]; exact Heap.get?_push_size _ rfl⟩,fun b hb => ?_,q ob (I1.nf hk)⟩
 have e : b = s1.heap.objs.size := by simpa using hb
 subst e
 exact I2.fpOk (Nat.le_refl _) (I2.hok.fresh (Nat.le_refl _))
end L2
namespace So
open PySem PyProof.Rows
section
variable {prog : Program} {w : World} {A : Around} {E : Value → Shared → Prop} {s : Shared} {κ : KeyKind} {kd : SortKind}
end
section
variable {κ : KeyKind} {kd : SortKind} {a b out : Array Keyed} {ia ib : Nat}
end
section
variable {prog : Program} {w : World} {A : Around} {E : Value → Shared → Prop} {s : Shared} {κ : KeyKind} {kd : SortKind}
end
section
variable {κ : KeyKind} {kd : SortKind} {a b out : Array Keyed} {na nb : Nat}
end
section
variable {prog : Program} {w : World} {A : Around} {E : Value → Shared → Prop} {s : Shared} {κ : KeyKind} {kd : SortKind}
end
section
variable {prog : Program} {w : World} {A : Around} {E : Value → Shared → Prop} {s : Shared} {κ : KeyKind} {kd : SortKind}
end
section
variable {prog : Program} {w : World} {A : Around} {E : Value → Shared → Prop} {s : Shared} {κ : KeyKind} {kd : SortKind}
end
section
variable {prog : Program} {w : World} {A : Around} {E : Value → Shared → Prop} {s : Shared} {κ : KeyKind} {kd : SortKind}
end
section
variable {prog : Program} {w : World} {A : Around} {E : Value → Shared → Prop} {s : Shared} {κ : KeyKind} {kd : SortKind}
end
section
variable {κ : KeyKind} {kd : SortKind}
end
section
variable {prog : Program} {w : World} {A : Around} {E : Value → Shared → Prop} {s : Shared} {κ : KeyKind} {kd : SortKind}
end
section
variable {prog : Program} {w : World} {A : Around} {E : Value → Shared → Prop} {s : Shared} {κ : KeyKind} {kd : SortKind}
end
section
variable {prog : Program} {w : World} {A : Around} {E : Value → Shared → Prop} {s : Shared} {κ : KeyKind}
end
end So
namespace Sw
open PySem L2 XH PySem.NumText
def sL (z : Str) : List Nat := z.cps.toList
def xu (l : List Nat) : Str := ⟨l.toArray⟩
theorem jC (z : Str) : (sL z).length = z.length := by simp [sL,Str.length]
theorem tf (x y : Str) : sL (x ++ y) = sL x ++ sL y := by
 show (x.cps ++ y.cps).toList = _
 rw [Array.toList_append]
 rfl
theorem tj (z : Str) (c : Nat) : (!(Builtin.Str.occurrences z (xu [c]) 0 z.length 1).isEmpty) = decide (c ∈ sL z) := StrLaws.found_one z c
theorem xH {b : Bool} {A B : Prop} (h1 : b = false → A) (h2 : b = true → B) : if (!b) = true then A else B := by
 cases b with
 | false => exact d0 (h1 rfl)
 | true => exact cQ (h2 rfl)
end Sw
namespace L2
open PySem PySem.Spec PyProof.Rows XH
def io (js : List Nat) (tc : TT) (te : TE) (σ : St) (Q : VK) : It → Hp → Prop := fun J H1 => ∀ p,H1 p = none → ∃ W : Nat → Nat → List V → Hp → Prop,(∃ m,W 0 m [] (aD H1 p (.lst []))) ∧
 ∀ i m ys H2,W i m ys H2 → H2 p = some (.lst ys) ∧ ((J.stop i H2 ∧ Q (.ref p) H2) ∨ (J.go i H2 ∧ ys.length < sizeLine ∧ ∀ x H3,J.yld i H2 x H3 → tc (some x :: aS js σ) H3 fun b H4 =>
  if b = true then te (some x :: aS js σ) H4 fun y H5 => H5 p = some (.lst ys) ∧ ∃ m',m' < m ∧ W (i + 1) m' (ys ++ [y]) (aD H5 p (.lst (ys ++ [y]))) else ∃ m',m' < m ∧ W (i + 1) m' ys H4))
def mT (wi : TI) (js : List Nat) (tc : TT) (te : TE) : TE := fun σ H Q => wi σ H (io js tc te σ Q)
section
variable {prog : Program} {w : World} {A : Around} {R : Result → Shared → Prop} {s : Shared}
theorem gN {elt target iter cond : Expr} {scope : Scope} {pos : Pos} {it acc : Value} {env : Env} (I : Nat → Shared → Prop)
  (turn : ∀ n s,I n s → wpAny (model prog w) A (pyNext it) (fun r s1 => match r with
   | none => R (.ok .next) s1
   | some v => wpAny (model prog w) A (letOwnedTupleGo target it v) (fun _ s2 => wpAny (model prog w) A (assign target env v) (fun _ s3 => wpAny (model prog w) A (isTrue cond env (eval cond env)) (fun ok s4 =>
     if ok = true then wpAny (model prog w) A (eval elt env) (fun x s5 => wpAny (model prog w) A (call (.builtin "list.append") [acc,x]) (fun _ s6 => ∃ m,m < n ∧ I m s6) (fun _ _ => False) s5) (fun _ _ => False) s4
     else ∃ m,m < n ∧ I m s4) (fun _ _ => False) s3) (fun _ _ => False) s2) (fun _ _ => False) s1) (fun _ _ => False) s)
  (n : Nat) (h : I n s) : codeAny (model prog w) A (.compLoop (.ListComp elt [⟨target,iter,[cond],0⟩] scope pos) 0 it acc env) R s := by
 apply codeAny_loop rfl I ?_ n h
 intro n s hI
 show wpAny _ _ ((compTurn (.ListComp elt [⟨target,iter,[cond],0⟩] scope pos) 0 it acc env).onRaise _) _ _ s
 apply wpAny_noted
 rw [compTurn_list]
 apply wpAny_bind
 apply wpAny_standAt
 apply wpAny_bind
 refine wpAny_mono (turn n s hI) (fun r s1 h1 => ?_) fun _ _ z => z.elim
 cases r with
 | none => exact wpAny_pure h1
 | some v =>
  apply wpAny_bind
  refine wpAny_mono h1 (fun _ s2 h2 => ?_) fun _ _ z => z.elim
  apply wpAny_bind
  refine wpAny_mono h2 (fun _ s3 h3 => ?_) fun _ _ z => z.elim
  apply wpAny_bind
  refine wpAny_mono (wpAny_tests_one h3) (fun ok s4 h4 => ?_) fun _ _ z => z.elim
  cases ok with
  | true =>
   apply wpAny_bind
   apply wpAny_bind
   refine wpAny_mono h4 (fun x s5 h5 => ?_) fun _ _ z => z.elim
   apply wpAny_bind
   refine wpAny_mono h5 (fun _ s6 h6 => ?_) fun _ _ z => z.elim
   exact wpAny_pure (wpAny_pure ⟨rfl,h6⟩)
  | false =>
   have h4' : ∃ m,m < n ∧ I m s4 := h4
   exact wpAny_pure ⟨rfl,h4'⟩
end
section
variable {X : Cx} {scope : Scope} {cl : List (Str × Addr)} {own : Str} {ys : List Str} {js : List Nat} {elt iter cond : Expr} {px pos : Pos} {wi : TI} {te : TE} {tc : TT}
theorem eR (hc : X.calm = true) (ok : eh X scope cl own ys js) (hi : PI X (.Name own px) iter wi)
  (hq : ∀ (C : Addr) (fp : List Addr) (s : Shared) (H : Hp),PT (X.block scope cl C (own :: ys) own fp s H) cond tc)
  (he : ∀ (C : Addr) (fp : List Addr) (s : Shared) (H : Hp),PE (X.block scope cl C (own :: ys) own fp s H) elt te)
  (hs : ∀ x,foldedSetIterable iter X.env x = pure x := by intro _; rfl) : PE X (.ListComp elt [⟨.Name own px,iter,[cond],0⟩] scope pos) (mT wi js tc te) := by
 intro pins s σ H Q I h
 rw [eval_ListComp]
 have ncell : ∀ y ∈ scope.names,y.2 ≠ .cell := fun y hy z => by
  have q := List.all_eq_true.mp ok.nocell y hy
  rw [z] at q
  simp at q
 have nloc : ∀ y ∈ scope.names,y.2 = .local → scope.names.lookup y.1 = some .local := fun y hy z => by
  have q := List.all_eq_true.mp ok.loc y hy
  rw [z] at q
  simpa using q
 refine wpAny_comprehension_free (use := none) rfl hs ok.clos ok.kind nloc (a9 (hi pins s σ H _ I h) fun v s1 h1 => a9 h1 fun itv s2 h2 => ?_)
 obtain ⟨it,fp,tn,J,H2,rfl,I2,T,st2,f2,q2⟩ := h2
 obtain ⟨W,⟨m0,w0⟩,turn⟩ := q2 s2.heap.objs.size (I2.hok.fresh (Nat.le_refl _))
 refine wpAny_newObj_type (wpAny_newFunctionEnv ncell (by intro y hy; simp at hy) (fun h1 hns hsb => ?_) ok.kind)
 have I3 := I2.laid (a := s2.heap.objs.size) (o := .lst []) (h' := s2.heap.push { cls := .type "list",dict := none,data := .seq ([] : List Value).toArray }) (t' := s2.toks) (fun b u q => Heap.get?_push_of_some _ q) (Nat.le_refl _)
  ⟨Nat.zero_le _,[],0,.nil,Heap.get?_push_size _ rfl⟩
 have fpo : ∀ b ∈ fp,b < s2.heap.objs.size := fun b hb => by
  obtain ⟨o,e,_⟩ := T.obj 0 _ st2 b hb
  exact Heap.lt_size e
 have f3 : ∀ b ∈ fp,cT X pins (aD H2 s2.heap.objs.size (.lst [])) b := fun b hb => ⟨by rw [aA (Nat.ne_of_lt (fpo b hb))]; exact (f2 b hb).1,(f2 b hb).2⟩
 generalize hs3 : ({ s2 with heap := s2.heap.push { cls := .type "list",dict := none,data := .seq ([] : List Value).toArray },toks := s2.toks } : Shared) = s3 at I3
 have e3 : s3.heap = s2.heap.push { cls := .type "list",dict := none,data := .seq ([] : List Value).toArray } := by rw [← hs3]
 have lt3 : ∀ b ∈ fp,b < s3.heap.objs.size := fun b hb => by rw [e3,Heap.size_push]; exact Nat.lt_succ_of_lt (fpo b hb)
 dsimp only at hns hsb ⊢
 rw [← e3] at hns hsb
 have hk : ∀ b o,s3.heap.get? b = some o → h1.get? b = some o := fun b o e => hsb.extBut b o (Nat.ne_of_lt (Heap.lt_size e)) (Heap.get?_push_of_some _ e)
 have J0 := cw (h1 := h1) ok I3 f3 lt3 hns hk (s2.toks + 0)
 have t0 : tn 0 h1 := T.keep 0 _ _ st2 fun b hb o e => hk b o (by rw [e3]; exact Heap.get?_push_of_some _ e)
 have fpB : ∀ {H' : Hp},(∀ b ∈ fp,H' b = none) → ∀ b ∈ fp,cT (X.block scope cl s3.heap.objs.size (own :: ys) own fp s3 (aD H2 s2.heap.objs.size (.lst []))) [] H' b := fun {H'} hn b hb =>
  ⟨hn b hb,Nat.ne_of_lt (lt3 b hb),fun z => (List.mem_cons.mp (I3.stkSub b z)).elim (f3 b hb).2.1 (f3 b hb).2.2.1,.inl hb,fun x c e => (f3 b hb).2.2.2.2.1 x c (ok.sub (x,c) (PySem.mem_of_lookup e)),fun p hp => absurd (show p ∈ ([] : List (Addr × Obj)) from hp) (by simp)⟩
 have loop : codeAny (model X.prog X.w) X.A (.compLoop (.ListComp elt [⟨.Name own px,iter,[cond],0⟩] scope pos) 0 (.ref it) (.ref s2.heap.objs.size) (compEnvC scope cl s3.heap.objs.size X.env))
   (compPost (model X.prog X.w) X.A X.xe none (EP X pins σ Q) (.ref s2.heap.objs.size) s3.heap.objs.size) { s3 with heap := h1,toks := s2.toks + 0 } := by
  refine gN (fun n s' => ∃ i zs o0 H',aM (X.block scope cl s3.heap.objs.size (own :: ys) own fp s3 (aD H2 s2.heap.objs.size (.lst []))) [] (o0 :: aS js σ) H' s' ∧ tn i s'.heap ∧ (∀ b ∈ fp,H' b = none) ∧ W i n zs H') ?_ m0
   ⟨0,[],none,_,J0,t0,fun b hb => (f3 b hb).1,w0⟩
  rintro n s5 ⟨i,zs,o0,H5,I5,t5,n5,w5⟩
  obtain ⟨hD,hw⟩ := turn i n zs H5 w5
  rcases hw with ⟨stop,qn⟩ | ⟨go,hz,step⟩
  ·refine a9 (T.done (X.block scope cl s3.heap.objs.size (own :: ys) own fp s3 (aD H2 s2.heap.objs.size (.lst []))) rfl rfl rfl hc i [] s5 _ H5 (fun _ _ => False) I5 (fpB n5) t5 stop) fun r s6 ⟨hr,I6⟩ => ?_
   subst hr
   obtain ⟨m,hn,_⟩ := id I6.loc
   exact ⟨m,hn,fun h' hs' => ⟨V.ref s2.heap.objs.size,H5,c5 I3 f3 I6 hs',rfl,qn⟩⟩
  ·refine a9 (T.item (X.block scope cl s3.heap.objs.size (own :: ys) own fp s3 (aD H2 s2.heap.objs.size (.lst []))) rfl rfl rfl hc i [] s5 _ H5 (fun _ _ => False) I5 (fpB n5) t5 go) fun r s6 ⟨u,hr,h6⟩ => ?_
   subst hr
   refine a9 h6 fun _ s7 ⟨x,H7,I7,r7,y7,t7,n7⟩ => ?_
   have I7' := I7.pinned (fpB n7) (T.obj _ _ t7)
   have hst := step x H7 y7
   have own' : (relabel scope X.env).names.lookup own = some .local := lookup_relabel_local ok.ownL
   refine a9 (ay (X := X.block scope cl s3.heap.objs.size (own :: ys) own fp s3 (aD H2 s2.heap.objs.size (.lst []))) (i := 0) (x := own) (pos := px) ok.nd rfl (.inl own') (.inr own') _ s7 _ H7 x u (fun σ' H' => σ' = some x :: aS js σ ∧ H' = H7) I7' r7 ⟨rfl,rfl⟩) fun _ s8 ⟨σ8,H8,I8,e8,eH8⟩ => ?_
   subst e8 eH8
   refine a9 (hq _ _ _ _ _ s8 _ H8 _ I8 hst) fun ok s9 ⟨H9,I9,h9⟩ => ?_
   have frame : ∀ {s' : Shared} {H' : Hp},aM (X.block scope cl s3.heap.objs.size (own :: ys) own fp s3 (aD H2 s2.heap.objs.size (.lst []))) ([] ++ fW fp s7.heap) (some x :: aS js σ) H' s' → tn (i + 1) s'.heap ∧ ∀ b ∈ fp,H' b = none := fun {s' H'} I' =>
    ⟨T.keep _ _ _ t7 fun b hb o e => (I'.pin (b,o) (List.mem_append_right _ (List.mem_append_right _ (bv hb e)))).1,fun b hb => by
     obtain ⟨o,e,d⟩ := T.obj _ _ t7 b hb
     exact (I'.pin (b,o) (List.mem_append_right _ (List.mem_append_right _ (bv hb e)))).2.1⟩
   cases ok with
   | true =>
    refine a9 (he _ _ _ _ _ s9 _ H9 _ I9 h9) fun yv s10 ⟨y,H10,I10,r10,hD10,m',hm,w10⟩ => ?_
    refine a9 (aW _ s10 _ H10 (.ref s2.heap.objs.size) [y] (.ref s2.heap.objs.size) [yv] (fun _ H' => H' = aD H10 s2.heap.objs.size (.lst (zs ++ [y]))) I10 rfl (.cons r10 .nil) ⟨_,zs,y,rfl,rfl,hD10,hz,rfl⟩) fun _ s11 ⟨_,H11,I11,_,e11⟩ => ?_
    subst e11
    exact ⟨m',hm,i + 1,zs ++ [y],some x,_,I11.unpinned,(frame I11).1,(frame I11).2,w10⟩
   | false =>
    obtain ⟨m',hm,w10⟩ := h9
    exact ⟨m',hm,i + 1,zs,some x,_,I9.unpinned,(frame I9).1,(frame I9).2,w10⟩
 subst hs3
 exact codeAny_compStart_list loop (T.self _ 0 _ _ _ t0 loop)
end
section
variable {X : Cx}
end
section
variable {prog : Program} {w : World} {κ : Type} [DecidableEq κ] {knd : KeyKind prog w κ} {A : Around} {E : Value → Shared → Prop} {s : Shared}
def xv (prog : Program) (w : World) (A : Around) (s : Shared) (v y : Value) : Prop := ∀ (E : Value → Shared → Prop) (Q : Bool → Shared → Prop),Q true s → wpAny (model prog w) A (eqBool v y) Q E s
theorem ql {nm : String} {a b : Addr} {ka kb : List (κ × Value)} {Q : Bool → Shared → Prop} (na : (a == sysModules) = false) (nb : (b == sysModules) = false)
  (da : s.heap.DictOf knd a ka) (db : s.heap.DictOf knd b kb) (hl : ka.length = kb.length) (hits : ∀ (i : Nat) (k : κ) (v : Value),ka[i]? = some (k,v) → ∃ y,valueAt kb k = some y ∧ xv prog w A s v y) (q : Q true s) :
  wpAny (model prog w) A (Builtin.Dict.samePairs nm a b) Q E s := by
 obtain ⟨o1,t1,e1,g1,_,d1,k1,p1,_⟩ := da
 obtain ⟨o2,t2,e2,g2,_,d2,k2,p2,_⟩ := db
 have n1 : ka.length = t1.size := p1.length.symm.trans Array.length_toList
 have n2 : kb.length = t2.size := p2.length.symm.trans Array.length_toList
 have look : ∀ k,findBy knd.is t2 k = valueAt kb k := by
  intro k
  rw [← p2.find k]
  clear n2 p2 k2 d2 g2
  rcases t2 with ⟨l⟩
  simp [findBy]
 have sz : t1.size = t2.size := by rw [← n1,← n2,hl]
 simp only [Builtin.Dict.samePairs,Builtin.Dict.showsAll,na,nb,Bool.false_eq_true,if_false]
 apply wpAny_bind
 apply wpAny_pure
 apply wpAny_bind
 apply wpAny_pure
 apply wpAny_bind
 apply wpAny_dictEntries g1 d1
 apply wpAny_bind
 apply wpAny_dictEntries g2 d2
 have ns : (t1.size != t2.size) = false := by simp [sz]
 rw [ns]
 apply wpAny_bind
 apply wpAny_dictEpoch g1 d1
 apply wpAny_bind
 rewrite [Std.Legacy.Range.forIn_eq_forIn_range']
 simp only [Nat.sub_zero,Nat.div_one,Nat.add_sub_cancel,Std.Legacy.Range.size]
 apply wpAny_forIn_list _ (fun rest r s' => s' = s ∧ r = (none,()) ∧ ∃ i,rest = List.range' i (t1.size - i) ∧ i ≤ t1.size)
 case h => exact ⟨rfl,rfl,0,by simp,Nat.zero_le _⟩
 case fin =>
  rintro r s' ⟨rfl,rfl,_⟩
  exact wpAny_pure q
 case turn =>
  rintro x rest r s' ⟨rfl,rfl,i,er,hi⟩
  have hlt : i < t1.size := by
   apply Nat.lt_of_not_le
   intro c
   rw [Nat.sub_eq_zero_of_le c] at er
   simp at er
  have one : t1.size - i = (t1.size - (i + 1)) + 1 := by omega
  rw [one,List.range'_succ] at er
  injection er with ex erest
  subst ex
  apply wpAny_bind
  apply wpAny_dictEntries g1 d1
  rw [Array.getElem?_eq_getElem hlt]
  have hlk : x < ka.length := by rw [n1]; exact hlt
  have hat : ka[x]? = some (ka[x].1,ka[x].2) := List.getElem?_eq_getElem hlk
  obtain ⟨y,hy,le⟩ := hits x _ _ hat
  obtain ⟨ky,vy⟩ := p1.get? (i := x) (e := t1[x]) (by rw [Array.getElem?_toList]; exact Array.getElem?_eq_getElem hlt) hat
  obtain ⟨k',hk',hh⟩ := k1 t1[x] (Array.getElem_mem hlt)
  rw [knd.inj _ _ _ hk' ky] at hh
  show wpAny _ _ (holding [t1[x].key,t1[x].val] _ >>= _) _ _ _
  rw [hh]
  apply wpAny_bind
  apply wpAny_holding
  apply wpAny_bind
  apply wpAny_dictFind_of ky g2 d2 k2
  have fnd := look ka[x].1
  rw [hy,findBy_of_findIdx?] at fnd
  cases hj : t2.findIdx? fun e => knd.is ka[x].1 e.key with
  | none => rw [hj] at fnd; cases fnd
  | some j =>
   obtain ⟨jlt,_⟩ := Array.findIdx?_eq_some_iff_getElem.mp hj
   rw [hj] at fnd
   have ev : t2[j].val = y := by simpa [Array.getElem?_eq_getElem jlt] using fnd
   apply wpAny_bind
   apply wpAny_dictEntries g2 d2
   rw [Array.getElem?_eq_getElem jlt]
   apply wpAny_holding
   rw [ev,vy]
   apply le
   apply wpAny_bind
   apply wpAny_dictEpoch g1 d1
   rw [if_neg (by simp)]
   exact wpAny_pure ⟨rfl,rfl,x + 1,erest,hlt⟩
theorem rC {c d : Addr} {ka kb : List (κ × Value)} {Q : Value → Shared → Prop} (na : (c == sysModules) = false) (nb : (d == sysModules) = false) (da : s.heap.DictOf knd c ka) (db : s.heap.DictOf knd d kb) (hu : A.units < cLine)
  (hl : ka.length = kb.length) (hits : ∀ (i : Nat) (k : κ) (v : Value),ka[i]? = some (k,v) → ∃ y,valueAt kb k = some y ∧ xv prog w A.in1 s v y) (q : Q (.bool true) s) : wpAny (model prog w) A (compareOp .Eq (.ref c) (.ref d)) Q E s := by
 apply wpAny_richCompare_same_room (op := .Eq) da.typeIs db.typeIs PySem.F.slot_dict_eq ?_ hu
 apply wpAny_call_entry PySem.F.slot_dict_eq da.typeIs PySem.F.entry_dict_eq ?_ (PySem.F.args_dict_eq_2 _ _)
 show wpAny _ _ (Builtin.Dict.dictSlotArgs "__eq__" ⟨[.ref c,.ref d],[]⟩ >>= _) _ _ s
 apply wpAny_bind
 unfold Builtin.Dict.dictSlotArgs
 apply wpAny_bind
 apply wpAny_notOrdered_dict da.typeIs
 show wpAny _ _ (pure (Value.ref c,Value.ref d)) _ _ s
 apply wpAny_pure
 apply wpAny_bind
 apply wpAny_isInstance (T := "dict") db.typeIs PySem.F.sub_dict_dict
 simp only [if_false,Bool.not_true,Bool.false_eq_true]
 apply wpAny_bind
 apply wpAny_pure
 apply wpAny_bind
 apply wpAny_pure
 apply wpAny_bind
 apply ql na nb da db hl hits
 exact wpAny_pure ⟨_,rfl,(fun z => nomatch z),q⟩
end
theorem rD : typeLookup (.type "list_reverseiterator") "__len__" = pure none := by
 rw [typeLookup_type,builtinLookup_eq_fast]
 kernel_rfl
theorem qm : typeLookup (.type "list_reverseiterator") "__length_hint__" = pure (some (.builtin "list_reverseiterator.__length_hint__")) := by
 rw [typeLookup_type,builtinLookup_eq_fast]
 kernel_rfl
section
variable {prog : Program} {w : World} {A : Around} {R : Result → Shared → Prop} {s : Shared} {I l S : Addr} {items : Array Value}
abbrev tm (items : Array Value) : Nat → Value → Prop := fun i v => items[items.size - 1 - i]? = some v
theorem l8 (hh : A.in1.handled = none) (hlI : l ≠ I) (hSI : S ≠ I) (hSl : S ≠ l) (res : Value) (c : Nat) (hit : s.heap.IsRevIter I l ((items.size : Int) - 1)) (hl : s.heap.IsList l items)
  (hS : s.heap.get? S = some { cls := .type "list",data := .seq #[] c }) (hn : items.size ≤ sizeLine)
  (fin : ∀ s' acc c',Moved [S,I] (fun a b => b = a) s s' → s'.heap.get? S = some { cls := .type "list",dict := none,data := .seq acc c',slots := #[] } → ItemsOf (tm items) acc items.size → R (.ok (.ret res)) s') :
  wpAny (model prog w) A.in1 (Builtin.List.listExtendWith (.ref S) (.ref I) res)
   (fun fin s' => match fin with | .done f => R (.ok f) s' | .again c' => c'.quiet = true ∧ codeAny (model prog w) A c' R s') (fun e s' => R (.error e) s') s := by
 have ty : s.TypeIs (.ref I) "list_reverseiterator" := hit.typeIs
 have ns : Builtin.List.listSameRef (.ref S) (.ref I) = false := by
  simp [Builtin.List.listSameRef,hSI]
 unfold Builtin.List.listExtendWith
 apply wpAny_bind
 apply wpAny_typeOf ty
 rw [if_neg (by rw [ns]; decide)]
 apply wpAny_bind
 apply wpAny_pyIter_revIter hit
 apply wpAny_bind
 apply wpAny_holding
 unfold Builtin.List.listLengthHint
 apply wpAny_bind
 apply wpAny_specialOf ty rD
 show wpAny _ _ (specialOf (Value.ref I) (Str.ofString "__length_hint__") >>= _) _ _ s
 apply wpAny_bind
 apply wpAny_specialOf ty qm
 generalize hid : ("list_reverseiterator.__length_hint__" : String) = id0
 wp_delta
 rw [show splitId id0 = some ("list_reverseiterator","__length_hint__") from by subst hid; decide +kernel]
 subst hid
 apply wpAny_bind
 refine wpAny_isInstance (b := true) ty (by rw [isSubtype_type]; kernel_rfl) ?_
 apply wpAny_pure
 rw [if_neg (by decide)]
 have W := (Walks.listRev (prog := prog) (w := w) hh I l hlI items).toS
 have out : S ∉ [I,l] := by
  simp only [List.mem_cons,List.not_mem_nil,or_false,not_or]
  exact ⟨hSI,hSl⟩
 have st : (0 : Nat) ≤ items.size ∧ s.heap.IsRevIter I l ((items.size : Int) - 1 - ((0 : Nat) : Int)) ∧ s.heap.IsList l items := ⟨Nat.zero_le _,by simpa using hit,hl⟩
 apply wpAny_pure
 refine ⟨plainId_quiet PySem.F.plain_extend_loop _,?_⟩
 exact codeAny_extend_loopS W hn S out res items.size 0 s #[] c rfl (Nat.zero_le _) st hS (ItemsOf.nil _) fin
theorem qo {E : Value → Shared → Prop} {Q : Value → Shared → Prop} (hh : A.handled = none) (hlI : l ≠ I) (hit : s.heap.IsRevIter I l ((items.size : Int) - 1)) (hl : s.heap.IsList l items) (hn : items.size ≤ sizeLine)
  (fin : ∀ h' tk acc c',(∀ b o,b ≠ I → s.heap.get? b = some o → h'.get? b = some o) → h'.get? s.heap.objs.size = some { cls := .type "list",dict := none,data := .seq acc c',slots := #[] } → ItemsOf (tm items) acc items.size → Q (.ref s.heap.objs.size) { s with heap := h',toks := tk }) :
  wpAny (model prog w) A (call (.type "list") [.ref I]) Q E s := by
 have lI : I < s.heap.objs.size := by
  obtain ⟨o,e,_⟩ := hit
  exact Heap.lt_size e
 have ll : l < s.heap.objs.size := by
  obtain ⟨o,e,_⟩ := hl
  exact Heap.lt_size e
 refine callType_codes (Q₁ := fun v s1 => v = .ref s.heap.objs.size ∧ s1 = { s with heap := s.heap.push { cls := .type "list",data := .seq #[] } }) PySem.F.called_list (PySem.F.typeCall_list_1 _) PySem.F.entry_list_init (code_list_new _ ⟨rfl,rfl⟩) ?_
 rintro v s1 ⟨rfl,rfl⟩
 have e0 : (s.heap.push { cls := .type "list",data := .seq #[] }).get? s.heap.objs.size = some { cls := .type "list",data := .seq #[] } := Heap.get?_push_size _ rfl
 refine ⟨⟨_,e0,rfl⟩,PySem.F.args_list_init_2 _ _,?_⟩
 show wpAny _ _ (Builtin.List.listItems (.ref s.heap.objs.size) >>= fun old => Builtin.List.listUpdate (.ref s.heap.objs.size) (fun _ => #[]) >>= fun _ => letGo old.toList.reverse >>= fun _ => Builtin.List.listExtendWith (.ref s.heap.objs.size) (.ref I) .none) _ _ _
 apply wpAny_bind
 unfold Builtin.List.listItems
 apply wpAny_bind
 apply wpAny_seqItems e0 rfl
 apply wpAny_pure
 show wpAny _ _ (updateSeq s.heap.objs.size (fun _ => #[]) >>= fun _ => letGo (#[] : Array Value).toList.reverse >>= fun _ => Builtin.List.listExtendWith (.ref s.heap.objs.size) (.ref I) .none) _ _ _
 apply wpAny_bind
 apply wpAny_updateSeq e0 rfl
 have e1 := Heap.get?_update_self (Obj.mapSeq (fun _ => (#[] : Array Value))) e0 rfl
 have old : ∀ b o,b ≠ s.heap.objs.size → s.heap.get? b = some o → ((s.heap.push { cls := .type "list",data := .seq #[] }).update s.heap.objs.size (Obj.mapSeq (fun _ => (#[] : Array Value)))).get? b = some o := fun b o hb e =>
  (Heap.get?_update_other _ _ (Ne.symm hb)).trans (Heap.get?_push_of_some _ e)
 apply wpAny_bind
 apply wpAny_letGo
 refine l8 (A := A.in1) (by simpa using hh) hlI (Nat.ne_of_gt lI) (Nat.ne_of_gt ll) .none _ ?_ ?_ e1 hn fun s' acc c' mv eS it => ?_
 ·obtain ⟨o,e,z⟩ := hit
  exact ⟨o,old _ _ (Nat.ne_of_lt lI) e,z⟩
 ·obtain ⟨o,e,z⟩ := hl
  exact ⟨o,old _ _ (Nat.ne_of_lt ll) e,z⟩
 ·obtain ⟨h',g',d',tk',os'⟩ := s'
  have eg : g' = s.gens := mv.gens
  have ed : d' = s.drawn := mv.drawn
  have eo : os' = s.os := mv.os
  subst eg ed eo
  refine ⟨rfl,fin h' tk' acc c' (fun b o hb e => ?_) eS it⟩
  refine mv.heap b o ?_ (old b o (Nat.ne_of_lt (Heap.lt_size e)) e)
  simp only [List.mem_cons,List.not_mem_nil,or_false,not_or]
  exact ⟨Nat.ne_of_lt (Heap.lt_size e),hb⟩
end
theorem kx : ∀ {xs : List V} {us : List Value},bh xs us → bh xs.reverse us.reverse
 | _,_,.nil => .nil
 | _,_,.cons r t => by
  rw [List.reverse_cons,List.reverse_cons]
  exact (kx t).append (.cons r .nil)
theorem nW {us : List Value} {acc : Array Value} (h : ItemsOf (tm us.toArray) acc us.toArray.size) : acc.toList = us.reverse := by
 obtain ⟨h1,h2⟩ := h
 refine List.ext_getElem? fun i => ?_
 by_cases hi : i < acc.size
 ·have e := h2 i acc[i] (Array.getElem?_eq_getElem hi)
  rw [Array.getElem?_toList,Array.getElem?_eq_getElem hi,List.getElem?_reverse (by simpa [h1] using hi)]
  simpa using e.symm
 ·rw [List.getElem?_eq_none (by simpa using hi),List.getElem?_eq_none (by rw [List.length_reverse]; simp [h1] at hi; omega)]
def wQ (K : PySem.W.Frag) (te : TE) : TE := fun σ H Q => te σ H fun x H1 => ∃ a xs,x = .ref a ∧ az K H1 a xs ∧ ∀ l,H1 l = none → Q (.ref l) (aD H1 l (.lst xs.reverse))
section
variable {X : Cx} {e : Expr} {te : TE} {p1 p2 pos pos2 : Pos}
theorem ma (hc : X.calm = true) (g1 : Gl X "list") (m1 : X.mg "list" = none) (g2 : Gl X "reversed") (m2 : X.mg "reversed" = none) (b1 : bootBuiltins "list" = some (.type "list")) (b2 : bootBuiltins "reversed" = some (.type "reversed")) (he : PE X e te)
  (hs : starEach [e] X.env = [(false,eval e X.env)] := by rfl) :
  PE X (.Call (.Name "list" p1) [.Call (.Name "reversed" p2) [e] [] pos2] [] pos) (wQ X.K te) := by
 intro pins s σ H Q I h
 apply wpAny_Call_Name_kw
 refine cA I g1 m1 b1 ?_ (by decide) (by decide)
 refine PyProof.Rows.callWith_type1 ?_ rfl rfl
 refine Calls.spliced_cons (x := eval (.Call (.Name "reversed" p2) [e] [] pos2) X.env) (rest := []) ?_
 apply wpAny_Call_Name_kw
 refine cA I g2 m2 b2 ?_ (by decide) (by decide)
 refine PyProof.Rows.callWith_type1 ?_ hs rfl
 rw [hs]
 refine Calls.spliced_cons (x := eval e X.env) (rest := []) (a9 (he pins s σ H _ I h) fun v s1 ⟨x,H1,I1,r1,a,xs,ex,hq,q⟩ => ?_)
 subst ex
 cases r1
 apply Calls.spliced_nil
 obtain ⟨its,rv,pl,hz⟩ := I1.list hq
 have hli : s1.heap.IsList a its.toArray := pl.isList
 have alt : a < s1.heap.objs.size := by
  obtain ⟨o,eo,_⟩ := id hli
  exact Heap.lt_size eo
 apply call_reversed_list hli
 apply Calls.spliced_nil
 have I2 : aM X pins σ H1 { s1 with heap := s1.heap.push (revObj a ((its.toArray.size : Int) - 1)),toks := s1.toks } := I1.kept fun b o e => Heap.get?_push_of_some _ e
 have sz : its.toArray.size = xs.length := by rw [List.size_toArray,rv.length]
 refine qo (l := a) (items := its.toArray) (I.ok.hd hc) (Nat.ne_of_lt alt) ⟨_,Heap.get?_push_size _ rfl,rfl,rfl⟩ (hli.push _) (by rw [sz]; exact hz) fun h' tk acc c' kp eL itm => ?_
 have er := nW itm
 have sl : s1.heap.objs.size ≤ (s1.heap.push (revObj a ((its.toArray.size : Int) - 1))).objs.size := by
  rw [Heap.size_push]
  exact Nat.le_succ _
 refine ⟨.ref _,_,I1.laid (a := (s1.heap.push (revObj a ((its.toArray.size : Int) - 1))).objs.size) (o := .lst xs.reverse) (h' := h') (t' := tk) (fun b o eo => kp b o (Nat.ne_of_lt (Heap.lt_size eo)) (Heap.get?_push_of_some _ eo)) sl ?_,rfl,q _ (I1.hok.fresh sl)⟩
 refine ⟨by rw [List.length_reverse]; exact hz,acc.toList,c',by rw [er]; exact kx rv,?_⟩
 rw [Array.toArray_toList]
 exact eL
end
def upTo (ks : Nat → Key) (i : Nat) : Key → Bool := fun k => (List.range i).any fun j => decide (ks j = k)
theorem nX (ks : Nat → Key) (i : Nat) : (fun k => upTo ks i k || decide (k = ks i)) = upTo ks (i + 1) := by
 funext k
 unfold upTo
 rw [List.range_succ,List.any_append]
 simp [eq_comm]
section
variable {prog : Program} {w : World} {A : Around} {R : Result → Shared → Prop} {I : Addr} {fp wr : List Addr} {G : Array GenState → Array GenState → Prop} {n : Nat} {P : Nat → Value → Prop} {St : Nat → Shared → Prop}
theorem qp (W : WalksS prog w A.in1 I fp wr G n P St) (S : Addr) (out : S ∉ fp) (ks : Nat → Key) (hv : ∀ i v,P i v → (aF prog w).is (ks i) v = true ∧ v.scannable = true)
  (inj : ∀ i,i < n → upTo ks i (ks i) = false) (hb : n + 1 < scanBound) : ∀ (m i : Nat) (s : Shared),n - i = m → i ≤ n → St i s → s.heap.SetOf (aF prog w) S (upTo ks i) i →
   (∀ s',Moved (S :: wr) G s s' → s'.heap.SetOf (aF prog w) S (upTo ks n) n → R (.ok (.ret .none)) s') → codeAny (model prog w) A (.builtin "set.update.loop" ⟨[.ref S,.ref I],[]⟩) R s := by
 have nw : S ∉ wr := fun h => out (W.sub _ h)
 have up : ∀ b ∈ wr,b ∈ S :: wr := fun b hb => .tail _ hb
 have stay : ∀ {s1 s2 : Shared} {f : Key → Bool} {c : Nat},s1.heap.SetOf (aF prog w) S f c → Moved wr G s1 s2 → s2.heap.SetOf (aF prog w) S f c := by
  rintro s1 s2 f c ⟨o,es,ep,t,ho,z⟩ mv
  exact ⟨o,es,ep,t,mv.heap S _ nw ho,z⟩
 intro m
 induction m with
 | zero =>
  intro i s hm hi st hS fin
  have e : i = n := by omega
  subst e
  apply codeAny_builtin F.entry_set_update_loop
  rw [Around.under_plainId F.plain_set_update_loop _]
  show wpAny _ _ (pyNext (.ref I) >>= _) _ _ s
  apply wpAny_bind
  refine W.done s _ _ st fun s' mv => ?_
  exact wpAny_pure (fin s' (mv.mono up) (stay hS mv))
 | succ m ih =>
  intro i s hm hi st hS fin
  have lt : i < n := by omega
  apply codeAny_builtin F.entry_set_update_loop
  rw [Around.under_plainId F.plain_set_update_loop _]
  show wpAny _ _ (pyNext (.ref I) >>= _) _ _ s
  apply wpAny_bind
  refine W.item i s _ _ lt st fun v s' pv st' mv => ?_
  obtain ⟨kv,sc⟩ := hv i v pv
  show wpAny _ _ (holding [v] (setAdd S v) >>= _) _ _ s'
  apply wpAny_bind
  apply wpAny_holding
  unfold setAdd
  apply wpAny_holding
  apply wpAny_bind
  refine (aF prog w).pyHash (k := ks i) kv ?_
  refine wpAny_setAddHashed_of (knd := aF prog w) (s := { s' with toks := s'.toks + 1 }) kv sc (show Heap.SetOf (aF prog w) s'.heap S (upTo ks i) i from stay hS mv) (by omega) fun h' same S2 => ?_
  have S3 : h'.SetOf (aF prog w) S (upTo ks (i + 1)) (i + 1) := by
   rw [nX,inj i lt] at S2
   exact S2
  apply wpAny_pure
  refine ⟨plainId_quiet F.plain_set_update_loop _,ih (i + 1) _ (by omega) lt (W.frame _ s' _ _ st' (Nat.le_succ _) fun b hb o e => ?_) S3 fun s'' mv2 S4 => ?_⟩
  ·exact (same.2 b fun z => out (z ▸ hb)).trans e
  ·exact fin s'' (Moved.trans W.gtrans ((mv.mono up).then_heap (Nat.le_succ _) fun b o hb e => (same.2 b fun z => hb (z ▸ List.mem_cons_self)).trans e) mv2) S4
end
section
variable {prog : Program} {w : World} {A : Around} {E : Value → Shared → Prop} {s : Shared}
set_option maxHeartbeats 3200000 in
theorem nY {l : Addr} {items : Array Value} {ks : Nat → Key} {Q : Value → Shared → Prop} (hh : A.handled = none) (hl : s.heap.IsList l items) (hv : ∀ i v,items[i]? = some v → (aF prog w).is (ks i) v = true ∧ v.scannable = true)
  (inj : ∀ i,i < items.size → upTo ks i (ks i) = false) (hb : items.size + 1 < scanBound)
  (fin : ∀ (h' : Heap) (tk : Nat),h'.SetOf (aF prog w) s.heap.objs.size (upTo ks items.size) items.size → (∀ b o,b < s.heap.objs.size → s.heap.get? b = some o → h'.get? b = some o) → Q (.ref s.heap.objs.size) { s with heap := h',toks := tk }) :
  wpAny (model prog w) A (call (.type "set") [.ref l]) Q E s := by
 obtain ⟨c0,tl0,mro⟩ := F.called_set.mro
 have made := F.called_set.made
 have subt := F.called_set.sub
 apply wpAny_call
 apply codeAny_of_tree
 show wpAny _ _ (callAny (.type "set") _) _ _ _
 apply wpAny_pure
 refine ⟨Code.quiet_builtin _ (by decide +kernel),codeAny_builtin F.entry_type_call ?_⟩
 rw [Around.under_plain (weight_type_call_type "set" [.ref l] []) rfl]
 have nt := F.called_set.notType
 have cc := F.called_set.canCreate
 have tc := F.typeCall_set_1 (.ref l)
 repeat any_goals first | assumption | wp_step
 refine codeAny_mono (code_set_new_1 (.ref l) (E := E) (Q₁ := fun v s1 => ∃ led : Bool,v = .ref s.heap.objs.size ∧ s1 = { s with heap := s.heap.push { cls := .type "set",dict := none,data := .set #[] 0 (.fresh 0 0 led) } }) fun led => ⟨led,rfl,rfl⟩) fun r s1 hr => ?_
 cases r with
 | error e => exact hr
 | ok fl =>
  cases fl with
  | ret v =>
   obtain ⟨led,rfl,rfl⟩ := hr
   have e0 : (s.heap.push { cls := .type "set",dict := none,data := .set #[] 0 (.fresh 0 0 led) }).get? s.heap.objs.size = some { cls := .type "set",dict := none,data := .set #[] 0 (.fresh 0 0 led) } := Heap.get?_push_size _ rfl
   have tS : Shared.TypeIs { s with heap := s.heap.push { cls := .type "set",dict := none,data := .set #[] 0 (.fresh 0 0 led) } } (.ref s.heap.objs.size) "set" := ⟨_,e0,rfl⟩
   have lk := F.called_set.init.lookup
   have bd := F.called_set.init.bind (.ref s.heap.objs.size)
   repeat any_goals first | assumption | wp_step
   refine codeAny_mono (codeAny_call_builtin (R := wants (fun r s2 => r = .none ∧ ∃ h' tk,s2 = { s with heap := h',toks := tk } ∧ h'.SetOf (aF prog w) s.heap.objs.size (upTo ks items.size) items.size ∧ ∀ b o,b < s.heap.objs.size → s.heap.get? b = some o → h'.get? b = some o) E) F.called_set.init.plain F.entry_set_init (check_set_init_1 tS ?_)) fun r2 s2 hr2 => ?_
   ·obtain ⟨⟨lc,ld,lx,ls⟩,hol,hcl,nl,hdl⟩ := hl
    simp only at hcl hdl
    subst hcl hdl
    have el : (s.heap.push { cls := .type "set",dict := none,data := .set #[] 0 (.fresh 0 0 led) }).get? l = some { cls := .type "list",dict := ld,data := .seq items nl,slots := ls } := Heap.get?_push_of_some _ hol
    have n1 := F.sub_list_set
    have n2 := F.sub_list_frozenset
    have n3 : (Value.type "list" == Value.type "dict") = false := by decide
    have il : (s.heap.push { cls := .type "set",dict := none,data := .set #[] 0 (.fresh 0 0 led) }).IsList l items := ⟨_,el,rfl,nl,rfl⟩
    unfold Builtin.«set.__init__» noKeywords Builtin.Frozenset.updateFrom
    generalize hit : pyIter = PI
    wp_walk
    subst hit
    apply wpAny_pyIter_list il
    apply wpAny_bind
    apply wpAny_runValue
    have ll : l < s.heap.objs.size := Heap.lt_size hol
    have h3 : A.in1.in1.in1.handled = none := by simpa using hh
    have nI : l ≠ (s.heap.push { cls := .type "set",dict := none,data := .set #[] 0 (.fresh 0 0 led) }).objs.size := by
     rw [Heap.size_push]
     exact Nat.ne_of_lt (Nat.lt_succ_of_lt ll)
    have out : s.heap.objs.size ∉ [(s.heap.push { cls := .type "set",dict := none,data := .set #[] 0 (.fresh 0 0 led) }).objs.size,l] := by
     rw [Heap.size_push]
     simp only [List.mem_cons,not_or]
     exact ⟨Nat.ne_of_lt (Nat.lt_succ_self _),Nat.ne_of_gt ll,List.not_mem_nil⟩
    refine qp ((Walks.list h3 _ l nI items).toS) s.heap.objs.size out ks hv inj hb items.size 0 _ rfl (Nat.zero_le _) ⟨⟨_,Heap.get?_push_size _ rfl,rfl,rfl⟩,il.push _⟩ ?_ ?_
    ·have e1 : ((s.heap.push { cls := .type "set",dict := none,data := .set #[] 0 (.fresh 0 0 led) }).push { cls := .type "list_iterator",data := .fields #[.ref l,.int 0 0] }).get? s.heap.objs.size = some { cls := .type "set",dict := none,data := .set #[] 0 (.fresh 0 0 led) } :=
      Heap.get?_push_of_some _ e0
     refine ⟨_,#[],0,_,e1,⟨rfl,rfl,rfl⟩,rfl,(fun e he => by simp at he),(fun k => by simp [upTo]),by decide,rfl,rfl⟩
    ·intro s' mv S2
     obtain ⟨h',g',d',tk',os'⟩ := s'
     have eg : g' = s.gens := mv.gens
     have ed : d' = s.drawn := mv.drawn
     have eo : os' = s.os := mv.os
     subst eg ed eo
     show wpAny _ _ _ _ _ _
     apply wpAny_pure
     show wpAny _ _ (ret Value.none) _ _ _
     apply wpAny_pure
     refine ⟨rfl,h',tk',rfl,S2,fun b o hb' e => ?_⟩
     refine mv.heap b o ?_ (Heap.get?_push_of_some _ (Heap.get?_push_of_some _ e))
     rw [Heap.size_push]
     simp only [List.mem_cons,not_or]
     exact ⟨Nat.ne_of_lt hb',Nat.ne_of_lt (Nat.lt_succ_of_lt hb'),List.not_mem_nil⟩
   ·cases r2 with
    | error e => exact hr2
    | ok fl2 =>
     cases fl2 with
     | ret r =>
      obtain ⟨rfl,h',tk,rfl,S2,kp⟩ := hr2
      repeat any_goals first | assumption | wp_step
      exact fin _ _ S2 kp
     | _ => exact hr2.elim
  | _ => exact hr.elim
end
def rE (K : PySem.W.Frag) (te : TE) : TE := fun σ H Q => te σ H fun x H1 => ∃ (a : Addr) (ks : List Key),x = .ref a ∧ az K H1 a (ks.map kV) ∧ ks.Nodup ∧ ks.length < 4000 ∧ Q (.int ks.length) H1
theorem md {ks : List Key} (nd : ks.Nodup) (i : Nat) (hi : i < ks.length) : upTo (fun j => ks.getD j (.inl 0)) i (ks.getD i (.inl 0)) = false := by
 unfold upTo
 rw [List.any_eq_false]
 intro j hj
 have lj : j < i := List.mem_range.mp hj
 simp only [List.getD_eq_getElem?_getD,List.getElem?_eq_getElem hi,List.getElem?_eq_getElem (Nat.lt_trans lj hi),Option.getD_some,decide_eq_true_eq]
 intro e
 have := (List.getElem_inj nd).mp e
 omega
theorem kz : ∀ {ks : List Key} {us : List Value},bh (ks.map kV) us → ∀ (P : Program) (w : World) (i : Nat) (v : Value),us[i]? = some v → (aF P w).is (ks.getD i (.inl 0)) v = true ∧ v.scannable = true
 | [],_,.nil,P,w,i,v,h => by simp at h
 | k :: ks,_,.cons r t,P,w,0,v,h => by
  simp at h
  subst h
  refine ⟨jb r,?_⟩
  cases k with
  | inl z => obtain ⟨_,rfl⟩ := r; rfl
  | inr z => obtain ⟨_,rfl⟩ := r; rfl
 | k :: ks,_,.cons r t,P,w,i + 1,v,h => kz t P w i v (by simpa using h)
section
variable {X : Cx} {e : Expr} {te : TE} {p1 p2 pos pos2 : Pos}
theorem nZ (hc : X.calm = true) (g1 : Gl X "len") (m1 : X.mg "len" = none) (g2 : Gl X "set") (m2 : X.mg "set" = none) (b1 : bootBuiltins "len" = some (.builtin "len")) (b2 : bootBuiltins "set" = some (.type "set")) (he : PE X e te)
  (hs : starEach [e] X.env = [(false,eval e X.env)] := by rfl) :
  PE X (.Call (.Name "len" p1) [.Call (.Name "set" p2) [e] [] pos2] [] pos) (rE X.K te) := by
 intro pins s σ H Q I h
 apply wpAny_Call_Name_kw
 refine cA I g1 m1 b1 ?_ (by decide) (by decide)
 refine Calls.callWith_builtin rfl (Calls.evalArgs_plain ?_)
 refine Calls.spliced_cons (x := eval (.Call (.Name "set" p2) [e] [] pos2) X.env) (rest := []) ?_
 apply wpAny_Call_Name_kw
 refine cA I g2 m2 b2 ?_ (by decide) (by decide)
 refine PyProof.Rows.callWith_type1 ?_ hs rfl
 rw [hs]
 refine Calls.spliced_cons (x := eval e X.env) (rest := []) (a9 (he pins s σ H _ I h) fun v s1 ⟨x,H1,I1,r1,a,ks,ex,hq,nd,few,q⟩ => ?_)
 subst ex
 cases r1
 apply Calls.spliced_nil
 obtain ⟨its,rv,pl,hz⟩ := I1.list hq
 have sz : its.toArray.size = ks.length := by rw [List.size_toArray,← rv.length,List.length_map]
 have hli : s1.heap.IsList a its.toArray := pl.isList
 refine nY (ks := fun j => ks.getD j (.inl 0)) (I.ok.hd hc) hli (fun i v hv => kz rv X.prog X.w i v (by simpa using hv)) (fun i hi => md nd i (by rw [← sz]; exact hi)) (by rw [sz]; show ks.length + 1 < 4096; omega) fun h' tk S2 kp => ?_
 apply Calls.spliced_nil
 obtain ⟨o,es,ep,t,ho,hx,hd,_,_,hb,hf,hn⟩ := S2
 refine call_len_set ho hx hd hf (by rw [hn,sz]; have : ks.length < 4000 := few; omega) ?_
 refine ⟨.int ks.length,H1,I1.kept (fun b o e => kp b o (Heap.lt_size e) e),⟨_,by rw [hn,sz]⟩,q⟩
end
end L2
namespace Sw
open PySem L2
end Sw
namespace L2
open PySem PySem.Spec PyProof.Rows XH
section
variable {X : Cx} {scope : Scope} {cl : List (Str × Addr)} {own : Str} {ys : List Str} {js : List Nat} {elt iter cond : Expr} {px pos : Pos} {wi : TI} {te : TE} {tc : TT}
theorem n6 {i : Nat} {y : Str} {py spos : Pos} (hN : X.N.Nodup) (hi' : X.N[i]? = some y) (hy : X.env.scope.names.lookup y = some .local) (hc : X.calm = true) (ok : eh X scope cl own ys js) (hi : PI X (.Name own px) iter wi)
  (hq : ∀ (C : Addr) (fp : List Addr) (s : Shared) (H : Hp),PT (X.block scope cl C (own :: ys) own fp s H) cond tc)
  (he : ∀ (C : Addr) (fp : List Addr) (s : Shared) (H : Hp),PE (X.block scope cl C (own :: ys) own fp s H) elt te)
  (hsw : swapsWith (.ListComp elt [⟨.Name own px,iter,[cond],0⟩] scope pos) (some (.Name y py)) spos.line X.env = pure true := by rfl) (hs : ∀ x,foldedSetIterable iter X.env x = pure x := by intro _; rfl) :
  PS X (.Assign [.Name y py] (.ListComp elt [⟨.Name own px,iter,[cond],0⟩] scope pos) spos) (pL (mT wi js tc te) (cB i)) := by
 intro pins s σ H D I h
 have ncell : ∀ y ∈ scope.names,y.2 ≠ .cell := fun y hy z => by
  have q := List.all_eq_true.mp ok.nocell y hy
  rw [z] at q
  simp at q
 have nloc : ∀ y ∈ scope.names,y.2 = .local → scope.names.lookup y.1 = some .local := fun y hy z => by
  have q := List.all_eq_true.mp ok.loc y hy
  rw [z] at q
  simpa using q
 show wpAny _ _ (exec _ X.env) _ _ _
 rw [exec_Assign_Name_used _ _ _ _ hsw]
 refine wpAny_bind (wpAny_standAt (wpAny_bind ?_))
 show wpAny _ X.A (do let _ ← comprehension (.ListComp elt [⟨.Name own px,iter,[cond],0⟩] scope pos) scope X.env _ (newList []) false (eval iter X.env) (some (assign (.Name y py) X.env))) _ _ s
 refine wpAny_bind (wpAny_mono (wpAny_comprehension_free (use := some (assign (.Name y py) X.env)) (Q := fun _ s' => SP X pins D .next s') rfl hs ok.clos ok.kind nloc (a9 (hi pins s σ H _ I h) fun v s1 h1 => a9 h1 fun itv s2 h2 => ?_)) (fun _ s' hq => wpAny_pure (wpAny_pure hq)) fun _ _ e => e)
 obtain ⟨it,fp,tn,J,H2,rfl,I2,T,st2,f2,q2⟩ := h2
 obtain ⟨W,⟨m0,w0⟩,turn⟩ := q2 s2.heap.objs.size (I2.hok.fresh (Nat.le_refl _))
 refine wpAny_newObj_type (wpAny_newFunctionEnv ncell (by intro y hy; simp at hy) (fun h1 hns hsb => ?_) ok.kind)
 have I3 := I2.laid (a := s2.heap.objs.size) (o := .lst []) (h' := s2.heap.push { cls := .type "list",dict := none,data := .seq ([] : List Value).toArray }) (t' := s2.toks) (fun b u q => Heap.get?_push_of_some _ q) (Nat.le_refl _)
  ⟨Nat.zero_le _,[],0,.nil,Heap.get?_push_size _ rfl⟩
 have fpo : ∀ b ∈ fp,b < s2.heap.objs.size := fun b hb => by
  obtain ⟨o,e,_⟩ := T.obj 0 _ st2 b hb
  exact Heap.lt_size e
 have f3 : ∀ b ∈ fp,cT X pins (aD H2 s2.heap.objs.size (.lst [])) b := fun b hb => ⟨by rw [aA (Nat.ne_of_lt (fpo b hb))]; exact (f2 b hb).1,(f2 b hb).2⟩
 generalize hs3 : ({ s2 with heap := s2.heap.push { cls := .type "list",dict := none,data := .seq ([] : List Value).toArray },toks := s2.toks } : Shared) = s3 at I3
 have e3 : s3.heap = s2.heap.push { cls := .type "list",dict := none,data := .seq ([] : List Value).toArray } := by rw [← hs3]
 have lt3 : ∀ b ∈ fp,b < s3.heap.objs.size := fun b hb => by rw [e3,Heap.size_push]; exact Nat.lt_succ_of_lt (fpo b hb)
 dsimp only at hns hsb ⊢
 rw [← e3] at hns hsb
 have hk : ∀ b o,s3.heap.get? b = some o → h1.get? b = some o := fun b o e => hsb.extBut b o (Nat.ne_of_lt (Heap.lt_size e)) (Heap.get?_push_of_some _ e)
 have J0 := cw (h1 := h1) ok I3 f3 lt3 hns hk (s2.toks + 0)
 have t0 : tn 0 h1 := T.keep 0 _ _ st2 fun b hb o e => hk b o (by rw [e3]; exact Heap.get?_push_of_some _ e)
 have fpB : ∀ {H' : Hp},(∀ b ∈ fp,H' b = none) → ∀ b ∈ fp,cT (X.block scope cl s3.heap.objs.size (own :: ys) own fp s3 (aD H2 s2.heap.objs.size (.lst []))) [] H' b := fun {H'} hn b hb =>
  ⟨hn b hb,Nat.ne_of_lt (lt3 b hb),fun z => (List.mem_cons.mp (I3.stkSub b z)).elim (f3 b hb).2.1 (f3 b hb).2.2.1,.inl hb,fun x c e => (f3 b hb).2.2.2.2.1 x c (ok.sub (x,c) (PySem.mem_of_lookup e)),fun p hp => absurd (show p ∈ ([] : List (Addr × Obj)) from hp) (by simp)⟩
 have loop : codeAny (model X.prog X.w) X.A (.compLoop (.ListComp elt [⟨.Name own px,iter,[cond],0⟩] scope pos) 0 (.ref it) (.ref s2.heap.objs.size) (compEnvC scope cl s3.heap.objs.size X.env))
   (compPost (model X.prog X.w) X.A X.xe (some (assign (.Name y py) X.env)) (fun _ s' => SP X pins D .next s') (.ref s2.heap.objs.size) s3.heap.objs.size) { s3 with heap := h1,toks := s2.toks + 0 } := by
  refine gN (fun n s' => ∃ i zs o0 H',aM (X.block scope cl s3.heap.objs.size (own :: ys) own fp s3 (aD H2 s2.heap.objs.size (.lst []))) [] (o0 :: aS js σ) H' s' ∧ tn i s'.heap ∧ (∀ b ∈ fp,H' b = none) ∧ W i n zs H') ?_ m0
   ⟨0,[],none,_,J0,t0,fun b hb => (f3 b hb).1,w0⟩
  rintro n s5 ⟨i,zs,o0,H5,I5,t5,n5,w5⟩
  obtain ⟨hD,hw⟩ := turn i n zs H5 w5
  rcases hw with ⟨stop,qn⟩ | ⟨go,hz,step⟩
  ·refine a9 (T.done (X.block scope cl s3.heap.objs.size (own :: ys) own fp s3 (aD H2 s2.heap.objs.size (.lst []))) rfl rfl rfl hc i [] s5 _ H5 (fun _ _ => False) I5 (fpB n5) t5 stop) fun r s6 ⟨hr,I6⟩ => ?_
   subst hr
   obtain ⟨m,hn,_⟩ := id I6.loc
   have J : aM X pins σ H5 s6 := c5 (h' := s6.heap) I3 f3 I6 (Heap.SameBut.refl _ _)
   have fC := I3.fpOk (Nat.le_refl _) (show H5 s3.heap.objs.size = none from I6.free)
   obtain ⟨k0,k1,k2,k3,k4,k5⟩ := fC
   show wpAny _ X.A (assign (.Name y py) X.env (.ref s2.heap.objs.size)) _ _ _
   refine wpAny_assign_Name (eN (v := .ref s2.heap.objs.size) J hN hi' (.inl hy) rfl (fun s7 I7 hsb => ?_) (.inr hy))
   obtain ⟨a',sb,ha⟩ := hsb
   have ne : s3.heap.objs.size ≠ a' := by
    rcases ha with z | z
    ·rw [z]; exact k1
    ·exact fun w => k4 _ _ z w.symm
   exact ⟨m,hn.sameBut sb ne,fun h' hs' => ⟨_,H5,I7.turned (t' := s7.toks) (fun b o hb e => (hs'.2 b hb).trans e) k0 k1 k3 k4 k5,qn⟩⟩
  ·refine a9 (T.item (X.block scope cl s3.heap.objs.size (own :: ys) own fp s3 (aD H2 s2.heap.objs.size (.lst []))) rfl rfl rfl hc i [] s5 _ H5 (fun _ _ => False) I5 (fpB n5) t5 go) fun r s6 ⟨u,hr,h6⟩ => ?_
   subst hr
   refine a9 h6 fun _ s7 ⟨x,H7,I7,r7,y7,t7,n7⟩ => ?_
   have I7' := I7.pinned (fpB n7) (T.obj _ _ t7)
   have hst := step x H7 y7
   have own' : (relabel scope X.env).names.lookup own = some .local := lookup_relabel_local ok.ownL
   refine a9 (ay (X := X.block scope cl s3.heap.objs.size (own :: ys) own fp s3 (aD H2 s2.heap.objs.size (.lst []))) (i := 0) (x := own) (pos := px) ok.nd rfl (.inl own') (.inr own') _ s7 _ H7 x u (fun σ' H' => σ' = some x :: aS js σ ∧ H' = H7) I7' r7 ⟨rfl,rfl⟩) fun _ s8 ⟨σ8,H8,I8,e8,eH8⟩ => ?_
   subst e8 eH8
   refine a9 (hq _ _ _ _ _ s8 _ H8 _ I8 hst) fun ok s9 ⟨H9,I9,h9⟩ => ?_
   have frame : ∀ {s' : Shared} {H' : Hp},aM (X.block scope cl s3.heap.objs.size (own :: ys) own fp s3 (aD H2 s2.heap.objs.size (.lst []))) ([] ++ fW fp s7.heap) (some x :: aS js σ) H' s' → tn (i + 1) s'.heap ∧ ∀ b ∈ fp,H' b = none := fun {s' H'} I' =>
    ⟨T.keep _ _ _ t7 fun b hb o e => (I'.pin (b,o) (List.mem_append_right _ (List.mem_append_right _ (bv hb e)))).1,fun b hb => by
     obtain ⟨o,e,d⟩ := T.obj _ _ t7 b hb
     exact (I'.pin (b,o) (List.mem_append_right _ (List.mem_append_right _ (bv hb e)))).2.1⟩
   cases ok with
   | true =>
    refine a9 (he _ _ _ _ _ s9 _ H9 _ I9 h9) fun yv s10 ⟨y,H10,I10,r10,hD10,m',hm,w10⟩ => ?_
    refine a9 (aW _ s10 _ H10 (.ref s2.heap.objs.size) [y] (.ref s2.heap.objs.size) [yv] (fun _ H' => H' = aD H10 s2.heap.objs.size (.lst (zs ++ [y]))) I10 rfl (.cons r10 .nil) ⟨_,zs,y,rfl,rfl,hD10,hz,rfl⟩) fun _ s11 ⟨_,H11,I11,_,e11⟩ => ?_
    subst e11
    exact ⟨m',hm,i + 1,zs ++ [y],some x,_,I11.unpinned,(frame I11).1,(frame I11).2,w10⟩
   | false =>
    obtain ⟨m',hm,w10⟩ := h9
    exact ⟨m',hm,i + 1,zs,some x,_,I9.unpinned,(frame I9).1,(frame I9).2,w10⟩
 subst hs3
 exact codeAny_compStart_list loop (T.self _ 0 _ _ _ t0 loop)
end
theorem kB {X : Cx} (hu : X.A.units < cLine) : dW X (compareOp .Eq) (fun x y H Q => ∃ a b zs,x = .ref a ∧ y = .ref b ∧ az X.K H a zs ∧ az X.K H b [] ∧ Q (.bl zs.isEmpty) H) := by
 intro pins s σ H x y v u Q I rx ry h
 obtain ⟨a,b,zs,rfl,rfl,h1,h2,hq⟩ := h
 cases rx
 cases ry
 obtain ⟨i1,r1,p1,_⟩ := I.list h1
 obtain ⟨i2,r2,p2,_⟩ := I.list h2
 cases r2
 cases zs with
 | nil =>
  cases r1
  refine SeqAt.eq_listAt (e := fun _ => true) p1.isList p2.isList rfl hu (fun j g1 g2 => absurd g1 (by simp)) ?_
  exact ⟨.bl true,H,I,by show Value.bool _ = Value.bool _; simp,hq⟩
 | cons z zs =>
  cases r1 with
  | cons r rr =>
   refine SeqAt.eq_list_lengthsAt p1.isList p2.isList (by simp) hu ?_
   exact ⟨.bl false,H,I,rfl,hq⟩
end L2
namespace Sw
open PySem L2 PyProof.Rows
theorem gb {α β : Type} {F : α → β → Prop} : ∀ {l : List α} {m : List β},Paired F l m → ∀ {i : Nat} {b : β},m[i]? = some b → ∃ a,l[i]? = some a ∧ F a b
 | _,_,.nil,i,b,h => by simp at h
 | _,_,.cons r t,0,b,h => by simp at h; subst h; exact ⟨_,rfl,r⟩
 | _,_,.cons r t,i + 1,b,h => by
  obtain ⟨a,h1,h2⟩ := gb t (i := i) (by simpa using h)
  exact ⟨a,by simpa using h1,h2⟩
end Sw
namespace L2
open PySem PySem.Spec PyProof.Rows XH Sw So
theorem mU : ∀ {acc : List Value} {ks : List Str},acc.length = ks.length → (∀ (j : Nat) (v : Value),acc[j]? = some v → ∃ y t,ks[j]? = some y ∧ v = .str y t) → StrsAre acc ks
 | [],[],_,_ => .nil
 | v :: acc,k :: ks,hl,h => by
  obtain ⟨y,t,e,rfl⟩ := h 0 v rfl
  simp at e
  subst e
  exact .cons _ _ (mU (by simpa using hl) fun j u hu => h (j + 1) u (by simpa using hu))
 | [],_ :: _,hl,_ => by simp at hl
 | _ :: _,[],hl,_ => by simp at hl
theorem fO : ∀ {us : List Value} {ks : List Str},StrsAre us ks → bh (ks.map V.str) us
 | _,_,.nil => .nil
 | _,_,.cons y t h => .cons ⟨t,rfl⟩ (fO h)
theorem kD {prog : Program} {w : World} {A : Around} {E : Value → Shared → Prop} {s : Shared} {T : String} {r d : Addr} {n : Nat} {P : Nat → Value → Prop} {OK : Heap → Prop} {R : List Value → Shared → Prop} (K : PySem.W.KdlSrc prog w T r d n P OK) (hh : A.handled = none) (hok : OK s.heap) (hn : n ≤ sizeLine)
  (h : ∀ (h' : Heap) (tk : Nat) (acc : Array Value),s.heap.objs.size < h'.objs.size → (∀ b o,s.heap.get? b = some o → h'.get? b = some o) → PySem.ItemsOf P acc n → R acc.toList { s with heap := h',toks := tk }) :
  wpAny (model prog w) A (collect (.ref r)) R E s := by
 have hlt := K.there _ hok
 unfold collect
 refine wpAny_bind (wpAny_runValue (codeAny_builtin entry_proto_collect' ?_))
 rw [Around.under_plainId PySem.F.plain_proto_collect _]
 show wpAny _ A.in1 (newList [] >>= fun l => again (.builtin "list.__iadd__" ⟨[l,.ref r],[]⟩)) _ _ s
 refine wpAny_bind (wpAny_newObj_type (wpAny_pure ⟨plainId_quiet PySem.F.plain_list_iadd _,codeAny_builtin entry_list_iadd' ?_⟩))
 rw [Around.under_plainId PySem.F.plain_list_iadd _]
 have fresh : (s.heap.push { cls := .type "list",data := .seq ([] : List Value).toArray }).get? s.heap.objs.size = some { cls := .type "list",data := .seq #[] } := Heap.get?_push_size _ rfl
 show wpAny _ A.in1 (Builtin.List.listExtendWith (.ref s.heap.objs.size) (.ref r) (.ref s.heap.objs.size)) _ _ _
 have key := PySem.W.kdl_extend (A := A) (s := { s with heap := s.heap.push { cls := .type "list",data := .seq ([] : List Value).toArray } })
  (R := fun (q : Result) (s' : Shared) => ∃ (h' : Heap) (tk : Nat) (acc : Array Value) (c : Nat),q = .ok (.ret (.ref s.heap.objs.size)) ∧ s' = { s with heap := h',toks := tk } ∧ (∀ b o,s.heap.get? b = some o → h'.get? b = some o) ∧ h'.get? s.heap.objs.size = some { cls := .type "list",dict := none,data := .seq acc c,slots := #[] } ∧ PySem.ItemsOf P acc n)
  K hh (K.keep _ _ hok fun b _ o e => Heap.get?_push_of_some _ e) s.heap.objs.size (Nat.ne_of_gt hlt.1) (Nat.ne_of_gt hlt.2) (.ref s.heap.objs.size) 0 fresh
  (fun h' tk acc c hk hS ha => ⟨h',tk,acc,c,rfl,rfl,fun b o e => hk b o (Nat.ne_of_lt (Heap.lt_size e)) (Heap.get?_push_of_some _ e),hS,ha⟩) hn
 have fin : ∀ {h' : Heap} {tk c : Nat} {acc : Array Value},(∀ b o,s.heap.get? b = some o → h'.get? b = some o) → h'.get? s.heap.objs.size = some { cls := .type "list",dict := none,data := .seq acc c,slots := #[] } → PySem.ItemsOf P acc n → R acc.toList { s with heap := h',toks := tk } :=
  fun {h' tk c acc} hk hS ha => h h' tk acc (Heap.lt_size hS) hk ha
 refine wpAny_mono key (fun f s' x => ?_) fun e s' x => ?_
 ·cases f with
  | done f =>
   obtain ⟨h',tk,acc,c,e,rfl,hk,hS,ha⟩ := x
   cases e
   show wpAny _ A (load s.heap.objs.size >>= _) _ _ _
   exact wpAny_bind (wpAny_load hS (wpAny_pure (fin hk hS ha)))
  | again c₁ =>
   refine ⟨x.1,codeAny_mono x.2 fun q s₂ y => ?_⟩
   obtain ⟨h',tk,acc,c,rfl,rfl,hk,hS,ha⟩ := y
   show wpAny _ A (load s.heap.objs.size >>= _) _ _ _
   exact wpAny_bind (wpAny_load hS (wpAny_pure (fin hk hS ha)))
 ·obtain ⟨_,_,_,_,e',_⟩ := x
  cases e'
end L2
namespace So
open PySem PySem.Spec PyProof.Rows
def rF (x y : Str) : Prop := ¬ (y.cps.toList < x.cps.toList)
theorem n9 {x y z : Str} (h1 : rF x y) (h2 : rF y z) : rF x z := fun h => by
 unfold rF at h1 h2
 exact h1 (List.lt_of_le_of_lt (List.not_lt.mp h2) h)
theorem qq {x y : Str} (h1 : rF x y) (h2 : rF y x) : x = y := by
 have e := List.le_antisymm (List.not_lt.mp h1) (List.not_lt.mp h2)
 cases x; cases y
 congr 1
 exact Array.toList_inj.mp e
theorem je : ∀ (r : List Str) (x : Str),risingS x r = true → (x :: r).Pairwise rF
 | [],x,_ => by simp
 | y :: r,x,h => by
  unfold risingS at h
  have h' : ltCps y.cps.toList x.cps.toList = false ∧ risingS y r = true := by
   simpa [Bool.and_eq_true] using h
  have ih := je r y h'.2
  have xy : rF x y := by
   have := h'.1
   rw [ltCps_eq] at this
   exact of_decide_eq_false this
  refine List.pairwise_cons.mpr ⟨fun z hz => ?_,ih⟩
  rcases List.mem_cons.mp hz with e | e
  ·rw [e]; exact xy
  ·exact n9 xy ((List.pairwise_cons.mp ih).1 z e)
theorem jf {l : List Str} (h : sortedS l = true) : l.Pairwise rF := by
 cases l with
 | nil => simp
 | cons x r => exact je r x h
theorem dj {l m : List Str} (h1 : sortedS l = true) (h2 : sortedS m = true) (p : l.Perm m) : l = m :=
 List.Perm.eq_of_pairwise (fun a b _ _ ha hb => qq ha hb) (jf h1) (jf h2) p
section
variable {prog : Program} {w : World} {A : Around} {E : Value → Shared → Prop} {s : Shared} {κ : KeyKind} {kd : SortKind}
end
end So
namespace L2
open PySem PySem.Spec PyProof.Rows XH Sw So
section
variable {prog : Program} {w : World} {A : Around} {E : Value → Shared → Prop} {s : Shared}
end
end L2
namespace Hm
abbrev Ky := List Int
open PySem PySem.SeqAt PySem.MeetsSeq
section
variable {prog : Program} {w : World} {A : Around} {E : Value → Shared → Prop} {s : Shared}
end
end Hm
namespace L2
open PySem PySem.Spec PyProof.Rows XH Sw So Hm
section
variable {prog : Program} {w : World} {A : Around} {E : Value → Shared → Prop} {s : Shared}
end
end L2
namespace Sw
open PySem L2 XH
structure wR (P : Program) (w : World) (K : PySem.W.Frag) (mg : Str → Option Value) (base : Heap) (CX : nJ) (k : Nat) (f : Addr) (ps : List Str) (dvs : List V) (sp : Sp) where
 fd : FuncData
 ok : bG P w K mg base CX k f fd ps sp
 b : Binds K fd ps []
 bd : ∃ ds,Binds K fd ps ds ∧ bh dvs ds
section
variable {X : Cx} {k j : Nat} {f C : Addr} {ps : List Str} {sp : Sp} {dvs : List V} {x m : Str} {p pos apos : Pos} {e o : Expr} {es : List Expr} {ta tb : TE} {t : TA}
theorem tu (M : Mk X.K C f) (D : wR X.prog X.w X.K X.mg X.base bj k f ps dvs sp) (hr : cJ j X.A) (hk : k + 1 ≤ j) (hg : Gl X x) (hm : X.mg x = some (.ref C)) (ha : PA X (e :: es) t) (hdb : (x == ("__debug__" : Str)) = false := by decide)
  (he : starEach (e :: es) X.env = (false,eval e X.env) :: starEach es X.env := by rfl) (hpl : (backTo pos (starEach es X.env)).any (·.1) = false := by rfl) : PE X (.Call (.Name x p) (e :: es) [] pos) (si C sp [] E0 t) :=
 qS M D.ok (hr.mono hk) hg hm D.b .nil so ha hdb he hpl
end
section
variable {X : Cx} {k j : Nat} {f C : Addr} {ps : List Str} {sp : Sp} {dvs : List V} {x m : Str} {p pos apos : Pos} {e o : Expr} {es : List Expr} {ta tb : TE} {t : TA} {E : L2.St → XK}
end
end Sw
namespace L2
open PySem PySem.Spec PyProof.Rows XH
section
variable {X : Cx} {scope : Scope} {cl : List (Str × Addr)} {own : Str} {ys : List Str} {js : List Nat} {elt iter : Expr} {px pos : Pos} {wi : TI} {te : TE}
theorem qr {i : Nat} {y : Str} {py spos : Pos} (hN : X.N.Nodup) (hi' : X.N[i]? = some y) (hy : X.env.scope.names.lookup y = some .local) (hc : X.calm = true) (ok : eh X scope cl own ys js) (hi : PI X (.Name own px) iter wi)
  (he : ∀ (C : Addr) (fp : List Addr) (s : Shared) (H : Hp),PE (X.block scope cl C (own :: ys) own fp s H) elt te)
  (hsw : swapsWith (.ListComp elt [⟨.Name own px,iter,[],0⟩] scope pos) (some (.Name y py)) spos.line X.env = pure true := by rfl) (hs : ∀ x,foldedSetIterable iter X.env x = pure x := by intro _; rfl) :
  PS X (.Assign [.Name y py] (.ListComp elt [⟨.Name own px,iter,[],0⟩] scope pos) spos) (pL (mQ wi js te) (cB i)) := by
 intro pins s σ H D I h
 have ncell : ∀ y ∈ scope.names,y.2 ≠ .cell := fun y hy z => by
  have q := List.all_eq_true.mp ok.nocell y hy
  rw [z] at q
  simp at q
 have nloc : ∀ y ∈ scope.names,y.2 = .local → scope.names.lookup y.1 = some .local := fun y hy z => by
  have q := List.all_eq_true.mp ok.loc y hy
  rw [z] at q
  simpa using q
 show wpAny _ _ (exec _ X.env) _ _ _
 rw [exec_Assign_Name_used _ _ _ _ hsw]
 refine wpAny_bind (wpAny_standAt (wpAny_bind ?_))
 show wpAny _ X.A (do let _ ← comprehension (.ListComp elt [⟨.Name own px,iter,[],0⟩] scope pos) scope X.env _ (newList []) false (eval iter X.env) (some (assign (.Name y py) X.env))) _ _ s
 refine wpAny_bind (wpAny_mono (wpAny_comprehension_free (use := some (assign (.Name y py) X.env)) (Q := fun _ s' => SP X pins D .next s') rfl hs ok.clos ok.kind nloc (a9 (hi pins s σ H _ I h) fun v s1 h1 => a9 h1 fun itv s2 h2 => ?_)) (fun _ s' hq => wpAny_pure (wpAny_pure hq)) fun _ _ e => e)
 obtain ⟨it,fp,tn,J,H2,rfl,I2,T,st2,f2,q2⟩ := h2
 obtain ⟨W,⟨m0,w0⟩,turn⟩ := q2 s2.heap.objs.size (I2.hok.fresh (Nat.le_refl _))
 refine wpAny_newObj_type (wpAny_newFunctionEnv ncell (by intro y hy; simp at hy) (fun h1 hns hsb => ?_) ok.kind)
 have I3 := I2.laid (a := s2.heap.objs.size) (o := .lst []) (h' := s2.heap.push { cls := .type "list",dict := none,data := .seq ([] : List Value).toArray }) (t' := s2.toks) (fun b u q => Heap.get?_push_of_some _ q) (Nat.le_refl _)
  ⟨Nat.zero_le _,[],0,.nil,Heap.get?_push_size _ rfl⟩
 have fpo : ∀ b ∈ fp,b < s2.heap.objs.size := fun b hb => by
  obtain ⟨o,e,_⟩ := T.obj 0 _ st2 b hb
  exact Heap.lt_size e
 have f3 : ∀ b ∈ fp,cT X pins (aD H2 s2.heap.objs.size (.lst [])) b := fun b hb => ⟨by rw [aA (Nat.ne_of_lt (fpo b hb))]; exact (f2 b hb).1,(f2 b hb).2⟩
 generalize hs3 : ({ s2 with heap := s2.heap.push { cls := .type "list",dict := none,data := .seq ([] : List Value).toArray },toks := s2.toks } : Shared) = s3 at I3
 have e3 : s3.heap = s2.heap.push { cls := .type "list",dict := none,data := .seq ([] : List Value).toArray } := by rw [← hs3]
 have lt3 : ∀ b ∈ fp,b < s3.heap.objs.size := fun b hb => by rw [e3,Heap.size_push]; exact Nat.lt_succ_of_lt (fpo b hb)
 dsimp only at hns hsb ⊢
 rw [← e3] at hns hsb
 have hk : ∀ b o,s3.heap.get? b = some o → h1.get? b = some o := fun b o e => hsb.extBut b o (Nat.ne_of_lt (Heap.lt_size e)) (Heap.get?_push_of_some _ e)
 have J0 := cw (h1 := h1) ok I3 f3 lt3 hns hk (s2.toks + 0)
 have t0 : tn 0 h1 := T.keep 0 _ _ st2 fun b hb o e => hk b o (by rw [e3]; exact Heap.get?_push_of_some _ e)
 have fpB : ∀ {H' : Hp},(∀ b ∈ fp,H' b = none) → ∀ b ∈ fp,cT (X.block scope cl s3.heap.objs.size (own :: ys) own fp s3 (aD H2 s2.heap.objs.size (.lst []))) [] H' b := fun {H'} hn b hb =>
  ⟨hn b hb,Nat.ne_of_lt (lt3 b hb),fun z => (List.mem_cons.mp (I3.stkSub b z)).elim (f3 b hb).2.1 (f3 b hb).2.2.1,.inl hb,fun x c e => (f3 b hb).2.2.2.2.1 x c (ok.sub (x,c) (PySem.mem_of_lookup e)),fun p hp => absurd (show p ∈ ([] : List (Addr × Obj)) from hp) (by simp)⟩
 have loop : codeAny (model X.prog X.w) X.A (.compLoop (.ListComp elt [⟨.Name own px,iter,[],0⟩] scope pos) 0 (.ref it) (.ref s2.heap.objs.size) (compEnvC scope cl s3.heap.objs.size X.env))
   (compPost (model X.prog X.w) X.A X.xe (some (assign (.Name y py) X.env)) (fun _ s' => SP X pins D .next s') (.ref s2.heap.objs.size) s3.heap.objs.size) { s3 with heap := h1,toks := s2.toks + 0 } := by
  refine cW (fun n s' => ∃ i zs o0 H',aM (X.block scope cl s3.heap.objs.size (own :: ys) own fp s3 (aD H2 s2.heap.objs.size (.lst []))) [] (o0 :: aS js σ) H' s' ∧ tn i s'.heap ∧ (∀ b ∈ fp,H' b = none) ∧ W i n zs H') ?_ m0
   ⟨0,[],none,_,J0,t0,fun b hb => (f3 b hb).1,w0⟩
  rintro n s5 ⟨i,zs,o0,H5,I5,t5,n5,w5⟩
  obtain ⟨hD,hw⟩ := turn i n zs H5 w5
  rcases hw with ⟨stop,qn⟩ | ⟨go,hz,step⟩
  ·refine a9 (T.done (X.block scope cl s3.heap.objs.size (own :: ys) own fp s3 (aD H2 s2.heap.objs.size (.lst []))) rfl rfl rfl hc i [] s5 _ H5 (fun _ _ => False) I5 (fpB n5) t5 stop) fun r s6 ⟨hr,I6⟩ => ?_
   subst hr
   obtain ⟨m,hn,_⟩ := id I6.loc
   have J : aM X pins σ H5 s6 := c5 (h' := s6.heap) I3 f3 I6 (Heap.SameBut.refl _ _)
   have fC := I3.fpOk (Nat.le_refl _) (show H5 s3.heap.objs.size = none from I6.free)
   obtain ⟨k0,k1,k2,k3,k4,k5⟩ := fC
   show wpAny _ X.A (assign (.Name y py) X.env (.ref s2.heap.objs.size)) _ _ _
   refine wpAny_assign_Name (eN (v := .ref s2.heap.objs.size) J hN hi' (.inl hy) rfl (fun s7 I7 hsb => ?_) (.inr hy))
   obtain ⟨a',sb,ha⟩ := hsb
   have ne : s3.heap.objs.size ≠ a' := by
    rcases ha with z | z
    ·rw [z]; exact k1
    ·exact fun w => k4 _ _ z w.symm
   exact ⟨m,hn.sameBut sb ne,fun h' hs' => ⟨_,H5,I7.turned (t' := s7.toks) (fun b o hb e => (hs'.2 b hb).trans e) k0 k1 k3 k4 k5,qn⟩⟩
  ·refine a9 (T.item (X.block scope cl s3.heap.objs.size (own :: ys) own fp s3 (aD H2 s2.heap.objs.size (.lst []))) rfl rfl rfl hc i [] s5 _ H5 (fun _ _ => False) I5 (fpB n5) t5 go) fun r s6 ⟨u,hr,h6⟩ => ?_
   subst hr
   refine a9 h6 fun _ s7 ⟨x,H7,I7,r7,y7,t7,n7⟩ => ?_
   have I7' := I7.pinned (fpB n7) (T.obj _ _ t7)
   have hst := step x H7 y7
   have own' : (relabel scope X.env).names.lookup own = some .local := lookup_relabel_local ok.ownL
   refine a9 (ay (X := X.block scope cl s3.heap.objs.size (own :: ys) own fp s3 (aD H2 s2.heap.objs.size (.lst []))) (i := 0) (x := own) (pos := px) ok.nd rfl (.inl own') (.inr own') _ s7 _ H7 x u (fun σ' H' => σ' = some x :: aS js σ ∧ H' = H7) I7' r7 ⟨rfl,rfl⟩) fun _ s8 ⟨σ8,H8,I8,e8,eH8⟩ => ?_
   subst e8 eH8
   refine a9 (he _ _ _ _ _ s8 _ H8 _ I8 hst) fun yv s9 ⟨y,H9,I9,r9,hD9,m',hm,w9⟩ => ?_
   refine a9 (aW _ s9 _ H9 (.ref s2.heap.objs.size) [y] (.ref s2.heap.objs.size) [yv] (fun _ H' => H' = aD H9 s2.heap.objs.size (.lst (zs ++ [y]))) I9 rfl (.cons r9 .nil) ⟨_,zs,y,rfl,rfl,hD9,hz,rfl⟩) fun _ s10 ⟨_,H10,I10,_,e10⟩ => ?_
   subst e10
   refine ⟨m',hm,i + 1,zs ++ [y],some x,_,I10.unpinned,T.keep _ _ _ t7 fun b hb o e => (I10.pin (b,o) (List.mem_append_right _ (List.mem_append_right _ (bv hb e)))).1,fun b hb => ?_,w9⟩
   obtain ⟨o,e,d⟩ := T.obj _ _ t7 b hb
   exact (I10.pin (b,o) (List.mem_append_right _ (List.mem_append_right _ (bv hb e)))).2.1
 subst hs3
 exact codeAny_compStart_list loop (T.self _ 0 _ _ _ t0 loop)
end
section
variable {X : Cx}
end
end L2
namespace Sw
open PySem L2 XH PySem.NumText
end Sw
namespace L2
open PySem PySem.Spec PyProof.Rows XH Sw So Hm
theorem kF {X : Cx} (hu : X.A.units < cLine) : dW X (compareOp .NotEq) (fun x y H Q => ∃ a b zs,x = .ref a ∧ y = .ref b ∧ az X.K H a zs ∧ az X.K H b [] ∧ Q (.bl (!zs.isEmpty)) H) := by
 intro pins s σ H x y v u Q I rx ry h
 obtain ⟨a,b,zs,rfl,rfl,h1,h2,hq⟩ := h
 cases rx
 cases ry
 obtain ⟨i1,r1,p1,_⟩ := I.list h1
 obtain ⟨i2,r2,p2,_⟩ := I.list h2
 cases r2
 cases zs with
 | nil =>
  cases r1
  refine SeqAt.RcNeAt.lists (e := fun _ => true) p1.isList p2.isList rfl hu (fun j g1 g2 => absurd g1 (by simp)) _ _ _ _ ?_
  exact ⟨.bl false,H,I,by show Value.bool _ = Value.bool _; simp,hq⟩
 | cons z zs =>
  cases r1 with
  | cons r rr =>
   refine SeqAt.RcNeAt.lists_lengths p1.isList p2.isList (by simp) hu _ _ _ _ ?_
   exact ⟨.bl true,H,I,rfl,hq⟩
theorem aB.sqt {K : PySem.W.Frag} {H H' : Hp} {a : Addr} {xs : List V} (e : aB H H') (h : bc K H a xs) : bc K H' a xs := by
 rcases h with (h | ⟨o,h⟩) | h
 ·exact .inl (.inl (e _ _ h))
 ·exact .inl (.inr ⟨o,e _ _ h⟩)
 ·exact .inr h
theorem qt {xs : List V} {c : Nat} (h : c ≤ xs.length) : eZ xs none (some (c : Int)) = xs.take c := by
 have e1 : HT.dh xs.length 0 none = 0 := rfl
 have e2 : HT.dh xs.length xs.length (some (c : Int)) = c := by
  show (if (c : Int) < 0 then ((c : Int) + (xs.length : Int)).toNat else min (c : Int).toNat xs.length) = c
  rw [if_neg (by omega)]
  omega
 unfold eZ
 rw [e1,e2,List.drop_zero,Nat.sub_zero]
theorem qu {xs : List V} {c : Nat} (h : c ≤ xs.length) : eZ xs (some (c : Int)) none = xs.drop c := by
 have e1 : HT.dh xs.length 0 (some (c : Int)) = c := by
  show (if (c : Int) < 0 then ((c : Int) + (xs.length : Int)).toNat else min (c : Int).toNat xs.length) = c
  rw [if_neg (by omega)]
  omega
 have e2 : HT.dh xs.length xs.length none = xs.length := rfl
 unfold eZ
 rw [e1,e2,List.take_of_length_le (by rw [List.length_drop]; omega)]
theorem kG {K : PySem.W.Frag} {a : Addr} {xs : List V} {js : List Nat} {tc : TT} {te : TE} {σ : L2.St} {H1 : Hp} {Q : VK} (hS : bc K H1 a xs) (hz : xs.length ≤ sizeLine)
  (step : ∀ x ∈ xs,∀ H3,aB H1 H3 → ∀ R : Bool → Hp → Prop,R false H3 → tc (some x :: aS js σ) H3 R)
  (fin : ∀ p H',aB H1 H' → H' p = some (.lst []) → Q (.ref p) H') : io js tc te σ Q (wt K a) H1 := by
 intro p hp
 refine ⟨fun i m ys H2 => i ≤ xs.length ∧ m = xs.length - i ∧ ys = [] ∧ H2 = aD H1 p (.lst []),⟨xs.length,Nat.zero_le _,rfl,rfl,rfl⟩,?_⟩
 rintro i m ys H2 ⟨hi,rfl,rfl,rfl⟩
 have g := Sw.ag hp (.lst [])
 have S2 := g.sqt hS
 refine ⟨aj,?_⟩
 by_cases hin : i < xs.length
 ·refine .inr ⟨⟨xs,xs[i],S2,List.getElem?_eq_getElem hin⟩,(by show 0 < sizeLine; decide),fun x H3 hy => ?_⟩
  obtain ⟨rfl,hx⟩ := hy
  have ex := hx xs S2
  exact step x (List.mem_of_getElem? ex) _ g _ (cQ ⟨xs.length - (i + 1),by omega,hin,rfl,rfl,rfl⟩)
 ·have e2 : i = xs.length := by omega
  subst e2
  exact .inl ⟨⟨xs,S2,Nat.le_refl _⟩,fin p _ g aj⟩
end L2
namespace Sw
open PySem L2 XH Hm
section
variable {X : Cx} {k j : Nat} {f C : Addr} {ps : List Str} {sp : Sp} {dvs : List V} {x m : Str} {p pos apos : Pos} {e o : Expr} {es : List Expr} {ta tb : TE} {t : TA} {E : L2.St → XK}
end
theorem bU {xs : List V} {i : Nat} {v : V} (h : xs[i]? = some v) : fb xs (0 + (i : Int)) = some v := by
 rw [Int.zero_add]
 exact aL h
def Fl (l : Addr) (H H' : Hp) : Prop := ∀ a o,a ≠ l → H a = some o → H' a = some o
theorem Fl.refl (l : Addr) (H : Hp) : Fl l H H := fun _ _ _ h => h
theorem Fl.trans {l : Addr} {H H1 H2 : Hp} (a : Fl l H H1) (b : Fl l H1 H2) : Fl l H H2 := fun c o n h => b c o n (a c o n h)
theorem Fl.of {l : Addr} {H H' : Hp} (g : aB H H') : Fl l H H' := fun a o _ h => g a o h
theorem Fl.put (l : Addr) (H : Hp) (o : HO) : Fl l H (aD H l o) := fun a u n h => by rw [aA n]; exact h
end Sw
namespace L2
open PySem PySem.Spec PyProof.Rows XH Sw Hm
end L2
namespace Sw
open PySem L2 XH Hm
def df {α : Type} (R : Addr → α → Prop) (as : List Addr) (xs : List α) : Prop := as.length = xs.length ∧ ∀ (i : Nat) (a : Addr) (x : α),as[i]? = some a → xs[i]? = some x → R a x
theorem df.imp {α : Type} {R S : Addr → α → Prop} {as : List Addr} {xs : List α} (h : df R as xs) (f : ∀ a x,R a x → S a x) : df S as xs := ⟨h.1,fun i a x e1 e2 => f a x (h.2 i a x e1 e2)⟩
theorem df.get {α : Type} {R : Addr → α → Prop} {as : List Addr} {xs : List α} (h : df R as xs) {i : Nat} {x : α} (e : xs[i]? = some x) : ∃ a,as[i]? = some a ∧ R a x := by
 have il : i < as.length := by rw [h.1]; exact (List.getElem?_eq_some_iff.mp e).1
 exact ⟨_,List.getElem?_eq_getElem il,h.2 i _ x (List.getElem?_eq_getElem il) e⟩
theorem df.nil {α : Type} {R : Addr → α → Prop} : df R [] ([] : List α) := ⟨rfl,fun i a x e => by simp at e⟩
theorem df.snoc {α : Type} {R : Addr → α → Prop} {as : List Addr} {xs : List α} (h : df R as xs) {a : Addr} {x : α} (r : R a x) : df R (as ++ [a]) (xs ++ [x]) := by
 refine ⟨by simp [h.1],fun i b y e1 e2 => ?_⟩
 have il := (List.getElem?_eq_some_iff.mp e1).1
 by_cases c : i < as.length
 ·rw [List.getElem?_append_left c] at e1
  rw [List.getElem?_append_left (by rw [← h.1]; exact c)] at e2
  exact h.2 i b y e1 e2
 ·have ei : i = as.length := by simp at il; omega
  subst ei
  rw [List.getElem?_append_right (Nat.le_refl _)] at e1
  rw [List.getElem?_append_right (by rw [h.1]; exact Nat.le_refl _),h.1] at e2
  simp at e1 e2
  subst e1 e2
  exact r
def bu (H : Hp) (l : Addr) (ks : List Ky) : Prop := ∃ as : List Addr,H l = some (.lst (as.map V.ref)) ∧ df (fun t k => H t = some (.tup (k.map V.int))) as ks
theorem bu.same {H H' : Hp} {l : Addr} {ks : List Ky} (h : bu H l ks) (g : aB H H') : bu H' l ks := by
 obtain ⟨as,e,r⟩ := h
 exact ⟨as,g _ _ e,r.imp fun a k q => g _ _ q⟩
end Sw
namespace L2
open PySem PySem.Spec PyProof.Rows XH
theorem me {X : Cx} : cu X (.builtin "len") (fun xs H Q => ∃ (d : Addr) (kvs : List (Key × V)),xs = [.ref d] ∧ H d = some (.dK kvs) ∧ Q (.int kvs.length) H) := by
 intro pins s σ H xs us Q I r h
 obtain ⟨d,kvs,rfl,hd,q⟩ := h
 obtain ⟨u,rfl,ru⟩ := vals1 r
 cases ru
 exact ut I (.inl hd) fun t s' I' => ⟨.int kvs.length,H,I',⟨t,rfl⟩,q⟩
theorem eT {X : Cx} {K : PySem.W.Frag} (h : X.K = K) : sj X (sO K) := by
 subst h
 exact ar
theorem kH {X : Cx} {K : PySem.W.Frag} (h : X.K = K) : sj X (sN K) := by
 subst h
 exact au
theorem dM {X : Cx} {K : PySem.W.Frag} (h : X.K = K) : cu X (.type "list") (fun xs H Q => ∃ p ys,xs = [.ref p] ∧ (az K H p ys ∨ bc K H p ys) ∧ ∀ l,H l = none → Q (.ref l) (aD H l (.lst ys))) := by
 subst h
 exact cC
theorem ip : bootBuiltins "dict" = some (.type "dict") := by kernel_rfl
end L2
namespace Sw
open PySem L2 XH Hm
def iq (td tl al pl n : V) : List (Str × V) := aT "moments" n (aT "apart" pl (aT "arcs" al (aT "tasks" tl (aT "tools" td []))))
theorem rG {td tl al pl n : V} : (iq td tl al pl n).lookup ("tools" : Str) = some td ∧ (iq td tl al pl n).lookup ("tasks" : Str) = some tl ∧ (iq td tl al pl n).lookup ("arcs" : Str) = some al ∧ (iq td tl al pl n).lookup ("apart" : Str) = some pl ∧ (iq td tl al pl n).lookup ("moments" : Str) = some n := by
 unfold iq
 refine ⟨?_,?_,?_,?_,?_⟩
 ·rw [aV,if_neg (by decide),aV,if_neg (by decide),aV,if_neg (by decide),aV,if_neg (by decide),aV,if_pos rfl]
 ·rw [aV,if_neg (by decide),aV,if_neg (by decide),aV,if_neg (by decide),aV,if_pos rfl]
 ·rw [aV,if_neg (by decide),aV,if_neg (by decide),aV,if_pos rfl]
 ·rw [aV,if_neg (by decide),aV,if_pos rfl]
 ·rw [aV,if_pos rfl]
def Fx (x : Addr) (H H' : Hp) : Prop := ∀ a o,a ≠ x → H a = some o → H' a = some o
theorem Fx.of {x : Addr} {H H' : Hp} (g : aB H H') : Fx x H H' := fun a o _ h => g a o h
theorem Fx.put (x : Addr) (H : Hp) (o : HO) : Fx x H (aD H x o) := fun a u n h => by rw [aA n]; exact h
theorem Fx.trans {x : Addr} {H H1 H2 : Hp} (a : Fx x H H1) (b : Fx x H1 H2) : Fx x H H2 := fun c o n h => b c o n (a c o n h)
theorem bu.fx {x : Addr} {H H' : Hp} {l : Addr} {ks : List Ky} {C dx : Addr} {fs : List (Str × V)} (h : bu H l ks) (ex : H x = some (.ins C dx fs)) (g : Fx x H H') : bu H' l ks := by
 obtain ⟨as,e,r⟩ := h
 exact ⟨as,g _ _ (fF e ex (by intro z; cases z)) e,r.imp fun a k q => g _ _ (fF q ex (by intro z; cases z)) q⟩
def jD : Sp := fun vs H Q _ => ∃ (al : Addr) (m : Int) (A : List Ky),vs = [.ref al,.int m] ∧ bu H al A ∧ A.length ≤ 600 ∧ (∀ k ∈ A,∃ p q g : Int,k = [p,q,g] ∧ 0 ≤ p ∧ p < m ∧ 0 ≤ q ∧ q < m ∧ -1000000000 ≤ g ∧ g ≤ 1000000000) ∧ Q .non H
end Sw
namespace L2
open PySem PySem.Spec PyProof.Rows XH
section
variable {X : Cx} {scope : Scope} {cl : List (Str × Addr)} {os : List Str} {ys : List Str} {js : List Nat} {fp : List Addr} {pins : List (Addr × Obj)} {σ : St} {H : Hp} {s s4 : Shared}
end
section
variable {X : Cx} {scope : Scope} {cl : List (Str × Addr)} {os : List Str} {ys : List Str} {js : List Nat} {elt iter tg : Expr} {px pos : Pos} {wi : TI} {te : TE} {g : TG}
end
end L2
namespace Sw
open PySem L2 XH
end Sw
namespace L2
open PySem PySem.Spec PyProof.Rows XH
section
variable {X : Cx} {scope : Scope} {cl : List (Str × Addr)} {os : List Str} {ys : List Str} {js : List Nat} {elt iter tg : Expr} {px pos : Pos} {wi : TI} {te : TE} {g : TG}
end
end L2
namespace Sw
open PySem L2 XH
end Sw
namespace L2
open PySem PySem.Spec PyProof.Rows
end L2
namespace Sw
open PySem L2 XH
end Sw
namespace L2
open PySem PySem.Spec PyProof.Rows
end L2
namespace Sw
open PySem L2 XH
end Sw
namespace L2
open PySem PySem.Spec PyProof.Rows XH
section
variable {X : Cx}
theorem eU {K : PySem.W.Frag} (h : X.K = K) : sj X (sO K) := by
 subst h
 exact ar
end
def gW (R : V → V → Prop) : List V → List V → Prop
 | [],[] => True
 | x :: xs,y :: ys => R x y ∧ gW R xs ys
 | _,_ => False
theorem gW.len {R : V → V → Prop} : ∀ {xs ys : List V},gW R xs ys → xs.length = ys.length
 | [],[],_ => rfl
 | _ :: _,_ :: _,h => by simp [gW.len h.2]
 | [],_ :: _,h => h.elim
 | _ :: _,[],h => h.elim
def oa (K : PySem.W.Frag) (H : Hp) : Nat → V → V → Prop
 | 0,x,y => x = y ∧ v8 x
 | n + 1,x,y => oa K H n x y ∨ ∃ a b xs ys,x = .ref a ∧ y = .ref b ∧ ((bc K H a xs ∧ bc K H b ys) ∨ (az K H a xs ∧ az K H b ys)) ∧ gW (oa K H n) xs ys
theorem fP {A : Around} {s : Shared} {R : V → V → Prop} (hR : ∀ x y u w,R x y → RelV x u → RelV y w → SeqAt.EqAt A s u w true) : ∀ {xs ys : List V} {us ws : List Value},gW R xs ys → bh xs us → bh ys ws → ∀ j (h1 : j < us.length) (h2 : j < ws.length),SeqAt.EqAt A s us[j] ws[j] true
 | [],[],_,_,_,.nil,.nil,j,h1,_ => absurd h1 (by simp)
 | _ :: _,_ :: _,_,_,h,.cons r1 _,.cons r2 _,0,_,_ => hR _ _ _ _ h.1 r1 r2
 | _ :: _,_ :: _,_,_,h,.cons _ t1,.cons _ t2,j + 1,h1,h2 => fP hR h.2 t1 t2 j (by simpa using h1) (by simpa using h2)
theorem jE {X : Cx} {pins : List (Addr × Obj)} {σ : St} {H : Hp} {s : Shared} (I : aM X pins σ H s) : ∀ (n : Nat) (A : Around) (x y : V) (u w : Value),A.units + n < cLine → oa X.K H n x y → RelV x u → RelV y w → SeqAt.EqAt A s u w true
 | 0,A,x,y,u,w,_,h,r1,r2 => by
  obtain ⟨rfl,hs⟩ := h
  exact ko hs r1 r2
 | n + 1,A,x,y,u,w,hu,h,r1,r2 => by
  rcases h with h | ⟨a,b,xs,ys,rfl,rfl,hq,hA⟩
  ·exact jE I n A x y u w (by omega) h r1 r2
  cases r1
  cases r2
  by_cases e : a = b
  ·subst e
   exact SeqAt.EqAt.same _
  refine SeqAt.EqAt.of_refs e ?_
  have ih := fun x y u w => jE I n A.in1 x y u w (by show A.units + 1 + n < _; omega)
  rcases hq with ⟨h1,h2⟩ | ⟨h1,h2⟩
  ·obtain ⟨i1,v1,p1,_⟩ := I.tuple h1
   obtain ⟨i2,v2,p2,_⟩ := I.tuple h2
   have k := SeqAt.RcAt.tuples (A := A) (e := fun _ => true) p1 p2 (by omega) fun j g1 g2 => fP (A := A.in1) (s := s) ih hA v1 v2 j (by simpa using g1) (by simpa using g2)
   have e1 : ∀ m,((List.range m).all fun _ => true) = true := fun m => by simp
   rw [e1] at k
   simpa [← v1.length,← v2.length,hA.len] using k
  ·obtain ⟨i1,v1,p1,_⟩ := I.list h1
   obtain ⟨i2,v2,p2,_⟩ := I.list h2
   have k := SeqAt.RcAt.lists (A := A) (e := fun _ => true) p1.isList p2.isList (by simp [← v1.length,← v2.length,hA.len]) (by omega) fun j g1 g2 => fP (A := A.in1) (s := s) ih hA v1 v2 j (by simpa using g1) (by simpa using g2)
   have e1 : ∀ m,((List.range m).all fun _ => true) = true := fun m => by simp
   rw [e1] at k
   exact k
theorem jF {X : Cx} (n : Nat) (hu : X.A.units + (n + 1) < cLine) : dW X (compareOp .Eq) (fun x y H Q => ∃ a b xs ys,x = .ref a ∧ y = .ref b ∧ az X.K H a xs ∧ az X.K H b ys ∧ gW (oa X.K H n) xs ys ∧ Q (.bl true) H) := by
 intro pins s σ H x y v u Q I rx ry h
 obtain ⟨a,b,xs,ys,rfl,rfl,h1,h2,hA,hq⟩ := h
 cases rx
 cases ry
 obtain ⟨i1,v1,p1,_⟩ := I.list h1
 obtain ⟨i2,v2,p2,_⟩ := I.list h2
 refine SeqAt.eq_listAt (e := fun _ => true) p1.isList p2.isList (by simp [← v1.length,← v2.length,hA.len]) (by omega) (fun j g1 g2 => ?_) ?_
 ·exact fP (A := X.A.in1) (s := s) (fun x y u w => jE I n X.A.in1 x y u w (by show X.A.units + 1 + n < _; omega)) hA v1 v2 j (by simpa using g1) (by simpa using g2)
 ·exact ⟨.bl true,H,I,by show Value.bool _ = Value.bool _; simp,hq⟩
end L2
namespace Sw
open PySem L2 XH
end Sw
namespace L2
open PySem PySem.Spec PyProof.Rows XH Sw So
theorem rH {X : Cx} (n : Nat) (hu : X.A.units + (n + 1) < cLine) : dW X (compareOp .NotEq) (fun x y H Q => ∃ a b xs ys,x = .ref a ∧ y = .ref b ∧ bc X.K H a xs ∧ bc X.K H b ys ∧ gW (oa X.K H n) xs ys ∧ Q (.bl false) H) := by
 intro pins s σ H x y v u Q I rx ry h
 obtain ⟨a,b,xs,ys,rfl,rfl,h1,h2,hA,hq⟩ := h
 cases rx
 cases ry
 obtain ⟨i1,v1,p1,_⟩ := I.tuple h1
 obtain ⟨i2,v2,p2,_⟩ := I.tuple h2
 refine SeqAt.RcNeAt.tuples (e := fun _ => true) p1 p2 (by omega) (fun j g1 g2 => ?_) _ _ _ _ ⟨.bl false,H,I,by show Value.bool _ = Value.bool _; simp [← v1.length,← v2.length,hA.len],hq⟩
 exact fP (A := X.A.in1) (s := s) (fun x y u w => jE I n X.A.in1 x y u w (by show X.A.units + 1 + n < _; omega)) hA v1 v2 j (by simpa using g1) (by simpa using g2)
end L2
namespace Sw
open PySem L2 XH Hm
end Sw
namespace L2
open PySem PySem.Spec PyProof.Rows XH Sw Hm
end L2
namespace Sw
open PySem L2 XH Hm
abbrev Rn := Int × Int × Int
def rk (r : Rn) : Ky := [r.1,r.2.1,r.2.2]
def jg (H : Hp) (t : Addr) (R : List Rn) (M : List Int) : Prop := ∃ rl ml : Addr,H t = some (.tup [.ref rl,.ref ml]) ∧ bu H rl (R.map rk) ∧ H ml = some (.lst (M.map V.int))
theorem jg.same {H H' : Hp} {t : Addr} {R : List Rn} {M : List Int} (h : jg H t R M) (g : aB H H') : jg H' t R M := by
 obtain ⟨rl,ml,a,b,c⟩ := h
 exact ⟨rl,ml,g _ _ a,b.same g,g _ _ c⟩
def aQ : List Rn → List Int → List Int
 | [],M => M
 | r :: R,M => r.1 :: r.2.1 :: aQ R M
theorem cx (M : List Int) : ∀ R : List Rn,(aQ R M).length = 2 * R.length + M.length
 | [] => by simp [aQ]
 | r :: R => by simp [aQ,cx M R]; omega
theorem kI (M : List Int) : ∀ (R : List Rn) (i : Nat),(aQ R M)[2 * R.length + i]? = M[i]?
 | [],i => by simp [aQ]
 | r :: R,i => by
  have e : 2 * (r :: R).length + i = (2 * R.length + i) + 1 + 1 := by simp; omega
  rw [e]
  show (aQ R M)[2 * R.length + i]? = _
  exact kI M R i
theorem kJ (M : List Int) : ∀ (R : List Rn) (i : Nat) (r : Rn),R[i]? = some r → (aQ R M)[2 * i]? = some r.1 ∧ (aQ R M)[2 * i + 1]? = some r.2.1
 | [],i,r,h => by simp at h
 | q :: R,0,r,h => by
  simp at h
  subst h
  exact ⟨rfl,rfl⟩
 | q :: R,i + 1,r,h => by
  have ih := kJ M R i r (by simpa using h)
  exact ih
def kK (M : List Int) (k : Nat) : Bool := decide (M.getD k 0 < 0)
def mf (A : List Ky) (S : List Int) (k : Nat) : Bool :=
 let a := A.getD k []
 decide (S.getD (a.getD 1 0).toNat 0 - S.getD (a.getD 0 0).toNat 0 < a.getD 2 0)
def ir : Sp := fun vs H Q _ => ∃ (t : Addr) (p : Int) (R : List Rn) (M : List Int) (v : Int),vs = [.ref t,.int p] ∧ jg H t R M ∧ 0 ≤ p ∧ (aQ R M)[p.toNat]? = some v ∧ Q (.int v) H
theorem n2 {p A B : Prop} [Decidable p] (h1 : ¬ p → A) (h2 : p → B) : if (!decide p) = true then A else B := by
 by_cases h : p
 ·rw [if_neg (by simp [h])]; exact h2 h
 ·rw [if_pos (by simp [h])]; exact h1 h
theorem bf {α : Type} {xs : List α} {i : Nat} {v d : α} (h : xs[i]? = some v) : xs.getD i d = v := by rw [List.getD_eq_getElem?_getD,h]; rfl
theorem cf {as : List Addr} {i : Nat} {y : V} (h : (as.map V.ref)[i]? = some y) : ∃ a,as[i]? = some a ∧ y = .ref a := by
 rw [List.getElem?_map] at h
 obtain ⟨a,e,rfl⟩ := Option.map_eq_some_iff.mp h
 exact ⟨a,e,rfl⟩
theorem a5 {α : Type} {f : α → V} {xs : List α} {i : Nat} {x : α} (h : xs[i]? = some x) : (xs.map f)[i]? = some (f x) := by rw [List.getElem?_map,h]; rfl
theorem eB {H : Hp} {bs : List Addr} {R : List Rn} (h : df (fun t k => H t = some (.tup (k.map V.int))) bs (R.map rk)) {i : Nat} {b : Addr} (e : bs[i]? = some b) : ∃ r : Rn,R[i]? = some r ∧ H b = some (.tup [.int r.1,.int r.2.1,.int r.2.2]) := by
 have il : i < R.length := by
  have := (List.getElem?_eq_some_iff.mp e).1
  rw [h.1,List.length_map] at this
  exact this
 exact ⟨_,List.getElem?_eq_getElem il,h.2 i b (rk R[i]) e (by rw [List.getElem?_map,List.getElem?_eq_getElem il]; rfl)⟩
theorem run_get {H : Hp} {bs : List Addr} {R : List Rn} (h : df (fun t k => H t = some (.tup (k.map V.int))) bs (R.map rk)) {i : Nat} {r : Rn} (e : R[i]? = some r) : ∃ b,bs[i]? = some b ∧ H b = some (.tup [.int r.1,.int r.2.1,.int r.2.2]) := by
 obtain ⟨b,hb,_⟩ := h.get (i := i) (x := rk r) (by rw [List.getElem?_map,e]; rfl)
 obtain ⟨r',e',q⟩ := eB h hb
 rw [e] at e'
 cases e'
 exact ⟨b,hb,q⟩
theorem rJ {R : List Rn} {M : List Int} {p v : Int} (p0 : 0 ≤ p) (c : p < 2 * (R.length : Int)) (ev : (aQ R M)[p.toNat]? = some v) : ∃ (i : Nat) (r : Rn),p.fdiv 2 = (i : Int) ∧ R[i]? = some r ∧ fb [V.int r.1,.int r.2.1,.int r.2.2] (p.fmod 2) = some (.int v) := by
 have e1 : p.fdiv 2 = p / 2 := Int.fdiv_eq_ediv_of_nonneg p (by decide)
 have e2 : p.fmod 2 = p % 2 := Int.fmod_eq_emod_of_nonneg p (by decide)
 have il : p.toNat / 2 < R.length := by omega
 obtain ⟨s1,s2⟩ := kJ M R _ _ (List.getElem?_eq_getElem il)
 refine ⟨p.toNat / 2,_,by rw [e1]; omega,List.getElem?_eq_getElem il,?_⟩
 rw [e2]
 by_cases h : p.toNat % 2 = 0
 ·have ep : p % 2 = ((0 : Nat) : Int) := by omega
  have en : p.toNat = 2 * (p.toNat / 2) := by omega
  rw [en,s1] at ev
  cases ev
  rw [ep]
  exact aL rfl
 ·have ep : p % 2 = ((1 : Nat) : Int) := by omega
  have en : p.toNat = 2 * (p.toNat / 2) + 1 := by omega
  rw [en,s2] at ev
  cases ev
  rw [ep]
  exact aL rfl
theorem rK {R : List Rn} {M : List Int} {p v : Int} {n : Nat} (hn : n = R.length) (c : p - 2 * (n : Int) ≥ 0) (ev : (aQ R M)[p.toNat]? = some v) : fb (M.map V.int) (p - 2 * (n : Int)) = some (.int v) := by
 subst hn
 obtain ⟨j,hj⟩ : ∃ j : Nat,p.toNat = 2 * R.length + j := ⟨p.toNat - 2 * R.length,by omega⟩
 rw [hj,kI] at ev
 have e : p - 2 * (R.length : Int) = (j : Int) := by omega
 rw [e]
 exact aL (a5 ev)
def uH (z : Int) : Prop := 0 ≤ z ∧ z < 2147483629
def eC : Sp := fun vs H Q _ => ∃ (c m : Int),vs = [.int c,.int m] ∧ 0 ≤ m ∧ m ≤ 1000 ∧ ∀ (p : Addr) (ns : List Int) (H' : Hp),H p = none → aB H H' → ns.length = m.toNat → (∀ z ∈ ns,uH z) → H' p = some (.lst (ns.map V.int)) → Q (.ref p) H'
def mV (n : Int) (k : Ky) : Prop := ∃ p q g : Int,k = [p,q,g] ∧ 0 ≤ p ∧ p < n ∧ 0 ≤ q ∧ q < n ∧ -1000000000 ≤ g ∧ g ≤ 1000000000
theorem gc (M : List Int) : ∀ R : List Rn,aQ R [] ++ M = aQ R M
 | [] => rfl
 | r :: R => by simp [aQ,gc M R]
theorem fq : ∀ {R : List Rn} {i : Nat} {r : Rn},R[i]? = some r → aQ (R.take (i + 1)) [] = aQ (R.take i) [] ++ [r.1] ++ [r.2.1]
 | [],i,r,h => by simp at h
 | q :: R,0,r,h => by
  simp at h
  subst h
  rfl
 | q :: R,i + 1,r,h => by
  have ih := fq (R := R) (i := i) (r := r) (by simpa using h)
  show q.1 :: q.2.1 :: aQ (R.take (i + 1)) [] = q.1 :: q.2.1 :: (aQ (R.take i) [] ++ [r.1] ++ [r.2.1])
  rw [ih]
theorem eG {ns : List Int} {i : Nat} (h : ∀ z ∈ ns,uH z) (hi : i < ns.length) : ∃ z,ns[i]? = some z ∧ uH z := ⟨_,List.getElem?_eq_getElem hi,h _ (List.getElem_mem hi)⟩
theorem fm {a n : Int} (h : 0 < n) : 0 ≤ a.fmod n ∧ a.fmod n < n := ⟨Int.fmod_nonneg_of_pos a h,Int.fmod_lt_of_pos a h⟩
theorem jG {ns : List Int} {i : Int} (h0 : 0 ≤ i) (h : i < (ns.length : Int)) : ∃ v,fb (ns.map V.int) i = some (.int v) := by
 obtain ⟨j,rfl⟩ : ∃ j : Nat,i = (j : Int) := ⟨i.toNat,by omega⟩
 exact ⟨ns[j]'(by omega),aL (a5 (List.getElem?_eq_getElem (by omega)))⟩
theorem iu {H : Hp} {l t : Addr} {as : List Addr} {ks : List Ky} {k : Ky} (e : H l = some (.lst (as.map V.ref))) (r : df (fun t k => H t = some (.tup (k.map V.int))) as ks) (h : H t = some (.tup (k.map V.int))) : bu (aD H l (.lst (as.map V.ref ++ [.ref t]))) l (ks ++ [k]) :=
 ⟨as ++ [t],by rw [aj,List.map_append]; rfl,(r.snoc h).imp fun t b q => by rw [aA (fF q e (by intro z; cases z))]; exact q⟩
theorem hC {R : V → V → Prop} : ∀ {xs ys : List V},xs.length = ys.length → (∀ (i : Nat) (x y : V),xs[i]? = some x → ys[i]? = some y → R x y) → gW R xs ys
 | [],[],_,_ => trivial
 | x :: xs,y :: ys,hl,h => ⟨h 0 x y rfl rfl,hC (by simpa using hl) fun i a b e1 e2 => h (i + 1) a b (by simpa using e1) (by simpa using e2)⟩
 | [],_ :: _,hl,_ => by simp at hl
 | _ :: _,[],hl,_ => by simp at hl
theorem bu.upd {H : Hp} {l x : Addr} {ks : List Ky} {zs ys : List V} (h : bu H l ks) (ex : H x = some (.lst zs)) (xl : l ≠ x) : bu (L2.aD H x (.lst ys)) l ks := by
 obtain ⟨as,e,r⟩ := h
 exact ⟨as,by rw [aA xl]; exact e,r.imp fun a k q => by rw [aA (fF q ex (by intro z; cases z))]; exact q⟩
theorem jh (ns : List Int) (lo hi : Option Int) : ∃ cs : List Int,eZ (ns.map V.int) lo hi = cs.map V.int ∧ cs.length ≤ ns.length := by
 unfold eZ
 refine ⟨(ns.drop _).take _,by rw [List.map_take,List.map_drop],?_⟩
 rw [List.length_take,List.length_drop]
 omega
theorem iw {H1 H' : Hp} {x dx : Addr} {C : Addr} (nx : H1 x = none) (nd : H1 dx = none) (h : ∀ a o,a ≠ x → aD (aD H1 dx (.own x)) x (.ins C dx []) a = some o → H' a = some o) : aB H1 H' := fun a o e => by
 have ax : a ≠ x := fun z => by rw [z,nx] at e; cases e
 have ad : a ≠ dx := fun z => by rw [z,nd] at e; cases e
 exact h a o ax (by rw [aA ax,aA ad]; exact e)
end Sw
namespace L2
open PySem PySem.Spec PyProof.Rows XH Sw Hm
end L2
namespace Sw
open PySem L2 XH Hm
end Sw
namespace L2
open PySem PySem.Spec PyProof.Rows XH Sw Hm
section
variable {X : Cx} {pins : List (Addr × Obj)} {σ : St} {H : Hp} {s : Shared}
end
end L2
namespace Sw
open PySem L2 XH Hm
end Sw
namespace L2
open PySem PySem.Spec PyProof.Rows XH Sw Hm
end L2
namespace Sw
open PySem L2 XH Hm
end Sw
namespace L2
open PySem PySem.Spec PyProof.Rows XH
theorem iY (t : SetTable) (n : Nat) : (t.orStandIn n).led = t.led := by
 unfold SetTable.orStandIn
 by_cases h : t.fits n = true
 ·rw [if_pos h]
 ·rw [if_neg h]; rfl
theorem mh (t : SetTable) (es : Array (Int × Value)) (h : Int) (x : Value) : (layNew t es h x).2.1.led = t.led := by
 cases e : t.freeSlot h with
 | none => simp only [layNew,e]; rfl
 | some r =>
  obtain ⟨slot,d⟩ := r
  simp only [layNew,e]
  rw [iY]
  rfl
theorem kM {t t' : SetTable} {hs : Array Int} {n : Nat} {order : Array Nat} (e : t.relaid hs n = some (t',order)) : t'.led = t.led ∧ t'.plain = t.plain := by
 unfold SetTable.relaid SetTable.laid at e
 obtain ⟨o,_,e2⟩ := Option.bind_eq_some_iff.mp e
 simp only [pure,Option.some.injEq,Prod.mk.injEq] at e2
 rw [← e2.1]
 exact ⟨rfl,rfl⟩
theorem jH (t : SetTable) (es : Array (Int × Value)) (n : Nat) : (relayAll t es n).2.1.led = t.led := by
 cases e : t.relaid (es.map (·.1)) n with
 | none => simp only [relayAll,e]; rfl
 | some r =>
  obtain ⟨t',order⟩ := r
  simp only [relayAll,e]
  by_cases c : (coversAll order es.size && t'.fits (order.filterMap (es[·]?)).size) = true
  ·rw [if_pos c]; exact (kM e).1
  ·rw [if_neg c]; rfl
section
variable {prog : Program} {w : World} {A : Around} {E : Value → Shared → Prop} {s : Shared}
end
section
variable {prog : Program} {w : World} {A : Around} {R : Result → Shared → Prop} {I : Addr} {fp wr : List Addr} {G : Array GenState → Array GenState → Prop} {n : Nat} {P : Nat → Value → Prop} {St : Nat → Shared → Prop}
end
section
variable {prog : Program} {w : World} {A : Around} {E : Value → Shared → Prop} {s : Shared}
theorem iZ (a : Value) {Q₁ : Value → Shared → Prop}
  (h : ∀ led : Bool,(w.params.followText "set-order" = false → led = true) → Q₁ (.ref s.heap.objs.size) { s with heap := s.heap.push { cls := .type "set",dict := none,data := .set #[] 0 (.fresh 0 0 led) } }) :
  codeAny (model prog w) A (.call (.builtin "set.__new__") ⟨[.type "set",a],[]⟩) (wants Q₁ E) s := by
 refine codeAny_of_tree ?_
 show wpAny _ A.in1 (do checkBuiltinCall "set.__new__" ⟨[.type "set",a],[]⟩; again (.builtin "set.__new__" ⟨[.type "set",a],[]⟩)) _ _ s
 refine wpAny_bind (wpAny_of_eq (F.newCall_set_1 a) (wpAny_pure ⟨plainId_quiet F.plain_set_new _,codeAny_builtin F.entry_set_new ?_⟩))
 rw [Around.under_plainId F.plain_set_new _]
 unfold Builtin.«set.__new__» Builtin.Frozenset.newClass
 have hsub := sub_set_self
 obtain ⟨hp,g,d,tk,os⟩ := s
 dsimp only
 wp_walk
 refine wpAny_askSetting (wpAny_pure ?_)
 dsimp only
 simp only [newObj]
 refine wpAny_bind (wpAny_alloc (wpAny_pure ?_))
 refine wpAny_pure (h _ fun e => ?_)
 show (!(model prog w).w.params.followText "set-order") = true
 rw [show (model prog w).w = w from rfl,e]
 rfl
end
theorem kN : Manifest.owners.lookup (String.ofList ['r','o','t','a','r','e','t','i','_','t','e','s'].reverse) = some Manifest.sig_set_iterator := by kernel_rfl
theorem a4 : Slot "set_iterator" "__next__" "set_iterator.__next__" :=
 .of (owner := "set_iterator") (n := "__next__") (by rw [typeLookup_type,builtinLookup_eq_fast]; kernel_rfl) (by decide +kernel) (by decide +kernel) (by decide +kernel)
  (by first | exact .inl (by decide +kernel) | exact .inr (by decide +kernel)) (by rw [isSubtype_type]; kernel_rfl)
theorem cK : entryFor table "set_iterator.__next__" = some Builtin.«set_iterator.__next__» := entryFor_of_tree (by kernel_rfl)
theorem cX (a : Value) : argsOk "set_iterator.__next__" ⟨[a],[]⟩ := by
 unfold argsOk; rw [signature?_of (id := "set_iterator.__next__") (n := ['_','_','t','x','e','n','_','_']) (o := ['r','o','t','a','r','e','t','i','_','t','e','s']) (by kernel_rfl) kN]; kernel_rfl
theorem bP : Slot "set_iterator" "__iter__" "set_iterator.__iter__" :=
 .of (owner := "set_iterator") (n := "__iter__") (by rw [typeLookup_type,builtinLookup_eq_fast]; kernel_rfl) (by decide +kernel) (by decide +kernel) (by decide +kernel)
  (by first | exact .inl (by decide +kernel) | exact .inr (by decide +kernel)) (by rw [isSubtype_type]; kernel_rfl)
theorem cY (a : Value) : argsOk "set_iterator.__iter__" ⟨[a],[]⟩ := by
 unfold argsOk; rw [signature?_of (id := "set_iterator.__iter__") (n := ['_','_','r','e','t','i','_','_']) (o := ['r','o','t','a','r','e','t','i','_','t','e','s']) (by kernel_rfl) kN]; kernel_rfl
theorem ix : entryFor table "set.__iter__" = some Builtin.«frozenset.__iter__» :=
 entryFor_alias (id' := "frozenset.__iter__") (by kernel_rfl) rfl (by decide +kernel) (by kernel_rfl)
theorem cL : entryFor table "set_iterator.__iter__" = some Builtin.«dict_keyiterator.__iter__» :=
 entryFor_alias (id' := "dict_keyiterator.__iter__") (by kernel_rfl) rfl (by decide +kernel) (by kernel_rfl)
section
variable {prog : Program} {w : World} {A : Around} {E : Value → Shared → Prop} {s : Shared}
theorem i4 {M : Model} {src : Source} {n : Nat} {Q : Nat → Shared → Prop} (hn : n ≠ 0) (h : ∀ i d,i < n → Q i { s with drawn := d }) : wpAny M A (choose src n) Q E s := fun _ _ _ => by
 unfold choose
 rw [Sem.wp_choose]
 exact ⟨hn,by simpa using h _ _ (Nat.mod_lt _ (Nat.pos_of_ne_zero hn))⟩
theorem ge {α : Type} : ∀ (l : List α) (i : Nat) (h : i < l.length),(l[i] :: l.eraseIdx i).Perm l
 | [],i,h => by simp at h
 | x :: xs,0,_ => .refl _
 | x :: xs,i + 1,h => by
  have h' : i < xs.length := by simpa using h
  show (xs[i] :: x :: xs.eraseIdx i).Perm (x :: xs)
  exact (List.Perm.swap _ _ _).trans ((ge xs i h').cons x)
theorem eI {M : Model} {α : Type} : ∀ (n : Nat) (xs : List α) (s : Shared) (Q : List α → Shared → Prop),xs.length = n → (∀ ys d,ys.Perm xs → Q ys { s with drawn := d }) → wpAny M A (drawOrder n xs) Q E s
 | 0,xs,s,Q,hl,h => by
  have : xs = [] := List.length_eq_zero_iff.mp hl
  subst this
  unfold drawOrder
  exact wpAny_pure (h [] s.drawn .nil)
 | n + 1,[],s,Q,hl,h => by cases hl
 | n + 1,x :: xs,s,Q,hl,h => by
  unfold drawOrder
  refine wpAny_bind (i4 (by simp) fun i d hi => ?_)
  have e : (x :: xs)[i]? = some ((x :: xs)[i]) := List.getElem?_eq_getElem hi
  rw [e]
  dsimp only
  refine wpAny_bind (eI n ((x :: xs).eraseIdx i) { s with drawn := d } _ (by rw [List.length_eraseIdx_of_lt hi,hl]; rfl) fun ys d' hp => wpAny_pure (h _ d' ?_))
  exact (hp.cons _).trans (ge _ i hi)
def cD (h : Heap) (a : Addr) (es : Array (Int × Value)) (ep : Nat) (t : SetTable) : Prop := ∃ o,h.get? a = some o ∧ o.ExactSet ∧ o.data = .set es ep t ∧ t.fits es.size = true
def lH (first : Value) (i : Nat) (S : Addr) (n ep : Nat) : Obj := { cls := .type "set_iterator",data := .fields #[first,.int i 0,.ref S,.int n 0,.int ep 0] }
theorem jI {a : Addr} {es : Array (Int × Value)} {ep : Nat} {t : SetTable} (h : cD s.heap a es ep t) : s.TypeIs (.ref a) "set" := let ⟨o,ho,hx,_⟩ := h; ⟨o,ho,hx.1⟩
theorem qw {a : Addr} {es : Array (Int × Value)} {ep : Nat} {t : SetTable} {Q : Value → Shared → Prop} (hS : cD s.heap a es ep t) (hz : es.size ≤ sizeLine)
  (h1 : (!w.params.followText "set-order" && (!t.plain && decide (es.size > 1))) = false → Q (.ref s.heap.objs.size) { s with heap := s.heap.push (lH (.int 0 0) 0 a es.size ep) })
  (h2 : (!w.params.followText "set-order" && (!t.plain && decide (es.size > 1))) = true → ∀ (ys : List Nat) d,ys.Perm (List.range es.size) →
   Q (.ref (s.heap.objs.size + 1)) { s with heap := (s.heap.push { cls := .type "tuple",data := .seq (ys.map fun (i : Nat) => rawInt i).toArray }).push (lH (.ref s.heap.objs.size) 0 a es.size ep),drawn := d }) :
  wpAny (model prog w) A (pyIter (.ref a)) Q E s := by
 have hT := jI hS
 obtain ⟨o,ho,hx,hd,hf⟩ := hS
 refine wpAny_pyIter_slot hT F.slot_set_iter (wpAny_call_entry F.slot_set_iter hT ix ?_ (F.args_set_iter_1 _))
 unfold Builtin.«frozenset.__iter__»
 refine wpAny_bind (m := Builtin.Frozenset.slot0 _ _) ?_
 show wpAny _ _ (pure a) _ _ s
 refine wpAny_pure ?_
 unfold Builtin.Frozenset.sizeOf setEntries
 refine wpAny_bind (wpAny_bind (wpAny_bind (wpAny_setState_of ho hd hf (wpAny_pure ?_))))
 refine wpAny_pure ?_
 unfold setDrawn setsByText
 refine wpAny_bind (wpAny_bind (wpAny_setState_of ho hd hf ?_))
 dsimp only
 refine wpAny_bind (wpAny_bind (wpAny_askSetting (wpAny_pure ?_)))
 show wpAny _ _ (pure (!w.params.followText "set-order" && (!t.plain && decide (es.size > 1)))) _ _ s
 refine wpAny_pure ?_
 cases c : (!w.params.followText "set-order" && (!t.plain && decide (es.size > 1))) with
 | false =>
  simp only [Bool.false_eq_true,if_false]
  refine wpAny_bind (wpAny_pure ?_)
  unfold setEpoch
  refine wpAny_bind (wpAny_bind (wpAny_setState_of ho hd hf (wpAny_pure ?_)))
  refine wpAny_bind (wpAny_newObj_type (wpAny_pure ⟨_,rfl,"set_iterator",_,⟨_,Heap.get?_push_size _ rfl,rfl⟩,a4.lookup,?_⟩))
  exact h1 c
 | true =>
  simp only [if_true]
  refine wpAny_bind (eI es.size (List.range es.size) s _ (by simp) fun ys d hp => ?_)
  refine wpAny_bind (wpAny_newTuple ?_ (by rw [List.length_map,hp.length_eq,List.length_range]; exact hz))
  unfold setEpoch
  have ho' : (s.heap.push { cls := .type "tuple",data := .seq (ys.map fun (i : Nat) => rawInt i).toArray }).get? a = some o := Heap.get?_push_of_some _ ho
  refine wpAny_bind (wpAny_bind (wpAny_setState_of (s := { s with heap := _,drawn := d }) ho' hd hf (wpAny_pure ?_)))
  refine wpAny_bind (wpAny_newObj_type (wpAny_pure ⟨_,rfl,"set_iterator",_,⟨_,Heap.get?_push_size _ rfl,rfl⟩,a4.lookup,?_⟩))
  have := h2 c ys d hp
  rw [← Heap.size_push s.heap { cls := .type "tuple",data := .seq (ys.map fun (i : Nat) => rawInt i).toArray }] at this
  exact this
end
section
variable {prog : Program} {w : World} {A : Around} {E : Value → Shared → Prop} {s : Shared}
theorem cD.at {h h' : Heap} {a : Addr} {es : Array (Int × Value)} {ep : Nat} {t : SetTable} (x : cD h a es ep t) (k : ∀ o,h.get? a = some o → h'.get? a = some o) : cD h' a es ep t := let ⟨o,ho,r⟩ := x; ⟨o,k o ho,r⟩
theorem cM {a : Addr} {es : Array (Int × Value)} {ep : Nat} {t : SetTable} {Q : Array (Int × Value) → Shared → Prop} (hS : cD s.heap a es ep t) (h : Q es s) : wpAny (model prog w) A (setEntries a) Q E s := by
 obtain ⟨o,ho,_,hd,hf⟩ := hS
 unfold setEntries
 exact wpAny_bind (wpAny_setState_of ho hd hf (wpAny_pure h))
theorem cR {a : Addr} {es : Array (Int × Value)} {ep : Nat} {t : SetTable} {Q : (Array (Int × Value) × Nat × SetTable) → Shared → Prop} (hS : cD s.heap a es ep t) (h : Q (es,ep,t) s) : wpAny (model prog w) A (setState a) Q E s := by
 obtain ⟨o,ho,_,hd,hf⟩ := hS
 exact wpAny_setState_of ho hd hf h
theorem gf {I S : Addr} {es : Array (Int × Value)} {ep i slot nx : Nat} {t : SetTable} {x : Value} {Q : Option Value → Shared → Prop} (hI : s.heap.get? I = some (lH (.int slot 0) i S es.size ep)) (hS : cD s.heap S es ep t)
  (hn : ∀ (A : Around) (E : Value → Shared → Prop) (Q : Option (Value × Nat) → Shared → Prop),Q (some (x,nx)) s → wpAny (model prog w) A (setNext S slot i ep) Q E s)
  (h : ∀ h',h'.get? I = some (lH (.int nx 0) (i + 1) S es.size ep) → Heap.SameBut I s.heap h' → Q (some x) { s with heap := h' }) : wpAny (model prog w) A (pyNext (.ref I)) Q E s := by
 have hT : s.TypeIs (.ref I) "set_iterator" := ⟨_,hI,rfl⟩
 unfold pyNext
 refine wpAny_bind (wpAny_attempt (wpAny_callSpecial?_slot (name := Str.ofString "__next__") hT a4 (wpAny_call_entry a4 hT cK ?_ (cX _))))
 unfold Builtin.«set_iterator.__next__»
 refine wpAny_bind (m := slotArgs _ _ _) ?_
 show wpAny _ _ (pure (Value.ref I,[])) _ _ s
 refine wpAny_pure ?_
 refine wpAny_bind (wpAny_fieldsOf hI rfl ?_)
 show wpAny _ _ (setEntries S >>= _) _ _ s
 refine wpAny_bind (cM hS ?_)
 rw [if_neg (by simp)]
 show wpAny _ _ (setNext S (Int.toNat slot) (Int.toNat i) (Int.toNat ep) >>= _) _ _ s
 simp only [Int.toNat_natCast]
 refine wpAny_bind (hn _ _ _ ?_)
 dsimp only
 refine wpAny_bind (wpAny_setField_rec (vs := #[.int slot 0,.int i 0,.ref S,.int es.size 0,.int ep 0]) hI (by simp) fun h1 e1 s1 => ?_)
 refine wpAny_bind (wpAny_setField_rec (s := { s with heap := h1 }) e1 (by simp) fun h2 e2 s2 => ?_)
 exact wpAny_pure ⟨_,rfl,wpAny_pure (h h2 (by simpa [lH,rawInt] using e2) (s1.trans s2))⟩
theorem gi {I S : Addr} {es : Array (Int × Value)} {ep i slot : Nat} {t : SetTable} {Q : Option Value → Shared → Prop} (hh : A.handled = none) (hI : s.heap.get? I = some (lH (.int slot 0) i S es.size ep)) (hS : cD s.heap S es ep t)
  (hn : ∀ (A : Around) (E : Value → Shared → Prop) (Q : Option (Value × Nat) → Shared → Prop),Q none s → wpAny (model prog w) A (setNext S slot i ep) Q E s)
  (h : ∀ h',Heap.ExtBut I s.heap h' → Q none { s with heap := h' }) : wpAny (model prog w) A (pyNext (.ref I)) Q E s := by
 have hT : s.TypeIs (.ref I) "set_iterator" := ⟨_,hI,rfl⟩
 unfold pyNext
 refine wpAny_bind (wpAny_attempt (wpAny_callSpecial?_slot (name := Str.ofString "__next__") hT a4 (wpAny_call_entry a4 hT cK ?_ (cX _))))
 unfold Builtin.«set_iterator.__next__»
 refine wpAny_bind (m := slotArgs _ _ _) ?_
 show wpAny _ _ (pure (Value.ref I,[])) _ _ s
 refine wpAny_pure ?_
 refine wpAny_bind (wpAny_fieldsOf hI rfl ?_)
 show wpAny _ _ (setEntries S >>= _) _ _ s
 refine wpAny_bind (cM hS ?_)
 rw [if_neg (by simp)]
 show wpAny _ _ (setNext S (Int.toNat slot) (Int.toNat i) (Int.toNat ep) >>= _) _ _ s
 simp only [Int.toNat_natCast]
 refine wpAny_bind (hn _ _ _ ?_)
 dsimp only
 refine wpAny_bind (wpAny_setField_rec (vs := #[.int slot 0,.int i 0,.ref S,.int es.size 0,.int ep 0]) hI (by simp) fun h1 e1 s1 => ?_)
 show wpAny _ _ (newExc (.type "StopIteration") [] >>= _) _ _ _
 refine wpAny_bind ?_
 simp only [newExc,newTuple]
 refine wpAny_bind (wpAny_newObj_type ?_ (by size_fits))
 refine wpAny_bind (m := firstArgMember _ _) (wpAny_of_eq (a := Value.none) (by first | rfl | (simp only [firstArgMember]; rfl)) ?_)
 refine wpAny_newObj_type ?_ (by size_fits)
 simp only [raiseNew]
 refine wpAny_bind (wpAny_handled ?_)
 rw [show A.in1.handled = none from hh]
 refine wpAny_bind (wpAny_pure (wpAny_throw ?_))
 refine wpAny_bind (wpAny_isInstance (T := "StopIteration") (b := true) ⟨_,Heap.get?_push_size _ rfl,rfl⟩ isSubtype_stop ?_)
 exact wpAny_pure (h _ ((s1.extBut.push _).push _))
end
theorem gO {α : Type} (nx : Nat → Nat) : ∀ (f k : Nat) (l : List α) (out : Array α),l.length = f → (pickOrder.go nx f k l out).toList.Perm (out.toList ++ l)
 | 0,k,l,out,h => by
  have : l = [] := List.length_eq_zero_iff.mp h
  subst this
  simp [pickOrder.go]
 | f + 1,k,l,out,h => by
  have hp : 0 < l.length := by omega
  have hi : nx k % l.length < l.length := Nat.mod_lt _ hp
  have e : l[nx k % l.length]? = some (l[nx k % l.length]) := List.getElem?_eq_getElem hi
  rw [pickOrder.go,e]
  dsimp only
  refine (gO nx f (k + 1) _ _ (by rw [List.length_eraseIdx_of_lt hi,h]; rfl)).trans ?_
  rw [Array.toList_push,List.append_assoc]
  exact List.Perm.append_left _ (ge l _ hi)
theorem iy {α : Type} (nx : Nat → Nat) (xs : Array α) : (pickOrder nx xs).toList.Perm xs.toList := by
 unfold pickOrder
 simpa using gO nx xs.size 0 xs.toList #[] (by simp)
section
variable {prog : Program} {w : World} {A : Around} {E : Value → Shared → Prop} {s : Shared}
theorem fQ {S : Addr} {es : Array (Int × Value)} {ep i slot : Nat} {t : SetTable} {Q : Option (Value × Nat) → Shared → Prop} (hS : cD s.heap S es ep t) (hb : w.params.followText "set-order" = true)
  (h : Q (((pickOrder (w.params.setOrder S ep) es)[i]?).map fun e => (e.2,slot)) s) : wpAny (model prog w) A (setNext S slot i ep) Q E s := by
 unfold setNext setsByText
 refine wpAny_bind (cR hS ?_)
 dsimp only
 refine wpAny_bind (wpAny_bind (wpAny_askSetting (wpAny_pure ?_)))
 rw [show ((model prog w).w.params.followText "set-order") = true from hb]
 simp only [if_true]
 rw [if_neg (by simp)]
 unfold setWalk setsByText
 refine wpAny_bind (wpAny_bind (cR hS ?_))
 dsimp only
 refine wpAny_bind (wpAny_bind (wpAny_askSetting (wpAny_pure ?_)))
 rw [show ((model prog w).w.params.followText "set-order") = true from hb]
 simp only [if_true]
 refine wpAny_bind (wpAny_askSetting (wpAny_pure ?_))
 exact wpAny_pure h
theorem gP {S : Addr} {es : Array (Int × Value)} {ep i slot : Nat} {t : SetTable} {Q : Option (Value × Nat) → Shared → Prop} (hS : cD s.heap S es ep t) (hb : w.params.followText "set-order" = false) (few : es.size ≤ 1) (ld : t.led = true)
  (h : Q (match es[SetTable.below t.place slot]?,t.place[SetTable.below t.place slot]? with | some (_,x),some j => some (x,j + 1) | _,_ => none) s) : wpAny (model prog w) A (setNext S slot i ep) Q E s := by
 unfold setNext setsByText
 refine wpAny_bind (cR hS ?_)
 dsimp only
 refine wpAny_bind (wpAny_bind (wpAny_askSetting (wpAny_pure ?_)))
 rw [show ((model prog w).w.params.followText "set-order") = false from hb]
 simp only [Bool.false_eq_true,if_false]
 have d1 : (!t.plain && decide (es.size > 1)) = false := by
  rw [decide_eq_false (by omega),Bool.and_false]
 have d2 : (!t.led && !es.isEmpty) = false := by rw [ld]; rfl
 show wpAny _ _ (if (!t.plain && decide (es.size > 1)) = true then _ else _) _ _ s
 rw [d1]
 simp only [Bool.false_eq_true,if_false]
 refine wpAny_bind ?_
 show wpAny _ _ (if (!t.led && !es.isEmpty) = true then _ else _) _ _ s
 rw [d2]
 simp only [Bool.false_eq_true,if_false]
 refine wpAny_pure ?_
 exact wpAny_pure h
theorem oe (hh : A.handled = none) (hb : w.params.followText "set-order" = true) (I S : Addr) (ne : S ≠ I) (es : Array (Int × Value)) (ep : Nat) (t : SetTable) :
  Walks prog w A I [I,S] [I] es.size (fun i v => ∃ e,(pickOrder (w.params.setOrder S ep) es).toList[i]? = some e ∧ v = e.2) (fun i h => h.get? I = some (lH (.int 0 0) i S es.size ep) ∧ cD h S es ep t) where
 sub := fun b hb => by simp at hb; simp [hb]
 frame := fun _ _ _ st hk => ⟨hk I (by simp) _ st.1,st.2.at fun o e => hk S (by simp) o e⟩
 item := fun i s Q E hi st hQ => by
  have hz : (pickOrder (w.params.setOrder S ep) es).size = es.size := by rw [← Array.length_toList,(iy _ es).length_eq,Array.length_toList]
  obtain ⟨x,hx⟩ : ∃ x,(pickOrder (w.params.setOrder S ep) es)[i]? = some x := ⟨_,Array.getElem?_eq_getElem (by rw [hz]; exact hi)⟩
  refine gf (slot := 0) (nx := 0) (x := x.2) st.1 st.2 (fun A E Q q => fQ st.2 hb ?_) fun h' e' sb => ?_
  ·rw [hx]; exact q
  ·refine hQ _ h' s.toks ⟨_,by rw [Array.getElem?_toList]; exact hx,rfl⟩ ⟨e',st.2.at fun o e => (sb.2 S ne).trans e⟩ fun b o hb e => (sb.2 b fun z => hb (by simp [z])).trans e
 done := fun s Q E st hQ => by
  have hz : (pickOrder (w.params.setOrder S ep) es).size = es.size := by rw [← Array.length_toList,(iy _ es).length_eq,Array.length_toList]
  have hx : (pickOrder (w.params.setOrder S ep) es)[es.size]? = none := Array.getElem?_eq_none (by omega)
  refine gi (slot := 0) hh st.1 st.2 (fun A E Q q => fQ st.2 hb ?_) fun h' xb => hQ h' s.toks fun b o hb e => xb b o (fun z => hb (by simp [z])) e
  rw [hx]; exact q
 self := fun i s Q E st hQ => by
  have hT : s.TypeIs (.ref I) "set_iterator" := ⟨_,st.1,rfl⟩
  refine wpAny_pyIter_slot hT bP (wpAny_call_entry bP hT cL ?_ (cY _))
  show wpAny _ _ (ret (.ref I)) _ _ s
  exact wpAny_pure ⟨_,rfl,"set_iterator",_,hT,a4.lookup,hQ⟩
theorem mW {α : Type} : ∀ {a : Array α},a.size = 1 → ∃ j,a = #[j]
 | ⟨[j]⟩,_ => ⟨j,rfl⟩
 | ⟨[]⟩,h => by simp at h
 | ⟨_ :: _ :: _⟩,h => by simp at h
theorem jj (j k : Nat) : SetTable.below #[j] k = if j < k then 1 else 0 := by
 unfold SetTable.below
 simp only [List.size_toArray,List.length_cons,List.length_nil,SetTable.below.go]
 by_cases h : j < k <;> simp [h,SetTable.below.go]
theorem qx (hh : A.handled = none) (hb : w.params.followText "set-order" = false) (I S : Addr) (ne : S ≠ I) (es : Array (Int × Value)) (ep : Nat) (t : SetTable) (few : es.size ≤ 1) (ld : t.led = true) (ft : t.fits es.size = true) :
  Walks prog w A I [I,S] [I] es.size (fun i v => ∃ e,es.toList[i]? = some e ∧ v = e.2) (fun i h => (∃ slot : Nat,(i = 0 → slot = 0) ∧ (i ≠ 0 → ∃ j,t.place[0]? = some j ∧ slot = j + 1) ∧ h.get? I = some (lH (.int slot 0) i S es.size ep)) ∧ cD h S es ep t) where
 sub := fun b hb => by simp at hb; simp [hb]
 frame := fun _ _ _ st hk => ⟨let ⟨sl,a,b,c⟩ := st.1; ⟨sl,a,b,hk I (by simp) _ c⟩,st.2.at fun o e => hk S (by simp) o e⟩
 item := fun i s Q E hi st hQ => by
  obtain ⟨⟨slot,z1,z2,hI⟩,hS⟩ := st
  have i0 : i = 0 := by omega
  subst i0
  cases z1 rfl
  have pz : t.place.size = 1 := by
   simp only [SetTable.fits,Bool.and_eq_true,beq_iff_eq] at ft
   omega
  obtain ⟨j,ej⟩ := mW pz
  obtain ⟨x,hx⟩ : ∃ x,es[0]? = some x := ⟨_,Array.getElem?_eq_getElem hi⟩
  refine gf (slot := 0) (nx := j + 1) (x := x.2) hI hS (fun A E Q q => gP hS hb few ld ?_) fun h' e' sb => ?_
  ·rw [ej,jj]
   simp only [Nat.not_lt_zero,if_false,hx]
   exact q
  ·exact hQ _ h' s.toks ⟨_,by rw [Array.getElem?_toList]; exact hx,rfl⟩ ⟨⟨j + 1,fun z => (by omega),fun _ => ⟨j,by rw [ej]; rfl,rfl⟩,e'⟩,hS.at fun o e => (sb.2 S ne).trans e⟩ fun b o hb e => (sb.2 b fun z => hb (by simp [z])).trans e
 done := fun s Q E st hQ => by
  obtain ⟨⟨slot,z1,z2,hI⟩,hS⟩ := st
  refine gi (slot := slot) hh hI hS (fun A E Q q => gP hS hb few ld ?_) fun h' xb => hQ h' s.toks fun b o hb e => xb b o (fun z => hb (by simp [z])) e
  have hn : es[SetTable.below t.place slot]? = none := by
   by_cases e0 : es.size = 0
   ·exact Array.getElem?_eq_none (by omega)
   ·obtain ⟨j,e1,e2⟩ := z2 e0
    have pz : t.place.size = 1 := by
     simp only [SetTable.fits,Bool.and_eq_true,beq_iff_eq] at ft
     omega
    have ej : t.place = #[j] := by
     obtain ⟨j',ej'⟩ := mW pz
     rw [ej'] at e1
     simp at e1
     rw [ej',e1]
    rw [ej,jj,e2,if_pos (by omega)]
    exact Array.getElem?_eq_none (by omega)
  rw [hn]
  exact q
 self := fun i s Q E st hQ => by
  obtain ⟨⟨slot,z1,z2,hI⟩,hS⟩ := st
  have hT : s.TypeIs (.ref I) "set_iterator" := ⟨_,hI,rfl⟩
  refine wpAny_pyIter_slot hT bP (wpAny_call_entry bP hT cL ?_ (cY _))
  show wpAny _ _ (ret (.ref I)) _ _ s
  exact wpAny_pure ⟨_,rfl,"set_iterator",_,hT,a4.lookup,hQ⟩
end
section
variable {prog : Program} {w : World} {A : Around} {E : Value → Shared → Prop} {s : Shared}
theorem mi {I S T : Addr} {es : Array (Int × Value)} {ep i j : Nat} {t : SetTable} {e : Int × Value} {ys : List Nat} {Q : Option Value → Shared → Prop} (hI : s.heap.get? I = some (lH (.ref T) i S es.size ep)) (hS : cD s.heap S es ep t)
  (hT : s.heap.get? T = some { cls := .type "tuple",data := .seq (ys.map fun (i : Nat) => rawInt i).toArray }) (hj : ys[i]? = some j) (he : es[j]? = some e)
  (h : ∀ h',h'.get? I = some (lH (.ref T) (i + 1) S es.size ep) → Heap.SameBut I s.heap h' → Q (some e.2) { s with heap := h' }) : wpAny (model prog w) A (pyNext (.ref I)) Q E s := by
 have hT' : s.TypeIs (.ref I) "set_iterator" := ⟨_,hI,rfl⟩
 unfold pyNext
 refine wpAny_bind (wpAny_attempt (wpAny_callSpecial?_slot (name := Str.ofString "__next__") hT' a4 (wpAny_call_entry a4 hT' cK ?_ (cX _))))
 unfold Builtin.«set_iterator.__next__»
 refine wpAny_bind (m := slotArgs _ _ _) ?_
 show wpAny _ _ (pure (Value.ref I,[])) _ _ s
 refine wpAny_pure ?_
 refine wpAny_bind (wpAny_fieldsOf hI rfl ?_)
 show wpAny _ _ (setEntries S >>= _) _ _ s
 refine wpAny_bind (cM hS ?_)
 rw [if_neg (by simp)]
 show wpAny _ _ (seqItems? (.ref T) >>= _) _ _ s
 refine wpAny_bind (wpAny_seqItems hT rfl ?_)
 have hp : ((ys.map fun (i : Nat) => rawInt i).toArray)[(i : Int).toNat]? = some (.int (j : Int) 0) := by
  simp [hj,rawInt]
 dsimp only
 rw [hp]
 dsimp only
 unfold setNextDrawn
 refine wpAny_bind (wpAny_bind (cR hS ?_))
 dsimp only
 rw [if_neg (by simp)]
 simp only [Int.toNat_natCast,he]
 refine wpAny_pure ?_
 refine wpAny_bind (wpAny_setField_rec (vs := #[.ref T,.int i 0,.ref S,.int es.size 0,.int ep 0]) hI (by simp) fun h1 e1 s1 => ?_)
 exact wpAny_pure ⟨_,rfl,wpAny_pure (h h1 (by simpa [lH,rawInt] using e1) s1)⟩
theorem mj {I S T : Addr} {es : Array (Int × Value)} {ep i : Nat} {t : SetTable} {ys : List Nat} {Q : Option Value → Shared → Prop} (hh : A.handled = none) (hI : s.heap.get? I = some (lH (.ref T) i S es.size ep)) (hS : cD s.heap S es ep t)
  (hT : s.heap.get? T = some { cls := .type "tuple",data := .seq (ys.map fun (i : Nat) => rawInt i).toArray }) (hj : ys[i]? = none)
  (h : ∀ h',Heap.ExtBut I s.heap h' → Q none { s with heap := h' }) : wpAny (model prog w) A (pyNext (.ref I)) Q E s := by
 have hT' : s.TypeIs (.ref I) "set_iterator" := ⟨_,hI,rfl⟩
 unfold pyNext
 refine wpAny_bind (wpAny_attempt (wpAny_callSpecial?_slot (name := Str.ofString "__next__") hT' a4 (wpAny_call_entry a4 hT' cK ?_ (cX _))))
 unfold Builtin.«set_iterator.__next__»
 refine wpAny_bind (m := slotArgs _ _ _) ?_
 show wpAny _ _ (pure (Value.ref I,[])) _ _ s
 refine wpAny_pure ?_
 refine wpAny_bind (wpAny_fieldsOf hI rfl ?_)
 show wpAny _ _ (setEntries S >>= _) _ _ s
 refine wpAny_bind (cM hS ?_)
 rw [if_neg (by simp)]
 show wpAny _ _ (seqItems? (.ref T) >>= _) _ _ s
 refine wpAny_bind (wpAny_seqItems hT rfl ?_)
 have hp : ((ys.map fun (i : Nat) => rawInt i).toArray)[(i : Int).toNat]? = none := by
  have := List.getElem?_eq_none_iff.mp hj
  simpa using this
 dsimp only
 rw [hp]
 dsimp only
 refine wpAny_bind (wpAny_setField_rec (vs := #[.ref T,.int i 0,.ref S,.int es.size 0,.int ep 0]) hI (by simp) fun h1 e1 s1 => ?_)
 refine wpAny_bind (wpAny_setField_rec (s := { s with heap := h1 }) e1 (by simp) fun h2 e2 s2 => ?_)
 show wpAny _ _ (newExc (.type "StopIteration") [] >>= _) _ _ _
 refine wpAny_bind ?_
 simp only [newExc,newTuple]
 refine wpAny_bind (wpAny_newObj_type ?_ (by size_fits))
 refine wpAny_bind (m := firstArgMember _ _) (wpAny_of_eq (a := Value.none) (by first | rfl | (simp only [firstArgMember]; rfl)) ?_)
 refine wpAny_newObj_type ?_ (by size_fits)
 simp only [raiseNew]
 refine wpAny_bind (wpAny_handled ?_)
 rw [show A.in1.handled = none from hh]
 refine wpAny_bind (wpAny_pure (wpAny_throw ?_))
 refine wpAny_bind (wpAny_isInstance (T := "StopIteration") (b := true) ⟨_,Heap.get?_push_size _ rfl,rfl⟩ isSubtype_stop ?_)
 exact wpAny_pure (h _ (((s1.trans s2).extBut.push _).push _))
theorem og (hh : A.handled = none) (I S T : Addr) (ne : S ≠ I) (nT : T ≠ I) (es : Array (Int × Value)) (ep : Nat) (t : SetTable) (ys : List Nat) (hy : ys.Perm (List.range es.size)) :
  Walks prog w A I [I,S,T] [I] es.size (fun i v => ∃ j e,ys[i]? = some j ∧ es[j]? = some e ∧ v = e.2)
   (fun i h => h.get? I = some (lH (.ref T) i S es.size ep) ∧ cD h S es ep t ∧ h.get? T = some { cls := .type "tuple",data := .seq (ys.map fun (i : Nat) => rawInt i).toArray }) where
 sub := fun b hb => by simp at hb; simp [hb]
 frame := fun _ _ _ st hk => ⟨hk I (by simp) _ st.1,st.2.1.at fun o e => hk S (by simp) o e,hk T (by simp) _ st.2.2⟩
 item := fun i s Q E hi st hQ => by
  have hl : ys.length = es.size := by rw [hy.length_eq,List.length_range]
  obtain ⟨j,hj⟩ : ∃ j,ys[i]? = some j := ⟨_,List.getElem?_eq_getElem (by rw [hl]; exact hi)⟩
  have jl : j < es.size := List.mem_range.mp (hy.mem_iff.mp (List.mem_of_getElem? hj))
  obtain ⟨e,he⟩ : ∃ e,es[j]? = some e := ⟨_,Array.getElem?_eq_getElem jl⟩
  refine mi st.1 st.2.1 st.2.2 hj he fun h' e' sb => ?_
  exact hQ _ h' s.toks ⟨j,e,hj,he,rfl⟩ ⟨e',st.2.1.at fun o e => (sb.2 S ne).trans e,(sb.2 T nT).trans st.2.2⟩ fun b o hb e => (sb.2 b fun z => hb (by simp [z])).trans e
 done := fun s Q E st hQ => by
  have hl : ys.length = es.size := by rw [hy.length_eq,List.length_range]
  exact mj hh st.1 st.2.1 st.2.2 (List.getElem?_eq_none (by omega)) fun h' xb => hQ h' s.toks fun b o hb e => xb b o (fun z => hb (by simp [z])) e
 self := fun i s Q E st hQ => by
  have hT : s.TypeIs (.ref I) "set_iterator" := ⟨_,st.1,rfl⟩
  refine wpAny_pyIter_slot hT bP (wpAny_call_entry bP hT cL ?_ (cY _))
  show wpAny _ _ (ret (.ref I)) _ _ s
  exact wpAny_pure ⟨_,rfl,"set_iterator",_,hT,a4.lookup,hQ⟩
end
open Sw So
theorem aM.drew {X : Cx} {pins : List (Addr × Obj)} {σ : List (Option V)} {H : Hp} {s : Shared} {d : Drawn} (I : aM X pins σ H s) : aM X pins σ H { s with drawn := d } :=
 ⟨I.ok,I.os,I.bare,I.base,I.loc,I.cell,I.free,I.freeC,I.pin,I.hok,I.len⟩
section
variable {prog : Program} {w : World} {A : Around} {E : Value → Shared → Prop} {s : Shared}
theorem qy {r : Addr} {Q : Bool → Shared → Prop} (hT : s.TypeIs (.ref r) "set") (h : Q false s) : wpAny (model prog w) A (Builtin.List.listLengthHint (.ref r)) Q E s := by
 unfold Builtin.List.listLengthHint
 refine wpAny_bind (wpAny_specialOf hT PySem.F.slot_set_len.lookup ?_)
 generalize hid : ("set.__len__" : String) = id0
 wp_delta
 rw [show splitId id0 = some ("set","__len__") from by subst hid; decide +kernel]
 subst hid
 refine wpAny_bind (wpAny_isInstance (T := "set") (b := true) hT (by rw [isSubtype_type]; kernel_rfl) ?_)
 refine wpAny_ite_split (fun hab => absurd hab (by decide)) (fun _ => ?_)
 refine wpAny_ite_split (fun _ => ?_) (fun hab => absurd (by decide +kernel) hab)
 refine wpAny_bind (wpAny_typeOf hT ?_)
 exact wpAny_pure h
end
section
variable {X : Cx} {e : Expr} {te : TE} {p1 p2 pos pos2 : Pos}
end
def Ri (xs : Array Nat) : Prop := xs.toList.Pairwise (· < ·)
theorem Ri.lt {xs : Array Nat} (h : Ri xs) {i k : Nat} (ik : i < k) (hk : k < xs.size) : xs[i]'(Nat.lt_trans ik hk) < xs[k] := by
 have := List.pairwise_iff_getElem.mp h i k (by simpa using Nat.lt_trans ik hk) (by simpa using hk) ik
 simpa using this
theorem Ri.le {xs : Array Nat} (h : Ri xs) {i k : Nat} (ik : i ≤ k) (hk : k < xs.size) : xs[i]'(Nat.lt_of_le_of_lt ik hk) ≤ xs[k] := by
 rcases Nat.lt_or_eq_of_le ik with q | q
 ·exact Nat.le_of_lt (h.lt q hk)
 ·subst q; exact Nat.le_refl _
theorem iz {xs : Array Nat} (hr : Ri xs) (j : Nat) : ∀ (f lo hi : Nat),hi ≤ xs.size → lo ≤ hi → hi - lo ≤ f → (∀ i (h : i < xs.size),i < lo → xs[i] < j) → (∀ i (h : i < xs.size),hi ≤ i → j ≤ xs[i]) →
  SetTable.below.go xs j f lo hi ≤ xs.size ∧ (∀ i (h : i < xs.size),i < SetTable.below.go xs j f lo hi → xs[i] < j) ∧ (∀ i (h : i < xs.size),SetTable.below.go xs j f lo hi ≤ i → j ≤ xs[i])
 | 0,lo,hi,h1,h2,h3,h4,h5 => by
  have e : lo = hi := by omega
  subst e
  exact ⟨h1,h4,h5⟩
 | f + 1,lo,hi,h1,h2,h3,h4,h5 => by
  unfold SetTable.below.go
  by_cases c : lo < hi
  ·rw [if_pos c]
   have hm : (lo + hi) / 2 < xs.size := by omega
   have eg : xs.getD ((lo + hi) / 2) j = xs[(lo + hi) / 2] := by simp [Array.getD,hm]
   dsimp only
   rw [eg]
   by_cases c2 : xs[(lo + hi) / 2] < j
   ·rw [if_pos c2]
    exact iz hr j f _ _ h1 (by omega) (by omega) (fun i h q => Nat.lt_of_le_of_lt (hr.le (Nat.le_of_lt_succ q) hm) c2) h5
   ·rw [if_neg c2]
    exact iz hr j f _ _ (by omega) (by omega) (by omega) h4 fun i h q => Nat.le_trans (Nat.not_lt.mp c2) (hr.le q h)
  ·rw [if_neg c]
   have e : lo = hi := by omega
   subst e
   exact ⟨h1,h4,h5⟩
theorem kO {xs : Array Nat} (hr : Ri xs) (j : Nat) : SetTable.below xs j ≤ xs.size ∧ (∀ i (h : i < xs.size),i < SetTable.below xs j → xs[i] < j) ∧ (∀ i (h : i < xs.size),SetTable.below xs j ≤ i → j ≤ xs[i]) :=
 iz hr j xs.size 0 xs.size (Nat.le_refl _) (Nat.zero_le _) (by omega) (fun i h q => absurd q (Nat.not_lt_zero _)) fun i h q => absurd h (Nat.not_lt.mpr q)
theorem oh {t : SetTable} {j : Nat} (hr : Ri t.place) (nl : t.place[SetTable.below t.place j]? ≠ some j) : Ri (t.put j).1.place := by
 obtain ⟨b1,b2,b3⟩ := kO hr j
 show (SetTable.insertAt t.place (SetTable.below t.place j) j).toList.Pairwise (· < ·)
 generalize SetTable.below t.place j = p at *
 have tl : (SetTable.insertAt t.place p j).toList = t.place.toList.take p ++ j :: t.place.toList.drop p := by
  simp [SetTable.insertAt,Array.toList_extract,List.extract_eq_drop_take]
  rw [List.take_of_length_le (by simp)]
 rw [tl,List.pairwise_append]
 have hp : (t.place.toList.take p ++ t.place.toList.drop p).Pairwise (· < ·) := by rw [List.take_append_drop]; exact hr
 rw [List.pairwise_append] at hp
 have up : ∀ y ∈ t.place.toList.drop p,j < y := fun y hy => by
  obtain ⟨i,hi⟩ := List.mem_iff_getElem?.mp hy
  rw [List.getElem?_drop,Array.getElem?_toList] at hi
  obtain ⟨hl,rfl⟩ := Array.getElem?_eq_some_iff.mp hi
  have := b3 _ hl (Nat.le_add_right _ _)
  rcases Nat.lt_or_eq_of_le this with q | q
  ·exact q
  ·rcases Nat.eq_zero_or_pos i with z | z
   ·subst z
    exact absurd (show t.place[p]? = some j from hi.trans (congrArg some q.symm)) nl
   ·have hpl : p < t.place.size := by omega
    have l1 := b3 p hpl (Nat.le_refl _)
    have l2 := hr.lt (i := p) (k := p + i) (by omega) hl
    omega
 refine ⟨hp.1,List.pairwise_cons.mpr ⟨up,hp.2.1⟩,fun x hx y hy => ?_⟩
 have xl : x < j := by
  obtain ⟨i,hi⟩ := List.mem_iff_getElem?.mp hx
  rw [List.getElem?_take] at hi
  split at hi
  ·rename_i q
   rw [Array.getElem?_toList] at hi
   obtain ⟨hl,rfl⟩ := Array.getElem?_eq_some_iff.mp hi
   exact b2 _ hl q
  ·cases hi
 rcases List.mem_cons.mp hy with q | q
 ·rw [q]; exact xl
 ·exact Nat.lt_trans xl (up y q)
theorem qz {t : SetTable} {j : Nat} (h : ∀ i,t.slot j ≠ .live i) : t.place[SetTable.below t.place j]? ≠ some j := fun e => by
 refine h (SetTable.below t.place j) ?_
 unfold SetTable.slot
 simp [e]
theorem gj {t : SetTable} {hs : Nat → Int} {h : Int} : ∀ (f : Nat) (p : SetTable.Probe),(∀ d,p.dummy = some d → ∀ i,t.slot d ≠ .live i) → ∀ {j : Nat} {dm : Option Nat},SetTable.probe.go t hs h f p = some (.empty j dm) → ∀ i,t.slot (dm.getD j) ≠ .live i
 | 0,p,hd,j,dm,e => by cases e
 | f + 1,p,hd,j,dm,e => by
  unfold SetTable.probe.go at e
  cases c : t.slot p.j with
  | empty =>
   rw [c] at e
   cases e
   cases q : p.dummy with
   | none => intro i; show t.slot p.j ≠ _; rw [c]; exact fun z => nomatch z
   | some d => exact hd d q
  | dummy =>
   rw [c] at e
   refine gj f _ (fun d hd' => ?_) e
   have : d = p.j := by
    unfold SetTable.advance at hd'
    split at hd' <;> (cases hd'; rfl)
   subst this
   intro i
   rw [c]
   exact fun z => nomatch z
  | live i =>
   rw [c] at e
   dsimp only at e
   split at e
   ·cases e
   ·refine gj f _ (fun d hd' => ?_) e
    refine hd d ?_
    unfold SetTable.advance at hd'
    split at hd' <;> exact hd'
theorem jJ {t : SetTable} {h : Int} {j : Nat} {b : Bool} (e : t.freeSlot h = some (j,b)) : t.place[SetTable.below t.place j]? ≠ some j := by
 unfold SetTable.freeSlot at e
 cases q : t.probe (fun _ => h + 1) h (t.probeStart h) with
 | none => rw [q] at e; cases e
 | some m =>
  rw [q] at e
  cases m with
  | empty k dm =>
   cases e
   exact qz (gj _ _ (fun d hd => by cases (show (none : Option Nat) = some d from hd)) q)
  | candidate _ _ _ => cases e
theorem jK {t : SetTable} {es : Array (Int × Value)} {h : Int} {x : Value} (hr : t.plain = true → Ri t.place) : (layNew t es h x).2.1.plain = true → Ri (layNew t es h x).2.1.place := by
 cases e : t.freeSlot h with
 | none => simp only [layNew,e]; intro z; cases z
 | some r =>
  obtain ⟨j,b⟩ := r
  simp only [layNew,e]
  unfold SetTable.orStandIn
  split
  ·intro z
   exact oh (hr z) (jJ e)
  ·intro z; cases z
theorem mn {mask finger moves : Nat} {led plain : Bool} {hs : Array Int} {t : SetTable} {o : Array Nat} (e : SetTable.laid mask finger moves led plain hs = some (t,o)) : Ri t.place := by
 unfold SetTable.laid at e
 obtain ⟨ow,_,e2⟩ := Option.bind_eq_some_iff.mp e
 simp only [pure,Option.some.injEq,Prod.mk.injEq] at e2
 rw [← e2.1]
 show List.Pairwise (· < ·) _
 dsimp only
 rw [List.pairwise_map,List.pairwise_filterMap]
 refine List.pairwise_lt_range.imp fun {a b} ab x hx y hy => ?_
 obtain ⟨k,_,rfl⟩ := Option.map_eq_some_iff.mp hx
 obtain ⟨k',_,rfl⟩ := Option.map_eq_some_iff.mp hy
 exact ab
theorem iA {t : SetTable} {es : Array (Int × Value)} {n : Nat} (h : (relayAll t es n).2.1.plain = true) : Ri (relayAll t es n).2.1.place := by
 cases e : t.relaid (es.map (·.1)) n with
 | none => simp only [relayAll,e] at h; cases h
 | some r =>
  obtain ⟨t',order⟩ := r
  simp only [relayAll,e] at h ⊢
  by_cases c : (coversAll order es.size && t'.fits (order.filterMap (es[·]?)).size) = true
  ·rw [if_pos c]; exact mn e
  ·rw [if_neg c] at h; cases h
def gQ : Value → Int
 | .int y _ => y
 | _ => default
def tz (prog : Program) (w : World) (e : Int × Value) : Prop := ∃ y t,e = ((aF prog w).hash (.inl y),.int y t)
def lJ (prog : Program) (w : World) (h : Heap) (a : Addr) (ys : List Int) : Prop :=
 ∃ o es ep t,h.get? a = some o ∧ o.ExactSet ∧ o.data = .set es ep t ∧ (∀ e ∈ es.toList,tz prog w e) ∧ (es.toList.map fun e => gQ e.2).Perm ys ∧ es.size < scanBound ∧ t.fits es.size = true ∧
  (w.params.followText "set-order" = false → t.led = true) ∧ (t.plain = true → Ri t.place)
theorem mX {prog : Program} {w : World} {y : Int} {t : Tok} : (aF prog w).is (.inl y) (.int y t) = true := jb (k := .inl y) ⟨t,rfl⟩
theorem iB {prog : Program} {w : World} {l : List (Int × Value)} (h : ∀ e ∈ l,tz prog w e) : ElemsOf (aF prog w) l := fun e he => by
 obtain ⟨y,t,rfl⟩ := h e he
 exact ⟨⟨.inl y,mX,rfl⟩,rfl⟩
def insI (ys : List Int) (y : Int) : List Int := if y ∈ ys then ys else ys ++ [y]
section
variable {prog : Program} {w : World} {A : Around} {E : Value → Shared → Prop} {s : Shared}
theorem qA {h : Heap} {a : Addr} {ys : List Int} {es : Array (Int × Value)} (te : ∀ e ∈ es.toList,tz prog w e) (pm : (es.toList.map fun e => gQ e.2).Perm ys) (y : Int) :
  (∃ e ∈ es.toList,(aF prog w).is (.inl y) e.2 = true) ↔ y ∈ ys := by
 rw [← pm.mem_iff,List.mem_map]
 constructor
 ·rintro ⟨e,he,q⟩
  obtain ⟨z,t,rfl⟩ := te e he
  obtain ⟨t',e'⟩ := mS q
  cases e'
  exact ⟨_,he,rfl⟩
 ·rintro ⟨e,he,q⟩
  obtain ⟨z,t,rfl⟩ := te e he
  cases q
  exact ⟨_,he,mX⟩
theorem mY {g : Bool → Sem Unit} (hg : ∀ (b : Bool) (s₁ : Shared) (Q' : Unit → Shared → Prop),Q' () s₁ → wpAny (model prog w) A (g b) Q' E s₁)
  {a : Addr} {o : Obj} {es : Array (Int × Value)} {ep : Nat} {t : SetTable} (ho : s.heap.get? a = some o) (hex : o.ExactSet) (hd : o.data = .set es ep t)
  {es1 : Array (Int × Value)} {t2 : SetTable} {ys : List Int} (te : ∀ e ∈ es1.toList,tz prog w e) (pm : (es1.toList.map fun e => gQ e.2).Perm ys)
  (hb1 : es1.size < scanBound) (hf2 : t2.fits es1.size = true) (ld : w.params.followText "set-order" = false → t2.led = true) (pl : t2.plain = true → Ri t2.place) {wasDummy : Bool} {R : Option Bool → Shared → Prop}
  (h : ∀ h',Heap.SameBut a s.heap h' → lJ prog w h' a ys → R (some true) { s with heap := h' }) :
  wpAny (model prog w) A (do
    storeSet a es1 t2
    if (!wasDummy && t2.tooFull) = true then do
      g (relayAll t2 es1 (SetTable.grown es1.size)).2.2
      storeSet a (relayAll t2 es1 (SetTable.grown es1.size)).1 (relayAll t2 es1 (SetTable.grown es1.size)).2.1
      pure (some true)
     else pure (some true)) R E s := by
 refine wpAny_bind (wpAny_storeSet_of ho hd ?_ (fits_of_scanBound hb1))
 obtain ⟨ho1,_⟩ := SetOf_store (knd := aF prog w) (S' := fun k => decide (∃ e ∈ es1.toList,(aF prog w).is k e.2 = true)) ho hex hd (iB te) (fun k => by simp) hb1 hf2
 have hsb1 := Heap.SameBut.update s.heap a (Obj.putSet es1 t2)
 split
 ·have hp := relayAll_perm t2 es1 (SetTable.grown es1.size)
  have hfr := relayAll_fits t2 es1 (SetTable.grown es1.size)
  have hl := jH t2 es1 (SetTable.grown es1.size)
  have hpl := @iA t2 es1 (SetTable.grown es1.size)
  generalize hRl : relayAll t2 es1 (SetTable.grown es1.size) = Rl at hp hfr hl hpl ⊢
  obtain ⟨es2,t3,gave2⟩ := Rl
  dsimp only at hp hfr hl hpl ⊢
  have te2 : ∀ e ∈ es2.toList,tz prog w e := fun e he => te e (hp.mem_iff.mp he)
  have hsz : es2.size = es1.size := by rw [← Array.length_toList,hp.length_eq,Array.length_toList]
  have hb2 : es2.size < scanBound := by rw [hsz]; exact hb1
  refine wpAny_bind (hg _ _ _ ?_)
  refine wpAny_bind (wpAny_storeSet_of ho1 rfl ?_ (fits_of_scanBound hb2))
  obtain ⟨ho2,_⟩ := SetOf_store (knd := aF prog w) (S' := fun k => decide (∃ e ∈ es2.toList,(aF prog w).is k e.2 = true)) ho1 hex rfl (iB te2) (fun k => by simp) hb2 hfr
  exact wpAny_pure (h _ (hsb1.trans (Heap.SameBut.update _ a _)) ⟨_,es2,_,t3,ho2,hex,rfl,te2,(hp.map _).trans pm,hb2,hfr,fun b => hl.trans (ld b),hpl⟩)
 ·exact wpAny_pure (h _ hsb1 ⟨_,es1,_,t2,ho1,hex,rfl,te,pm,hb1,hf2,ld,pl⟩)
theorem tD {a : Addr} {ys : List Int} {y : Int} {tk : Tok} {Q : Bool → Shared → Prop} (hS : lJ prog w s.heap a ys) (room : ys.length + 1 < scanBound)
  (h : ∀ h',Heap.SameBut a s.heap h' → lJ prog w h' a (insI ys y) → ∀ b,Q b { s with heap := h' }) :
  wpAny (model prog w) A (setAddHashed a (.int y tk) ((aF prog w).hash (.inl y))) Q E s := by
 obtain ⟨o,es,ep,t,ho,hex,hd,te,pm,hb,hf,ld,pl⟩ := hS
 have hel := iB te
 have hsz : es.size = ys.length := by rw [← Array.length_toList,← List.length_map (fun e : Int × Value => gQ e.2),pm.length_eq]
 unfold setAddHashed setAddHashedIn
 refine wpAny_holding (wpAny_bind (wpAny_setState_of ho hd hf ?_))
 dsimp only
 rw [byScan_of (knd := aF prog w) (x := .int y tk) rfl hb hel]
 simp only [↓reduceIte]
 unfold setAddByScan
 refine wpAny_bind ?_
 refine wpAny_bind (wpAny_rule ?_)
 refine wpAny_bind (wpAny_setScan_of (knd := aF prog w) (k := .inl y) mX ho hd hf hel ?_)
 cases hr : List.findIdx? (fun e => (aF prog w).is (.inl y) e.2) es.toList with
 | some j =>
  dsimp only
  obtain ⟨hj,hpj,_⟩ := List.findIdx?_eq_some_iff_getElem.mp hr
  have hm : y ∈ ys := (qA (h := s.heap) (a := a) te pm y).mp ⟨es.toList[j],List.getElem_mem hj,hpj⟩
  refine wpAny_pure (wpAny_pure ?_)
  have e : s = { s with heap := s.heap } := by cases s; rfl
  rw [e]
  refine h s.heap (Heap.SameBut.refl a s.heap) ?_ _
  rw [insI,if_pos hm]
  exact ⟨o,es,ep,t,ho,hex,hd,te,pm,hb,hf,ld,pl⟩
 | none =>
  dsimp only
  have hm : y ∉ ys := fun hm => by
   obtain ⟨e,he,q⟩ := (qA (h := s.heap) (a := a) te pm y).mpr hm
   have := List.findIdx?_eq_none_iff.mp hr e he
   rw [q] at this
   cases this
  have hgw : ∀ (b : Bool) {s₁ : Shared} {Q' : Unit → Shared → Prop},Q' () s₁ → wpAny (model prog w) A (match b with | true => rule "set.scan.the-table-gave-way" | false => pure ()) Q' E s₁ :=
   fun b s₁ Q' hq => by cases b <;> first | exact wpAny_pure hq | exact wpAny_rule hq
  have hperm := layNew_perm t es ((aF prog w).hash (.inl y)) (.int y tk)
  have hfits := layNew_fits t es ((aF prog w).hash (.inl y)) (.int y tk)
  have hled := mh t es ((aF prog w).hash (.inl y)) (.int y tk)
  have hri := jK (es := es) (h := (aF prog w).hash (.inl y)) (x := .int y tk) pl
  generalize hL : layNew t es ((aF prog w).hash (.inl y)) (.int y tk) = L at hperm hfits hled hri ⊢
  obtain ⟨es1,t1,wasDummy,gave⟩ := L
  dsimp only at hperm hfits hled hri ⊢
  rw [Array.toList_push] at hperm
  have te1 : ∀ e ∈ es1.toList,tz prog w e := fun e he => by
   rcases List.mem_append.mp (hperm.mem_iff.mp he) with q | q
   ·exact te e q
   ·rw [List.mem_singleton.mp q]; exact ⟨y,tk,rfl⟩
  have pm1 : (es1.toList.map fun e => gQ e.2).Perm (insI ys y) := by
   rw [insI,if_neg hm]
   refine (hperm.map _).trans ?_
   rw [List.map_append]
   exact pm.append_right _
  have hb1' : es1.size < scanBound := by
   rw [← Array.length_toList,hperm.length_eq,List.length_append,Array.length_toList,hsz]
   exact room
  refine wpAny_bind (hgw _ ?_)
  split
  ·refine wpAny_bind ?_
   rw [hashByValue_scannable 8 (x := .int y tk) rfl]
   refine wpAny_pure ?_
   simp only [show plainKind (Value.int y tk) = true from rfl,if_true]
   refine mY ?_ ho hex hd te1 pm1 hb1' hfits ?_ hri ?_
   ·intro b s₁ Q' hq; cases b <;> first | exact wpAny_pure hq | exact wpAny_rule hq
   ·exact fun b => hled.trans (ld b)
   ·intro h' hsb hS'; dsimp only; exact wpAny_pure (h h' hsb hS' _)
  ·rename_i np
   refine wpAny_bind (wpAny_pure ?_)
   simp only [↓reduceIte]
   refine mY ?_ ho hex hd te1 pm1 hb1' hfits ?_ hri ?_
   ·intro b s₁ Q' hq; cases b <;> first | exact wpAny_pure hq | exact wpAny_rule hq
   ·exact fun b => hled.trans (ld b)
   ·intro h' hsb hS'; dsimp only; exact wpAny_pure (h h' hsb hS' _)
end
def kP (xs : List Int) (i : Nat) : List Int := (xs.take i).foldl insI []
theorem kQ {xs : List Int} {i : Nat} {y : Int} (h : xs[i]? = some y) : kP xs (i + 1) = insI (kP xs i) y := by
 unfold kP
 rw [List.take_add_one,h,Option.toList_some,List.foldl_append]
 rfl
theorem kR (ys : List Int) (y : Int) : (insI ys y).length ≤ ys.length + 1 := by
 unfold insI
 split
 ·omega
 ·simp
theorem jL (xs : List Int) : ∀ i,(kP xs i).length ≤ i
 | 0 => by simp [kP]
 | i + 1 => by
  have ih := jL xs i
  cases h : xs[i]? with
  | none =>
   have : xs.take (i + 1) = xs.take i := by rw [List.take_add_one,h]; simp
   unfold kP at ih ⊢
   rw [this]
   omega
  | some y =>
   rw [kQ h]
   have := kR (kP xs i) y
   omega
theorem mo {ys : List Int} (y : Int) (h : ys.Nodup) : (insI ys y).Nodup := by
 unfold insI
 split
 ·exact h
 ·rename_i n
  exact List.nodup_append.mpr ⟨h,by simp,fun a ha b hb e => n (by rw [List.mem_singleton] at hb; rw [← hb,← e]; exact ha)⟩
theorem qB {ys : List Int} {y z : Int} : z ∈ insI ys y ↔ z ∈ ys ∨ z = y := by
 unfold insI
 split
 ·rename_i h
  exact ⟨.inl,fun h' => h'.elim id fun e => e ▸ h⟩
 ·simp
theorem dD : ∀ (xs ys : List Int),ys.Nodup → (xs.foldl insI ys).Nodup
 | [],_,h => h
 | x :: xs,ys,h => dD xs _ (mo x h)
theorem eJ {z : Int} : ∀ (xs ys : List Int),z ∈ xs.foldl insI ys ↔ z ∈ ys ∨ z ∈ xs
 | [],ys => by simp
 | x :: xs,ys => by
  rw [List.foldl_cons,eJ xs,qB,List.mem_cons,or_assoc]
section
variable {prog : Program} {w : World} {A : Around} {R : Result → Shared → Prop} {I : Addr} {fp wr : List Addr} {G : Array GenState → Array GenState → Prop} {n : Nat} {P : Nat → Value → Prop} {St : Nat → Shared → Prop}
theorem oi (W : WalksS prog w A.in1 I fp wr G n P St) (S : Addr) (out : S ∉ fp) (xs : List Int) (hv : ∀ i v,P i v → ∃ y t,xs[i]? = some y ∧ v = .int y t)
  (hn : n ≤ xs.length) (hb : n + 1 < scanBound) : ∀ (m i : Nat) (s : Shared),n - i = m → i ≤ n → St i s → lJ prog w s.heap S (kP xs i) →
   (∀ s',Moved (S :: wr) G s s' → lJ prog w s'.heap S (kP xs n) → R (.ok (.ret .none)) s') → codeAny (model prog w) A (.builtin "set.update.loop" ⟨[.ref S,.ref I],[]⟩) R s := by
 have nw : S ∉ wr := fun h => out (W.sub _ h)
 have up : ∀ b ∈ wr,b ∈ S :: wr := fun b hb => .tail _ hb
 have stay : ∀ {s1 s2 : Shared} {ys : List Int},lJ prog w s1.heap S ys → Moved wr G s1 s2 → lJ prog w s2.heap S ys := by
  rintro s1 s2 ys ⟨o,es,ep,t,ho,z⟩ mv
  exact ⟨o,es,ep,t,mv.heap S _ nw ho,z⟩
 intro m
 induction m with
 | zero =>
  intro i s hm hi st hS fin
  have e : i = n := by omega
  subst e
  apply codeAny_builtin F.entry_set_update_loop
  rw [Around.under_plainId F.plain_set_update_loop _]
  show wpAny _ _ (pyNext (.ref I) >>= _) _ _ s
  apply wpAny_bind
  refine W.done s _ _ st fun s' mv => ?_
  exact wpAny_pure (fin s' (mv.mono up) (stay hS mv))
 | succ m ih =>
  intro i s hm hi st hS fin
  have lt : i < n := by omega
  apply codeAny_builtin F.entry_set_update_loop
  rw [Around.under_plainId F.plain_set_update_loop _]
  show wpAny _ _ (pyNext (.ref I) >>= _) _ _ s
  apply wpAny_bind
  refine W.item i s _ _ lt st fun v s' pv st' mv => ?_
  obtain ⟨y,tk,ey,rfl⟩ := hv i v pv
  show wpAny _ _ (holding [.int y tk] (setAdd S (.int y tk)) >>= _) _ _ s'
  apply wpAny_bind
  apply wpAny_holding
  unfold setAdd
  apply wpAny_holding
  apply wpAny_bind
  refine (aF prog w).pyHash (k := .inl y) mX ?_
  have rm : (kP xs i).length + 1 < scanBound := by
   have := jL xs i
   omega
  refine tD (s := { s' with toks := s'.toks + 1 }) (show lJ prog w s'.heap S (kP xs i) from stay hS mv) rm fun h' same S2 b => ?_
  rw [← kQ ey] at S2
  apply wpAny_pure
  refine ⟨plainId_quiet F.plain_set_update_loop _,ih (i + 1) _ (by omega) lt (W.frame _ s' _ _ st' (Nat.le_succ _) fun b hb o e => ?_) S2 fun s'' mv2 S4 => ?_⟩
  ·exact (same.2 b fun z => out (z ▸ hb)).trans e
  ·exact fin s'' (Moved.trans W.gtrans ((mv.mono up).then_heap (Nat.le_succ _) fun b o hb e => (same.2 b fun z => hb (z ▸ List.mem_cons_self)).trans e) mv2) S4
end
section
variable {prog : Program} {w : World} {A : Around} {E : Value → Shared → Prop} {s : Shared}
set_option maxHeartbeats 3200000 in
theorem oj {l : Addr} {items : Array Value} {xs : List Int} {Q : Value → Shared → Prop} (hh : A.handled = none) (hl : s.heap.IsList l items) (hv : ∀ (i : Nat) (v : Value),items[i]? = some v → ∃ (y : Int) (t : Tok),xs[i]? = some y ∧ v = Value.int y t)
  (hn : items.size = xs.length) (hb : items.size + 1 < scanBound)
  (fin : ∀ (h' : Heap) (tk : Nat),lJ prog w h' s.heap.objs.size (kP xs items.size) → (∀ b o,b < s.heap.objs.size → s.heap.get? b = some o → h'.get? b = some o) → Q (.ref s.heap.objs.size) { s with heap := h',toks := tk }) :
  wpAny (model prog w) A (call (.type "set") [.ref l]) Q E s := by
 obtain ⟨c0,tl0,mro⟩ := F.called_set.mro
 have made := F.called_set.made
 have subt := F.called_set.sub
 apply wpAny_call
 apply codeAny_of_tree
 show wpAny _ _ (callAny (.type "set") _) _ _ _
 apply wpAny_pure
 refine ⟨Code.quiet_builtin _ (by decide +kernel),codeAny_builtin F.entry_type_call ?_⟩
 rw [Around.under_plain (weight_type_call_type "set" [.ref l] []) rfl]
 have nt := F.called_set.notType
 have cc := F.called_set.canCreate
 have tc := F.typeCall_set_1 (.ref l)
 repeat any_goals first | assumption | wp_step
 refine codeAny_mono (iZ (.ref l) (E := E) (Q₁ := fun v s1 => ∃ led : Bool,(w.params.followText "set-order" = false → led = true) ∧ v = .ref s.heap.objs.size ∧ s1 = { s with heap := s.heap.push { cls := .type "set",dict := none,data := .set #[] 0 (.fresh 0 0 led) } }) fun led eld => ⟨led,eld,rfl,rfl⟩) fun r s1 hr => ?_
 cases r with
 | error e => exact hr
 | ok fl =>
  cases fl with
  | ret v =>
   obtain ⟨led,eld,rfl,rfl⟩ := hr
   have e0 : (s.heap.push { cls := .type "set",dict := none,data := .set #[] 0 (.fresh 0 0 led) }).get? s.heap.objs.size = some { cls := .type "set",dict := none,data := .set #[] 0 (.fresh 0 0 led) } := Heap.get?_push_size _ rfl
   have tS : Shared.TypeIs { s with heap := s.heap.push { cls := .type "set",dict := none,data := .set #[] 0 (.fresh 0 0 led) } } (.ref s.heap.objs.size) "set" := ⟨_,e0,rfl⟩
   have lk := F.called_set.init.lookup
   have bd := F.called_set.init.bind (.ref s.heap.objs.size)
   repeat any_goals first | assumption | wp_step
   refine codeAny_mono (codeAny_call_builtin (R := wants (fun r s2 => r = .none ∧ ∃ h' tk,s2 = { s with heap := h',toks := tk } ∧ lJ prog w h' s.heap.objs.size (kP xs items.size) ∧ ∀ b o,b < s.heap.objs.size → s.heap.get? b = some o → h'.get? b = some o) E) F.called_set.init.plain F.entry_set_init (check_set_init_1 tS ?_)) fun r2 s2 hr2 => ?_
   ·obtain ⟨⟨lc,ld,lx,ls⟩,hol,hcl,nl,hdl⟩ := hl
    simp only at hcl hdl
    subst hcl hdl
    have el : (s.heap.push { cls := .type "set",dict := none,data := .set #[] 0 (.fresh 0 0 led) }).get? l = some { cls := .type "list",dict := ld,data := .seq items nl,slots := ls } := Heap.get?_push_of_some _ hol
    have n1 := F.sub_list_set
    have n2 := F.sub_list_frozenset
    have n3 : (Value.type "list" == Value.type "dict") = false := by decide
    have il : (s.heap.push { cls := .type "set",dict := none,data := .set #[] 0 (.fresh 0 0 led) }).IsList l items := ⟨_,el,rfl,nl,rfl⟩
    unfold Builtin.«set.__init__» noKeywords Builtin.Frozenset.updateFrom
    generalize hit : pyIter = PI
    wp_walk
    subst hit
    apply wpAny_pyIter_list il
    apply wpAny_bind
    apply wpAny_runValue
    have ll : l < s.heap.objs.size := Heap.lt_size hol
    have h3 : A.in1.in1.in1.handled = none := by simpa using hh
    have nI : l ≠ (s.heap.push { cls := .type "set",dict := none,data := .set #[] 0 (.fresh 0 0 led) }).objs.size := by
     rw [Heap.size_push]
     exact Nat.ne_of_lt (Nat.lt_succ_of_lt ll)
    have out : s.heap.objs.size ∉ [(s.heap.push { cls := .type "set",dict := none,data := .set #[] 0 (.fresh 0 0 led) }).objs.size,l] := by
     rw [Heap.size_push]
     simp only [List.mem_cons,not_or]
     exact ⟨Nat.ne_of_lt (Nat.lt_succ_self _),Nat.ne_of_gt ll,List.not_mem_nil⟩
    refine oi ((Walks.list h3 _ l nI items).toS) s.heap.objs.size out xs hv (Nat.le_of_eq hn) hb items.size 0 _ rfl (Nat.zero_le _) ⟨⟨_,Heap.get?_push_size _ rfl,rfl,rfl⟩,il.push _⟩ ?_ ?_
    ·have e1 : ((s.heap.push { cls := .type "set",dict := none,data := .set #[] 0 (.fresh 0 0 led) }).push { cls := .type "list_iterator",data := .fields #[.ref l,.int 0 0] }).get? s.heap.objs.size = some { cls := .type "set",dict := none,data := .set #[] 0 (.fresh 0 0 led) } :=
      Heap.get?_push_of_some _ e0
     exact ⟨_,#[],0,_,e1,⟨rfl,rfl,rfl⟩,rfl,(fun e he => by simp at he),(by simp [kP]),by decide,rfl,eld,fun _ => (List.Pairwise.nil : List.Pairwise (· < ·) ([] : List Nat))⟩
    ·intro s' mv S2
     obtain ⟨h',g',d',tk',os'⟩ := s'
     have eg : g' = s.gens := mv.gens
     have ed : d' = s.drawn := mv.drawn
     have eo : os' = s.os := mv.os
     subst eg ed eo
     show wpAny _ _ _ _ _ _
     apply wpAny_pure
     show wpAny _ _ (ret Value.none) _ _ _
     apply wpAny_pure
     refine ⟨rfl,h',tk',rfl,S2,fun b o hb' e => ?_⟩
     refine mv.heap b o ?_ (Heap.get?_push_of_some _ (Heap.get?_push_of_some _ e))
     rw [Heap.size_push]
     simp only [List.mem_cons,not_or]
     exact ⟨Nat.ne_of_lt hb',Nat.ne_of_lt (Nat.lt_succ_of_lt hb'),List.not_mem_nil⟩
   ·cases r2 with
    | error e => exact hr2
    | ok fl2 =>
     cases fl2 with
     | ret r =>
      obtain ⟨rfl,h',tk,rfl,S2,kp⟩ := hr2
      repeat any_goals first | assumption | wp_step
      exact fin _ _ S2 kp
     | _ => exact hr2.elim
  | _ => exact hr.elim
end
theorem kS : ∀ {acc : List Value} {ks : List Int},acc.length = ks.length → (∀ (j : Nat) (v : Value),acc[j]? = some v → ∃ y t,ks[j]? = some y ∧ v = .int y t) → IntsAre acc ks
 | [],[],_,_ => .nil
 | v :: acc,k :: ks,hl,h => by
  obtain ⟨y,t,e,rfl⟩ := h 0 v rfl
  simp at e
  subst e
  exact .cons _ _ (kS (by simpa using hl) fun j u hu => h (j + 1) u (by simpa using hu))
 | [],_ :: _,hl,_ => by simp at hl
 | _ :: _,[],hl,_ => by simp at hl
section
variable {prog : Program} {w : World} {A : Around} {E : Value → Shared → Prop} {s : Shared}
theorem ff {S : Addr} {es : Array (Int × Value)} {ep i slot : Nat} {t : SetTable} {Q : Option (Value × Nat) → Shared → Prop} (hS : cD s.heap S es ep t) (hb : w.params.followText "set-order" = false) (pl : t.plain = true) (ld : t.led = true)
  (h : Q (match es[SetTable.below t.place slot]?,t.place[SetTable.below t.place slot]? with | some (_,x),some j => some (x,j + 1) | _,_ => none) s) : wpAny (model prog w) A (setNext S slot i ep) Q E s := by
 unfold setNext setsByText
 refine wpAny_bind (cR hS ?_)
 dsimp only
 refine wpAny_bind (wpAny_bind (wpAny_askSetting (wpAny_pure ?_)))
 rw [show ((model prog w).w.params.followText "set-order") = false from hb]
 simp only [Bool.false_eq_true,if_false]
 have d1 : (!t.plain && decide (es.size > 1)) = false := by rw [pl]; rfl
 have d2 : (!t.led && !es.isEmpty) = false := by rw [ld]; rfl
 show wpAny _ _ (if (!t.plain && decide (es.size > 1)) = true then _ else _) _ _ s
 rw [d1]
 simp only [Bool.false_eq_true,if_false]
 refine wpAny_bind ?_
 show wpAny _ _ (if (!t.led && !es.isEmpty) = true then _ else _) _ _ s
 rw [d2]
 simp only [Bool.false_eq_true,if_false]
 refine wpAny_pure ?_
 exact wpAny_pure h
theorem below_at {xs : Array Nat} (hr : Ri xs) {i slot : Nat} (hi : i ≤ xs.size) (z1 : i = 0 → slot = 0) (z2 : ∀ k,i = k + 1 → ∃ j,xs[k]? = some j ∧ slot = j + 1) : SetTable.below xs slot = i := by
 obtain ⟨b1,b2,b3⟩ := kO hr slot
 rcases Nat.eq_zero_or_pos i with e | e
 ·cases z1 e
  subst e
  rcases Nat.eq_zero_or_pos (SetTable.below xs 0) with q | q
  ·exact q
  ·exact absurd (b2 0 (by omega) q) (Nat.not_lt_zero _)
 ·obtain ⟨k,rfl⟩ : ∃ k,i = k + 1 := ⟨i - 1,by omega⟩
  obtain ⟨j,hj,rfl⟩ := z2 k rfl
  obtain ⟨hk,rfl⟩ := Array.getElem?_eq_some_iff.mp hj
  have l1 : ¬ SetTable.below xs (xs[k] + 1) ≤ k := fun q => by
   have := b3 k hk q
   omega
  rcases Nat.lt_or_ge (k + 1) (SetTable.below xs (xs[k] + 1)) with q | q
  ·have h1 : k + 1 < xs.size := by omega
   have h2 := b2 (k + 1) h1 q
   have h3 := hr.lt (i := k) (k := k + 1) (by omega) h1
   omega
  ·omega
theorem ms (hh : A.handled = none) (hb : w.params.followText "set-order" = false) (I S : Addr) (ne : S ≠ I) (es : Array (Int × Value)) (ep : Nat) (t : SetTable) (pl : t.plain = true) (ld : t.led = true) (ft : t.fits es.size = true) (hr : Ri t.place) :
  Walks prog w A I [I,S] [I] es.size (fun i v => ∃ e,es.toList[i]? = some e ∧ v = e.2) (fun i h => (∃ slot : Nat,(i = 0 → slot = 0) ∧ (i ≠ 0 → ∃ j,t.place[i - 1]? = some j ∧ slot = j + 1) ∧ h.get? I = some (lH (.int slot 0) i S es.size ep)) ∧ cD h S es ep t) where
 sub := fun b hb => by simp at hb; simp [hb]
 frame := fun _ _ _ st hk => ⟨let ⟨sl,a,b,c⟩ := st.1; ⟨sl,a,b,hk I (by simp) _ c⟩,st.2.at fun o e => hk S (by simp) o e⟩
 item := fun i s Q E hi st hQ => by
  obtain ⟨⟨slot,z1,z2,hI⟩,hS⟩ := st
  have pz : t.place.size = es.size := by
   simp only [SetTable.fits,Bool.and_eq_true,beq_iff_eq] at ft
   exact ft.1
  have bi : SetTable.below t.place slot = i := below_at hr (by omega) z1 fun k hk => by
   have := z2 (by omega)
   rwa [show i - 1 = k by omega] at this
  obtain ⟨x,hx⟩ : ∃ x,es[i]? = some x := ⟨_,Array.getElem?_eq_getElem hi⟩
  obtain ⟨j,hj⟩ : ∃ j,t.place[i]? = some j := ⟨_,Array.getElem?_eq_getElem (by omega)⟩
  refine gf (slot := slot) (nx := j + 1) (x := x.2) hI hS (fun A E Q q => ff hS hb pl ld ?_) fun h' e' sb => ?_
  ·rw [bi,hx,hj]
   exact q
  ·exact hQ _ h' s.toks ⟨_,by rw [Array.getElem?_toList]; exact hx,rfl⟩ ⟨⟨j + 1,fun z => (by omega),fun _ => ⟨j,hj,rfl⟩,e'⟩,hS.at fun o e => (sb.2 S ne).trans e⟩ fun b o hb e => (sb.2 b fun z => hb (by simp [z])).trans e
 done := fun s Q E st hQ => by
  obtain ⟨⟨slot,z1,z2,hI⟩,hS⟩ := st
  have pz : t.place.size = es.size := by
   simp only [SetTable.fits,Bool.and_eq_true,beq_iff_eq] at ft
   exact ft.1
  have bi : SetTable.below t.place slot = es.size := below_at hr (by omega) z1 fun k hk => by
   have := z2 (by omega)
   rwa [show es.size - 1 = k by omega] at this
  refine gi (slot := slot) hh hI hS (fun A E Q q => ff hS hb pl ld ?_) fun h' xb => hQ h' s.toks fun b o hb e => xb b o (fun z => hb (by simp [z])) e
  rw [bi,Array.getElem?_eq_none (Nat.le_refl _)]
  exact q
 self := fun i s Q E st hQ => by
  obtain ⟨⟨slot,z1,z2,hI⟩,hS⟩ := st
  have hT : s.TypeIs (.ref I) "set_iterator" := ⟨_,hI,rfl⟩
  refine wpAny_pyIter_slot hT bP (wpAny_call_entry bP hT cL ?_ (cY _))
  show wpAny _ _ (ret (.ref I)) _ _ s
  exact wpAny_pure ⟨_,rfl,"set_iterator",_,hT,a4.lookup,hQ⟩
end
theorem fR {prog : Program} {w : World} {es : List (Int × Value)} (te : ∀ e ∈ es,tz prog w e) {acc : List Value} (hl : acc.length = es.length) (h : ∀ (j : Nat) (v : Value),acc[j]? = some v → ∃ e,es[j]? = some e ∧ v = e.2) : IntsAre acc (es.map fun e => gQ e.2) :=
 kS (by rw [hl,List.length_map]) fun j v hv => by
  obtain ⟨e,he,rfl⟩ := h j v hv
  obtain ⟨y,t,rfl⟩ := te e (List.mem_of_getElem? he)
  exact ⟨y,t,by rw [List.getElem?_map,he]; rfl,rfl⟩
section
variable {prog : Program} {w : World} {A : Around} {E : Value → Shared → Prop} {s : Shared}
theorem rL {a : Addr} {ys : List Int} {Q : Value → Shared → Prop} (hh : A.handled = none) (hS : lJ prog w s.heap a ys)
  (h : ∀ (s1 : Shared) (I : Addr) (fp : List Addr) (n : Nat) (P : Nat → Value → Prop) (St : Nat → Heap → Prop),Walks prog w A I fp [I] n P St → St 0 s1.heap → s.heap.objs.size ≤ I → I ∈ fp → (∀ b ∈ fp,b = a ∨ s.heap.objs.size ≤ b) → n ≤ sizeLine →
   (∀ b o,s.heap.get? b = some o → s1.heap.get? b = some o) → (∃ d,s1 = { s with heap := s1.heap,drawn := d }) → (∀ acc : Array Value,PySem.ItemsOf P acc n → ∃ zs : List Int,zs.Perm ys ∧ IntsAre acc.toList zs) → Q (.ref I) s1) :
  wpAny (model prog w) A (pyIter (.ref a)) Q E s := by
 obtain ⟨o,es,ep,t,ho,hex,hd,te,pm,hb,hf,ld,pl⟩ := hS
 have SA : cD s.heap a es ep t := ⟨o,ho,hex,hd,hf⟩
 have al := Heap.lt_size ho
 have nz : es.size ≤ sizeLine := fits_of_scanBound hb
 refine qw SA nz (fun c => ?_) fun c zs d hz => ?_
 ·cases hb' : w.params.followText "set-order" with
  | true =>
   refine h _ s.heap.objs.size _ _ _ _ (oe hh hb' s.heap.objs.size a (Nat.ne_of_lt al) es ep t) ⟨Heap.get?_push_size _ rfl,SA.at fun o e => Heap.get?_push_of_some _ e⟩ (Nat.le_refl _) (by simp) (by simp) nz (fun b o e => Heap.get?_push_of_some _ e) ⟨s.drawn,rfl⟩ fun acc ha => ?_
   have pp := iy (w.params.setOrder a ep) es
   refine ⟨_,(pp.map fun e => gQ e.2).trans pm,fR (fun e he => te e (pp.mem_iff.mp he)) (by rw [Array.length_toList,ha.1,pp.length_eq,Array.length_toList]) fun j v hv => ha.2 j v (by rw [← Array.getElem?_toList]; exact hv)⟩
  | false =>
   cases hpl : t.plain with
   | false =>
    have few : es.size ≤ 1 := by
     rcases Nat.lt_or_ge 1 es.size with q | q
     ·rw [hb',hpl] at c
      simp at c
      omega
     ·exact q
    refine h _ s.heap.objs.size _ _ _ _ (qx hh hb' s.heap.objs.size a (Nat.ne_of_lt al) es ep t few (ld hb') hf) ⟨⟨0,fun _ => rfl,fun z => absurd rfl z,Heap.get?_push_size _ rfl⟩,SA.at fun o e => Heap.get?_push_of_some _ e⟩ (Nat.le_refl _) (by simp) (by simp) nz (fun b o e => Heap.get?_push_of_some _ e) ⟨s.drawn,rfl⟩ fun acc ha => ?_
    exact ⟨_,pm,fR te (by rw [Array.length_toList,ha.1,Array.length_toList]) fun j v hv => ha.2 j v (by rw [← Array.getElem?_toList]; exact hv)⟩
   | true =>
    refine h _ s.heap.objs.size _ _ _ _ (ms hh hb' s.heap.objs.size a (Nat.ne_of_lt al) es ep t hpl (ld hb') hf (pl hpl)) ⟨⟨0,fun _ => rfl,fun z => absurd rfl z,Heap.get?_push_size _ rfl⟩,SA.at fun o e => Heap.get?_push_of_some _ e⟩ (Nat.le_refl _) (by simp) (by simp) nz (fun b o e => Heap.get?_push_of_some _ e) ⟨s.drawn,rfl⟩ fun acc ha => ?_
    exact ⟨_,pm,fR te (by rw [Array.length_toList,ha.1,Array.length_toList]) fun j v hv => ha.2 j v (by rw [← Array.getElem?_toList]; exact hv)⟩
 ·have e1 : (s.heap.push { cls := .type "tuple",data := .seq (zs.map fun (i : Nat) => rawInt i).toArray }).objs.size = s.heap.objs.size + 1 := Heap.size_push ..
  refine h _ (s.heap.objs.size + 1) _ _ _ _ (og hh (s.heap.objs.size + 1) a s.heap.objs.size (Nat.ne_of_lt (Nat.lt_succ_of_lt al)) (Nat.ne_of_lt (Nat.lt_succ_self _)) es ep t zs hz)
   ⟨(show ((s.heap.push _).push (lH (.ref s.heap.objs.size) 0 a es.size ep)).get? (s.heap.objs.size + 1) = _ from e1 ▸ Heap.get?_push_size (s.heap.push { cls := .type "tuple",data := .seq (zs.map fun (i : Nat) => rawInt i).toArray }) (o := lH (.ref s.heap.objs.size) 0 a es.size ep) rfl),SA.at fun o e => Heap.get?_push_of_some _ (Heap.get?_push_of_some _ e),Heap.get?_push_of_some _ (Heap.get?_push_size _ rfl)⟩ (Nat.le_succ _) (by simp) (fun b hb => by
    simp only [List.mem_cons,List.not_mem_nil,or_false] at hb
    rcases hb with rfl | rfl | rfl
    ·exact .inr (Nat.le_succ _)
    ·exact .inl rfl
    ·exact .inr (Nat.le_refl _)) nz (fun b o e => Heap.get?_push_of_some _ (Heap.get?_push_of_some _ e)) ⟨d,rfl⟩ fun acc ha => ?_
  have hl : zs.length = es.size := by rw [hz.length_eq,List.length_range]
  let es' : List (Int × Value) := zs.map fun j => es.getD j (0,.none)
  have pp : es'.Perm es.toList := by
   refine (hz.map _).trans ?_
   have : (List.range es.size).map (fun j => es.getD j (0,Value.none)) = es.toList := by
    apply List.ext_getElem?
    intro i
    rw [List.getElem?_map,Array.getElem?_toList (xs := es)]
    rcases Nat.lt_or_ge i es.size with q | q
    ·rw [List.getElem?_range q,Array.getElem?_eq_getElem q]
     simp [Array.getD,q]
    ·rw [List.getElem?_eq_none (by simpa using q),Array.getElem?_eq_none q]
     rfl
   rw [this]
  refine ⟨_,(pp.map fun e => gQ e.2).trans pm,fR (fun e he => te e (pp.mem_iff.mp he)) (by rw [Array.length_toList,ha.1,pp.length_eq,Array.length_toList]) fun j v hv => ?_⟩
  obtain ⟨k,e,e2,e3,e4⟩ := ha.2 j v (by rw [← Array.getElem?_toList]; exact hv)
  refine ⟨e,?_,e4⟩
  show (zs.map _)[j]? = _
  rw [List.getElem?_map,e2]
  simp [Array.getD_eq_getD_getElem?,e3]
theorem ol {a L : Addr} {c : Nat} {ys : List Int} (hh : A.handled = none) (hS : lJ prog w s.heap a ys) (hL : s.heap.get? L = some { cls := .type "list",data := .seq #[] c }) (ne : L ≠ a) {RR : Result → Shared → Prop}
  (hR : ∀ (h' : Heap) (tk : Nat) (d : Drawn) (acc : Array Value) (c : Nat) (zs : List Int),(∀ b o,b ≠ L → s.heap.get? b = some o → h'.get? b = some o) → h'.get? L = some { cls := .type "list",dict := none,data := .seq acc c,slots := #[] } → zs.Perm ys → IntsAre acc.toList zs → RR (.ok (.ret (.ref L))) { s with heap := h',drawn := d,toks := tk }) :
  wpAny (model prog w) A.in1 (Builtin.List.listExtendWith (.ref L) (.ref a) (.ref L))
   (fun fin s' => match fin with | .done f => RR (.ok f) s' | .again c' => c'.quiet = true ∧ codeAny (model prog w) A c' RR s') (fun e s' => RR (.error e) s') s := by
 have Ll : L < s.heap.objs.size := Heap.lt_size hL
 have tyS : ∀ {s' : Shared},lJ prog w s'.heap a ys → s'.TypeIs (.ref a) "set" := fun ⟨o,_,_,_,ho,hex,_⟩ => ⟨o,ho,hex.1⟩
 unfold Builtin.List.listExtendWith
 refine wpAny_bind (wpAny_typeOf (T := "set") (tyS hS) ?_)
 have h1 : Builtin.List.listSameRef (.ref L) (.ref a) = false := by simp [Builtin.List.listSameRef,ne]
 simp only [h1,show (Value.type "set" == Value.type "list") = false by decide,show (Value.type "set" == Value.type "tuple") = false by decide,Bool.or_false,Bool.false_eq_true,if_false]
 refine wpAny_bind (rL (A := A.in1) hh hS fun s1 I fp n P St W st hI hIf hfp hn kp hd out => ?_)
 have Lf : L ∉ fp := fun z => (hfp _ z).elim ne fun q => absurd Ll (Nat.not_lt.mpr q)
 obtain ⟨d,es1⟩ := hd
 have hL1 := kp _ _ hL
 have hS2 : lJ prog w s1.heap a ys := let ⟨o,es,ep,t,ho,r⟩ := hS; ⟨o,es,ep,t,kp _ _ ho,r⟩
 refine wpAny_bind (wpAny_holding (qy (tyS hS2) ?_))
 have key : ∀ (hp : Heap) (c₁ tk : Nat),St 0 hp → (∀ b o,b ≠ L → s1.heap.get? b = some o → hp.get? b = some o) → hp.get? L = some { cls := .type "list",data := .seq #[] c₁ } →
   codeAny (model prog w) A (.builtin "list.extend.loop" ⟨[.ref L,.ref I,.ref L],[]⟩) RR { s1 with heap := hp,toks := tk } := by
  intro hp c₁ tk hst hk hLp
  refine codeAny_extend_loopS W.toS hn L Lf (.ref L) n 0 _ #[] c₁ rfl (Nat.zero_le _) hst hLp (ItemsOf.nil _) fun s' acc' c' hm hS' hacc => ?_
  obtain ⟨zs,z1,z2⟩ := out acc' hacc
  have e' := Moved.eq_with hm
  rw [es1] at e'
  rw [e']
  refine hR s'.heap s'.toks d acc' c' zs (fun b o nb e => hm.heap b o (fun hmem => ?_) (hk b o nb (kp b o e))) hS' z1 z2
  rcases List.mem_cons.mp hmem with q | q
  ·exact nb q
  ·have bl := Heap.lt_size e
   rw [List.mem_singleton.mp q] at bl
   exact absurd bl (Nat.not_lt.mpr hI)
 refine wpAny_ite_split (fun _ => ?_) (fun _ => wpAny_pure ⟨plainId_quiet PySem.F.plain_extend_loop _,key s1.heap c s1.toks st (fun b o _ e => e) hL1⟩)
 refine wpAny_bind (wpAny_rule ?_)
 refine wpAny_bind ?_
 show wpAny _ _ (updateSeq L (·.push .none) >>= fun _ => updateSeq L (·.pop)) _ _ _
 refine wpAny_bind (wpAny_updateSeq hL1 rfl ?_)
 have hS₂ := Heap.get?_update_self (Obj.mapSeq (·.push Value.none)) hL1 rfl
 refine wpAny_updateSeq (hz := by seq_fits) hS₂ rfl ?_
 have hS₃ := Heap.get?_update_self (Obj.mapSeq (·.pop)) hS₂ rfl
 refine wpAny_pure ⟨plainId_quiet PySem.F.plain_extend_loop _,key _ _ _ (W.frame _ _ _ st fun b hb o e => ?_) (fun b o nb e => ?_) hS₃⟩
 ·have nb : b ≠ L := fun z => Lf (z ▸ hb)
  exact (Heap.get?_update_other _ _ (Ne.symm nb)).trans ((Heap.get?_update_other _ _ (Ne.symm nb)).trans e)
 ·exact (Heap.get?_update_other _ _ (Ne.symm nb)).trans ((Heap.get?_update_other _ _ (Ne.symm nb)).trans e)
theorem mw {a : Addr} {ys : List Int} {R : List Value → Shared → Prop} (hh : A.handled = none) (hS : lJ prog w s.heap a ys)
  (h : ∀ (h' : Heap) (tk : Nat) (d : Drawn) (acc : List Value) (zs : List Int),s.heap.objs.size < h'.objs.size → (∀ b o,s.heap.get? b = some o → h'.get? b = some o) → zs.Perm ys → IntsAre acc zs → R acc { s with heap := h',drawn := d,toks := tk }) :
  wpAny (model prog w) A (collect (.ref a)) R E s := by
 have al : a < s.heap.objs.size := let ⟨o,_,_,_,ho,_⟩ := hS; Heap.lt_size ho
 unfold collect
 refine wpAny_bind (wpAny_runValue (codeAny_builtin entry_proto_collect' ?_))
 rw [Around.under_plainId PySem.F.plain_proto_collect _]
 show wpAny _ A.in1 (newList [] >>= fun l => again (.builtin "list.__iadd__" ⟨[l,.ref a],[]⟩)) _ _ s
 refine wpAny_bind (wpAny_newObj_type (wpAny_pure ⟨plainId_quiet PySem.F.plain_list_iadd _,codeAny_builtin entry_list_iadd' ?_⟩))
 rw [Around.under_plainId PySem.F.plain_list_iadd _]
 have fresh : (s.heap.push { cls := .type "list",data := .seq ([] : List Value).toArray }).get? s.heap.objs.size = some { cls := .type "list",data := .seq #[] } := Heap.get?_push_size _ rfl
 have hS1 : lJ prog w (s.heap.push { cls := .type "list",data := .seq ([] : List Value).toArray }) a ys := let ⟨o,es,ep,t,ho,r⟩ := hS; ⟨o,es,ep,t,Heap.get?_push_of_some _ ho,r⟩
 show wpAny _ A.in1 (Builtin.List.listExtendWith (.ref s.heap.objs.size) (.ref a) (.ref s.heap.objs.size)) _ _ _
 have key := ol (A := A) (s := { s with heap := s.heap.push { cls := .type "list",data := .seq ([] : List Value).toArray } })
  (RR := fun (q : Result) (s' : Shared) => ∃ (h' : Heap) (tk : Nat) (d : Drawn) (acc : Array Value) (c : Nat) (zs : List Int),q = .ok (.ret (.ref s.heap.objs.size)) ∧ s' = { s with heap := h',drawn := d,toks := tk } ∧ (∀ b o,s.heap.get? b = some o → h'.get? b = some o) ∧ h'.get? s.heap.objs.size = some { cls := .type "list",dict := none,data := .seq acc c,slots := #[] } ∧ zs.Perm ys ∧ IntsAre acc.toList zs)
  hh hS1 fresh (Nat.ne_of_gt al) (fun h' tk d acc c zs hk hS' z1 z2 => ⟨h',tk,d,acc,c,zs,rfl,rfl,fun b o e => hk b o (Nat.ne_of_lt (Heap.lt_size e)) (Heap.get?_push_of_some _ e),hS',z1,z2⟩)
 refine wpAny_mono key (fun f s' x => ?_) fun e s' x => ?_
 ·cases f with
  | done f =>
   obtain ⟨h',tk,d,acc,c,zs,e,rfl,hk,hS',z1,z2⟩ := x
   cases e
   show wpAny _ A (load s.heap.objs.size >>= _) _ _ _
   exact wpAny_bind (wpAny_load hS' (wpAny_pure (h h' tk d acc.toList zs (Heap.lt_size hS') hk z1 z2)))
  | again c₁ =>
   refine ⟨x.1,codeAny_mono x.2 fun q s₂ y => ?_⟩
   obtain ⟨h',tk,d,acc,c,zs,rfl,rfl,hk,hS',z1,z2⟩ := y
   show wpAny _ A (load s.heap.objs.size >>= _) _ _ _
   exact wpAny_bind (wpAny_load hS' (wpAny_pure (h h' tk d acc.toList zs (Heap.lt_size hS') hk z1 z2)))
 ·obtain ⟨_,_,_,_,_,_,e',_⟩ := x
  cases e'
end
def om (K : PySem.W.Frag) (te : TE) : TE := fun σ H Q => te σ H fun x H1 => ∃ (a : Addr) (xs : List Int),x = .ref a ∧ az K H1 a (xs.map V.int) ∧ xs.length < 4000 ∧ (xs.foldl insI []).length < 64 ∧
 ∀ (p : Addr) (ys : List Int),H1 p = none → ys.Nodup → (∀ z,z ∈ ys ↔ z ∈ xs) → ys.Pairwise (· ≤ ·) → Q (.ref p) (aD H1 p (.lst (ys.map V.int)))
theorem kT : ∀ {xs : List Int} {us : List Value},bh (xs.map V.int) us → ∀ (i : Nat) (v : Value),us[i]? = some v → ∃ (y : Int) (t : Tok),xs[i]? = some y ∧ v = Value.int y t
 | [],_,.nil,i,v,h => by simp at h
 | x :: xs,_,.cons r t,0,v,h => by
  simp at h
  subst h
  obtain ⟨k,rfl⟩ := r
  exact ⟨x,k,rfl,rfl⟩
 | x :: xs,_,.cons r t,i + 1,v,h => kT t i v (by simpa using h)
section
variable {X : Cx} {e : Expr} {te : TE} {p1 p2 pos pos2 : Pos}
theorem gR (hc : X.calm = true) (g1 : Gl X "sorted") (m1 : X.mg "sorted" = none) (g2 : Gl X "set") (m2 : X.mg "set" = none) (b1 : bootBuiltins "sorted" = some (.builtin "sorted")) (b2 : bootBuiltins "set" = some (.type "set")) (he : PE X e te)
  (hs : starEach [e] X.env = [(false,eval e X.env)] := by rfl) :
  PE X (.Call (.Name "sorted" p1) [.Call (.Name "set" p2) [e] [] pos2] [] pos) (om X.K te) := by
 intro pins s σ H Q I h
 apply wpAny_Call_Name_kw
 refine cA I g1 m1 b1 ?_ (by decide) (by decide)
 refine Calls.callWith_builtin rfl (Calls.evalArgs_plain ?_)
 refine Calls.spliced_cons (x := eval (.Call (.Name "set" p2) [e] [] pos2) X.env) (rest := []) ?_
 apply wpAny_Call_Name_kw
 refine cA I g2 m2 b2 ?_ (by decide) (by decide)
 refine PyProof.Rows.callWith_type1 ?_ hs rfl
 rw [hs]
 refine Calls.spliced_cons (x := eval e X.env) (rest := []) (a9 (he pins s σ H _ I h) fun v s1 ⟨x,H1,I1,r1,a,xs,ex,hq,few,fw,q⟩ => ?_)
 subst ex
 cases r1
 apply Calls.spliced_nil
 obtain ⟨its,rv,pl,hz⟩ := I1.list hq
 have sz : its.toArray.size = xs.length := by rw [List.size_toArray,← rv.length,List.length_map]
 have hli : s1.heap.IsList a its.toArray := pl.isList
 refine oj (xs := xs) (I.ok.hd hc) hli (fun i v hv => kT rv i v (by simpa using hv)) sz (by rw [sz]; show xs.length + 1 < 4096; omega) fun h' tk S2 kp => ?_
 apply Calls.spliced_nil
 have dl : (kP xs its.toArray.size).length ≤ its.toArray.size := jL xs _
 have dz : kP xs its.toArray.size = xs.foldl insI [] := by unfold kP; rw [sz,List.take_length]
 have I2 := I1.kept (t' := tk) (h' := h') (fun b o e => kp b o (Heap.lt_size e) e)
 refine Calls.call_function_entry kind_sorted plain_sorted entry_sorted (args_sorted1 _) ?_
 unfold Builtin.«sorted»
 refine wpAny_bind (m := checkCount "sorted" 1 1 _) (wpAny_pure ?_)
 refine wpAny_bind (mw (A := X.A.in1) (s := { s1 with heap := h',toks := tk }) (I.ok.hd hc) S2 fun h2 tk2 d acc ks hlt hkp hp SA => ?_)
 have nd : ks.Nodup := hp.nodup_iff.mpr (dz ▸ dD xs [] (by simp))
 have mm : ∀ z,z ∈ ks ↔ z ∈ xs := fun z => by rw [hp.mem_iff,dz,eJ]; simp
 have la : acc.length = ks.length := SA.length
 have lz : acc.length ≤ sizeLine := by
  rw [la,hp.length_eq]
  refine Nat.le_trans dl ?_
  rw [sz]
  have := fits_of_scanBound (n := xs.length) (by show xs.length < 4096; omega)
  exact this
 refine wpAny_bind (wpAny_newList ?_ lz)
 have hoL : (h2.push (seqObj "list" acc.toArray 0)).get? h2.objs.size = some (seqObj "list" acc.toArray 0) := Heap.get?_push_size _ rfl
 refine wpAny_bind (wpAny_holding (wpAny_call_entry slot_list_sort ⟨_,hoL,rfl⟩ entry_list_sort (list_sort_tree hoL SA (by rw [la,hp.length_eq,dz]; exact fw) fun out ys o1 o2 o3 => ⟨_,rfl,?_⟩) (args_list_sort _)))
 have I3 : aM X pins σ H1 { s1 with heap := h',drawn := d,toks := tk } := I2.drew (d := d)
 have sl : h'.objs.size ≤ h2.objs.size := Nat.le_of_lt hlt
 refine wpAny_pure ⟨_,rfl,.ref h2.objs.size,_,I3.laid (a := h2.objs.size) (o := .lst (ys.map V.int)) (h' := sortedHeap (h2.push (seqObj "list" acc.toArray 0)) h2.objs.size acc out) (t' := tk2) (fun b o eo => ?_) sl ?_,rfl,q _ ys (I3.hok.fresh sl) (o2.nodup_iff.mpr nd) (fun z => (o2.mem_iff).trans (mm z)) o3⟩
 ·have eo' := hkp b o eo
  have bl := Heap.lt_size eo'
  rw [sortedHeap_old (Nat.ne_of_lt bl) (by rw [size_push']; exact Nat.lt_succ_of_lt bl)]
  exact Heap.get?_push_of_some _ eo'
 ·obtain ⟨e,he⟩ := sortedHeap_at (out := out) hoL
  refine ⟨by rw [List.length_map,o2.length_eq,← la]; exact lz,out.toList,e,fY o1,?_⟩
  rw [Array.toArray_toList]
  exact he
end
theorem dk {X : Cx} (hc : X.calm = true) : cu X (.builtin "sorted") (fun xs H Q => ∃ d ks kvs,xs = [.ref d] ∧ H d = some (.dK kvs) ∧ kvs.map (·.1) = ks.map (fun y => (.inr y : Key)) ∧ ks.Nodup ∧ ks.length < 64 ∧
  ∀ p ys,H p = none → ys.Perm ks → sortedS ys = true → Q (.ref p) (aD H p (.lst (ys.map V.str)))) := by
 intro pins s σ H xs us Q I r h
 obtain ⟨d,ks,kvs,rfl,hk,ek,nd,l64,q⟩ := h
 obtain ⟨u,rfl,ru⟩ := vals1 r
 cases ru
 obtain ⟨z,hS,ws,rel,D⟩ := ig I.hok hk
 obtain ⟨ep,hat⟩ := D.dictAt
 have lw : ws.length = ks.length := by
  rw [← rel.length]
  have := congrArg List.length ek
  simpa using this
 refine Calls.call_function_entry kind_sorted plain_sorted entry_sorted (args_sorted1 _) ?_
 unfold Builtin.«sorted»
 refine wpAny_bind (m := checkCount "sorted" 1 1 _) (wpAny_pure ?_)
 refine wpAny_bind (kD (A := X.A.in1) (PySem.W.kdl_dict (knd := aF X.prog X.w) (kvs := ws) (ep := ep) hS) (I.ok.hd hc) hat (by rw [← rel.length]; exact z) fun h' tk acc hlt hkp hacc => ?_)
 have la : acc.toList.length = ks.length := by rw [Array.length_toList,hacc.1,lw]
 have SA : StrsAre acc.toList ks := mU la fun j v hv => by
  obtain ⟨k,x,e1,e2⟩ := hacc.2 j v (by rw [← Array.getElem?_toList]; exact hv)
  obtain ⟨⟨k',v'⟩,e3,rfl,_⟩ := gb rel e1
  have e4 : (kvs.map (·.1))[j]? = some k' := by rw [List.getElem?_map,e3]; rfl
  rw [ek,List.getElem?_map] at e4
  cases e5 : ks[j]? with
  | none => rw [e5] at e4; cases e4
  | some y =>
   rw [e5] at e4
   cases e4
   obtain ⟨t,ht⟩ := mS e2
   exact ⟨y,t,rfl,ht⟩
 refine wpAny_bind (wpAny_newList ?_ (by rw [la,← lw,← rel.length]; exact z))
 have hoL : (h'.push (seqObj "list" acc.toList.toArray 0)).get? h'.objs.size = some (seqObj "list" acc.toList.toArray 0) := Heap.get?_push_size _ rfl
 refine wpAny_bind (wpAny_holding (wpAny_call_entry slot_list_sort ⟨_,hoL,rfl⟩ entry_list_sort (list_sort_treeK strKind_oneLt hoL SA.keysOf (fun v₁ v₂ rest e => keyKind_strs (by rw [← e]; exact SA)) (by rw [la]; exact l64) fun st' hp hs => ⟨_,rfl,?_⟩) (args_list_sort _)))
 obtain ⟨ys,h1,h2,h3⟩ := sorted_out_str SA hp hs
 have sl : s.heap.objs.size ≤ h'.objs.size := Nat.le_of_lt hlt
 refine wpAny_pure ⟨_,rfl,.ref h'.objs.size,_,I.laid (a := h'.objs.size) (o := .lst (ys.map V.str)) (h' := sortedHeap (h'.push (seqObj "list" acc.toList.toArray 0)) h'.objs.size acc.toList ((arrOf st').map (·.2))) (t' := tk) (fun b o eo => ?_) sl ?_,rfl,q _ ys (I.hok.fresh sl) h2 h3⟩
 ·have eo' := hkp b o eo
  have bl := Heap.lt_size eo'
  rw [sortedHeap_old (Nat.ne_of_lt bl) (by rw [size_push']; exact Nat.lt_succ_of_lt bl)]
  exact Heap.get?_push_of_some _ eo'
 ·obtain ⟨e,he⟩ := sortedHeap_at (out := (arrOf st').map (·.2)) hoL
  refine ⟨by rw [List.length_map,h2.length_eq,← lw,← rel.length]; exact z,((arrOf st').map (·.2)).toList,e,fO h1,?_⟩
  rw [Array.toArray_toList]
  exact he
end L2
namespace Sw
open PySem L2 XH Hm
def tE : HO → Bool
 | .lst _ => true
 | .tup _ => true
 | _ => false
abbrev RA (α : Type) := (Addr → Prop) → Hp → V → α → Prop
def An : Addr → Prop := fun _ => True
class Mv {α : Type} (R : RA α) : Prop where
 mv : ∀ {P P' : Addr → Prop} {H H' : Hp} {v : V} {x : α},(∀ a o,P a → tE o = true → H a = some o → P' a ∧ H' a = some o) → R P H v x → R P' H' v x
theorem gk {α : Type} {R : RA α} [Mv R] {P : Addr → Prop} {H H' : Hp} {v : V} {x : α} (h : R P H v x) (g : aB H H') : R P H' v x := Mv.mv (fun a o p _ e => ⟨p,g a o e⟩) h
theorem oo {α : Type} {R : RA α} [Mv R] {P P' : Addr → Prop} {H : Hp} {v : V} {x : α} (h : R P H v x) (g : ∀ a,P a → P' a) : R P' H v x := Mv.mv (fun a o p _ e => ⟨g a p,e⟩) h
theorem xI {α : Type} {R : RA α} [Mv R] {P : Addr → Prop} {H : Hp} {v : V} {x : α} (h : R P H v x) : R An H v x := oo h fun _ _ => trivial
theorem xJ {α : Type} {R : RA α} [Mv R] {P : Addr → Prop} {H H' : Hp} {v : V} {x : α} (h : R P H v x) (g : ∀ a o,tE o = true → H a = some o → H' a = some o) : R P H' v x := Mv.mv (fun a o p s e => ⟨p,g a o s e⟩) h
theorem wa {α : Type} {R : RA α} [Mv R] {P : Addr → Prop} {H : Hp} {v : V} {x : α} (h : R P H v x) : R (fun a => P a ∧ H a ≠ none) H v x := Mv.mv (fun a o p _ e => ⟨⟨p,by rw [e]; exact nofun⟩,e⟩) h
theorem uI {α : Type} {R : RA α} [Mv R] {P : Addr → Prop} {H : Hp} {v : V} {x : α} {l : Addr} (h : R P H v x) (n : ¬ P l) (o : HO) : R P (aD H l o) v x := Mv.mv (fun a u p _ e => ⟨p,by
  have : a ≠ l := fun z => n (by rw [← z]; exact p)
  rw [aA this]
  exact e⟩) h
def A2 {α : Type} (R : V → α → Prop) (vs : List V) (xs : List α) : Prop := vs.length = xs.length ∧ ∀ (i : Nat) (v : V) (x : α),vs[i]? = some v → xs[i]? = some x → R v x
theorem A2.imp {α : Type} {R S : V → α → Prop} {vs : List V} {xs : List α} (h : A2 R vs xs) (f : ∀ v x,R v x → S v x) : A2 S vs xs := ⟨h.1,fun i v x e1 e2 => f v x (h.2 i v x e1 e2)⟩
theorem A2.get {α : Type} {R : V → α → Prop} {vs : List V} {xs : List α} (h : A2 R vs xs) {i : Nat} {x : α} (e : xs[i]? = some x) : ∃ v,vs[i]? = some v ∧ R v x := by
 have il : i < vs.length := by rw [h.1]; exact (List.getElem?_eq_some_iff.mp e).1
 exact ⟨_,List.getElem?_eq_getElem il,h.2 i _ x (List.getElem?_eq_getElem il) e⟩
theorem A2.at_ {α : Type} {R : V → α → Prop} {vs : List V} {xs : List α} (h : A2 R vs xs) {i : Nat} {v : V} (e : vs[i]? = some v) : ∃ x,xs[i]? = some x ∧ R v x := by
 have il : i < xs.length := by rw [← h.1]; exact (List.getElem?_eq_some_iff.mp e).1
 exact ⟨_,List.getElem?_eq_getElem il,h.2 i v _ e (List.getElem?_eq_getElem il)⟩
theorem A2.nil {α : Type} {R : V → α → Prop} : A2 R [] ([] : List α) := ⟨rfl,fun i a x e => by simp at e⟩
theorem A2.append {α : Type} {R : V → α → Prop} {as bs : List V} {xs ys : List α} (h : A2 R as xs) (k : A2 R bs ys) : A2 R (as ++ bs) (xs ++ ys) := by
 refine ⟨by simp [h.1,k.1],fun i a x e1 e2 => ?_⟩
 by_cases c : i < as.length
 ·rw [List.getElem?_append_left c] at e1
  rw [List.getElem?_append_left (by rw [← h.1]; exact c)] at e2
  exact h.2 i a x e1 e2
 ·rw [List.getElem?_append_right (by omega)] at e1
  rw [List.getElem?_append_right (by rw [← h.1]; omega),← h.1] at e2
  exact k.2 _ a x e1 e2
theorem A2.one {α : Type} {R : V → α → Prop} {v : V} {x : α} (h : R v x) : A2 R [v] [x] := ⟨rfl,fun i a y e1 e2 => by
 cases i with
 | zero => simp at e1 e2; subst e1 e2; exact h
 | succ n => simp at e1⟩
theorem A2.snoc {α : Type} {R : V → α → Prop} {vs : List V} {xs : List α} (h : A2 R vs xs) {v : V} {x : α} (r : R v x) : A2 R (vs ++ [v]) (xs ++ [x]) := h.append (.one r)
theorem A2.take {α : Type} {R : V → α → Prop} {vs : List V} {xs : List α} (h : A2 R vs xs) (n : Nat) : A2 R (vs.take n) (xs.take n) := by
 refine ⟨by simp [h.1],fun i v x e1 e2 => ?_⟩
 rw [List.getElem?_take] at e1 e2
 split at e1
 ·rename_i c
  rw [if_pos c] at e2
  exact h.2 i v x e1 e2
 ·cases e1
def bY {α : Type} (R : RA α) (P : Addr → Prop) (H : Hp) (l : Addr) (xs : List α) : Prop := ∃ vs,H l = some (.lst vs) ∧ A2 (R P H) vs xs
def kU {α : Type} (R : RA α) : RA (List α) := fun P H v xs => ∃ l,v = .ref l ∧ P l ∧ bY R P H l xs
instance {α : Type} {R : RA α} [Mv R] : Mv (kU R) where
 mv := fun {P P' H H' v x} g h => by
  obtain ⟨l,rfl,p,vs,e,r⟩ := h
  obtain ⟨p',e'⟩ := g l _ p rfl e
  exact ⟨l,rfl,p',vs,e',r.imp fun v x q => Mv.mv g q⟩
def mx {α : Type} (f : α → List V) : RA α := fun P H v x => ∃ t,v = .ref t ∧ P t ∧ H t = some (.tup (f x))
instance {α : Type} {f : α → List V} : Mv (mx f) where
 mv := fun {P P' H H' v x} g h => by
  obtain ⟨t,rfl,p,e⟩ := h
  obtain ⟨p',e'⟩ := g t _ p rfl e
  exact ⟨t,rfl,p',e'⟩
def kW {α : Type} (f : α → V) : RA α := fun _ _ v x => v = f x
instance {α : Type} {f : α → V} : Mv (kW f) where
 mv := fun _ h => h
theorem A2.val {α : Type} {f : α → V} {P : Addr → Prop} {H : Hp} {vs : List V} {xs : List α} (h : A2 (kW f P H) vs xs) : vs = xs.map f := by
 apply List.ext_getElem (by rw [List.length_map]; exact h.1)
 intro i h1 h2
 rw [List.getElem_map]
 exact h.2 i _ _ (List.getElem?_eq_getElem h1) (List.getElem?_eq_getElem (by rw [List.length_map] at h2; exact h2))
theorem bY.same {α : Type} {R : RA α} [Mv R] {P : Addr → Prop} {H H' : Hp} {l : Addr} {xs : List α} (h : bY R P H l xs) (g : aB H H') : bY R P H' l xs := let ⟨vs,e,r⟩ := h; ⟨vs,g _ _ e,r.imp fun _ _ q => gk q g⟩
theorem bY.any {α : Type} {R : RA α} [Mv R] {P : Addr → Prop} {H : Hp} {l : Addr} {xs : List α} (h : bY R P H l xs) : bY R An H l xs := let ⟨vs,e,r⟩ := h; ⟨vs,e,r.imp fun _ _ q => xI q⟩
theorem bY.mono {α : Type} {R : RA α} [Mv R] {P P' : Addr → Prop} {H : Hp} {l : Addr} {xs : List α} (h : bY R P H l xs) (g : ∀ a,P a → P' a) : bY R P' H l xs := let ⟨vs,e,r⟩ := h; ⟨vs,e,r.imp fun _ _ q => oo q g⟩
theorem bY.sq {α : Type} {R : RA α} [Mv R] {P : Addr → Prop} {H H' : Hp} {l : Addr} {xs : List α} (h : bY R P H l xs) (g : ∀ a o,tE o = true → H a = some o → H' a = some o) : bY R P H' l xs := let ⟨vs,e,r⟩ := h; ⟨vs,g _ _ rfl e,r.imp fun _ _ q => xJ q g⟩
theorem bY.upd {α : Type} {R : RA α} [Mv R] {P : Addr → Prop} {H : Hp} {l x : Addr} {xs : List α} (h : bY R P H l xs) (n : ¬ P x) (lx : l ≠ x) (o : HO) : bY R P (L2.aD H x o) l xs := by
 obtain ⟨vs,e,r⟩ := h
 exact ⟨vs,by rw [aA lx]; exact e,r.imp fun _ _ q => uI q n o⟩
theorem bY.put {α : Type} {R : RA α} [Mv R] {P : Addr → Prop} {H : Hp} {l : Addr} {vs : List V} {xs : List α} {v : V} {x : α} (n : ¬ P l) (r : A2 (R P H) vs xs) (h : R P H v x) : bY R P (L2.aD H l (.lst (vs ++ [v]))) l (xs ++ [x]) :=
 ⟨_,aj,(r.snoc h).imp fun _ _ q => uI q n _⟩
theorem bY.ext {α : Type} {R : RA α} [Mv R] {P : Addr → Prop} {H : Hp} {l : Addr} {vs us : List V} {xs ys : List α} (n : ¬ P l) (r : A2 (R P H) vs xs) (h : A2 (R P H) us ys) : bY R P (L2.aD H l (.lst (vs ++ us))) l (xs ++ ys) :=
 ⟨_,aj,(r.append h).imp fun _ _ q => uI q n _⟩
theorem bY.new {α : Type} {R : RA α} {P : Addr → Prop} {H : Hp} {l : Addr} : bY R P (L2.aD H l (.lst [])) l ([] : List α) := ⟨[],aj,A2.nil⟩
end Sw
namespace L2
open PySem PySem.Spec PyProof.Rows XH Sw Hm
def bT {β : Type} (n : Nat) (pr : Nat → Bool) (f : Nat → β) : List β := ((List.range n).filter pr).map f
theorem dc {β : Type} (n : Nat) (pr : Nat → Bool) (f : Nat → β) : bT (n + 1) pr f = bT n pr f ++ (if pr n = true then [f n] else []) := by
 unfold bT
 rw [List.range_succ,List.filter_append,List.map_append]
 congr 1
 cases h : pr n <;> simp [List.filter_cons,h]
theorem aY {β : Type} (n : Nat) (pr : Nat → Bool) (f : Nat → β) : (bT n pr f).length ≤ n := by
 unfold bT
 rw [List.length_map]
 have := List.length_filter_le pr (List.range n)
 rwa [List.length_range] at this
theorem kX {β : Type} {n : Nat} {pr pr' : Nat → Bool} {f f' : Nat → β} (h : ∀ i,i < n → pr i = pr' i ∧ f i = f' i) : bT n pr f = bT n pr' f' := by
 induction n with
 | zero => rfl
 | succ n ih => rw [dc,dc,ih fun i hi => h i (by omega),(h n (by omega)).1,(h n (by omega)).2]
theorem kY {J : It} {β : Type} {n : Nat} {js : List Nat} {tc : TT} {te : TE} {σ : L2.St} {H1 : Hp} {Q : VK} (R : RA β) [Mv R] (Z : Addr → Prop) (pr : Nat → Bool) (f : Nat → β) (hz : n ≤ sizeLine) (hZ : ∀ a,Z a → H1 a ≠ none)
  (hgo : ∀ i H2,aB H1 H2 → i < n → J.go i H2) (hst : ∀ H2,aB H1 H2 → J.stop n H2)
  (step : ∀ i,i < n → ∀ H2 x H3,aB H1 H2 → J.yld i H2 x H3 → H3 = H2 ∧ (∀ S : Bool → Hp → Prop,(∀ H4,aB H2 H4 → S (pr i) H4) → tc (some x :: aS js σ) H2 S) ∧ (pr i = true → ∀ H4,aB H2 H4 → ∀ Q' : VK,(∀ y H5,aB H4 H5 → R (fun a => H4 a = none ∨ Z a) H5 y (f i) → Q' y H5) → te (some x :: aS js σ) H4 Q'))
  (fin : ∀ p H',H1 p = none → aB H1 H' → bY R (fun a => a ≠ p ∧ (H1 a = none ∨ Z a)) H' p (bT n pr f) → Q (.ref p) H') : io js tc te σ Q J H1 := by
 intro p hp
 refine ⟨fun i m ys H2 => i ≤ n ∧ m = n - i ∧ aB H1 H2 ∧ H2 p = some (.lst ys) ∧ A2 (R (fun a => a ≠ p ∧ (H1 a = none ∨ Z a)) H2) ys (bT i pr f),⟨n,Nat.zero_le _,rfl,Sw.ag hp _,aj,A2.nil⟩,?_⟩
 rintro i m ys H2 ⟨hi,rfl,g,e,r⟩
 refine ⟨e,?_⟩
 by_cases hin : i < n
 ·refine .inr ⟨hgo i H2 g hin,?_,fun x H3 hy => ?_⟩
  ·have := aY i pr f
   have := r.1
   omega
  obtain ⟨rfl,h1,h2⟩ := step i hin H2 x H3 g hy
  refine h1 _ fun H4 g4 => ?_
  have tk := dc i pr f
  cases hpr : pr i with
  | true =>
   rw [hpr,if_pos rfl] at tk
   rw [if_pos rfl]
   refine h2 hpr H4 g4 _ fun y H5 g5 ry => ⟨g5 _ _ (g4 _ _ e),n - (i + 1),by omega,hin,rfl,Sw.f9 ((g.trans g4).trans g5) hp _,aj,?_⟩
   rw [tk]
   have np : ¬ (p ≠ p ∧ (H1 p = none ∨ Z p)) := fun z => z.1 rfl
   refine ((r.imp fun v b q => gk q (g4.trans g5)).snoc (oo ry fun a ha => ?_)).imp fun v b q => uI q np _
   rcases ha with h | h
   ·exact ⟨(fun z => by rw [z,g4 _ _ e] at h; cases h),.inl ((g.trans g4).free h)⟩
   ·exact ⟨fun z => hZ a h (z ▸ hp),.inr h⟩
  | false =>
   rw [hpr,if_neg (by decide),List.append_nil] at tk
   rw [if_neg (by decide)]
   exact ⟨n - (i + 1),by omega,hin,rfl,g.trans g4,g4 _ _ e,by rw [tk]; exact r.imp fun v b q => gk q g4⟩
 ·have e2 : i = n := by omega
  subst e2
  exact .inl ⟨hst H2 g,fin p H2 hp g ⟨ys,e,r⟩⟩
theorem qC {J : It} {β : Type} {n : Nat} {js : List Nat} {te : TE} {σ : L2.St} {H1 : Hp} {Q : VK} (R : RA β) [Mv R] (Z : Addr → Prop) (f : Nat → β) (hz : n ≤ sizeLine) (hZ : ∀ a,Z a → H1 a ≠ none)
  (hgo : ∀ i H2,aB H1 H2 → i < n → J.go i H2) (hst : ∀ H2,aB H1 H2 → J.stop n H2)
  (step : ∀ i,i < n → ∀ H2 x H3,aB H1 H2 → J.yld i H2 x H3 → H3 = H2 ∧ ∀ Q' : VK,(∀ y H5,aB H2 H5 → R (fun a => H2 a = none ∨ Z a) H5 y (f i) → Q' y H5) → te (some x :: aS js σ) H2 Q')
  (fin : ∀ p H',H1 p = none → aB H1 H' → bY R (fun a => a ≠ p ∧ (H1 a = none ∨ Z a)) H' p ((List.range n).map f) → Q (.ref p) H') : mP js te σ Q J H1 := by
 intro p hp
 refine ⟨fun i m ys H2 => i ≤ n ∧ m = n - i ∧ aB H1 H2 ∧ H2 p = some (.lst ys) ∧ A2 (R (fun a => a ≠ p ∧ (H1 a = none ∨ Z a)) H2) ys ((List.range i).map f),⟨n,Nat.zero_le _,rfl,Sw.ag hp _,aj,A2.nil⟩,?_⟩
 rintro i m ys H2 ⟨hi,rfl,g,e,r⟩
 refine ⟨e,?_⟩
 by_cases hin : i < n
 ·refine .inr ⟨hgo i H2 g hin,?_,fun x H3 hy => ?_⟩
  ·have := r.1
   rw [List.length_map,List.length_range] at this
   omega
  obtain ⟨rfl,h2⟩ := step i hin H2 x H3 g hy
  refine h2 _ fun y H5 g5 ry => ⟨g5 _ _ e,n - (i + 1),by omega,hin,rfl,Sw.f9 (g.trans g5) hp _,aj,?_⟩
  rw [List.range_succ,List.map_append]
  have np : ¬ (p ≠ p ∧ (H1 p = none ∨ Z p)) := fun z => z.1 rfl
  refine ((r.imp fun v b q => gk q g5).snoc (oo ry fun a ha => ?_)).imp fun v b q => uI q np _
  rcases ha with h | h
  ·exact ⟨(fun z => by rw [z,e] at h; cases h),.inl (g.free h)⟩
  ·exact ⟨fun z => hZ a h (z ▸ hp),.inr h⟩
 ·have e2 : i = n := by omega
  subst e2
  exact .inl ⟨hst H2 g,fin p H2 hp g ⟨ys,e,r⟩⟩
section
variable {K : PySem.W.Frag} {β : Type} {a : Addr} {xs : List V} {n : Nat} {js : List Nat} {tc : TT} {te : TE} {σ : L2.St} {H1 : Hp} {Q : VK}
theorem oq (R : RA β) [Mv R] (Z : Addr → Prop) (pr : Nat → Bool) (f : Nat → β) (hS : az K H1 a xs) (hz : xs.length ≤ sizeLine) (hZ : ∀ a,Z a → H1 a ≠ none)
  (s1 : ∀ i x,xs[i]? = some x → ∀ H2,aB H1 H2 → ∀ S : Bool → Hp → Prop,(∀ H4,aB H2 H4 → S (pr i) H4) → tc (some x :: aS js σ) H2 S)
  (s2 : ∀ i x,xs[i]? = some x → pr i = true → ∀ H2,aB H1 H2 → ∀ Q' : VK,(∀ y H5,aB H2 H5 → R (fun a => H2 a = none ∨ Z a) H5 y (f i) → Q' y H5) → te (some x :: aS js σ) H2 Q')
  (fin : ∀ p H',H1 p = none → aB H1 H' → bY R (fun a => a ≠ p ∧ (H1 a = none ∨ Z a)) H' p (bT xs.length pr f) → Q (.ref p) H') : io js tc te σ Q (sH K a) H1 := by
 refine kY R Z pr f hz hZ (fun i H2 g hi => ⟨xs,xs[i],g.seq hS,List.getElem?_eq_getElem hi⟩) (fun H2 g => ⟨xs,g.seq hS,Nat.le_refl _⟩) (fun i hi H2 x H3 g hy => ?_) fin
 obtain ⟨rfl,hx⟩ := hy
 have ex := hx xs (g.seq hS)
 exact ⟨rfl,s1 i x ex _ g,fun h H4 g4 => s2 i x ex h _ (g.trans g4)⟩
theorem gm (R : RA β) [Mv R] (Z : Addr → Prop) (pr : Nat → Bool) (f : Nat → β) (hz : n ≤ sizeLine) (hZ : ∀ a,Z a → H1 a ≠ none)
  (s1 : ∀ i : Nat,i < n → ∀ H2,aB H1 H2 → ∀ S : Bool → Hp → Prop,(∀ H4,aB H2 H4 → S (pr i) H4) → tc (some (.int (0 + (i : Int))) :: aS js σ) H2 S)
  (s2 : ∀ i : Nat,i < n → pr i = true → ∀ H2,aB H1 H2 → ∀ Q' : VK,(∀ y H5,aB H2 H5 → R (fun a => H2 a = none ∨ Z a) H5 y (f i) → Q' y H5) → te (some (.int (0 + (i : Int))) :: aS js σ) H2 Q')
  (fin : ∀ p H',H1 p = none → aB H1 H' → bY R (fun a => a ≠ p ∧ (H1 a = none ∨ Z a)) H' p (bT n pr f) → Q (.ref p) H') : io js tc te σ Q (sf 0 n) H1 := by
 refine kY R Z pr f hz hZ (fun i H2 g hi => hi) (fun H2 g => Nat.le_refl n) (fun i hi H2 x H3 g hy => ?_) fin
 obtain ⟨rfl,rfl⟩ := hy
 exact ⟨rfl,s1 i hi _ g,fun h H4 g4 => s2 i hi h _ (g.trans g4)⟩
theorem dr (R : RA β) [Mv R] (Z : Addr → Prop) (f : Nat → β) (hS : az K H1 a xs) (hz : xs.length ≤ sizeLine) (hZ : ∀ a,Z a → H1 a ≠ none)
  (s2 : ∀ i x,xs[i]? = some x → ∀ H2,aB H1 H2 → ∀ Q' : VK,(∀ y H5,aB H2 H5 → R (fun a => H2 a = none ∨ Z a) H5 y (f i) → Q' y H5) → te (some x :: aS js σ) H2 Q')
  (fin : ∀ p H',H1 p = none → aB H1 H' → bY R (fun a => a ≠ p ∧ (H1 a = none ∨ Z a)) H' p ((List.range xs.length).map f) → Q (.ref p) H') : mP js te σ Q (sH K a) H1 := by
 refine qC R Z f hz hZ (fun i H2 g hi => ⟨xs,xs[i],g.seq hS,List.getElem?_eq_getElem hi⟩) (fun H2 g => ⟨xs,g.seq hS,Nat.le_refl _⟩) (fun i hi H2 x H3 g hy => ?_) fin
 obtain ⟨rfl,hx⟩ := hy
 exact ⟨rfl,s2 i x (hx xs (g.seq hS)) _ g⟩
theorem iC {hd : Option Value} (R : RA β) [Mv R] (Z : Addr → Prop) (f : Nat → β) (hok : jA hd H1) (hz : n ≤ sizeLine) (hZ : ∀ a,Z a → H1 a ≠ none)
  (s2 : ∀ i : Nat,i < n → ∀ H2,aB H1 H2 → ∀ Q' : VK,(∀ y H5,aB H2 H5 → R (fun a => H2 a = none ∨ Z a) H5 y (f i) → Q' y H5) → te (some (.int (0 + (i : Int))) :: aS js σ) H2 Q')
  (fin : ∀ p H',H1 p = none → aB H1 H' → bY R (fun a => a ≠ p ∧ (H1 a = none ∨ Z a)) H' p ((List.range n).map f) → Q (.ref p) H') : mP js te σ Q (rq hd 0 n) H1 := by
 refine qC R Z f hz hZ (fun i H2 g hi => hi) (fun H2 g => ⟨Nat.le_refl n,sW hok g⟩) (fun i hi H2 x H3 g hy => ?_) fin
 obtain ⟨rfl,rfl⟩ := hy
 exact ⟨rfl,s2 i hi _ g⟩
end
end L2
namespace Sw
open PySem L2 XH Hm
def jM (xs : List V) : Prop := ∀ x ∈ xs,v8 x
theorem iD {K : PySem.W.Frag} {H : Hp} {xs : List V} (h : jM xs) : gW (oa K H 0) xs xs := hC rfl fun i x y h1 h2 => by
 rw [h1] at h2
 cases h2
 exact ⟨rfl,h x (List.mem_of_getElem? h1)⟩
theorem mZ {α : Type} {f : α → List V} {K : PySem.W.Frag} {P P' : Addr → Prop} {H : Hp} {v w : V} {x : α} (hs : jM (f x)) (h : mx f P H v x) (k : mx f P' H w x) : oa K H 1 v w := by
 obtain ⟨t,rfl,_,e⟩ := h
 obtain ⟨t',rfl,_,e'⟩ := k
 exact .inr ⟨t,t',_,_,rfl,rfl,.inl ⟨bc.of e,bc.of e'⟩,iD hs⟩
theorem jN {α : Type} {R : RA α} {K : PySem.W.Frag} {P P' : Addr → Prop} {H : Hp} {n : Nat} {vs ws : List V} {xs : List α} (f : ∀ v w x,x ∈ xs → R P H v x → R P' H w x → oa K H n v w) (h : A2 (R P H) vs xs) (k : A2 (R P' H) ws xs) : gW (oa K H n) vs ws :=
 hC (h.1.trans k.1.symm) fun i v w e1 e2 => by
  obtain ⟨x,hx,q⟩ := h.at_ e1
  exact f v w x (List.mem_of_getElem? hx) q (k.2 i w x e2 hx)
theorem rM {α : Type} {R : RA α} {K : PySem.W.Frag} {P P' : Addr → Prop} {H : Hp} {n : Nat} {v w : V} {xs : List α} (f : ∀ v w x,x ∈ xs → R P H v x → R P' H w x → oa K H n v w) (h : kU R P H v xs) (k : kU R P' H w xs) : oa K H (n + 1) v w := by
 obtain ⟨l,rfl,_,vs,e,r⟩ := h
 obtain ⟨l',rfl,_,ws,e',r'⟩ := k
 exact .inr ⟨l,l',_,_,rfl,rfl,.inr ⟨az.of e,az.of e'⟩,jN f r r'⟩
open PySem.NumText
def tF : Str := "abcdefghijklmnopqrstuvwxyz"
def Nm (z : Str) : Prop := 1 ≤ (sL z).length ∧ (sL z).length ≤ 12 ∧ ∀ c ∈ sL z,97 ≤ c ∧ c ≤ 122
theorem m3 (c : Nat) : (!(Builtin.Str.occurrences tF (xu [c]) 0 tF.length 1).isEmpty) = decide (97 ≤ c ∧ c ≤ 122) := by
 rw [tj]
 have e : sL tF = (List.range 26).map (97 + ·) := by decide
 rw [e]
 apply decide_eq_decide.mpr
 constructor
 ·intro h
  obtain ⟨i,hi,rfl⟩ := List.mem_map.mp h
  have := List.mem_range.mp hi
  omega
 ·intro h
  exact List.mem_map.mpr ⟨c - 97,List.mem_range.mpr (by omega),by omega⟩
def iE (K : PySem.W.Frag) : Sp := fun vs H Q _ => ∃ x : V,vs = [x] ∧ ((∃ z : Str,x = .str z ∧ z.length ≤ 1000000 ∧ (Nm z → Q (.bl true) H) ∧ (¬ Nm z → Q (.bl false) H)) ∨ ∃ ty,fH K H x ty ∧ PySem.W.kitOne K ty (.type "str") = some false ∧ Q (.bl false) H)
abbrev Us := Str × Int × Int
abbrev Wy := Int × Int × List Us
abbrev Tk := List (List Wy)
abbrev Tl := List (Str × Int)
def qD (u : Us) : List V := [.str u.1,.int u.2.1,.int u.2.2]
abbrev dN : RA Us := mx qD
abbrev j1 : RA (List V) := mx id
def gX : RA Wy := fun P H v w => ∃ t u : Addr,v = .ref t ∧ P t ∧ P u ∧ H t = some (.tup [.int w.1,.int w.2.1,.ref u]) ∧ bY dN P H u w.2.2
instance : Mv gX where
 mv := fun {P P' H H' v x} g h => by
  obtain ⟨t,u,rfl,p,p2,e,vs,e2,r⟩ := h
  obtain ⟨q,e'⟩ := g t _ p rfl e
  obtain ⟨q2,e2'⟩ := g u _ p2 rfl e2
  exact ⟨t,u,rfl,q,q2,e',vs,e2',r.imp fun _ _ k => Mv.mv g k⟩
abbrev dR : RA (List Wy) := kU gX
def a8 (D : Tl) : List (Key × V) := D.map fun p => (.inr p.1,.int p.2)
def cE (D : Tl) (z : Str) : Option Int := (D.find? fun p => decide (p.1 = z)).map (·.2)
theorem jm (D : Tl) : (a8 D).length = D.length := List.length_map _
theorem kZ {D : Tl} {i : Nat} {k : Key} {x : V} (h : (a8 D)[i]? = some (k,x)) : ∃ p,D[i]? = some p ∧ k = .inr p.1 ∧ x = .int p.2 := by
 unfold a8 at h
 rw [List.getElem?_map] at h
 obtain ⟨p,e,q⟩ := Option.map_eq_some_iff.mp h
 cases q
 exact ⟨p,e,rfl,rfl⟩
theorem eK (p : Str × Int) (D : Tl) (z : Str) : cE (p :: D) z = if p.1 = z then some p.2 else cE D z := by
 unfold cE
 rw [List.find?_cons]
 by_cases h : p.1 = z
 ·rw [decide_eq_true h,if_pos h]; rfl
 ·rw [decide_eq_false h,if_neg h]
theorem gn (z : Str) : ∀ D : Tl,gS (a8 D) (.inr z) = (cE D z).map V.int
 | [] => rfl
 | p :: D => by
  rw [eK]
  show gS (((.inr p.1 : Key),V.int p.2) :: a8 D) _ = _
  by_cases h : p.1 = z
  ·rw [if_pos h,fJ (by show (Sum.inr p.1 : Key) = _; rw [h])]; rfl
  ·rw [if_neg h,fK (by intro e; exact h (by injection e)),gn z D]
theorem eV {z : Str} {n : Int} : ∀ {D : Tl},(D.map (·.1)).Nodup → (z,n) ∈ D → cE D z = some n
 | [],_,h => by cases h
 | p :: D,nd,h => by
  rw [List.map_cons,List.nodup_cons] at nd
  rw [eK]
  rcases List.mem_cons.mp h with e | e
  ·subst e
   rw [if_pos rfl]
  ·have hn : ¬ p.1 = z := fun q => nd.1 (by rw [q]; exact List.mem_map_of_mem (f := Prod.fst) e)
   rw [if_neg hn,eV nd.2 e]
theorem fr {z : Str} : ∀ {D : Tl},z ∈ D.map (·.1) → ∃ n,cE D z = some n
 | [],h => by cases h
 | p :: D,h => by
  rw [eK]
  by_cases e : p.1 = z
  ·exact ⟨_,if_pos e⟩
  ·rw [if_neg e]
   rw [List.map_cons] at h
   rcases List.mem_cons.mp h with q | q
   ·exact absurd q.symm e
   ·exact fr q
theorem ot {D : Tl} {z : Str} {n : Int} : ∃ E : Tl,putK (a8 D) (.inr z) (.int n) = a8 E ∧ ((D.map (·.1)).Nodup → (E.map (·.1)).Nodup) ∧ E.length ≤ D.length + 1 ∧ 1 ≤ E.length ∧ ∀ p ∈ E,p ∈ D ∨ p = (z,n) := by
 unfold putK
 by_cases h : ((a8 D).any fun kv => decide (kv.1 = (.inr z : Key))) = true
 ·rw [if_pos h]
  refine ⟨D.map fun p => if p.1 = z then (p.1,n) else p,?_,fun nd => ?_,?_,?_,fun p hp => ?_⟩
  ·unfold a8
   rw [List.map_map,List.map_map]
   apply List.map_congr_left
   intro p _
   simp only [Function.comp_apply]
   by_cases e : p.1 = z
   ·rw [if_pos (by rw [e]),if_pos e]
   ·rw [if_neg (by intro q; exact e (by injection q)),if_neg e]
  ·rw [List.map_map]
   have : ((fun x : Str × Int => x.1) ∘ fun p : Str × Int => if p.1 = z then (p.1,n) else p) = fun x => x.1 := by
    funext p
    simp only [Function.comp_apply]
    split <;> rfl
   rw [this]
   exact nd
  ·rw [List.length_map]; omega
  ·rw [List.length_map]
   cases D with
   | nil => simp [a8] at h
   | cons a b => simp
  ·obtain ⟨q,hq,rfl⟩ := List.mem_map.mp hp
   by_cases e : q.1 = z
   ·rw [if_pos e,e]; exact .inr rfl
   ·rw [if_neg e]; exact .inl hq
 ·rw [if_neg h]
  refine ⟨D ++ [(z,n)],?_,fun nd => ?_,?_,?_,fun p hp => ?_⟩
  ·unfold a8; rw [List.map_append]; rfl
  ·rw [List.map_append,List.map_cons,List.map_nil,List.nodup_append]
   refine ⟨nd,by simp,fun a ha b hb e => h ?_⟩
   simp at hb
   subst hb
   rw [List.any_eq_true]
   obtain ⟨q,hq,hz⟩ := List.mem_map.mp ha
   exact ⟨(.inr q.1,.int q.2),List.mem_map_of_mem (f := fun p : Str × Int => ((.inr p.1 : Key),V.int p.2)) hq,by rw [decide_eq_true_eq]; show (Sum.inr q.1 : Key) = _; rw [hz,e]⟩
  ·rw [List.length_append]; simp
  ·rw [List.length_append]; simp
  ·rcases List.mem_append.mp hp with q | q
   ·exact .inl q
   ·exact .inr (List.mem_singleton.mp q)
def rN (D : Tl) (us : List Us) : Prop := (us.map (·.1)).Nodup ∧ us.length ≤ 100 ∧ ∀ e ∈ us,∃ m,cE D e.1 = some m ∧ 1 ≤ e.2.1 ∧ e.2.1 ≤ m ∧ 0 ≤ e.2.2 ∧ e.2.2 ≤ 1000000000
def uJ (D : Tl) (ws : List Wy) : Prop := 1 ≤ ws.length ∧ ws.length ≤ 2 ∧ ∀ w ∈ ws,1 ≤ w.1 ∧ w.1 ≤ w.2.1 ∧ w.2.1 ≤ 1000000000 ∧ rN D w.2.2
structure jO (D : Tl) (T : Tk) (A B : List Ky) (n : Int) : Prop where
 d12 : D.length ≤ 12
 dnd : (D.map (·.1)).Nodup
 tool : ∀ p ∈ D,Nm p.1 ∧ 1 ≤ p.2 ∧ p.2 ≤ 8
 t24 : T.length ≤ 24
 ways : ∀ ws ∈ T,uJ D ws
 n0 : 0 ≤ n
 n8 : n ≤ 8
 a600 : A.length ≤ 600
 arcs : ∀ k ∈ A,∃ p q g : Int,k = [p,q,g] ∧ 0 ≤ p ∧ p < 2 * (T.length : Int) + n ∧ 0 ≤ q ∧ q < 2 * (T.length : Int) + n ∧ -1000000000 ≤ g ∧ g ≤ 1000000000
 b300 : B.length ≤ 300
 pairs : ∀ k ∈ B,∃ p q : Int,k = [p,q] ∧ 0 ≤ p ∧ p < (T.length : Int) ∧ 0 ≤ q ∧ q < (T.length : Int) ∧ p ≠ q
def TD (f : Bool) (H : Hp) (a : Addr) (u : HO) : Prop := H a = some u ∨ (f = true ∧ ∃ o,H a = some (.frz o u))
theorem TD.same {f : Bool} {H H' : Hp} {a : Addr} {u : HO} (h : TD f H a u) (g : aB H H') : TD f H' a u := h.elim (fun e => .inl (g _ _ e)) fun ⟨e,o,k⟩ => .inr ⟨e,o,g _ _ k⟩
theorem TD.rd {f : Bool} {H : Hp} {a : Addr} {u : HO} (h : TD f H a u) : Rd H a u := h.elim .inl fun ⟨_,o,k⟩ => .inr ⟨o,k⟩
theorem TD.no {H : Hp} {a : Addr} {u : HO} (h : TD false H a u) : H a = some u := h.elim id fun ⟨e,_⟩ => by cases e
structure iF (C : Addr) (f : Bool) (H : Hp) (x : Addr) (D : Tl) (T : Tk) (A B : List Ky) (n : Int) : Prop where
 ex : ∃ (dx td tl al pl : Addr) (fs : List (Str × V)),H x = some (.ins C dx fs) ∧ fs.lookup ("tools" : Str) = some (.ref td) ∧ fs.lookup ("tasks" : Str) = some (.ref tl) ∧ fs.lookup ("arcs" : Str) = some (.ref al) ∧ fs.lookup ("apart" : Str) = some (.ref pl) ∧ fs.lookup ("moments" : Str) = some (.int n) ∧
  TD f H td (.dK (a8 D)) ∧ bY dR An H tl T ∧ bu H al A ∧ bu H pl B
theorem iF.same {C : Addr} {f : Bool} {H H' : Hp} {x : Addr} {D : Tl} {T : Tk} {A B : List Ky} {n : Int} (h : iF C f H x D T A B n) (g : aB H H') : iF C f H' x D T A B n := by
 obtain ⟨dx,td,tl,al,pl,fs,a,b1,b2,b3,b4,b5,c,d,e,k⟩ := h.ex
 exact ⟨dx,td,tl,al,pl,fs,g _ _ a,b1,b2,b3,b4,b5,c.same g,d.same g,e.same g,k.same g⟩
theorem iF.any {C : Addr} {f : Bool} {H : Hp} {x : Addr} {D : Tl} {T : Tk} {A B : List Ky} {n : Int} (h : iF C f H x D T A B n) : iF C true H x D T A B n := by
 obtain ⟨dx,td,tl,al,pl,fs,a,b1,b2,b3,b4,b5,c,d,e,k⟩ := h.ex
 exact ⟨dx,td,tl,al,pl,fs,a,b1,b2,b3,b4,b5,c.elim .inl (fun ⟨_,o,q⟩ => .inr ⟨rfl,o,q⟩),d,e,k⟩
theorem ou {H H' : Hp} {d : Addr} {kvs : List (Key × V)} {o : Obj} (e : H d = some (.dK kvs)) (g : aB (aD H d (.frz o (.dK kvs))) H') : aB H (aD H' d (.dK kvs)) := fun a u h => by
 by_cases z : a = d
 ·subst z
  rw [e] at h
  cases h
  exact aj
 ·rw [aA z]
  exact g a u (by rw [aA z]; exact h)
def jP : Sp := fun vs H Q _ => ∃ (l : Addr) (ws : List Wy) (P0 : Addr → Prop),vs = [.ref l] ∧ bY gX P0 H l ws ∧ ws.length ≤ 2 ∧ ∀ (p : Addr) (H' : Hp),aB H H' → H p = none → dR (fun a => H a = none ∨ P0 a) H' (.ref p) ws → Q (.ref p) H'
def gq : Sp := fun vs H Q _ => ∃ (td : Addr) (D : Tl),vs = [.ref td] ∧ H td = some (.dK (a8 D)) ∧ D.length ≤ 12 ∧ (∀ p ∈ D,Nm p.1 ∧ 1 ≤ p.2 ∧ p.2 ≤ 8) ∧ ∀ H',aB H H' → Q .non H'
def iG : Sp := fun vs H Q _ => ∃ (u td : Addr) (D : Tl) (us : List Us),vs = [.ref u,.ref td] ∧ bY dN An H u us ∧ H td = some (.dK (a8 D)) ∧ rN D us ∧ ∀ H',aB H H' → Q .non H'
def gr : Sp := fun vs H Q _ => ∃ (tl td : Addr) (D : Tl) (T : Tk),vs = [.ref tl,.ref td] ∧ bY dR An H tl T ∧ H td = some (.dK (a8 D)) ∧ T.length ≤ 24 ∧ (∀ ws ∈ T,uJ D ws) ∧ ∀ H',aB H H' → Q .non H'
def gs : Sp := fun vs H Q _ => ∃ (pl : Addr) (m : Int) (B : List Ky),vs = [.ref pl,.int m] ∧ bu H pl B ∧ B.length ≤ 300 ∧ (∀ k ∈ B,∃ p q : Int,k = [p,q] ∧ 0 ≤ p ∧ p < m ∧ 0 ≤ q ∧ q < m ∧ p ≠ q) ∧ Q .non H
def gu (C : Addr) : Sp := fun vs H Q _ => ∃ (x : Addr) (n : Int) (f : Bool) (D : Tl) (T : Tk) (A B : List Ky),vs = [.ref x] ∧ iF C f H x D T A B n ∧ Q (.int (2 * (T.length : Int) + n)) H
def xK (H : Hp) (v : V) (B : List Ky) : Prop := (v = .non ∧ B = []) ∨ ∃ pl,v = .ref pl ∧ bu H pl B
def my (C : Addr) : Sp := fun vs H Q _ => ∃ (x dx td tl al : Addr) (v : V) (n : Int) (D : Tl) (T : Tk) (A B : List Ky),vs = [.ref x,.ref td,.ref tl,.ref al,v,.int n] ∧ H x = some (.ins C dx []) ∧ H td = some (.dK (a8 D)) ∧ bY dR An H tl T ∧ bu H al A ∧ xK H v B ∧ jO D T A B n ∧
 ∀ H',(∀ a o,a ≠ x → H a = some o → H' a = some o) → iF C false H' x D T A B n → Q .non H'
theorem bY.fx {α : Type} {R : RA α} [Mv R] {x : Addr} {H H' : Hp} {l : Addr} {T : List α} {C dx : Addr} {fs : List (Str × V)} (h : bY R An H l T) (ex : H x = some (.ins C dx fs)) (g : Fx x H H') : bY R An H' l T :=
 h.sq fun a o s e => g a o (fun z => by rw [z,ex] at e; cases e; cases s) e
structure cN (T : Tk) (R : List Rn) : Prop where
 len : R.length = T.length
 way : ∀ (i : Nat) (r : Rn) (ws : List Wy),R[i]? = some r → T[i]? = some ws → 0 ≤ r.2.2 ∧ r.2.2 < (ws.length : Int)
structure iH (C : Addr) (f : Bool) (H : Hp) (x t : Addr) (D : Tl) (T : Tk) (A B : List Ky) (R : List Rn) (M : List Int) : Prop where
 net : iF C f H x D T A B M.length
 plan : jg H t R M
 ok : jO D T A B M.length
 pok : cN T R
theorem iH.same {C : Addr} {f : Bool} {H H' : Hp} {x t : Addr} {D : Tl} {T : Tk} {A B : List Ky} {R : List Rn} {M : List Int} (h : iH C f H x t D T A B R M) (g : aB H H') : iH C f H' x t D T A B R M := ⟨h.net.same g,h.plan.same g,h.ok,h.pok⟩
theorem iH.any {C : Addr} {f : Bool} {H : Hp} {x t : Addr} {D : Tl} {T : Tk} {A B : List Ky} {R : List Rn} {M : List Int} (h : iH C f H x t D T A B R M) : iH C true H x t D T A B R M := ⟨h.net.any,h.plan,h.ok,h.pok⟩
def fu (w : Wy) (z : Str) : Option Us := w.2.2.find? fun u => decide (u.1 = z)
def dO (w : Wy) (z : Str) : Int := match fu w z with
 | some u => u.2.1
 | none => 0
def bM (T : Tk) (R : List Rn) (i : Nat) : Wy := (T.getD i []).getD (R.getD i (0,0,0)).2.2.toNat (0,0,[])
def dS (r : Rn) (t : Int) : Bool := decide (r.1 ≤ t) && decide (t < r.2.1)
def cy (r s : Rn) : Bool := decide (r.1 < s.2.1) && decide (s.1 < r.2.1)
def ck (T : Tk) (R : List Rn) (z : Str) (t : Int) : Nat → Int
 | 0 => 0
 | n + 1 => ck T R z t n + (if dS (R.getD n (0,0,0)) t = true then dO (bM T R n) z else 0)
def lg (T : Tk) (R : List Rn) (i : Nat) : Bool :=
 let r := R.getD i (0,0,0)
 let w := bM T R i
 decide (r.1 < 0 ∨ ¬ (w.1 ≤ r.2.1 - r.1 ∧ r.2.1 - r.1 ≤ w.2.1))
def mB (B : List Ky) (R : List Rn) (k : Nat) : Bool :=
 let b := B.getD k []
 cy (R.getD (b.getD 0 0).toNat (0,0,0)) (R.getD (b.getD 1 0).toNat (0,0,0))
def gv (x : Int) : List Int → List Int
 | [] => [x]
 | y :: ys => if x < y then x :: y :: ys else if x = y then y :: ys else y :: gv x ys
def iI (xs : List Int) : List Int := xs.foldr gv []
theorem iJ {x z : Int} : ∀ {l : List Int},z ∈ gv x l ↔ z = x ∨ z ∈ l
 | [] => by simp [gv]
 | y :: ys => by
  unfold gv
  by_cases h1 : x < y
  ·rw [if_pos h1]; simp
  ·rw [if_neg h1]
   by_cases h2 : x = y
   ·rw [if_pos h2]; subst h2; simp
   ·rw [if_neg h2,List.mem_cons,iJ (l := ys),List.mem_cons]
    constructor
    ·rintro (h | h | h)
     ·exact .inr (.inl h)
     ·exact .inl h
     ·exact .inr (.inr h)
    ·rintro (h | h | h)
     ·exact .inr (.inl h)
     ·exact .inl h
     ·exact .inr (.inr h)
theorem m4 {x : Int} : ∀ {l : List Int},l.Pairwise (· < ·) → (gv x l).Pairwise (· < ·)
 | [],_ => by simp [gv]
 | y :: ys,h => by
  have hc := List.pairwise_cons.mp h
  unfold gv
  by_cases h1 : x < y
  ·rw [if_pos h1]
   refine List.pairwise_cons.mpr ⟨fun z hz => ?_,h⟩
   rcases List.mem_cons.mp hz with e | e
   ·rw [e]; exact h1
   ·exact Int.lt_trans h1 (hc.1 z e)
  ·rw [if_neg h1]
   by_cases h2 : x = y
   ·rw [if_pos h2]; exact h
   ·rw [if_neg h2]
    refine List.pairwise_cons.mpr ⟨fun z hz => ?_,m4 hc.2⟩
    rcases iJ.mp hz with e | e
    ·rw [e]; omega
    ·exact hc.1 z e
theorem li {z : Int} : ∀ {xs : List Int},z ∈ iI xs ↔ z ∈ xs
 | [] => by simp [iI]
 | x :: xs => by
  show z ∈ gv x (iI xs) ↔ _
  rw [iJ,li,List.mem_cons]
theorem m5 : ∀ xs : List Int,(iI xs).Pairwise (· < ·)
 | [] => by simp [iI]
 | x :: xs => m4 (m5 xs)
theorem m7 : ∀ {l m : List Int},l.Pairwise (· < ·) → m.Pairwise (· < ·) → (∀ z,z ∈ l ↔ z ∈ m) → l = m
 | [],[],_,_,_ => rfl
 | [],y :: ys,_,_,h => absurd ((h y).mpr List.mem_cons_self) (by simp)
 | x :: xs,[],_,_,h => absurd ((h x).mp List.mem_cons_self) (by simp)
 | x :: xs,y :: ys,h1,h2,h => by
  have c1 := List.pairwise_cons.mp h1
  have c2 := List.pairwise_cons.mp h2
  have e : x = y := by
   have a := (h x).mp List.mem_cons_self
   have b := (h y).mpr List.mem_cons_self
   rcases List.mem_cons.mp a with q | q
   ·exact q
   ·rcases List.mem_cons.mp b with q' | q'
    ·exact q'.symm
    ·have := c2.1 x q
     have := c1.1 y q'
     omega
  subst e
  congr 1
  refine m7 c1.2 c2.2 fun z => ⟨fun hz => ?_,fun hz => ?_⟩
  ·rcases List.mem_cons.mp ((h z).mp (List.mem_cons_of_mem _ hz)) with q | q
   ·have := c1.1 z hz
    omega
   ·exact q
  ·rcases List.mem_cons.mp ((h z).mpr (List.mem_cons_of_mem _ hz)) with q | q
   ·have := c2.1 z hz
    omega
   ·exact q
theorem m9 {xs ys : List Int} (nd : ys.Nodup) (hm : ∀ z,z ∈ ys ↔ z ∈ xs) (hp : ys.Pairwise (· ≤ ·)) : ys = iI xs := by
 refine m7 ?_ (m5 xs) fun z => by rw [hm,li]
 have : ys.Pairwise (· ≠ ·) := nd
 exact (hp.and this).imp fun h => by omega
theorem ln (x : Int) : ∀ l : List Int,(gv x l).length ≤ l.length + 1
 | [] => by simp [gv]
 | y :: ys => by
  unfold gv
  split
  ·simp
  ·split
   ·simp
   ·have := ln x ys
    simp
    omega
theorem fS : ∀ xs : List Int,(iI xs).length ≤ xs.length
 | [] => by simp [iI]
 | x :: xs => by
  have := ln x (iI xs)
  have := fS xs
  show (gv x (iI xs)).length ≤ _
  simp
  omega
theorem dw : ∀ (xs ys : List Int),(xs.foldl insI ys).length ≤ ys.length + xs.length
 | [],ys => by simp
 | x :: xs,ys => by
  have := dw xs (insI ys x)
  have := kR ys x
  rw [List.foldl_cons,List.length_cons]
  omega
def cU (R : List Rn) : List Int := iI (R.map (·.1))
def dt (D : Tl) (T : Tk) (R : List Rn) (z : Str) : List (List V) := bT (cU R).length (fun i => decide ((cE D z).getD 0 < ck T R z ((cU R).getD i 0) R.length)) (fun i => [.str "tool",.str z,.int ((cU R).getD i 0)])
def bz (T : Tk) (R : List Rn) (z : Str) : List Nat := bT R.length (fun i => (fu (bM T R i) z).isSome) id
def cF (T : Tk) (R : List Rn) (z : Str) (i j : Nat) : Bool := match fu (bM T R i) z,fu (bM T R j) z with
 | some u,some v => (!decide (u.2.2 = v.2.2)) && cy (R.getD i (0,0,0)) (R.getD j (0,0,0))
 | _,_ => false
def cO (T : Tk) (R : List Rn) (z : Str) (us : List Nat) (k : Nat) : List (List V) := ((us.drop (k + 1)).filter (cF T R z (us.getD k 0))).map fun j => [.str "heat",.str z,.int (us.getD k 0 : Nat),.int (j : Nat)]
def du (T : Tk) (R : List Rn) (z : Str) (us : List Nat) (n : Nat) : List (List V) := (List.range n).flatMap (cO T R z us)
def de (T : Tk) (R : List Rn) (z : Str) : List (List V) := du T R z (bz T R z) (bz T R z).length
def cG (T : Tk) (R : List Rn) (n : Nat) : List (List V) := bT n (lg T R) fun i => [.str "turns",.int (i : Nat)]
def gw (M : List Int) (n : Nat) : List (List V) := bT n (kK M) fun i => [.str "moment",.int (i : Nat)]
def cm (A : List Ky) (R : List Rn) (M : List Int) (n : Nat) : List (List V) := bT n (mf A (aQ R M)) fun i => [.str "arc",.int (i : Nat)]
def cb (B : List Ky) (R : List Rn) (n : Nat) : List (List V) := bT n (mB B R) fun i => [.str "apart",.int (i : Nat)]
def i5 (ys : List Str) (D : Tl) (T : Tk) (A B : List Ky) (R : List Rn) (M : List Int) : List (List V) := cG T R T.length ++ gw M M.length ++ cm A R M A.length ++ cb B R B.length ++ ys.flatMap (dt D T R) ++ ys.flatMap (de T R)
theorem fg {α : Type} (p : α → Bool) (l : List α) : (l.filter p).length ≤ l.length := List.length_filter_le p l
theorem cH {α β : Type} {f : α → List β} {m : Nat} (h : ∀ a,(f a).length ≤ m) : ∀ l : List α,(l.flatMap f).length ≤ m * l.length
 | [] => by simp
 | a :: l => by
  rw [List.flatMap_cons,List.length_append,List.length_cons,Nat.mul_add]
  have := cH h l
  have := h a
  omega
theorem dE (D : Tl) (T : Tk) (R : List Rn) (z : Str) : (dt D T R z).length ≤ R.length := by
 refine Nat.le_trans (aY _ _ _) ?_
 have := fS (R.map (·.1))
 rwa [List.length_map] at this
theorem gx (T : Tk) (R : List Rn) (z : Str) (us : List Nat) (n : Nat) : (du T R z us n).length ≤ us.length * n := by
 have := cH (f := cO T R z us) (m := us.length) (fun k => by
  unfold cO
  rw [List.length_map]
  refine Nat.le_trans (fg _ _) ?_
  rw [List.length_drop]
  omega) (List.range n)
 rwa [List.length_range] at this
theorem jn (T : Tk) (R : List Rn) (z : Str) : (bz T R z).length ≤ R.length := aY _ _ _
theorem eW {T : Tk} {R : List Rn} (z : Str) (h : R.length ≤ 24) : (de T R z).length ≤ 576 := by
 have h1 := gx T R z (bz T R z) (bz T R z).length
 have h2 := jn T R z
 refine Nat.le_trans h1 ?_
 exact Nat.le_trans (Nat.mul_le_mul (Nat.le_trans h2 h) (Nat.le_trans h2 h)) (by decide)
theorem dP {H0 H2 : Hp} {l a : Addr} {vs : List V} {pr : Nat → Bool} {f : Nat → List V} {i : Nat} {pre : List (List V)} (nl : H0 l = none) (g : aB H0 H2) (e : H2 l = some (.lst vs)) (r : A2 (j1 (fun a => a ≠ l ∧ H0 a = none) H2) vs (pre ++ bT i pr f)) (hb : pr i = true) (na : H2 a = none) {o : HO} (ho : o = .tup (f i)) :
  aB H0 (aD (aD H2 a o) l (.lst (vs ++ [.ref a]))) ∧ bY j1 (fun a => a ≠ l ∧ H0 a = none) (aD (aD H2 a o) l (.lst (vs ++ [.ref a]))) l (pre ++ bT (i + 1) pr f) := by
 subst ho
 have ga := ag na (.tup (f i))
 refine ⟨f9 (g.trans ga) nl _,?_⟩
 rw [dc,hb,if_pos rfl,← List.append_assoc]
 exact bY.put (fun z => z.1 rfl) (r.imp fun _ _ q => gk q ga) ⟨a,rfl,⟨(fun z => by rw [z,e] at na; cases na),g.free na⟩,aj⟩
theorem iK {P : Addr → Prop} {H2 : Hp} {l : Addr} {pr : Nat → Bool} {f : Nat → List V} {i : Nat} {pre : List (List V)} (h : bY j1 P H2 l (pre ++ bT i pr f)) (hb : pr i = false) : bY j1 P H2 l (pre ++ bT (i + 1) pr f) := by
 rw [dc,hb,if_neg (by decide),List.append_nil]
 exact h
theorem mC {β : Type} (pr : Nat → Bool) (f : Nat → β) : bT 0 pr f = [] := rfl
abbrev ToldN (H0 H : Hp) (l : Addr) (xs : List (List V)) : Prop := bY j1 (fun a => a ≠ l ∧ H0 a = none) H l xs
theorem qE {H0 H2 : Hp} {l p : Addr} {vs us : List V} {xs ys : List (List V)} {P : Addr → Prop} (nl : H0 l = none) (g : aB H0 H2) (r : A2 (j1 (fun a => a ≠ l ∧ H0 a = none) H2) vs xs) (k : A2 (j1 P H2) us ys) (hP : ∀ a,P a → a ≠ l ∧ H0 a = none) :
  aB H0 (aD H2 l (.lst (vs ++ us))) ∧ ToldN H0 (aD H2 l (.lst (vs ++ us))) l (xs ++ ys) :=
 ⟨f9 g nl _,bY.ext (fun z => z.1 rfl) r (k.imp fun _ _ q => oo q hP)⟩
section
variable (C : Addr)
def jQ : Sp := fun vs H Q _ => ∃ (v : V) (z : Str) (w : Wy) (P0 : Addr → Prop),vs = [v,.str z] ∧ gX P0 H v w ∧ (∀ (u : Us) (a : Addr),fu w z = some u → P0 a → H a = some (.tup (qD u)) → Q (.ref a) H) ∧ (fu w z = none → Q .non H)
def iL : Sp := fun vs H Q _ => ∃ (t : Addr) (r : Rn) (n : Int),vs = [.ref t,.int n] ∧ H t = some (.tup ((rk r).map V.int)) ∧ Q (.bl (dS r n)) H
def dy : Sp := fun vs H Q _ => ∃ (t u : Addr) (r s : Rn),vs = [.ref t,.ref u] ∧ H t = some (.tup ((rk r).map V.int)) ∧ H u = some (.tup ((rk s).map V.int)) ∧ Q (.bl (cy r s)) H
def cS (f : Bool) (H : Hp) (x t : Addr) (Q : Tl → Tk → List Ky → List Ky → List Rn → List Int → Prop) : Prop := ∃ (D : Tl) (T : Tk) (A B : List Ky) (R : List Rn) (M : List Int),iH C f H x t D T A B R M ∧ Q D T A B R M
def hE : Sp := fun vs H Q _ => ∃ (x t : Addr) (i : Nat) (z : Str) (H0 : Hp),vs = [.ref x,.ref t,.int i,.str z] ∧ aB H0 H ∧ cS C true H0 x t fun D T A B R M => i < R.length ∧ (∀ (u : Us) (a : Addr),fu (bM T R i) z = some u → H0 a = some (.tup (qD u)) → Q (.ref a) H) ∧ (fu (bM T R i) z = none → Q .non H)
def gC : Sp := fun vs H Q _ => ∃ (x t : Addr),vs = [.ref x,.ref t] ∧ cS C true H x t fun D T A B R M => ∀ H',aB H H' → Q (.bl true) H'
def cg (F : Tk → List Ky → List Ky → List Rn → List Int → List (List V)) : Sp := fun vs H Q _ => ∃ (x t : Addr),vs = [.ref x,.ref t] ∧ cS C true H x t fun D T A B R M => ∀ (l : Addr) (H' : Hp),aB H H' → H l = none → ToldN H H' l (F T A B R M) → Q (.ref l) H'
def jR : Sp := fun vs H Q _ => ∃ (x t : Addr) (z : Str) (n : Int),vs = [.ref x,.ref t,.str z,.int n] ∧ cS C true H x t fun D T A B R M => ∀ H',aB H H' → Q (.int (ck T R z n R.length)) H'
def jS : Sp := fun vs H Q _ => ∃ (x t : Addr) (z : Str),vs = [.ref x,.ref t,.str z] ∧ cS C true H x t fun D T A B R M => z ∈ D.map (·.1) ∧ ∀ (l : Addr) (H' : Hp),aB H H' → H l = none → ToldN H H' l (dt D T R z) → Q (.ref l) H'
def jT : Sp := fun vs H Q _ => ∃ (x t : Addr) (z : Str),vs = [.ref x,.ref t,.str z] ∧ cS C true H x t fun D T A B R M => ∀ (l : Addr) (H' : Hp),aB H H' → H l = none → ToldN H H' l (de T R z) → Q (.ref l) H'
def eX : Sp := fun vs H Q _ => ∃ (x t : Addr),vs = [.ref x,.ref t] ∧ cS C false H x t fun D T A B R M => ∀ (ys : List Str) (l : Addr) (H' : Hp),ys.Perm (D.map (·.1)) → PyProof.Rows.sortedS ys = true → aB H H' → H l = none → ToldN H H' l (i5 ys D T A B R M) → Q (.ref l) H'
def jU : Sp := fun vs H Q _ => ∃ (x t : Addr),vs = [.ref x,.ref t] ∧ cS C false H x t fun D T A B R M => ∀ (ys : List Str) (H' : Hp),ys.Perm (D.map (·.1)) → PyProof.Rows.sortedS ys = true → aB H H' → Q (.bl (i5 ys D T A B R M).isEmpty) H'
end
end Sw
namespace L2
open PySem PySem.Spec PyProof.Rows XH Sw
theorem oy {a : Addr} {o : Obj} {kvs : List (Key × V)} {g : TG} {tb : TS} {D : Ends} {σ : St} {H : Hp} (Pv : Nat → St → Hp → Prop) (h0 : Pv 0 σ H) (hz : ∀ i σ H,i ≤ kvs.length → Pv i σ H → H a = some (.frz o (.dK kvs)))
  (hs : ∀ i k x σ H T,kvs[i]? = some (k,x) → Pv i σ H → H T = none → g (.ref T) σ (aD H T (.tup [kV k,x])) fun σ2 H2 => tb { D with nx := Pv (i + 1),ct := Pv (i + 1),bk := D.nx } σ2 H2) (hd : ∀ σ H,Pv kvs.length σ H → D.nx σ H) :
  ∃ W : Nat → Nat → St → Hp → Prop,(∃ m,W 0 m σ H) ∧ ∀ i m σ H,W i m σ H →
   ((Itm a o kvs).stop i H ∧ D.nx σ H) ∨ ((Itm a o kvs).go i H ∧ ∃ N : St → Hp → Prop,(∀ σ' H',N σ' H' → ∃ m',m' < m ∧ W (i + 1) m' σ' H') ∧ ∀ x H',(Itm a o kvs).yld i H x H' → g x σ H' fun σ2 H2 => tb { D with nx := N,ct := N,bk := D.nx } σ2 H2) := by
 refine ⟨fun i m σ H => m = kvs.length - i ∧ i ≤ kvs.length ∧ Pv i σ H,⟨kvs.length,by simp,Nat.zero_le _,h0⟩,?_⟩
 rintro i m σ H ⟨rfl,hi,p⟩
 by_cases hlt : i < kvs.length
 ·refine .inr ⟨⟨hz i σ H hi p,hlt⟩,Pv (i + 1),fun σ' H' p' => ⟨kvs.length - (i + 1),by omega,rfl,hlt,p'⟩,fun x H' y => ?_⟩
  obtain ⟨T,k,v,rfl,nT,hk,rfl⟩ := y
  exact hs i k v σ H T hk p nT
 ·have e : i = kvs.length := by omega
  subst e
  exact .inl ⟨⟨hz _ σ H hi p,rfl⟩,hd σ H p⟩
end L2
namespace Sw
open PySem L2 XH Hm
theorem fT {α : Type} (xs : List α) (d : α) : (List.range xs.length).map (fun i => xs.getD i d) = xs := by
 apply List.ext_getElem
 ·rw [List.length_map,List.length_range]
 ·intro i h1 h2
  rw [List.getElem_map,List.getElem_range,bf (List.getElem?_eq_getElem h2)]
theorem gD {α : Type} {n : Nat} (xs : List α) (d : α) (h : n = xs.length) : (List.range n).map (fun i => xs.getD i d) = xs := by
 subst h
 exact fT xs d
theorem jV {H : Hp} {td : Addr} {D : Tl} {z : Str} {m : Int} (e : Rd H td (.dK (a8 D))) (h : cE D z = some m) : lY H td (.str z) (some (.int m)) :=
 .inl ⟨_,.inr z,e,rfl,by rw [gn,h]; rfl⟩
theorem jW {us : List Us} {z : Str} : ∀ {us : List Us} {i : Nat} {e : Us},us[i]? = some e → e.1 = z → (∀ (j : Nat) (u : Us),j < i → us[j]? = some u → u.1 ≠ z) → us.find? (fun u => decide (u.1 = z)) = some e
 | [],i,e,h,_,_ => by simp at h
 | u :: us,0,e,h,hz,_ => by
  simp at h
  subst h
  rw [List.find?_cons,decide_eq_true hz]
 | u :: us,i + 1,e,h,hz,hn => by
  rw [List.find?_cons,decide_eq_false (hn 0 u (by omega) rfl)]
  exact jW (us := us) (by simpa using h) hz fun j v hj hv => hn (j + 1) v (by omega) (by simpa using hv)
theorem rO {z : Str} {us : List Us} (hn : ∀ (j : Nat) (u : Us),us[j]? = some u → u.1 ≠ z) : us.find? (fun u => decide (u.1 = z)) = none := by
 rw [List.find?_eq_none]
 intro u hu
 obtain ⟨j,hj⟩ := List.mem_iff_getElem?.mp hu
 simp [hn j u hj]
theorem mD {H : Hp} {T : Tk} {R : List Rn} {vs : List V} {bs : List Addr} (rT : A2 (dR An H) vs T) (rR : df (fun t k => H t = some (.tup (k.map V.int))) bs (R.map rk)) (pok : cN T R) {i : Nat} (il : i < R.length) :
  ∃ (wl b : Addr) (ts : List V) (v : V) (r : Rn) (j : Nat),vs[i]? = some (.ref wl) ∧ H wl = some (.lst ts) ∧ ts[j]? = some v ∧ gX An H v (bM T R i) ∧ bs[i]? = some b ∧ H b = some (.tup [.int r.1,.int r.2.1,.int r.2.2]) ∧ R[i]? = some r ∧ r.2.2 = (j : Int) ∧ R.getD i (0,0,0) = r := by
 have hr := List.getElem?_eq_getElem il
 have iT : i < T.length := by rw [← pok.len]; exact il
 have hT := List.getElem?_eq_getElem iT
 obtain ⟨b,hb,eb⟩ := run_get rR hr
 obtain ⟨y,hy,wl,rfl,_,ts,ew,rw'⟩ := rT.get hT
 have pk := pok.way i _ _ hr hT
 generalize R[i] = r at hr eb pk
 generalize T[i] = ws at hT rw' pk
 obtain ⟨j,hj⟩ : ∃ j : Nat,r.2.2 = (j : Int) := ⟨r.2.2.toNat,by omega⟩
 have hw := List.getElem?_eq_getElem (show j < ws.length by omega)
 obtain ⟨v,hv,q⟩ := rw'.get hw
 have e : bM T R i = ws[j]'(by omega) := by
  unfold bM
  rw [bf hT,bf hr,hj,Int.toNat_natCast,bf hw]
 exact ⟨wl,b,ts,v,r,j,hy,ew,hv,by rw [e]; exact q,hb,eb,hr,hj,bf hr⟩
def dU : RA (Option Us) := fun P H v o => match o with
 | none => v = .non
 | some u => dN P H v u
instance : Mv dU where
 mv := fun {P P' H H' v x} g h => by
  cases x with
  | none => exact h
  | some u => exact Mv.mv (R := dN) g h
theorem dU.isN {P : Addr → Prop} {H : Hp} {v : V} {o : Option Us} (h : dU P H v o) : (!decide (v = V.non)) = o.isSome := by
 cases o with
 | none =>
  have : v = .non := h
  rw [this]
  rfl
 | some u =>
  obtain ⟨t,rfl,_⟩ := (show dN P H v u from h)
  rfl
theorem lq {T : Tk} {R : List Rn} {z : Str} {k i : Nat} (h : (bz T R z)[k]? = some i) : i < R.length ∧ ∃ u,fu (bM T R i) z = some u := by
 have hm := List.mem_of_getElem? h
 unfold bz bT at hm
 rw [List.map_id,List.mem_filter] at hm
 exact ⟨List.mem_range.mp hm.1,Option.isSome_iff_exists.mp hm.2⟩
theorem iM (T : Tk) (R : List Rn) (z : Str) (us : List Nat) (n : Nat) : du T R z us (n + 1) = du T R z us n ++ cO T R z us n := by
 unfold du
 rw [List.range_succ,List.flatMap_append]
 simp
def bV (T : Tk) (R : List Rn) (z : Str) (us : List Nat) (k m : Nat) : List (List V) := (((us.drop (k + 1)).take m).filter (cF T R z (us.getD k 0))).map fun j => [.str "heat",.str z,.int (us.getD k 0 : Nat),.int (j : Nat)]
theorem fh (T : Tk) (R : List Rn) (z : Str) (us : List Nat) (k : Nat) : bV T R z us k 0 = [] := by simp [bV]
theorem fi {T : Tk} {R : List Rn} {z : Str} {us : List Nat} {k m j : Nat} (h : (us.drop (k + 1))[m]? = some j) : bV T R z us k (m + 1) = bV T R z us k m ++ (if cF T R z (us.getD k 0) j = true then [[.str "heat",.str z,.int (us.getD k 0 : Nat),.int (j : Nat)]] else []) := by
 unfold bV
 have e : (us.drop (k + 1)).take (m + 1) = (us.drop (k + 1)).take m ++ [j] := by
  rw [List.take_add_one,h]
  rfl
 rw [e,List.filter_append,List.map_append]
 congr 1
 rw [List.filter_cons,List.filter_nil]
 cases hb : cF T R z (us.getD k 0) j
 ·rfl
 ·rfl
theorem fU (T : Tk) (R : List Rn) (z : Str) (us : List Nat) (k : Nat) : bV T R z us k (us.drop (k + 1)).length = cO T R z us k := by
 unfold bV cO
 rw [List.take_length]
theorem fV (T : Tk) (R : List Rn) (z : Str) (us : List Nat) (k m : Nat) : (bV T R z us k m).length ≤ us.length := by
 unfold bV
 rw [List.length_map]
 refine Nat.le_trans (fg _ _) ?_
 rw [List.length_take,List.length_drop]
 omega
theorem lv {w : Wy} {z : Str} (h : fu w z = none) : dO w z = 0 := by unfold dO; rw [h]
theorem lC {w : Wy} {z : Str} {u : Us} (h : fu w z = some u) : dO w z = u.2.1 := by unfold dO; rw [h]
theorem lD {H0 H2 : Hp} {l a : Addr} {vs : List V} {xs : List (List V)} {b : List V} (nl : H0 l = none) (g : aB H0 H2) (e : H2 l = some (.lst vs)) (r : A2 (j1 (fun a => a ≠ l ∧ H0 a = none) H2) vs xs) (na : H2 a = none) :
  aB H0 (aD (aD H2 a (.tup b)) l (.lst (vs ++ [.ref a]))) ∧ ToldN H0 (aD (aD H2 a (.tup b)) l (.lst (vs ++ [.ref a]))) l (xs ++ [b]) := by
 have ga := ag na (.tup b)
 exact ⟨f9 (g.trans ga) nl _,bY.put (fun z => z.1 rfl) (r.imp fun _ _ q => gk q ga) ⟨a,rfl,⟨(fun z => by rw [z,e] at na; cases na),g.free na⟩,aj⟩⟩
theorem dG {H H1 H2 : Hp} {l p : Addr} {xs ys : List (List V)} (nl : H l = none) (g1 : aB H H1) (h1 : ToldN H H1 l xs) (g2 : aB H1 H2) (np : H1 p = none) (h2 : ToldN H1 H2 p ys) :
  ∃ vs us : List V,H1 l = some (.lst vs) ∧ H2 l = some (.lst vs) ∧ H2 p = some (.lst us) ∧ vs.length = xs.length ∧ us.length = ys.length ∧ aB H (aD H2 l (.lst (vs ++ us))) ∧ ToldN H (aD H2 l (.lst (vs ++ us))) l (xs ++ ys) := by
 obtain ⟨vs,e,r⟩ := h1
 obtain ⟨us,e2,r2⟩ := h2
 refine ⟨vs,us,e,g2 _ _ e,e2,r.1,r2.1,qE (p := p) nl (g1.trans g2) (r.imp fun _ _ q => gk q g2) r2 fun a h => ⟨fun z => ?_,g1.free h.2⟩⟩
 have := h.2
 rw [z,e] at this
 cases this
theorem fv (D : Tl) : (a8 D).map (·.1) = (D.map (·.1)).map (fun y => (.inr y : Key)) := by
 unfold a8
 rw [List.map_map,List.map_map]
 rfl
theorem eY {α β : Type} {f : α → List β} {l : List α} {i : Nat} {a : α} (h : l[i]? = some a) : (l.take (i + 1)).flatMap f = (l.take i).flatMap f ++ f a := by
 rw [List.take_add_one,h,List.flatMap_append]
 simp
theorem nc {T : Tk} {R : List Rn} {z : Str} {i j : Nat} {u v : Us} {r s : Rn} (hu : fu (bM T R i) z = some u) (hv : fu (bM T R j) z = some v) (hr : R[i]? = some r) (hs : R[j]? = some s) : cF T R z i j = ((!decide (u.2.2 = v.2.2)) && cy r s) := by
 unfold cF
 rw [hu,hv,bf hr,bf hs]
open PyProof.Rows So
end Sw
namespace L2
open PySem PySem.Spec PyProof.Rows XH Sw
end L2
namespace Sw
open PySem L2 XH PyProof.Rows
end Sw
namespace L2
open PySem PySem.Spec PyProof.Rows XH Sw
section
variable {X : Cx} {es es' : List Expr} {t t' : TA} {p : Pos} 
end
section
variable {X : Cx} {k j : Nat} {f C : Addr} {ps : List Str} {sp : Sp} {dvs : List V} {x m : Str} {p pos apos : Pos} {e o : Expr} {es : List Expr} {ta tb : TE} {t : TA} {E : L2.St → XK}
end
section
variable {X : Cx} {pins : List (Addr × Obj)} {σ : St} {H : Hp} {s : Shared}
end
end L2
namespace Sw
open PySem L2 XH PyProof.Rows
def Lt (z : Str) : Prop := ∀ c ∈ sL z,97 ≤ c ∧ c ≤ 122
theorem Lt.app {x y : Str} (h : Lt x) (k : Lt y) : Lt (x ++ y) := fun c hc => by
 rw [tf] at hc
 rcases List.mem_append.mp hc with q | q
 ·exact h c q
 ·exact k c q
theorem Lt.cut {x : Str} (h : Lt x) (lo hi : Option Int) : Lt (fo x lo hi) := fun c hc => by
 have hc' : c ∈ ((sL x).drop (HT.dh x.length 0 lo)).take (HT.dh x.length x.length hi - HT.dh x.length 0 lo) := by simpa [sL,fo] using hc
 exact h c (List.mem_of_mem_drop (List.mem_of_mem_take hc'))
theorem Lt.nil : Lt "" := fun c hc => by
 have : c ∈ ([] : List Nat) := hc
 simp at this
theorem Lt.one {c : Nat} (h : 97 ≤ c ∧ c ≤ 122) : Lt ⟨#[c]⟩ := fun d hd => by
 have : d ∈ [c] := hd
 rw [List.mem_singleton.mp this]
 exact h
theorem rQ {x : Str} {i : Int} (h : 0 ≤ i) : (fo x none (some i)).length = min i.toNat x.length := by
 have e1 : HT.dh x.length 0 none = 0 := rfl
 have e2 : HT.dh x.length x.length (some i) = min i.toNat x.length := by
  unfold HT.dh
  simp
  omega
 show ((x.cps.toList.drop _).take _).toArray.size = _
 rw [e1,e2,List.size_toArray,List.length_take,List.length_drop]
 have : x.cps.toList.length = x.length := by simp [Str.length]
 omega
theorem rS {x : Str} {i : Int} (h : 0 ≤ i) : (fo x (some i) none).length = x.length - i.toNat := by
 have e1 : HT.dh x.length 0 (some i) = min i.toNat x.length := by
  unfold HT.dh
  simp
  omega
 have e2 : HT.dh x.length x.length none = x.length := rfl
 show ((x.cps.toList.drop _).take _).toArray.size = _
 rw [e1,e2,List.size_toArray,List.length_take,List.length_drop]
 have : x.cps.toList.length = x.length := by simp [Str.length]
 omega
theorem Lt.nm {z : Str} (h : Lt z) (h1 : 1 ≤ z.length) (h2 : z.length ≤ 12) : Nm z := ⟨by rw [jC]; exact h1,by rw [jC]; exact h2,h⟩
end Sw
namespace L2
open PySem PySem.Spec PyProof.Rows XH Sw
theorem rV {X : Cx} : dW X (binaryOp .Mult) (fun x y H Q => ∃ z n,x = .str z ∧ y = .int n ∧ z.length ≤ 16 ∧ 0 ≤ n ∧ n ≤ 1048576 ∧ Q (.str (Txt.mul z n)) H) := by
 intro pins s σ H x y v u Q I rx ry h
 obtain ⟨z,n,rfl,rfl,hz,h0,hn,q⟩ := h
 obtain ⟨t,rfl⟩ := rx
 obtain ⟨t',rfl⟩ := ry
 exact SB.mul (mulOk_of 16 1048576 hz hn (by omega) (by decide) (by decide)) fun t' k => ⟨.str _,H,I.tok _,⟨_,rfl⟩,q⟩
end L2
namespace Sw
open PySem L2 XH Hm PySem.NumText
theorem rW {z : Str} {n : Int} (h : 0 ≤ n) : ((Txt.mul z n).length : Int) = (z.length : Int) * n := by
 have := PyProof.Rows.len_mul z n
 rw [this,if_neg (by simp; omega)]
theorem jo (c : Nat) (h : 97 ≤ c ∧ c ≤ 122) : ∀ (n : Nat) (a : Array Nat),(∀ x ∈ a.toList,97 ≤ x ∧ x ≤ 122) → ∀ x ∈ ((List.replicate n #[c]).foldl (· ++ ·) a).toList,97 ≤ x ∧ x ≤ 122
 | 0,a,ha,x,hx => ha x hx
 | n + 1,a,ha,x,hx => by
  rw [List.replicate_succ,List.foldl_cons] at hx
  refine jo c h n (a ++ #[c]) (fun y hy => ?_) x hx
  rw [Array.toList_append,List.mem_append] at hy
  rcases hy with q | q
  ·exact ha y q
  ·simp at q
   rw [q]
   exact h
theorem Lt.mul {c : Nat} (h : 97 ≤ c ∧ c ≤ 122) (n : Int) : Lt (Txt.mul ⟨#[c]⟩ n) := by
 unfold Txt.mul
 split
 ·exact Lt.nil
 ·split
  ·exact Lt.one h
  ·intro x hx
   exact jo c h _ #[] (fun y hy => by simp at hy) x hx
def cZ (n : Nat) (D : Tl) : Prop := D.length ≤ n ∧ (D.map (·.1)).Nodup ∧ ∀ p ∈ D,Nm p.1 ∧ 1 ≤ p.2 ∧ p.2 ≤ 8
theorem cZ.put {n : Nat} {D : Tl} {z : Str} {m : Int} (h : cZ n D) (hz : Nm z) (m1 : 1 ≤ m) (m8 : m ≤ 8) : ∃ E : Tl,putK (a8 D) (.inr z) (.int m) = a8 E ∧ cZ (n + 1) E := by
 obtain ⟨E,e,nd,l,_,k⟩ := ot (D := D) (z := z) (n := m)
 refine ⟨E,e,by have := h.1; omega,nd h.2.1,fun p hp => ?_⟩
 rcases k p hp with q | q
 ·exact h.2.2 p q
 ·rw [q]
  exact ⟨hz,m1,m8⟩
theorem uK {i : Int} (h0 : 0 ≤ i) (h : i < 2) : ∃ c,fb (Str.ofString "az").cps.toList i = some c ∧ 97 ≤ c ∧ c ≤ 122 := by
 have : i = ((0 : Nat) : Int) ∨ i = ((1 : Nat) : Int) := by omega
 rcases this with e | e
 ·rw [e]; exact ⟨97,aL (by decide),by decide,by decide⟩
 ·rw [e]; exact ⟨122,aL (by decide),by decide,by decide⟩
theorem tG {i : Nat} (h : i < 3) : ∃ c,fb (Str.ofString "mfs").cps.toList (0 + (i : Int)) = some c ∧ 97 ≤ c ∧ c ≤ 122 := by
 rw [Int.zero_add]
 have : i = 0 ∨ i = 1 ∨ i = 2 := by omega
 rcases this with e | e | e
 ·rw [e]; exact ⟨109,aL (by decide),by decide,by decide⟩
 ·rw [e]; exact ⟨102,aL (by decide),by decide,by decide⟩
 ·rw [e]; exact ⟨115,aL (by decide),by decide,by decide⟩
end Sw
namespace L2
open PySem PySem.Spec PyProof.Rows XH Sw
theorem ng : ∀ {xs : List V} {us : List Value},xs.length = us.length → (∀ (j : Nat) (x : V) (u : Value),xs[j]? = some x → us[j]? = some u → RelV x u) → bh xs us
 | [],[],_,_ => .nil
 | x :: xs,u :: us,h,f => .cons (f 0 x u rfl rfl) (ng (by simpa using h) fun j y w e1 e2 => f (j + 1) y w (by simpa using e1) (by simpa using e2))
 | [],_ :: _,h,_ => by simp at h
 | _ :: _,[],h,_ => by simp at h
theorem mE {X : Cx} (hc : X.calm = true) : cu X (.type "list") (fun xs H Q => ∃ (d : Addr) (kvs : List (Key × V)),xs = [.ref d] ∧ H d = some (.dK kvs) ∧ ∀ l,H l = none → Q (.ref l) (aD H l (.lst (kvs.map fun p => kV p.1)))) := by
 intro pins s σ H xs us Q I r h
 obtain ⟨d,kvs,rfl,hk,q⟩ := h
 obtain ⟨u,rfl,ru⟩ := vals1 r
 cases ru
 obtain ⟨z,hS,ws,rel,D⟩ := ig I.hok hk
 obtain ⟨ep,hat⟩ := D.dictAt
 refine PySem.W.kdl_call (PySem.W.kdl_dict (knd := aF X.prog X.w) (kvs := ws) (ep := ep) hS) (I.ok.hd hc) hat (by rw [← rel.length]; exact z) fun h' tk acc' c' kp hS' hacc => ?_
 have hv : bh (kvs.map fun p => kV p.1) acc'.toList := ng (by
   have el : acc'.toList.length = acc'.size := by simp
   rw [List.length_map,el,hacc.1,rel.length]) fun j x u e1 e2 => by
  rw [List.getElem?_map] at e1
  obtain ⟨⟨k,v⟩,e3,rfl⟩ := Option.map_eq_some_iff.mp e1
  obtain ⟨k',x',e4,e5⟩ := hacc.2 j u (by rw [← Array.getElem?_toList]; exact e2)
  obtain ⟨u',e6,_⟩ := qi rel j e3
  rw [e6] at e4
  cases e4
  exact mS e5
 exact ⟨.ref s.heap.objs.size,_,I.laid (t' := tk) kp (Nat.le_refl _) (show bD X.prog X.w _ h' _ (.lst _) from ⟨by rw [List.length_map]; exact z,acc'.toList,c',hv,by simpa using hS'⟩),rfl,q _ (I.hok.fresh (Nat.le_refl _))⟩
end L2
namespace Sw
open PySem L2 XH Hm
theorem A2.rev {α : Type} {R : V → α → Prop} {vs : List V} {xs : List α} (h : A2 R vs xs) : A2 R vs.reverse xs.reverse := by
 refine ⟨by simp [h.1],fun i v x e1 e2 => ?_⟩
 have il : i < vs.length := by
  have := (List.getElem?_eq_some_iff.mp e1).1
  simpa using this
 rw [List.getElem?_reverse il] at e1
 rw [List.getElem?_reverse (by rw [← h.1]; exact il),← h.1] at e2
 exact h.2 _ v x e1 e2
def wb (x : V) : Prop := (∃ z,x = .str z) ∨ ∃ i,x = .int i
def jX : Sp := fun vs H Q _ => ∃ (l m : Addr) (xs : List (List V)),vs = [.ref l,.ref m] ∧ bY j1 An H l xs ∧ bY j1 An H m xs ∧ (∀ x ∈ xs,x.length ≤ 10 ∧ ∀ y ∈ x,wb y) ∧ ∀ H',aB H H' → Q (.bl true) H'
theorem wb.smp {x : V} (h : wb x) : v8 x := by
 rcases h with ⟨z,rfl⟩ | ⟨i,rfl⟩ <;> trivial
end Sw
namespace L2
open PySem PySem.Spec PyProof.Rows XH Sw Hm
section
variable {X : Cx}
end
section
variable {X : Cx} {e : Expr} {te : TE} {p1 p2 pos pos2 : Pos}
end
end L2
namespace Sw
open PySem L2 XH Hm
section
variable (C : Addr)
end
section
variable (C : Addr)
end
end Sw
namespace L2
open PySem PySem.Spec PyProof.Rows XH Sw
section
variable {X : Cx} {pins : List (Addr × Obj)} {σ : St} {H : Hp} {s : Shared}
end
end L2
namespace Sw
open PySem L2 XH Hm
section
variable (C : Addr)
end
structure oz (D : Tl) (k : Nat) (us : List Us) : Prop where
 len : us.length ≤ k
 nd : (us.map (·.1)).Nodup
 use : ∀ e ∈ us,∃ (j : Nat) (m : Int),j < k ∧ D[j]? = some (e.1,m) ∧ 1 ≤ e.2.1 ∧ e.2.1 ≤ m ∧ 0 ≤ e.2.2 ∧ e.2.2 ≤ 1000000000
theorem oz.nil (D : Tl) : oz D 0 [] := ⟨Nat.le_refl _,List.nodup_nil,fun e h => by cases h⟩
theorem oz.skip {D : Tl} {k : Nat} {us : List Us} (h : oz D k us) : oz D (k + 1) us := ⟨by have := h.len; omega,h.nd,fun e he => let ⟨j,m,a,b⟩ := h.use e he; ⟨j,m,by omega,b⟩⟩
theorem oz.put {D : Tl} {k : Nat} {us : List Us} {z : Str} {n m t : Int} (h : oz D k us) (dn : (D.map (·.1)).Nodup) (hk : D[k]? = some (z,m)) (n1 : 1 ≤ n) (n2 : n ≤ m) (t0 : 0 ≤ t) (t1 : t ≤ 1000000000) : oz D (k + 1) (us ++ [(z,n,t)]) := by
 refine ⟨by rw [List.length_append]; have := h.len; simp; omega,?_,fun e he => ?_⟩
 ·rw [List.map_append,List.map_cons,List.map_nil,List.nodup_append]
  refine ⟨h.nd,by simp,fun a ha b hb e => ?_⟩
  have hb' : b = z := by simpa using hb
  obtain ⟨u,hu,rfl⟩ := List.mem_map.mp ha
  obtain ⟨j,m',jk,hj,_⟩ := h.use u hu
  have h1 : (D.map (·.1))[j]? = some z := by rw [List.getElem?_map,hj,← hb',← e]; rfl
  have h2 : (D.map (·.1))[k]? = some z := by rw [List.getElem?_map,hk]; rfl
  obtain ⟨l1,e1⟩ := List.getElem?_eq_some_iff.mp h1
  obtain ⟨l2,e2⟩ := List.getElem?_eq_some_iff.mp h2
  have := (List.getElem_inj dn (h₀ := l1) (h₁ := l2)).mp (by rw [e1,e2])
  omega
 ·rcases List.mem_append.mp he with q | q
  ·obtain ⟨j,m',a,b⟩ := h.use e q
   exact ⟨j,m',by omega,b⟩
  ·rw [List.mem_singleton.mp q]
   exact ⟨k,m,by omega,hk,n1,n2,t0,t1⟩
theorem oz.ok {D : Tl} {k : Nat} {us vs : List Us} (h : oz D k us) (k3 : k ≤ 3) (dn : (D.map (·.1)).Nodup) (e : vs = us ∨ vs = us.reverse) : rN D vs := by
 have hl := h.len
 have mem : ∀ u,u ∈ vs → u ∈ us := fun u hu => by
  rcases e with e | e
  ·rw [← e]; exact hu
  ·rw [e,List.mem_reverse] at hu; exact hu
 refine ⟨?_,?_,fun u hu => ?_⟩
 ·rcases e with e | e
  ·rw [e]; exact h.nd
  ·rw [e,List.map_reverse]; exact ((List.reverse_perm (us.map (·.1))).nodup_iff).mpr h.nd
 ·rcases e with e | e
  ·rw [e]; omega
  ·rw [e,List.length_reverse]; omega
 ·obtain ⟨j,m,_,hj,a,b,c,d⟩ := h.use u (mem u hu)
  exact ⟨m,eV dn (List.mem_of_getElem? hj),a,b,c,d⟩
open PySem.NumText
theorem qF {γ : Type} {p : γ → Prop} {f : γ → V} : ∀ {vs : List V},(∀ v ∈ vs,∃ c,p c ∧ v = f c) → ∃ cs : List γ,vs = cs.map f ∧ ∀ c ∈ cs,p c
 | [],_ => ⟨[],rfl,fun c hc => by cases hc⟩
 | v :: r,h => by
  obtain ⟨cs,e,k⟩ := qF (vs := r) fun w hw => h w (List.mem_cons_of_mem _ hw)
  obtain ⟨c,pc,e0⟩ := h v (by simp)
  refine ⟨c :: cs,by rw [e,e0]; rfl,fun d hd => ?_⟩
  rcases List.mem_cons.mp hd with z | z
  ·rw [z]; exact pc
  ·exact k d z
def uL {γ : Type} (p : γ → Prop) (f : γ → V) : RA Unit := fun _ _ v _ => ∃ c,p c ∧ v = f c
instance {γ : Type} (p : γ → Prop) (f : γ → V) : Mv (uL p f) := ⟨fun _ h => h⟩
end Sw
namespace L2
open PySem
end L2
namespace Sw
open PySem L2 XH Hm PySem.NumText
end Sw
namespace L2
open PySem
end L2
namespace Sw
open PySem L2 XH Hm PySem.NumText
section
variable {f : Int} {n0 n1 : Str} {m0 m1 : Int} {hs1 hs2 : List Int} {T : Tk} {R : List Rn} {M : List Int}
end
end Sw
namespace L2
open PySem
end L2
namespace Sw
open PySem L2 XH Hm PySem.NumText
theorem uM {P : Addr → Prop} {H : Hp} {l : Addr} {ks : List Ky} (h : bY (mx fun k : Ky => k.map V.int) P H l ks) : bu H l ks := by
 obtain ⟨vs,e,r⟩ := h
 obtain ⟨as,ea,_⟩ := qF (p := fun _ : Addr => True) (f := V.ref) (vs := vs) fun v hv => by
  obtain ⟨i,hi⟩ := List.mem_iff_getElem?.mp hv
  obtain ⟨k,_,t,e,_⟩ := r.at_ hi
  exact ⟨t,trivial,e⟩
 subst ea
 refine ⟨as,e,⟨by rw [← r.1,List.length_map],fun i a k e1 e2 => ?_⟩⟩
 obtain ⟨t,et,_,h⟩ := r.2 i (.ref a) k (by rw [List.getElem?_map,e1]; rfl) e2
 injection et with et
 rw [et]
 exact h
end Sw
namespace L2
open PySem PySem.Spec PyProof.Rows XH
end L2
namespace Sw
open PySem L2 XH Hm PySem.NumText
def uN (H0 : Hp) : RA Wy := fun P H v w => ∃ t u : Addr,v = .ref t ∧ P t ∧ P u ∧ H0 u = none ∧ H t = some (.tup [.int w.1,.int w.2.1,.ref u]) ∧ bY dN P H u w.2.2
instance (H0 : Hp) : Mv (uN H0) where
 mv := fun {P P' H H' v x} g h => by
  obtain ⟨t,u,rfl,p,p2,n0,e,vs,e2,r⟩ := h
  obtain ⟨q,e'⟩ := g t _ p rfl e
  obtain ⟨q2,e2'⟩ := g u _ p2 rfl e2
  exact ⟨t,u,rfl,q,q2,n0,e',vs,e2',r.imp fun _ _ k => Mv.mv g k⟩
theorem rX (u : Us) : jM (qD u) := fun x hx => by
 unfold qD at hx
 simp only [List.mem_cons,List.not_mem_nil,or_false] at hx
 rcases hx with rfl | rfl | rfl <;> trivial
theorem rY {K : PySem.W.Frag} {P P' : Addr → Prop} {H : Hp} {v v' : V} {w : Wy} (h : gX P H v w) (k : gX P' H v' w) : oa K H 3 v v' := by
 obtain ⟨t,u,rfl,_,_,e,us,eu,ru⟩ := h
 obtain ⟨t',u',rfl,_,_,e',us',eu',ru'⟩ := k
 refine .inr ⟨t,t',_,_,rfl,rfl,.inl ⟨bc.of e,bc.of e'⟩,⟨.inl (.inl ⟨rfl,trivial⟩),.inl (.inl ⟨rfl,trivial⟩),.inr ⟨u,u',_,_,rfl,rfl,.inr ⟨az.of eu,az.of eu'⟩,?_⟩,trivial⟩⟩
 exact jN (R := dN) (fun a b x _ h1 h2 => mZ (rX x) h1 h2) ru ru'
theorem lE (k : Ky) : jM (k.map V.int) := fun x hx => by
 obtain ⟨i,_,rfl⟩ := List.mem_map.mp hx
 trivial
theorem iN {K : PySem.W.Frag} {H : Hp} {as bs : List Addr} {A : List Ky} (h : df (fun t k => H t = some (.tup (k.map V.int))) as A) (k : df (fun t k => H t = some (.tup (k.map V.int))) bs A) : gW (oa K H 1) (as.map V.ref) (bs.map V.ref) := by
 refine hC (by rw [List.length_map,List.length_map,h.1,k.1]) fun i x y h1 h2 => ?_
 obtain ⟨a,ha,rfl⟩ := cf h1
 obtain ⟨b,hb,rfl⟩ := cf h2
 have il : i < A.length := by rw [← h.1]; exact (List.getElem?_eq_some_iff.mp ha).1
 have hA := List.getElem?_eq_getElem il
 exact .inr ⟨a,b,_,_,rfl,rfl,.inl ⟨bc.of (h.2 i a _ ha hA),bc.of (k.2 i b _ hb hA)⟩,iD (lE _)⟩
end Sw
namespace L2
open PySem PySem.Spec PyProof.Rows XH Sw Hm
end L2
namespace Sw
open PySem L2 XH Hm PySem.NumText
open PyProof.Rows So
theorem rZ {X : Cx} (hu : X.A.units + 1 < cLine) : dW X (compareOp .Eq) (fun x y H Q => ∃ (a b : Addr) (D : Tl),x = .ref a ∧ y = .ref b ∧ H a = some (.dK (a8 D)) ∧ H b = some (.dK (a8 D)) ∧ (D.map (·.1)).Nodup ∧ Q (.bl true) H) := by
 intro pins s σ H x y v u Q I rx ry h
 obtain ⟨a,b,D,rfl,rfl,e1,e2,nd,hq⟩ := h
 cases rx
 cases ry
 obtain ⟨z1,s1,w1,k1,o1⟩ := ig I.hok e1
 obtain ⟨z2,s2,w2,k2,o2⟩ := ig I.hok e2
 refine rC s1 s2 o1 o2 (Nat.lt_of_succ_lt hu) (by rw [← k1.length,← k2.length]) (fun i k v hv => ?_) ⟨.bl true,H,I,rfl,hq⟩
 obtain ⟨⟨k',v'⟩,hk,rfl,rv⟩ := gb k1 hv
 obtain ⟨p,hp,rfl,rfl⟩ := kZ hk
 have ro := k2.val (.inr p.1)
 rw [gn,eV nd (show (p.1,p.2) ∈ D from List.mem_of_getElem? hp)] at ro
 obtain ⟨u',hu',ru⟩ := fE.some_of ro
 refine ⟨_,hu',fun E Q q => ?_⟩
 exact ko (v := .int p.2) trivial rv ru _ _ E Q q
def tH (bad : Nat → Nat → Bool) (row : Nat → Nat → List V) : List Nat → List (List V)
 | [] => []
 | i :: r => (r.filter (bad i)).map (row i) ++ tH bad row r
theorem iO (T : Tk) (R : List Rn) (z : Str) : ∀ us : List Nat,du T R z us us.length = tH (cF T R z) (fun i j => [.str "heat",.str z,.int (i : Nat),.int (j : Nat)]) us
 | [] => rfl
 | i :: r => by
  have ih := iO T R z r
  unfold du at ih ⊢
  rw [List.length_cons,List.range_succ_eq_map,List.flatMap_cons,List.flatMap_map]
  show cO T R z (i :: r) 0 ++ (List.range r.length).flatMap (fun k => cO T R z (i :: r) (k + 1)) = _
  have e : (List.range r.length).flatMap (fun k => cO T R z (i :: r) (k + 1)) = (List.range r.length).flatMap (cO T R z r) := rfl
  rw [e,ih]
  rfl
theorem iP {bad : Nat → Nat → Bool} {row : Nat → Nat → List V} {p : Nat → Bool} (h : ∀ i j,bad i j = true → p i = true ∧ p j = true) : ∀ l : List Nat,tH bad row (l.filter p) = tH bad row l
 | [] => rfl
 | i :: r => by
  have ih := iP (row := row) h r
  rw [List.filter_cons]
  cases hp : p i with
  | true =>
   rw [if_pos rfl]
   show ((r.filter p).filter (bad i)).map (row i) ++ tH bad row (r.filter p) = (r.filter (bad i)).map (row i) ++ tH bad row r
   rw [ih,List.filter_filter]
   congr 2
   apply List.filter_congr
   intro j _
   cases hb : bad i j with
   | false => rw [Bool.false_and]
   | true => rw [(h i j hb).2,Bool.true_and]
  | false =>
   rw [if_neg (by decide),ih]
   show _ = (r.filter (bad i)).map (row i) ++ tH bad row r
   have : r.filter (bad i) = [] := by
    rw [List.filter_eq_nil_iff]
    intro j _ hb
    have := (h i j hb).1
    rw [hp] at this
    cases this
   rw [this]
   rfl
theorem qG (T : Tk) (R : List Rn) (z : Str) : du T R z (List.range R.length) R.length = de T R z := by
 have h1 := iO T R z (List.range R.length)
 rw [List.length_range] at h1
 rw [h1]
 unfold de
 rw [iO]
 have : bz T R z = (List.range R.length).filter fun i => (fu (bM T R i) z).isSome := by
  unfold bz bT
  rw [List.map_id]
 rw [this,iP fun i j hb => ?_]
 unfold cF at hb
 cases h1 : fu (bM T R i) z with
 | none => rw [h1] at hb; cases hb
 | some u =>
  cases h2 : fu (bM T R j) z with
  | none => rw [h1,h2] at hb; cases hb
  | some v => exact ⟨rfl,rfl⟩
def r8 (D : Tl) (w : Wy) : Prop := w.1 = 1 ∧ w.2.1 = 1000000000 ∧ rN D w.2.2
def gG : Sp := fun vs H Q _ => ∃ c : Int,vs = [.int c] ∧ ∀ (td : Addr) (D : Tl) (H' : Hp),aB H H' → H td = none → H' td = some (.dK (a8 D)) → cZ 3 D → Q (.ref td) H'
def jY : Sp := fun vs H Q _ => ∃ (l td : Addr) (ns : List Int) (D : Tl) (b : Bool),vs = [.ref l,.ref td,.bl b] ∧ H l = some (.lst (ns.map V.int)) ∧ ns.length = 4 ∧ (∀ z ∈ ns,uH z) ∧ H td = some (.dK (a8 D)) ∧ cZ 3 D ∧ ∀ (v : V) (w : Wy) (H' : Hp),aB H H' → gX (fun a => H a = none) H' v w → r8 D w → Q v H'
def sd (us : List Us) (z : Str) : Option Us := us.find? fun e => decide (e.1 = z)
def hG : Sp := fun vs H Q _ => ∃ (u : Addr) (z : Str) (us : List Us) (P0 : Addr → Prop),vs = [.ref u,.str z] ∧ bY dN P0 H u us ∧ ∀ v,dU P0 H v (sd us z) → Q v H
def UF (T : Tk) (R : List Rn) : List (List Us) := (List.range R.length).map fun i => (bM T R i).2.2
theorem ss {T : Tk} {R : List Rn} {i : Nat} (h : i < R.length) : (UF T R)[i]? = some (bM T R i).2.2 := by
 unfold UF
 rw [List.getElem?_map,List.getElem?_range h]
 rfl
def tO (R : List Rn) (i : Nat) : Bool := decide ((R.getD i (0,0,0)).1 < 0 ∨ (R.getD i (0,0,0)).2.1 - (R.getD i (0,0,0)).1 < 1)
def cI (R : List Rn) (n : Nat) : List (List V) := bT n (tO R) fun i => [.str "turns",.int (i : Nat)]
def qH (R : List Rn) (M : List Int) (A B : List Ky) : List (List V) := cI R R.length ++ gw M M.length ++ cm A R M A.length ++ cb B R B.length
def nh (n : Nat) (B : List Ky) : Prop := ∀ k ∈ B,∃ p q : Int,k = [p,q] ∧ 0 ≤ p ∧ p < (n : Int) ∧ 0 ≤ q ∧ q < (n : Int)
structure dQ (H : Hp) (rl ml al pl : Addr) (R : List Rn) (M : List Int) (A B : List Ky) : Prop where
 runs : bu H rl (R.map rk)
 r24 : R.length ≤ 24
 mom : H ml = some (.lst (M.map V.int))
 m8 : M.length ≤ 8
 arcs : bu H al A
 a600 : A.length ≤ 600
 aok : ∀ k ∈ A,mV (2 * (R.length : Int) + M.length) k
 apart : bu H pl B
 b300 : B.length ≤ 300
 bok : nh R.length B
theorem dQ.same {H H' : Hp} {rl ml al pl : Addr} {R : List Rn} {M : List Int} {A B : List Ky} (h : dQ H rl ml al pl R M A B) (g : aB H H') : dQ H' rl ml al pl R M A B := ⟨h.runs.same g,h.r24,g _ _ h.mom,h.m8,h.arcs.same g,h.a600,h.aok,h.apart.same g,h.b300,h.bok⟩
def fy : Sp := fun vs H Q _ => ∃ (rl ml al pl : Addr) (R : List Rn) (M : List Int) (A B : List Ky),vs = [.ref rl,.ref ml,.ref al,.ref pl] ∧ dQ H rl ml al pl R M A B ∧ ∀ (l : Addr) (H' : Hp),aB H H' → bY j1 An H' l (qH R M A B) → Q (.ref l) H'
structure gH (H : Hp) (rl ul td : Addr) (D : Tl) (T : Tk) (R : List Rn) : Prop where
 runs : bu H rl (R.map rk)
 r24 : R.length ≤ 24
 uses : bY (kU dN) An H ul (UF T R)
 tools : H td = some (.dK (a8 D))
 tok : cZ 3 D
theorem gH.same {H H' : Hp} {rl ul td : Addr} {D : Tl} {T : Tk} {R : List Rn} (h : gH H rl ul td D T R) (g : aB H H') : gH H' rl ul td D T R := ⟨h.runs.same g,h.r24,h.uses.same g,g _ _ h.tools,h.tok⟩
def fA : Sp := fun vs H Q _ => ∃ (rl ul td : Addr) (D : Tl) (T : Tk) (R : List Rn),vs = [.ref rl,.ref ul,.ref td] ∧ gH H rl ul td D T R ∧ ∀ (ys : List Str) (l : Addr) (H' : Hp),ys.Perm (D.map (·.1)) → PyProof.Rows.sortedS ys = true → aB H H' → bY j1 An H' l (ys.flatMap (dt D T R)) → Q (.ref l) H'
def fB : Sp := fun vs H Q _ => ∃ (rl ul td : Addr) (D : Tl) (T : Tk) (R : List Rn),vs = [.ref rl,.ref ul,.ref td] ∧ gH H rl ul td D T R ∧ ∀ (ys : List Str) (l : Addr) (H' : Hp),ys.Perm (D.map (·.1)) → PyProof.Rows.sortedS ys = true → aB H H' → bY j1 An H' l (ys.flatMap (de T R)) → Q (.ref l) H'
structure Made (H : Hp) (mt td tl al pl : Addr) (D : Tl) (T : Tk) (A B : List Ky) : Prop where
 tup : H mt = some (.tup [.ref td,.ref tl,.ref al,.ref pl])
 tools : H td = some (.dK (a8 D))
 tok : cZ 3 D
 tasks : bY dR An H tl T
 arcs : bu H al A
 apart : bu H pl B
theorem Made.same {H H' : Hp} {mt td tl al pl : Addr} {D : Tl} {T : Tk} {A B : List Ky} (h : Made H mt td tl al pl D T A B) (g : aB H H') : Made H' mt td tl al pl D T A B := ⟨g _ _ h.tup,g _ _ h.tools,h.tok,h.tasks.same g,h.arcs.same g,h.apart.same g⟩
def tI (ys : List Str) (D : Tl) (T : Tk) (A B : List Ky) (R : List Rn) (M : List Int) : List (List V) := qH R M A B ++ ys.flatMap (dt D T R) ++ ys.flatMap (de T R)
def jZ : Sp := fun vs H Q _ => ∃ (mt td tl al pl rl ml : Addr) (D : Tl) (T : Tk) (A B : List Ky) (R : List Rn) (M : List Int),vs = [.ref mt,.ref rl,.ref ml] ∧ Made H mt td tl al pl D T A B ∧ dQ H rl ml al pl R M A B ∧ cN T R ∧ ∀ (ys : List Str) (l : Addr) (H' : Hp),ys.Perm (D.map (·.1)) → PyProof.Rows.sortedS ys = true → aB H H' → bY j1 An H' l (tI ys D T A B R M) → Q (.ref l) H'
def eM : Sp := fun vs H Q _ => ∃ (rl : Addr) (R : List Rn),vs = [.ref rl] ∧ bu H rl (R.map rk) ∧ ∀ H',aB H H' → Q (.bl true) H'
structure uO (C : Addr) (H : Hp) (x mt td tl al pl : Addr) (D : Tl) (T : Tk) (A B : List Ky) (m : Nat) : Prop where
 net : iF C false H x D T A B (m : Int)
 ok : jO D T A B (m : Int)
 made : Made H mt td tl al pl D T A B
 way : ∀ ws ∈ T,∀ w ∈ ws,w.1 = 1 ∧ w.2.1 = 1000000000
theorem uO.same {C : Addr} {H H' : Hp} {x mt td tl al pl : Addr} {D : Tl} {T : Tk} {A B : List Ky} {m : Nat} (h : uO C H x mt td tl al pl D T A B m) (g : aB H H') : uO C H' x mt td tl al pl D T A B m := ⟨h.net.same g,h.ok,h.made.same g,h.way⟩
def gI (C : Addr) : Sp := fun vs H Q _ => ∃ (x mt td tl al pl rl ml : Addr) (D : Tl) (T : Tk) (A B : List Ky) (R : List Rn) (M : List Int),vs = [.ref x,.ref mt,.ref rl,.ref ml] ∧ uO C H x mt td tl al pl D T A B M.length ∧ dQ H rl ml al pl R M A B ∧ cN T R ∧ (∀ r ∈ R,r.2.1 - r.1 ≤ 1000000000) ∧ ∀ H',aB H H' → Q (.bl true) H'
def iQ : Sp := fun vs H Q _ => ∃ (lc ls : Addr) (cs S : List Int),vs = [.ref lc,.ref ls] ∧ H lc = some (.lst (cs.map V.int)) ∧ cs.length ≤ 63 ∧ H ls = some (.lst (S.map V.int)) ∧ ∀ (l : Addr) (A : List Ky) (H' : Hp),aB H H' → bu H' l A → A.length ≤ cs.length → (∀ k ∈ A,mV (S.length : Int) k) → Q (.ref l) H'
structure su (D : Tl) (T : Tk) (R : List Rn) : Prop where
 len : T.length ≤ 6
 pok : cN T R
 way : ∀ ws ∈ T,1 ≤ ws.length ∧ ws.length ≤ 2 ∧ ∀ w ∈ ws,r8 D w
 long : ∀ r ∈ R,r.2.1 - r.1 ≤ 5
def iR (K : PySem.W.Frag) : Sp := fun vs H Q _ => ∃ (a td : Addr) (ns : List Int) (D : Tl),vs = [.ref a,.ref td] ∧ az K H a (ns.map V.int) ∧ H td = some (.dK (a8 D)) ∧ cZ 3 D ∧ ∀ (t tl rl ml : Addr) (T : Tk) (R : List Rn) (M : List Int) (H' : Hp),aB H H' → H' t = some (.tup [.ref tl,.ref rl,.ref ml]) → bY dR An H' tl T → bu H' rl (R.map rk) → H' ml = some (.lst (M.map V.int)) → M.length ≤ 2 → su D T R → Q (.ref t) H'
theorem qI {T : Tk} {R : List Rn} (pok : cN T R) (hw : ∀ ws ∈ T,∀ w ∈ ws,w.1 = 1 ∧ w.2.1 = 1000000000) (hl : ∀ r ∈ R,r.2.1 - r.1 ≤ 1000000000) : cI R R.length = cG T R T.length := by
 unfold cI cG
 rw [pok.len]
 refine kX fun i hi => ⟨?_,rfl⟩
 have il : i < R.length := by rw [pok.len]; exact hi
 have hr := List.getElem?_eq_getElem il
 have hT := List.getElem?_eq_getElem hi
 have pk := pok.way i _ _ hr hT
 have hw' : (bM T R i).1 = 1 ∧ (bM T R i).2.1 = 1000000000 := by
  have hww := List.getElem?_eq_getElem (show (R[i]).2.2.toNat < (T[i]).length by omega)
  have e : bM T R i = (T[i])[(R[i]).2.2.toNat]'(by omega) := by
   unfold bM
   rw [bf hT,bf hr,bf hww]
  rw [e]
  exact hw _ (List.getElem_mem hi) _ (List.getElem_mem _)
 have ll := hl _ (List.getElem_mem il)
 unfold tO lg
 dsimp only
 rw [bf hr,hw'.1,hw'.2]
 congr 1
 apply propext
 constructor
 ·rintro (h | h)
  ·exact .inl h
  ·exact .inr fun z => by omega
 ·rintro (h | h)
  ·exact .inl h
  ·by_cases c : (R[i]).1 < 0
   ·exact .inl c
   ·exact .inr (by omega)
def oA (x : List V) : Prop := x.length ≤ 10 ∧ ∀ y ∈ x,wb y
theorem iS (s : Str) (i : Int) : oA [.str s,.int i] := ⟨by show 2 ≤ 10; decide,fun y hy => by
 rcases List.mem_cons.mp hy with h | h
 ·exact .inl ⟨_,h⟩
 ·exact .inr ⟨_,List.mem_singleton.mp h⟩⟩
theorem tJ (s z : Str) (i : Int) : oA [.str s,.str z,.int i] := ⟨by show 3 ≤ 10; decide,fun y hy => by
 rcases List.mem_cons.mp hy with h | h
 ·exact .inl ⟨_,h⟩
 ·exact (iS z i).2 y h⟩
theorem tK (s z : Str) (i j : Int) : oA [.str s,.str z,.int i,.int j] := ⟨by show 4 ≤ 10; decide,fun y hy => by
 rcases List.mem_cons.mp hy with h | h
 ·exact .inl ⟨_,h⟩
 rcases List.mem_cons.mp h with h | h
 ·exact .inl ⟨_,h⟩
 rcases List.mem_cons.mp h with h | h
 ·exact .inr ⟨_,h⟩
 ·exact .inr ⟨_,List.mem_singleton.mp h⟩⟩
theorem dH {n : Nat} {pr : Nat → Bool} {f : Nat → List V} (h : ∀ i,oA (f i)) : ∀ x ∈ bT n pr f,oA x := fun x hx => by
 obtain ⟨i,_,rfl⟩ := List.mem_map.mp hx
 exact h i
theorem qJ {zs : List Str} {D : Tl} {T : Tk} {A B : List Ky} {R : List Rn} {M : List Int} : ∀ x ∈ i5 zs D T A B R M,oA x := fun x hx => by
 unfold i5 at hx
 rcases List.mem_append.mp hx with hx | hx
 ·rcases List.mem_append.mp hx with hx | hx
  ·rcases List.mem_append.mp hx with hx | hx
   ·rcases List.mem_append.mp hx with hx | hx
    ·rcases List.mem_append.mp hx with hx | hx
     ·exact dH (fun i => iS _ _) x hx
     ·exact dH (fun i => iS _ _) x hx
    ·exact dH (fun i => iS _ _) x hx
   ·exact dH (fun i => iS _ _) x hx
  ·obtain ⟨z,_,hx⟩ := List.mem_flatMap.mp hx
   exact dH (fun i => tJ _ _ _) x hx
 ·obtain ⟨z,_,hx⟩ := List.mem_flatMap.mp hx
  obtain ⟨k,_,hx⟩ := List.mem_flatMap.mp hx
  obtain ⟨j,_,rfl⟩ := List.mem_map.mp hx
  exact tK _ _ _ _
theorem tL {zs : List Str} {D : Tl} {T : Tk} {A B : List Ky} {R : List Rn} {M : List Int} (pok : cN T R) (hw : ∀ ws ∈ T,∀ w ∈ ws,w.1 = 1 ∧ w.2.1 = 1000000000) (hl : ∀ r ∈ R,r.2.1 - r.1 ≤ 1000000000) : tI zs D T A B R M = i5 zs D T A B R M := by
 unfold tI qH i5
 rw [qI pok hw hl]
theorem se {p r n : Int} (p0 : 0 ≤ p) (pn : p < n) (r0 : 0 ≤ r) (rn : r < n - 1) : p ≠ (p + 1 + r).fmod n := by
 rw [Int.fmod_eq_emod_of_nonneg _ (by omega)]
 by_cases c : p + 1 + r < n
 ·rw [Int.emod_eq_of_lt (by omega) c]
  omega
 ·have e : (p + 1 + r) % n = p + 1 + r - n := by
   rw [show p + 1 + r = (p + 1 + r - n) + n * 1 by omega,Int.add_mul_emod_self_left,Int.emod_eq_of_lt (by omega) (by omega)]
   omega
  rw [e]
  omega
def iU (R : List Rn) (i : Nat) : Rn := ((R.getD i (0,0,0)).1 + 3 * (i : Int),(R.getD i (0,0,0)).2.1 + 3 * (i : Int),(R.getD i (0,0,0)).2.2)
def dA (R : List Rn) : List Rn := (List.range R.length).map (iU R)
theorem fD (R : List Rn) : (dA R).length = R.length := by unfold dA; rw [List.length_map,List.length_range]
theorem jp {R : List Rn} {i : Nat} {r : Rn} (h : (dA R)[i]? = some r) : ∃ r',R[i]? = some r' ∧ r.2.2 = r'.2.2 ∧ r.2.1 - r.1 = r'.2.1 - r'.1 := by
 have il : i < R.length := by rw [← fD]; exact (List.getElem?_eq_some_iff.mp h).1
 unfold dA at h
 rw [List.getElem?_map,List.getElem?_range il] at h
 cases h
 have hr := List.getElem?_eq_getElem il
 refine ⟨_,hr,?_,?_⟩
 ·show (R.getD i (0,0,0)).2.2 = _
  rw [bf hr]
 ·show (R.getD i (0,0,0)).2.1 + 3 * (i : Int) - ((R.getD i (0,0,0)).1 + 3 * (i : Int)) = _
  rw [bf hr]
  omega
theorem oB {T : Tk} {R : List Rn} (h : cN T R) : cN T (dA R) := ⟨(fD R).trans h.len,fun i r ws h1 h2 => by
 obtain ⟨r',hr,e,_⟩ := jp h1
 rw [e]
 exact h.way i r' ws hr h2⟩
theorem mF {R : List Rn} {m : Int} (h : ∀ r ∈ R,r.2.1 - r.1 ≤ m) : ∀ r ∈ dA R,r.2.1 - r.1 ≤ m := fun r hr => by
 obtain ⟨i,hi⟩ := List.mem_iff_getElem?.mp hr
 obtain ⟨r',h',_,e⟩ := jp hi
 rw [e]
 exact h r' (List.mem_of_getElem? h')
end Sw
namespace L2
open PySem PySem.Spec PyProof.Rows XH Sw Hm
end L2
namespace Sw
open PySem L2 XH Hm PySem.NumText
abbrev xL : RA (List Int) := kU (kW V.int)
end Sw
namespace L2
open PySem PySem.Spec PyProof.Rows XH Sw Hm
end L2
namespace Sw
open PySem L2 XH Hm PySem.NumText
def xM (p : List Int → Prop) : RA Unit := fun P H v _ => ∃ f,p f ∧ xL P H v f
instance (p : List Int → Prop) : Mv (xM p) where
 mv := fun {P P' H H' v x} g h => by
  obtain ⟨f,pf,r⟩ := h
  exact ⟨f,pf,Mv.mv g r⟩
section
variable (C : Addr)
end
end Sw
namespace L2
open PySem PySem.Spec PyProof.Rows XH Sw Hm
theorem oC {X : Cx} : cu X (.type "int") (fun xs H Q => ∃ b : Bool,xs = [.bl b] ∧ Q (.int (if b = true then 1 else 0)) H) := by
 intro pins s σ H xs us Q I r h
 obtain ⟨b,rfl,q⟩ := h
 obtain ⟨u,rfl,r1⟩ := vals1 r
 cases r1
 exact call_int_bool ⟨.int (if b = true then 1 else 0),H,I.tok _,⟨_,by cases b <;> rfl⟩,q⟩
end L2
namespace Sw
open PySem L2 XH Hm PySem.NumText
end Sw
namespace Lk54
open PySem L2 Sw XH PyProof.Rows Hm
def top (i : Nat) : Stmt := PySem.Challenge.pw_stovework_k54_all_kinds_in_order.main.body.getD i (.Pass ⟨0,0,0,0⟩)
def clsAt (s : Stmt) (i : Nat) : Stmt := match s with | .ClassDef _ _ _ body _ _ _ _ _ _ _ => body.getD i (.Pass ⟨0,0,0,0⟩) | _ => s
abbrev tP : Stmt := top 8
abbrev tQ : Stmt := top 18
abbrev tR : Stmt := top 20
abbrev tT : Stmt := top 21
abbrev tU : Stmt := top 23
abbrev tV : Stmt := top 22
abbrev tW : Stmt := top 24
abbrev tX : Stmt := top 25
abbrev tY : Stmt := clsAt (top 17) 0
abbrev tZ : Stmt := top 19
abbrev oE : Stmt := top 27
abbrev oF : Stmt := top 28
abbrev oG : Stmt := top 29
abbrev oH : Stmt := top 30
abbrev oI : Stmt := top 31
abbrev oJ : Stmt := top 33
abbrev oK : Stmt := top 34
abbrev oM : Stmt := top 35
abbrev oN : Stmt := top 37
abbrev oO : Stmt := top 36
abbrev oP : Stmt := top 38
abbrev oQ : Stmt := top 32
abbrev oR : Stmt := top 39
abbrev oS : Stmt := top 41
abbrev oT : Stmt := top 42
abbrev oU : Stmt := top 43
abbrev oV : Stmt := top 44
abbrev oW : Stmt := top 45
abbrev oX : Stmt := top 46
abbrev oY : Stmt := top 47
abbrev oZ : Stmt := top 48
abbrev pb : Stmt := top 49
abbrev pd : Stmt := top 50
abbrev pe : Stmt := top 51
abbrev ph : Stmt := top 52
abbrev pi : Stmt := top 53
abbrev pj : Stmt := top 54
abbrev pq : Stmt := top 55
abbrev j0 : Stmt := top 56
structure Bn (K : PySem.W.Frag) (mg : Str → Option Value) (c_Net f_Z8 : Addr) : Prop where
 g_LETTERS : ∃ t,mg "LETTERS" = some (.str "abcdefghijklmnopqrstuvwxyz" t)
 g_MOST_LETTERS : ∃ t,mg "MOST_LETTERS" = some (.int 12 t)
 g_MOST_TASKS : ∃ t,mg "MOST_TASKS" = some (.int 24 t)
 g_MOST_TOOLS : ∃ t,mg "MOST_TOOLS" = some (.int 12 t)
 g_MOST_PIECES : ∃ t,mg "MOST_PIECES" = some (.int 8 t)
 g_MOST_WAYS : ∃ t,mg "MOST_WAYS" = some (.int 2 t)
 g_MOST_MOMENTS : ∃ t,mg "MOST_MOMENTS" = some (.int 8 t)
 g_MOST_ARCS : ∃ t,mg "MOST_ARCS" = some (.int 600 t)
 g_MOST_APART : ∃ t,mg "MOST_APART" = some (.int 300 t)
 g_GREATEST : ∃ t,mg "GREATEST" = some (.int 1000000000 t)
 b_abs : mg "abs" = none
 b_bool : mg "bool" = none
 b_dict : mg "dict" = none
 b_enumerate : mg "enumerate" = none
 b_int : mg "int" = none
 b_isinstance : mg "isinstance" = none
 b_len : mg "len" = none
 b_list : mg "list" = none
 b_max : mg "max" = none
 b_min : mg "min" = none
 b_range : mg "range" = none
 b_reversed : mg "reversed" = none
 b_set : mg "set" = none
 b_sorted : mg "sorted" = none
 b_str : mg "str" = none
 b_tuple : mg "tuple" = none
 b_zip : mg "zip" = none
 m_Net : mg "Net" = some (.ref c_Net)
 cl_Net : qP K c_Net
 mk_Net : Mk K c_Net f_Z8
 na_Net_tools : bS K c_Net "tools"
 na_Net_tasks : bS K c_Net "tasks"
 na_Net_arcs : bS K c_Net "arcs"
 na_Net_apart : bS K c_Net "apart"
 na_Net_moments : bS K c_Net "moments"
section
variable {P : Program} {w : World} {K : PySem.W.Frag} {mg : Str → Option Value} {base : Heap} {f : Addr} {fd : FuncData} {c_Net f_Z8 : Addr}
theorem wS : aN ["thing","sign"] ["thing"] (ak tP) := ⟨rfl,rfl,rfl,by decide +kernel,rfl,by decide +kernel,by decide +kernel⟩
set_option maxHeartbeats 4000000 in
theorem wT {dV : Value} (F : bL K "is_name" "is_name" tP dV f fd) (B : Bn K mg c_Net f_Z8)  : bG P w K mg base bj 1 f fd ["thing"] (iE K) := by
 have sc := wS
 refine F.ok sc (fun vs H Q E h => ?_) (fun cdv A outer s H vs Q E hr h => ?_)
 ·obtain ⟨x,rfl,_⟩ := h
  rfl
 obtain ⟨x,rfl,h⟩ := h
 refine ⟨_,(af (aU (PW.pt (fc (bQ (bX (av (dC (K := K) rfl) rfl B.b_isinstance boot_isinstance (aa (pv 0) (aa (eO (v := .ty "str") rfl B.b_str boot_str rfl) ae))))) (fc (aI cv (av dJ rfl B.b_len boot_len (aa (pv 0) ae)) ac (aG _)) (dY (aI fe (av dJ rfl B.b_len boot_len (aa (pv 0) ae)) (ca rfl B.g_MOST_LETTERS) (aG _)))))) (ai (aO c6)) aC) (af (aX PassesOwn.never rfl (sV (pv 0)) (ay (i := 1) sc.nd rfl (Or.inl rfl)) (ai (aU (aI jw (pv 1) (qh rfl B.g_LETTERS) (by with_unfolding_all rfl)) (ai (aO c6)) aC))) (ai (aO c6)))),?_⟩
 rcases h with ⟨z,rfl,hz,q1,q0⟩ | ⟨ty,hty,hk,q⟩
 ·have hz' : z.length ≤ sizeLine := Nat.le_trans hz (by decide)
  have hl := jC z
  try dsimp only [cB,c7]
  refine cut (fun σ H' => H = H' ∧ σ = [some (.str z),none] ∧ 1 ≤ z.length ∧ z.length ≤ 12) (fun N hN => ?_) ?_
  ·refine ⟨_,rfl,_,_,_,true,rfl,.str _,rfl,_,rfl,cQ ⟨_,rfl,z,rfl,hz',_,_,rfl,rfl,_,rfl,d2 (fun c => ?_) (fun c1 => ⟨_,rfl,z,rfl,hz',_,_,rfl,rfl,_,rfl,d2 (fun c => ?_) (fun c2 => ?_)⟩)⟩⟩
   ·exact q0 fun n => by have := n.1; omega
   ·exact q0 fun n => by have := n.2.1; omega
   ·exact hN _ _ ⟨rfl,rfl,by omega,by omega⟩
  rintro σ _ ⟨rfl,rfl,l1,l2⟩
  refine ⟨_,rfl,z,rfl,rs (fun i σ H2 => H = H2 ∧ (∃ o,σ = [some (.str z),o]) ∧ ∀ j c,j < i → z.cps[j]? = some c → 97 ≤ c ∧ c ≤ 122) ⟨rfl,⟨_,rfl⟩,fun j c h => absurd h (by omega)⟩ (fun i c σ H2 hc hP => ?_) (fun σ H2 hP => ?_)⟩
  ·obtain ⟨rfl,⟨o,rfl⟩,hP⟩ := hP
   refine ⟨_,rfl,_,_,rfl,rfl,_,rfl,xH (fun e => ?_) (fun e => ?_)⟩
   ·have e' := (m3 c).symm.trans e
    refine q0 fun n => ?_
    have := n.2.2 c (List.mem_of_getElem? (show (sL z)[i]? = some c by rw [← hc]; exact Array.getElem?_toList))
    rw [decide_eq_true this] at e'
    cases e'
   ·have e' := (m3 c).symm.trans e
    refine ⟨rfl,⟨_,rfl⟩,fun j c' hj hc' => ?_⟩
    rcases Nat.lt_succ_iff_lt_or_eq.mp hj with k | k
    ·exact hP j c' k hc'
    ·subst k
     rw [hc] at hc'
     cases hc'
     exact of_decide_eq_true e'
  ·obtain ⟨rfl,⟨o,rfl⟩,hP⟩ := hP
   refine q1 ⟨by omega,by omega,fun c hc => ?_⟩
   obtain ⟨i,hi⟩ := List.mem_iff_getElem?.mp hc
   have hi' : z.cps[i]? = some c := by rw [← hi]; exact Array.getElem?_toList.symm
   exact hP i c (by have := (Array.getElem?_eq_some_iff.mp hi').1; exact this) hi'
 ·exact ⟨_,rfl,_,_,_,false,rfl,hty,hk,_,rfl,d0 q⟩
theorem wU : aN ["net"] ["net"] (ak tQ) := ⟨rfl,rfl,rfl,by decide +kernel,rfl,by decide +kernel,by decide +kernel⟩
set_option maxHeartbeats 4000000 in
theorem wV {dV : Value} (F : bL K "points_of" "points_of" tQ dV f fd) (B : Bn K mg c_Net f_Z8)  : bG P w K mg base bj 1 f fd ["net"] (gu c_Net) := by
 have sc := wU
 refine F.ok sc (fun vs H Q E h => ?_) (fun cdv A outer s H vs Q E hr h => ?_)
 ·obtain ⟨x,n,fz,D,T,A,B2,rfl,_⟩ := h
  rfl
 obtain ⟨x,n,fz,D,T,A,B2,rfl,N,q⟩ := h
 refine ⟨_,(ai (aO (aw bR (aw di ac (av ao rfl B.b_len boot_len (aa (bJ (pv 0) rfl) ae))) (bJ (pv 0) rfl)))),?_⟩
 obtain ⟨dx,td,tl,al,pl,fs,e0,l1,l2,l3,l4,l5,e1,⟨as,e2,r2⟩,e3,e4⟩ := N.ex
 refine ⟨_,rfl,x,_,dx,_,_,rfl,e0,B.cl_Net,B.na_Net_tasks,l2,tl,_,rfl,.inl (az.of e2),_,_,rfl,rfl,IntMulOk.of_left (by decide),_,rfl,x,_,dx,_,_,rfl,e0,B.cl_Net,B.na_Net_moments,l5,_,_,rfl,rfl,?_⟩
 rw [r2.1]
 exact q
theorem wW : aN ["ways"] ["ways"] (ak tR) := ⟨rfl,rfl,rfl,by decide +kernel,rfl,by decide +kernel,by decide +kernel⟩
set_option maxHeartbeats 4000000 in
theorem wX {dV : Value} (F : bL K "copy_of_task" "copy_of_task" tR dV f fd) (B : Bn K mg c_Net f_Z8)  : bG P w K mg base bj 1 f fd ["ways"] jP := by
 have sc := wW
 refine F.ok sc (fun vs H Q E h => ?_) (fun cdv A outer s H vs Q E hr h => ?_)
 ·obtain ⟨l,ws,P0,rfl,_⟩ := h
  rfl
 obtain ⟨l,ws,P0,rfl,⟨vs,el,r0⟩,l2,q⟩ := h
 refine ⟨_,(ai (aO (dL (own := "way") (ys := []) (js := []) rfl (lG lF .nil (by decide) rfl rfl rfl rfl rfl rfl rfl rfl) (aZ (pv 0)) (fun C fp s H => (bK (aa (am (eT (K := K) rfl) (pv 0) ac (fun _ _ => rfl)) (aa (am (eT (K := K) rfl) (pv 0) ac (fun _ _ => rfl)) (aa (bO (dM (K := K) rfl) rfl B.b_list boot_list (aa (am (eT (K := K) rfl) (pv 0) ac (fun _ _ => rfl)) ae)) ae)))))))),?_⟩
 have sl : sizeLine = 16777216 := sizeLine_eq
 have r := r0.imp fun _ _ q => wa q
 refine ⟨_,rfl,l,rfl,⟨_,az.of el⟩,dr gX (fun a => P0 a ∧ H a ≠ none) (fun i => ws.getD i (0,0,[])) (az.of el) (by rw [r.1]; omega) (fun a h => h.2) (fun i y hy H3 g Q' hQ => ?_) fun p H' np g hp => ?_⟩
 ·obtain ⟨w,hw,t,u,rfl,_,_,et,us,eu,ru⟩ := r.at_ hy
  have et3 := g _ _ et
  rw [bf hw] at hQ
  refine ⟨_,rfl,t,_,_,_,rfl,rfl,bc.of et3,rfl,_,rfl,t,_,_,_,rfl,rfl,bc.of et3,rfl,_,rfl,t,_,_,_,rfl,rfl,bc.of et3,rfl,u,us,rfl,.inl (az.of (g _ _ eu)),fun u' nu => ⟨(by show 3 ≤ sizeLine; decide),fun t' nt => ?_⟩⟩
  have g1 := ag nu (.lst us)
  have g2 := ag nt (.tup [.int w.1,.int w.2.1,.ref u'])
  exact hQ _ _ (g1.trans g2) ⟨t',u',rfl,.inl (g1.free nt),.inl nu,aj,us,g2 _ _ aj,ru.imp fun v e q => oo (gk q (g.trans (g1.trans g2))) fun a h => .inr h⟩
 ·rw [gD ws (0,0,[]) r.1] at hp
  exact q p H' g np ⟨p,rfl,.inl np,hp.mono fun a h => h.2.imp id fun z => z.1⟩
theorem wY : aN ["tools","tool","many"] ["tools"] (ak tT) := ⟨rfl,rfl,rfl,by decide +kernel,rfl,by decide +kernel,by decide +kernel⟩
set_option maxHeartbeats 4000000 in
theorem wZ {dV : Value} (F : bL K "refuse_wrong_tools" "refuse_wrong_tools" tT dV f fd) (B : Bn K mg c_Net f_Z8) (DZ0 : Dx P w K mg base bj 1 "is_name" ["thing"] [] (iE K)) : bG P w K mg base bj 2 f fd ["tools"] gq := by
 have sc := wY
 refine F.ok sc (fun vs H Q E h => ?_) (fun cdv A outer s H vs Q E hr h => ?_)
 ·obtain ⟨td,D,rfl,_⟩ := h
  rfl
 obtain ⟨td,D,rfl,e,l12,ok,q⟩ := h
 refine ⟨_,(af (aU (aI fe (av me rfl B.b_len boot_len (aa (pv 0) ae)) (ca rfl B.g_MOST_TOOLS) (aG _)) (ai bx) aC) (ai (sX (aX PassesOwn.never rfl (qk (sP PySem.F.plainAttrs_dict PySem.F.slot_dict_items PySem.F.type_dict_items qj (pv 0))) (dI rfl (bn (ay (i := 1) sc.nd rfl (Or.inl rfl)) (bn (ay (i := 2) sc.nd rfl (Or.inl rfl)) cV))) (af (aU (bQ (bX (aH DZ0 hr (by decide) rfl (aa (pv 1) ae)))) (ai bx) aC) (ai (aU (bQ (bZ ci ci ac (pv 2) (ca rfl B.g_MOST_PIECES))) (ai bx) aC))))))),?_⟩
 refine ⟨_,rfl,td,_,rfl,e,_,_,rfl,rfl,_,rfl,dF (by rw [jm]; omega) ?_⟩
 refine ⟨_,rfl,.inr (.inr (.inl ⟨rfl,.inl ⟨_,e⟩⟩)),td,_,rfl,rfl,e,fun v nv => ?_⟩
 have g := ag nv (.ext fun h => h.IsItemsView v td)
 refine ⟨v,td,_,rfl,aj,g _ _ e,fun o nf => ?_⟩
 have e1 := g _ _ e
 generalize aD H v (.ext fun h => h.IsItemsView v td) = H1 at g e1 ⊢
 have ef : aD H1 td (.frz o (.dK (a8 D))) td = some (.frz o (.dK (a8 D))) := aj
 refine oy (fun i σ H' => aB (aD H1 td (.frz o (.dK (a8 D)))) H' ∧ ∃ o1 o2 : Option V,σ = [some (.ref td),o1,o2]) ⟨.refl _,none,none,rfl⟩ (fun i σ H' _ h => h.1 _ _ ef) ?_ ?_
 ·rintro i k y σ H2 T' hk ⟨g2,o1,o2,rfl⟩ nT
  obtain ⟨p,hp,rfl,rfl⟩ := kZ hk
  obtain ⟨n1,n2,n3⟩ := ok p (List.mem_of_getElem? hp)
  have g3 := g2.trans (ag nT (.tup [kV (.inr p.1),.int p.2]))
  have zl : p.1.length ≤ 1000000 := by have := n1.2.1; rw [jC] at this; omega
  refine ⟨T',_,rfl,bc.of aj,rfl,_,_,rfl,_,_,rfl,rfl,?_⟩
  refine ⟨_,rfl,_,rfl,.inl ⟨p.1,rfl,zl,fun _ => ⟨_,rfl,cQ ?_⟩,fun z => absurd n1 z⟩⟩
  exact ⟨_,rfl,_,_,rfl,rfl,_,rfl,dT n2 ⟨_,_,rfl,rfl,_,rfl,nF n3 ⟨g3,_,_,rfl⟩⟩⟩
 ·rintro σ H2 ⟨g2,o1,o2,rfl⟩
  exact ⟨td,o,_,g2 _ _ ef,nf,q _ (g.trans (ou e1 g2))⟩
theorem w6 : aN ["uses","tools","use"] ["uses","tools"] (ak tU) := ⟨rfl,rfl,rfl,by decide +kernel,rfl,by decide +kernel,by decide +kernel⟩
set_option maxHeartbeats 4000000 in
theorem xa {dV : Value} (F : bL K "refuse_wrong_uses" "refuse_wrong_uses" tU dV f fd) (B : Bn K mg c_Net f_Z8)  : bG P w K mg base bj 1 f fd ["uses","tools"] iG := by
 have sc := w6
 refine F.ok sc (fun vs H Q E h => ?_) (fun cdv A outer s H vs Q E hr h => ?_)
 ·obtain ⟨u,td,D,us,rfl,_⟩ := h
  rfl
 obtain ⟨u,td,D,us,rfl,⟨vs,eu,ru⟩,ed,⟨nd,l100,ok⟩,q⟩ := h
 refine ⟨_,(af (aU (aI gK (nZ rfl rfl B.b_len rfl B.b_set PyProof.Rows.Boot.«len» PyProof.Rows.Boot.«set» (dL (own := "use") (ys := []) (js := []) rfl (lG lF .nil (by decide) rfl rfl rfl rfl rfl rfl rfl rfl) (aZ (pv 0)) (fun C fp s H => (am (eT (K := K) rfl) (pv 0) ac (fun _ _ => rfl))))) (av ao rfl B.b_len boot_len (aa (pv 0) ae)) (aG _)) (ai bx) aC) (ai (aX PassesOwn.never rfl (aZ (pv 0)) (ay (i := 2) sc.nd rfl (Or.inl rfl)) (af (aU (sB (nO (jd hr) (am ar (pv 2) ac (fun _ _ => rfl)) (pv 1)) (by with_unfolding_all rfl)) (ai bx) aC) (af (aU (bQ (bZ ci ci ac (am ar (pv 2) ac (fun _ _ => rfl)) (gZ (jd hr) (pv 1) (am ar (pv 2) ac (fun _ _ => rfl)) (fun _ _ => rfl)))) (ai bx) aC) (ai (aU (bQ (bZ ci ci ac (am ar (pv 2) ac (fun _ _ => rfl)) (ca rfl B.g_GREATEST))) (ai bx) aC))))))),?_⟩
 have sl : sizeLine = 16777216 := sizeLine_eq
 refine ⟨_,rfl,u,rfl,⟨_,az.of eu⟩,dr (kW V.str) (fun _ => False) (fun i => (us.getD i ("",0,0)).1) (az.of eu) (by rw [ru.1]; omega) (fun a h => h.elim) (fun i y hy H3 g Q' hQ => ?_) fun p H' np g hp => ?_⟩
 ·obtain ⟨e,he,t,rfl,_,et⟩ := ru.at_ hy
  rw [bf he] at hQ
  exact ⟨_,rfl,t,_,_,_,rfl,rfl,bc.of (g _ _ et),rfl,hQ _ _ (.refl _) rfl⟩
 obtain ⟨ps,ep,rp⟩ := hp
 have e1 : ps = (us.map fun e => (.inr e.1 : Key)).map kV := by
  rw [rp.val,List.map_map,List.map_map]
  conv => rhs; rw [← fT us ("",0,0),List.map_map,← ru.1]
  rfl
 rw [e1] at ep
 refine ⟨p,us.map fun e => (.inr e.1 : Key),rfl,az.of ep,?_,by rw [List.length_map]; omega,_,rfl,u,_,rfl,.inl (az.of (g _ _ eu)),rfl,_,rfl,v7 (by rw [List.length_map,ru.1]) ?_⟩
 ·have : (us.map fun e => (.inr e.1 : Key)) = (us.map (·.1)).map Sum.inr := by rw [List.map_map]; rfl
  rw [this]
  exact nd.map (f := (Sum.inr : Str → Key)) fun a b h e => h (by injection e)
 clear ep rp e1
 refine ⟨_,rfl,u,rfl,⟨_,az.of (g _ _ eu)⟩,bq (xs := vs) (fun i σ H2 => H' = H2 ∧ ∃ o2 : Option V,σ = [some (.ref u),some (.ref td),o2]) ⟨rfl,none,rfl⟩ (fun i σ H2 _ h => by rw [← h.1]; exact az.of (g _ _ eu)) ?_ ?_⟩
 ·rintro i y σ H2 hy ⟨rfl,o2,rfl⟩
  obtain ⟨e,he,t,rfl,_,et⟩ := ru.at_ hy
  obtain ⟨m,hm,k1,k2,k3,k4⟩ := ok e (List.mem_of_getElem? he)
  have et' := g _ _ et
  have dg := jV (.inl (g _ _ ed)) hm
  refine ⟨_,rfl,t,_,_,_,rfl,rfl,bc.of et',rfl,_,rfl,td,_,rfl,dg,_,rfl,cQ ?_⟩
  refine ⟨_,rfl,t,_,_,_,rfl,rfl,bc.of et',rfl,_,_,rfl,rfl,_,rfl,dT k1 ⟨_,rfl,_,rfl,t,_,_,_,rfl,rfl,bc.of et',rfl,td,_,rfl,dg,_,_,rfl,rfl,_,rfl,nF k2 ?_⟩⟩
  exact ⟨_,rfl,t,_,_,_,rfl,rfl,bc.of et',rfl,_,_,rfl,rfl,_,rfl,dT k3 ⟨_,_,rfl,rfl,_,rfl,nF k4 ⟨rfl,_,rfl⟩⟩⟩
 ·rintro σ H2 ⟨rfl,o2,rfl⟩
  exact q _ g
theorem xc : aN ["tasks","tools","ways","way"] ["tasks","tools"] (ak tV) := ⟨rfl,rfl,rfl,by decide +kernel,rfl,by decide +kernel,by decide +kernel⟩
set_option maxHeartbeats 4000000 in
theorem xf {dV : Value} (F : bL K "refuse_wrong_tasks" "refuse_wrong_tasks" tV dV f fd) (B : Bn K mg c_Net f_Z8) (DZ4 : Dx P w K mg base bj 1 "refuse_wrong_uses" ["uses","tools"] [] iG) : bG P w K mg base bj 2 f fd ["tasks","tools"] gr := by
 have sc := xc
 refine F.ok sc (fun vs H Q E h => ?_) (fun cdv A outer s H vs Q E hr h => ?_)
 ·obtain ⟨tl,td,D,T,rfl,_⟩ := h
  rfl
 obtain ⟨tl,td,D,T,rfl,⟨as,el,r⟩,ed,l24,ok,q⟩ := h
 refine ⟨_,(af (aU (aI fe (av ao rfl B.b_len boot_len (aa (pv 0) ae)) (ca rfl B.g_MOST_TASKS) (aG _)) (ai bx) aC) (ai (aX PassesOwn.never rfl (aZ (pv 0)) (ay (i := 2) sc.nd rfl (Or.inl rfl)) (af (aU (bQ (bZ ci ci ac (av ao rfl B.b_len boot_len (aa (pv 2) ae)) (ca rfl B.g_MOST_WAYS))) (ai bx) aC) (ai (aX PassesOwn.never rfl (aZ (pv 2)) (ay (i := 3) sc.nd rfl (Or.inl rfl)) (af (aU (bQ (nV ci ci ci ac (am ar (pv 3) ac (fun _ _ => rfl)) (am ar (pv 3) ac (fun _ _ => rfl)) (ca rfl B.g_GREATEST))) (ai bx) aC) (ai (be (aH DZ4 hr (by decide) rfl (aa (am ar (pv 3) ac (fun _ _ => rfl)) (aa (pv 1) ae)))))))))))),?_⟩
 have ll : as.length = T.length := r.1
 refine ⟨_,rfl,tl,_,rfl,.inl (az.of el),_,_,rfl,rfl,_,rfl,dF (by rw [ll]; omega) ?_⟩
 refine ⟨_,rfl,tl,rfl,⟨_,az.of el⟩,bq (xs := as) (fun i σ H' => aB H H' ∧ ∃ o2 o3 : Option V,σ = [some (.ref tl),some (.ref td),o2,o3]) ⟨.refl _,none,none,rfl⟩ (fun i σ H' _ h => az.of (h.1 _ _ el)) ?_ ?_⟩
 ·rintro i y σ H1 hy ⟨g1,o2,o3,rfl⟩
  obtain ⟨ws,hw,wl,rfl,_,ts,ets0,rt0⟩ := r.at_ hy
  have ets := g1 _ _ ets0
  have rt := rt0.imp fun _ _ q => gk q g1
  obtain ⟨o1,o2',ow⟩ := ok ws (List.mem_of_getElem? hw)
  have lw : ts.length = ws.length := rt.1
  refine ⟨_,rfl,wl,_,rfl,.inl (az.of ets),_,_,rfl,rfl,_,rfl,dT (by rw [lw]; omega) ⟨_,_,rfl,rfl,_,rfl,nF (by rw [lw]; omega) ?_⟩⟩
  refine ⟨_,rfl,wl,rfl,⟨_,az.of ets⟩,bq (xs := ts) (fun j σ H' => aB H H' ∧ aB H1 H' ∧ ∃ o3 : Option V,σ = [some (.ref tl),some (.ref td),some (.ref wl),o3]) ⟨g1,.refl _,o3,rfl⟩ (fun j σ H' _ h => az.of (h.2.1 _ _ ets)) ?_ ?_⟩
  ·rintro j z σ H2 hz ⟨g2,g12,o3,rfl⟩
   obtain ⟨w,hw2,t,u,rfl,_,_,et0,lu0⟩ := rt.at_ hz
   have et := g12 _ _ et0
   obtain ⟨w1,w2,w3,w4⟩ := ow w (List.mem_of_getElem? hw2)
   refine ⟨_,rfl,t,_,_,_,rfl,rfl,bc.of et,rfl,_,_,rfl,rfl,_,rfl,dT w1 ⟨_,rfl,t,_,_,_,rfl,rfl,bc.of et,rfl,_,_,rfl,rfl,_,rfl,dT w2 ⟨_,_,rfl,rfl,_,rfl,nF w3 ?_⟩⟩⟩
   exact ⟨_,rfl,t,_,_,_,rfl,rfl,bc.of et,rfl,_,rfl,u,td,D,w.2.2,rfl,lu0.same g12,g2 _ _ ed,w4,fun H3 g3 => ⟨g2.trans g3,g12.trans g3,_,rfl⟩⟩
  ·rintro σ H2 ⟨g2,_,o3,rfl⟩
   exact ⟨g2,_,_,rfl⟩
 ·rintro σ H1 ⟨g1,o2,o3,rfl⟩
  exact q _ g1
theorem xg : aN ["arcs","points","arc"] ["arcs","points"] (ak tW) := ⟨rfl,rfl,rfl,by decide +kernel,rfl,by decide +kernel,by decide +kernel⟩
set_option maxHeartbeats 4000000 in
theorem xh {dV : Value} (F : bL K "refuse_wrong_arcs" "refuse_wrong_arcs" tW dV f fd) (B : Bn K mg c_Net f_Z8)  : bG P w K mg base bj 1 f fd ["arcs","points"] jD := by
 have sc := xg
 refine F.ok sc (fun vs H Q E h => ?_) (fun cdv A outer s H vs Q E hr h => ?_)
 ·obtain ⟨al,m,A,rfl,_⟩ := h
  rfl
 obtain ⟨al,m,A,rfl,⟨as,el,r⟩,l6,ok,q⟩ := h
 refine ⟨_,(af (aU (aI fe (av ao rfl B.b_len boot_len (aa (pv 0) ae)) (ca rfl B.g_MOST_ARCS) (aG _)) (ai bx) aC) (ai (aX PassesOwn.never rfl (aZ (pv 0)) (ay (i := 2) sc.nd rfl (Or.inl rfl)) (af (aU (bQ (PW.pt (dZ (bZ ci cv ac (am ar (pv 2) ac (fun _ _ => rfl)) (pv 1)) (eP (bZ ci cv ac (am ar (pv 2) ac (fun _ _ => rfl)) (pv 1)))))) (ai bx) aC) (ai (aU (aI fe (av pS rfl B.b_abs boot_abs (aa (am ar (pv 2) ac (fun _ _ => rfl)) ae)) (ca rfl B.g_GREATEST) (aG _)) (ai bx) aC)))))),?_⟩
 have ll : (as.map V.ref).length = A.length := by rw [List.length_map]; exact r.1
 refine ⟨_,rfl,al,_,rfl,.inl (az.of el),_,_,rfl,rfl,_,rfl,dF (by rw [ll]; omega) ?_⟩
 refine ⟨_,rfl,al,rfl,⟨_,az.of el⟩,bq (xs := as.map V.ref) (fun i σ H' => H = H' ∧ ∃ o2 : Option V,σ = [some (.ref al),some (.int m),o2]) ⟨rfl,none,rfl⟩ (fun i σ H' _ h => by rw [← h.1]; exact az.of el) ?_ ?_⟩
 ·rintro i x σ H1 hx ⟨rfl,o2,rfl⟩
  rw [List.getElem?_map] at hx
  obtain ⟨t,ht,rfl⟩ := Option.map_eq_some_iff.mp hx
  have il : i < A.length := by rw [← r.1]; exact (List.getElem?_eq_some_iff.mp ht).1
  have et := r.2 i t _ ht (List.getElem?_eq_getElem il)
  obtain ⟨a,b,g,e,a0,a1,b0,b1,g0,g1⟩ := ok _ (List.getElem_mem il)
  rw [e] at et
  refine ⟨_,rfl,t,_,_,_,rfl,rfl,bc.of et,rfl,_,_,rfl,rfl,_,rfl,dT a0 ⟨_,rfl,_,_,rfl,rfl,_,rfl,dT a1 ⟨_,rfl,t,_,_,_,rfl,rfl,bc.of et,rfl,_,_,rfl,rfl,_,rfl,dT b0 ⟨_,rfl,_,_,rfl,rfl,_,rfl,nF b1 ?_⟩⟩⟩⟩
  exact ⟨_,rfl,t,_,_,_,rfl,rfl,bc.of et,rfl,g,rfl,_,_,rfl,rfl,_,rfl,dF (by split <;> omega) ⟨rfl,_,rfl⟩⟩
 ·rintro σ H1 ⟨rfl,o2,rfl⟩
  exact q
theorem xi : aN ["pairs","many","pair"] ["pairs","many"] (ak tX) := ⟨rfl,rfl,rfl,by decide +kernel,rfl,by decide +kernel,by decide +kernel⟩
set_option maxHeartbeats 4000000 in
theorem xj {dV : Value} (F : bL K "refuse_wrong_pairs" "refuse_wrong_pairs" tX dV f fd) (B : Bn K mg c_Net f_Z8)  : bG P w K mg base bj 1 f fd ["pairs","many"] gs := by
 have sc := xi
 refine F.ok sc (fun vs H Q E h => ?_) (fun cdv A outer s H vs Q E hr h => ?_)
 ·obtain ⟨pl,m,B2,rfl,_⟩ := h
  rfl
 obtain ⟨pl,m,B2,rfl,⟨as,el,r⟩,l3,ok,q⟩ := h
 refine ⟨_,(af (aU (aI fe (av ao rfl B.b_len boot_len (aa (pv 0) ae)) (ca rfl B.g_MOST_APART) (aG _)) (ai bx) aC) (ai (aX PassesOwn.never rfl (aZ (pv 0)) (ay (i := 2) sc.nd rfl (Or.inl rfl)) (af (aU (bQ (PW.pt (dZ (bZ ci cv ac (am ar (pv 2) ac (fun _ _ => rfl)) (pv 1)) (eP (bZ ci cv ac (am ar (pv 2) ac (fun _ _ => rfl)) (pv 1)))))) (ai bx) aC) (ai (aU (aI gJ (am ar (pv 2) ac (fun _ _ => rfl)) (am ar (pv 2) ac (fun _ _ => rfl)) (aG _)) (ai bx) aC)))))),?_⟩
 have ll : (as.map V.ref).length = B2.length := by rw [List.length_map]; exact r.1
 refine ⟨_,rfl,pl,_,rfl,.inl (az.of el),_,_,rfl,rfl,_,rfl,dF (by rw [ll]; omega) ?_⟩
 refine ⟨_,rfl,pl,rfl,⟨_,az.of el⟩,bq (xs := as.map V.ref) (fun i σ H' => H = H' ∧ ∃ o2 : Option V,σ = [some (.ref pl),some (.int m),o2]) ⟨rfl,none,rfl⟩ (fun i σ H' _ h => by rw [← h.1]; exact az.of el) ?_ ?_⟩
 ·rintro i y σ H1 hy ⟨rfl,o2,rfl⟩
  obtain ⟨t,ht,rfl⟩ := cf hy
  have il : i < B2.length := by rw [← r.1]; exact (List.getElem?_eq_some_iff.mp ht).1
  have et := r.2 i t _ ht (List.getElem?_eq_getElem il)
  obtain ⟨a,b,e,a0,a1,b0,b1,ab⟩ := ok _ (List.getElem_mem il)
  rw [e] at et
  refine ⟨_,rfl,t,_,_,_,rfl,rfl,bc.of et,rfl,_,_,rfl,rfl,_,rfl,dT a0 ⟨_,rfl,_,_,rfl,rfl,_,rfl,dT a1 ⟨_,rfl,t,_,_,_,rfl,rfl,bc.of et,rfl,_,_,rfl,rfl,_,rfl,dT b0 ⟨_,rfl,_,_,rfl,rfl,_,rfl,nF b1 ?_⟩⟩⟩⟩
  exact ⟨_,rfl,t,_,_,_,rfl,rfl,bc.of et,rfl,_,rfl,t,_,_,_,rfl,rfl,bc.of et,rfl,rfl,_,rfl,xG ab ⟨rfl,_,rfl⟩⟩
 ·rintro σ H1 ⟨rfl,o2,rfl⟩
  exact q
theorem xk : aN ["self","tools","tasks","arcs","apart","moments"] ["self","tools","tasks","arcs","apart","moments"] (ak tY) := ⟨rfl,rfl,rfl,by decide +kernel,rfl,by decide +kernel,by decide +kernel⟩
set_option maxHeartbeats 4000000 in
theorem xm {dV : Value} (F : bL K "__init__" "Net.__init__" tY dV f fd) (B : Bn K mg c_Net f_Z8) (DZ1 : Dx P w K mg base bj 1 "points_of" ["net"] [] (gu c_Net)) (DZ2 : Dx P w K mg base bj 1 "copy_of_task" ["ways"] [] jP) (DZ3 : Dx P w K mg base bj 2 "refuse_wrong_tools" ["tools"] [] gq) (DZ5 : Dx P w K mg base bj 2 "refuse_wrong_tasks" ["tasks","tools"] [] gr) (DZ6 : Dx P w K mg base bj 1 "refuse_wrong_arcs" ["arcs","points"] [] jD) (DZ7 : Dx P w K mg base bj 1 "refuse_wrong_pairs" ["pairs","many"] [] gs) : bG P w K mg base bj 3 f fd ["self","tools","tasks","arcs","apart","moments"] (my c_Net) := by
 have sc := xk
 refine F.ok sc (fun vs H Q E h => ?_) (fun cdv A outer s H vs Q E hr h => ?_)
 ·obtain ⟨x,dx,td,tl,al,v,n,D,T,A,B2,rfl,_⟩ := h
  rfl
 obtain ⟨x,dx,td,tl,al,v,n,D,T,A,B2,rfl,ex,etd,hT,hA,hv,ok,q⟩ := h
 refine ⟨_,(af (ic (pv 0) (bO ij rfl B.b_dict ip (aa (pv 1) ae)) rfl) (af (ic (pv 0) (dL (own := "ways") (ys := []) (js := []) rfl (lG lF .nil (by decide) rfl rfl rfl rfl rfl rfl rfl rfl) (aZ (pv 2)) (fun C fp s H => (aH DZ2 hr (by decide) rfl (aa (pv 0) ae)))) rfl) (af (ic (pv 0) (bO cC rfl B.b_list boot_list (aa (pv 3) ae)) rfl) (af (ic (pv 0) (pK (aI sK (pv 4) dX (aG _)) (bw ae) (bO cC rfl B.b_list boot_list (aa (pv 4) ae))) rfl) (af (ic (pv 0) (pv 5) rfl) (af (be (aH DZ3 hr (by decide) rfl (aa (bJ (pv 0) rfl) ae))) (af (be (aH DZ5 hr (by decide) rfl (aa (bJ (pv 0) rfl) (aa (bJ (pv 0) rfl) ae)))) (af (aU (bQ (bZ ci ci ac (pv 5) (ca rfl B.g_MOST_MOMENTS))) (ai bx) aC) (af (be (aH DZ6 hr (by decide) rfl (aa (bJ (pv 0) rfl) (aa (aH DZ1 hr (by decide) rfl (aa (pv 0) ae)) ae)))) (ai (be (aH DZ7 hr (by decide) rfl (aa (bJ (pv 0) rfl) (aa (av ao rfl B.b_len boot_len (aa (bJ (pv 0) rfl) ae)) ae)))))))))))))),?_⟩
 have sl : sizeLine = 16777216 := sizeLine_eq
 refine ⟨_,rfl,td,_,rfl,etd,fun td' ntd => ?_⟩
 have g1 := ag ntd (.dK (a8 D))
 refine ⟨_,rfl,x,_,dx,_,rfl,g1 _ _ ex,B.cl_Net,B.na_Net_tools,(by decide),?_⟩
 have e1 : aD (aD H td' (.dK (a8 D))) x (.ins c_Net dx (aT "tools" (.ref td') [])) x = some (.ins c_Net dx (aT "tools" (.ref td') [])) := aj
 have f1 : Fx x H (aD (aD H td' (.dK (a8 D))) x (.ins c_Net dx (aT "tools" (.ref td') []))) := (Fx.of g1).trans (Fx.put x _ _)
 have d1 : aD (aD H td' (.dK (a8 D))) x (.ins c_Net dx (aT "tools" (.ref td') [])) td' = some (.dK (a8 D)) := by
  rw [aA (fun z => by rw [z,ex] at ntd; cases ntd)]
  exact aj
 generalize aD (aD H td' (.dK (a8 D))) x (.ins c_Net dx (aT "tools" (.ref td') [])) = H1 at e1 f1 d1 ⊢
 obtain ⟨vs,el,rT⟩ := hT.fx ex f1
 clear g1 ntd
 refine ⟨_,rfl,tl,rfl,⟨_,az.of el⟩,dr dR (fun a => An a ∧ H1 a ≠ none) (fun i => T.getD i []) (az.of el) (by rw [rT.1]; have := ok.t24; omega) (fun a h => h.2) (fun i y hy H3 g Q' hQ => ?_) fun p H2 np g2 hp => ?_⟩
 ·obtain ⟨ws,hw,hwl⟩ := rT.at_ hy
  obtain ⟨l,rfl,_,lw⟩ := wa hwl
  obtain ⟨w1,w2,w3⟩ := ok.ways ws (List.mem_of_getElem? hw)
  rw [bf hw] at hQ
  exact ⟨_,rfl,l,ws,_,rfl,lw.same g,w2,fun p H4 g4 _ wf => hQ _ _ g4 wf⟩
 rw [gD T [] rT.1] at hp
 have hT2 := hp.any
 have e2 := g2 _ _ e1
 have d2 := g2 _ _ d1
 have f2 : Fx x H H2 := f1.trans (Fx.of g2)
 clear hp g2 np rT el
 refine ⟨_,rfl,x,_,dx,_,rfl,e2,B.cl_Net,B.na_Net_tasks,by
  have := a7 "tools" (.ref td') []
  simp at *
  omega,?_⟩
 have e3 : aD H2 x (.ins c_Net dx (aT "tasks" (.ref p) (aT "tools" (.ref td') []))) x = some (.ins c_Net dx (aT "tasks" (.ref p) (aT "tools" (.ref td') []))) := aj
 have w3 : Fx x H2 (aD H2 x (.ins c_Net dx (aT "tasks" (.ref p) (aT "tools" (.ref td') [])))) := Fx.put x H2 _
 generalize aD H2 x (.ins c_Net dx (aT "tasks" (.ref p) (aT "tools" (.ref td') []))) = H3 at e3 w3 ⊢
 have d3 := w3 _ _ (fF d2 e2 (by intro z; cases z)) d2
 have hT3 := hT2.fx e2 w3
 have f3 := f2.trans w3
 clear d2 hT2 f2 w3 e2 e1 d1 f1
 obtain ⟨bs,eal,rA⟩ := bu.fx hA ex f3
 refine ⟨_,rfl,al,_,rfl,.inl (az.of eal),fun al' nal => ?_⟩
 have g4 := ag nal (.lst (bs.map V.ref))
 have hA4 : bu (aD H3 al' (.lst (bs.map V.ref))) al' A := ⟨bs,aj,rA.imp fun a k q => g4 _ _ q⟩
 have e4 := g4 _ _ e3
 have d4 := g4 _ _ d3
 have hT4 := hT3.same g4
 have f4 := f3.trans (Fx.of g4)
 generalize aD H3 al' (.lst (bs.map V.ref)) = H4 at hA4 e4 d4 hT4 f4 ⊢
 clear g4 nal d3 hT3 f3 rA eal e3
 refine ⟨_,rfl,x,_,dx,_,rfl,e4,B.cl_Net,B.na_Net_arcs,by
  have := a7 "tools" (.ref td') []
  have := a7 "tasks" (.ref p) (aT "tools" (.ref td') [])
  simp at *
  omega,?_⟩
 have e5 : aD H4 x (.ins c_Net dx (aT "arcs" (.ref al') (aT "tasks" (.ref p) (aT "tools" (.ref td') [])))) x = some (.ins c_Net dx (aT "arcs" (.ref al') (aT "tasks" (.ref p) (aT "tools" (.ref td') [])))) := aj
 have w5 : Fx x H4 (aD H4 x (.ins c_Net dx (aT "arcs" (.ref al') (aT "tasks" (.ref p) (aT "tools" (.ref td') []))))) := Fx.put x H4 _
 generalize aD H4 x (.ins c_Net dx (aT "arcs" (.ref al') (aT "tasks" (.ref p) (aT "tools" (.ref td') [])))) = H5 at e5 w5 ⊢
 have d5 := w5 _ _ (fF d4 e4 (by intro z; cases z)) d4
 have hT5 := hT4.fx e4 w5
 have hA5 := hA4.fx e4 w5
 have f5 := f4.trans w5
 clear d4 hT4 hA4 f4 w5 e4
 try dsimp only [cB,c7]
 refine cut (fun σ H' => ∃ pl' : Addr,σ = [some (.ref x),some (.ref td),some (.ref tl),some (.ref al),some v,some (.int n)] ∧ H' x = some (.ins c_Net dx (aT "apart" (.ref pl') (aT "arcs" (.ref al') (aT "tasks" (.ref p) (aT "tools" (.ref td') []))))) ∧ H' td' = some (.dK (a8 D)) ∧ bY dR An H' p T ∧ bu H' al' A ∧ bu H' pl' B2 ∧ Fx x H H') (fun N hN => ?_) ?_
 ·have fin : ∀ (cs : List Addr) (pl' : Addr),H5 pl' = none → df (fun t k => H5 t = some (.tup (k.map V.int))) cs B2 → N [some (.ref x),some (.ref td),some (.ref tl),some (.ref al),some v,some (.int n)] (aD (aD H5 pl' (.lst (cs.map V.ref))) x (.ins c_Net dx (aT "apart" (.ref pl') (aT "arcs" (.ref al') (aT "tasks" (.ref p) (aT "tools" (.ref td') [])))))) := fun cs pl' npl rB => by
   have g6 := ag npl (.lst (cs.map V.ref))
   have hB6 : bu (aD H5 pl' (.lst (cs.map V.ref))) pl' B2 := ⟨cs,aj,rB.imp fun a k q => g6 _ _ q⟩
   have e6 := g6 _ _ e5
   have d6 := g6 _ _ d5
   have hT6 := hT5.same g6
   have hA6 := hA5.same g6
   have f6 := f5.trans (Fx.of g6)
   generalize aD H5 pl' (.lst (cs.map V.ref)) = H6 at hB6 e6 d6 hT6 hA6 f6 ⊢
   have w7 : Fx x H6 (aD H6 x (.ins c_Net dx (aT "apart" (.ref pl') (aT "arcs" (.ref al') (aT "tasks" (.ref p) (aT "tools" (.ref td') [])))))) := Fx.put x H6 _
   exact hN _ _ ⟨pl',rfl,aj,w7 _ _ (fF d6 e6 (by intro z; cases z)) d6,hT6.fx e6 w7,hA6.fx e6 w7,hB6.fx e6 w7,f6.trans w7⟩
  rcases hv with ⟨rfl,rfl⟩ | ⟨pl,rfl,hB⟩
  ·refine ⟨_,rfl,rfl,_,rfl,dT rfl ⟨(by show 0 ≤ sizeLine; decide),fun pl' npl => ?_⟩⟩
   have l3 : (aT "arcs" (.ref al') (aT "tasks" (.ref p) (aT "tools" (.ref td') []))).length < 1000 := by
    have := a7 "tools" (.ref td') []
    have := a7 "tasks" (.ref p) (aT "tools" (.ref td') [])
    have := a7 "arcs" (.ref al') (aT "tasks" (.ref p) (aT "tools" (.ref td') []))
    simp at *
    omega
   exact ⟨_,rfl,x,_,dx,_,rfl,ag npl _ _ _ e5,B.cl_Net,B.na_Net_apart,l3,fin [] pl' npl df.nil⟩
  ·obtain ⟨cs,epl,rB⟩ := bu.fx hB ex f5
   refine ⟨_,rfl,rfl,_,rfl,dF (by intro z; cases z) ⟨_,rfl,pl,_,rfl,.inl (az.of epl),fun pl' npl => ?_⟩⟩
   have l3 : (aT "arcs" (.ref al') (aT "tasks" (.ref p) (aT "tools" (.ref td') []))).length < 1000 := by
    have := a7 "tools" (.ref td') []
    have := a7 "tasks" (.ref p) (aT "tools" (.ref td') [])
    have := a7 "arcs" (.ref al') (aT "tasks" (.ref p) (aT "tools" (.ref td') []))
    simp at *
    omega
   exact ⟨_,rfl,x,_,dx,_,rfl,ag npl _ _ _ e5,B.cl_Net,B.na_Net_apart,l3,fin cs pl' npl rB⟩
 clear d5 hT5 hA5 f5 e5
 rintro σ H7 ⟨pl',rfl,e7,d7,hT7,hA7,hB7,f7⟩
 have l4 : (aT "apart" (.ref pl') (aT "arcs" (.ref al') (aT "tasks" (.ref p) (aT "tools" (.ref td') [])))).length < 1000 := by
  have := a7 "tools" (.ref td') []
  have := a7 "tasks" (.ref p) (aT "tools" (.ref td') [])
  have := a7 "arcs" (.ref al') (aT "tasks" (.ref p) (aT "tools" (.ref td') []))
  have := a7 "apart" (.ref pl') (aT "arcs" (.ref al') (aT "tasks" (.ref p) (aT "tools" (.ref td') [])))
  simp at *
  omega
 refine ⟨_,rfl,_,rfl,x,_,dx,_,rfl,e7,B.cl_Net,B.na_Net_moments,l4,?_⟩
 have e8 : aD H7 x (.ins c_Net dx (iq (.ref td') (.ref p) (.ref al') (.ref pl') (.int n))) x = some (.ins c_Net dx (iq (.ref td') (.ref p) (.ref al') (.ref pl') (.int n))) := aj
 have w8 : Fx x H7 (aD H7 x (.ins c_Net dx (iq (.ref td') (.ref p) (.ref al') (.ref pl') (.int n)))) := Fx.put x H7 _
 change L2.sC _ _ _ _ (aD H7 x (.ins c_Net dx (iq (.ref td') (.ref p) (.ref al') (.ref pl') (.int n))))
 generalize aD H7 x (.ins c_Net dx (iq (.ref td') (.ref p) (.ref al') (.ref pl') (.int n))) = H8 at e8 w8 ⊢
 have d8 := w8 _ _ (fF d7 e7 (by intro z; cases z)) d7
 have hT8 := hT7.fx e7 w8
 have hA8 := hA7.fx e7 w8
 have hB8 := hB7.fx e7 w8
 have f8 := f7.trans w8
 clear d7 hT7 hA7 hB7 f7 w8 e7
 obtain ⟨k1,k2,k3,k4,k5⟩ := rG (td := .ref td') (tl := .ref p) (al := .ref al') (pl := .ref pl') (n := .int n)
 have N8 : iF c_Net false H8 x D T A B2 n := ⟨dx,td',p,al',pl',_,e8,k1,k2,k3,k4,k5,.inl d8,hT8,hA8,hB8⟩
 refine ⟨_,rfl,x,_,dx,_,_,rfl,e8,B.cl_Net,B.na_Net_tools,k1,td',D,rfl,d8,ok.d12,ok.tool,fun H9 g9 => ?_⟩
 refine ⟨_,rfl,x,_,dx,_,_,rfl,(g9 _ _ e8),B.cl_Net,B.na_Net_tasks,k2,_,rfl,x,_,dx,_,_,rfl,(g9 _ _ e8),B.cl_Net,B.na_Net_tools,k1,p,td',D,T,rfl,hT8.same g9,g9 _ _ d8,ok.t24,ok.ways,fun H10 g10 => ?_⟩
 have g := g9.trans g10
 refine ⟨_,rfl,_,_,rfl,rfl,_,rfl,dT ok.n0 ⟨_,_,rfl,rfl,_,rfl,nF ok.n8 ?_⟩⟩
 refine ⟨_,rfl,x,_,dx,_,_,rfl,(g _ _ e8),B.cl_Net,B.na_Net_arcs,k3,_,rfl,x,n,false,D,T,A,B2,rfl,N8.same g,al',_,A,rfl,hA8.same g,ok.a600,ok.arcs,?_⟩
 obtain ⟨ps,ep8,rp8⟩ := hT8.same g
 refine ⟨_,rfl,x,_,dx,_,_,rfl,(g _ _ e8),B.cl_Net,B.na_Net_apart,k4,_,rfl,x,_,dx,_,_,rfl,(g _ _ e8),B.cl_Net,B.na_Net_tasks,k2,p,_,rfl,.inl (az.of ep8),pl',_,B2,rfl,hB8.same g,ok.b300,fun k hk => ?_,?_⟩
 ·rw [rp8.1]
  exact ok.pairs k hk
 exact q _ (f8.trans (Fx.of g)) (N8.same g)
theorem xn : aN ["way","tool","use"] ["way","tool"] (ak tZ) := ⟨rfl,rfl,rfl,by decide +kernel,rfl,by decide +kernel,by decide +kernel⟩
set_option maxHeartbeats 4000000 in
theorem xo {dV : Value} (F : bL K "use_in" "use_in" tZ dV f fd) (B : Bn K mg c_Net f_Z8)  : bG P w K mg base bj 1 f fd ["way","tool"] jQ := by
 have sc := xn
 refine F.ok sc (fun vs H Q E h => ?_) (fun cdv A outer s H vs Q E hr h => ?_)
 ·obtain ⟨v,z,w,P0,rfl,_⟩ := h
  rfl
 obtain ⟨v,z,w,P0,rfl,⟨t,u,rfl,_,_,et,us,eu,ru⟩,q1,q0⟩ := h
 refine ⟨_,(af (aX PassesOwn.never rfl (aZ (am ar (pv 0) ac (fun _ _ => rfl))) (ay (i := 2) sc.nd rfl (Or.inl rfl)) (ai (aU (aI gJ (am ar (pv 2) ac (fun _ _ => rfl)) (pv 1) (aG _)) (ai (aO (pv 2))) aC))) (ai (aO dX))),?_⟩
 refine ⟨_,rfl,t,_,_,_,rfl,rfl,bc.of et,rfl,u,rfl,⟨_,az.of eu⟩,bq (xs := us) (fun i σ H' => H = H' ∧ (∃ o2 : Option V,σ = [some (.ref t),some (.str z),o2]) ∧ ∀ (j : Nat) (e : Us),j < i → w.2.2[j]? = some e → e.1 ≠ z) ⟨rfl,⟨none,rfl⟩,fun j e h => absurd h (by omega)⟩ (fun i σ H' _ h => by rw [← h.1]; exact az.of eu) ?_ ?_⟩
 ·rintro i y σ H1 hy ⟨rfl,⟨o2,rfl⟩,hn⟩
  obtain ⟨e,he,a,rfl,pa,ea⟩ := ru.at_ hy
  refine ⟨_,rfl,a,_,_,_,rfl,rfl,bc.of ea,rfl,_,rfl,rfl,_,rfl,d2 (fun c => ?_) (fun c => ?_)⟩
  ·exact ⟨_,rfl,q1 e a (jW (us := w.2.2) he (by injection c) hn) pa ea⟩
  ·refine ⟨rfl,⟨_,rfl⟩,fun j e' hj he' => ?_⟩
   rcases Nat.lt_succ_iff_lt_or_eq.mp hj with h | h
   ·exact hn j e' h he'
   ·subst h
    rw [he] at he'
    cases he'
    exact fun z => c (by rw [z])
 ·rintro σ H1 ⟨rfl,⟨o2,rfl⟩,hn⟩
  exact q0 (rO fun j e he => hn j e (by rw [ru.1]; exact (List.getElem?_eq_some_iff.mp he).1) he)
theorem uP : aN ["net","plan","run","ways"] ["net","plan"] (ak oE) := ⟨rfl,rfl,rfl,by decide +kernel,rfl,by decide +kernel,by decide +kernel⟩
set_option maxHeartbeats 4000000 in
theorem uQ {dV : Value} (F : bL K "is_plan" "is_plan" oE dV f fd) (B : Bn K mg c_Net f_Z8)  : bG P w K mg base bj 1 f fd ["net","plan"] (gC c_Net) := by
 have sc := uP
 refine F.ok sc (fun vs H Q E h => ?_) (fun cdv A outer s H vs Q E hr h => ?_)
 ·obtain ⟨x,t,rfl,_⟩ := h
  rfl
 obtain ⟨x,t,rfl,D,T,A,B2,R,M,N,q⟩ := h
 refine ⟨_,(af (aU (PW.pt (fc (aI gK (av ao rfl B.b_len boot_len (aa (am ar (pv 1) ac (fun _ _ => rfl)) ae)) (av ao rfl B.b_len boot_len (aa (bJ (pv 0) rfl) ae)) (aG _)) (dY (aI gK (av ao rfl B.b_len boot_len (aa (am ar (pv 1) ac (fun _ _ => rfl)) ae)) (bJ (pv 0) rfl) (aG _))))) (ai (aO c6)) aC) (af (aX PassesOwn.never rfl (sU rfl B.b_zip (aa (am ar (pv 1) ac (fun _ _ => rfl)) (aa (bJ (pv 0) rfl) ae))) (dI rfl (bn (ay (i := 2) sc.nd rfl (Or.inl rfl)) (bn (ay (i := 3) sc.nd rfl (Or.inl rfl)) cV))) (ai (aU (bQ (bZ ci cv ac (am ar (pv 2) ac (fun _ _ => rfl)) (av ao rfl B.b_len boot_len (aa (pv 3) ae)))) (ai (aO c6)) aC))) (ai (aO c6)))),?_⟩
 have sl : sizeLine = 16777216 := sizeLine_eq
 obtain ⟨dx,td,tl,al,pl,fs,e0,l1,l2,l3,l4,l5,ed,⟨vs,el,rT⟩,hA,hB⟩ := N.net.ex
 obtain ⟨rl,ml,et,⟨bs,er,rR⟩,em⟩ := id N.plan
 have lr : (bs.map V.ref).length = vs.length := by rw [List.length_map,rR.1,List.length_map,N.pok.len,rT.1]
 refine ⟨_,rfl,t,_,_,_,rfl,rfl,bc.of et,rfl,rl,_,rfl,.inl (az.of er),_,rfl,x,_,dx,_,_,rfl,e0,B.cl_Net,B.na_Net_tasks,l2,tl,_,rfl,.inl (az.of el),rfl,_,rfl,v7 (by rw [lr]) ?_⟩
 refine ⟨_,rfl,t,_,_,_,rfl,rfl,bc.of et,rfl,ml,_,rfl,.inl (az.of em),_,rfl,x,_,dx,_,_,rfl,e0,B.cl_Net,B.na_Net_moments,l5,rfl,_,rfl,v7 (by rw [List.length_map]) ?_⟩
 refine ⟨_,rfl,t,_,_,_,rfl,rfl,bc.of et,rfl,_,rfl,x,_,dx,_,_,rfl,e0,B.cl_Net,B.na_Net_tasks,l2,rl,tl,rfl,⟨_,az.of er⟩,⟨_,az.of el⟩,rg (xs := bs.map V.ref) (ys := vs) (fun i σ H' => aB H H' ∧ ∃ o2 o3 : Option V,σ = [some (.ref x),some (.ref t),o2,o3]) ⟨.refl _,none,none,rfl⟩ (fun i σ H' _ h => ⟨az.of (h.1 _ _ er),az.of (h.1 _ _ el)⟩) ?_ ?_⟩
 ·rintro i y z σ H1 T' hy hz ⟨g1,o2,o3,rfl⟩ nT
  obtain ⟨b,hb,rfl⟩ := cf hy
  obtain ⟨r,hr',eb⟩ := eB rR hb
  obtain ⟨ws,hT,wl,rfl,_,ts,ew,rw'⟩ := rT.at_ hz
  have pk := N.pok.way i r _ hr' hT
  have g2 := g1.trans (ag nT (.tup [.ref b,.ref wl]))
  refine ⟨T',_,rfl,bc.of aj,rfl,_,_,rfl,_,_,rfl,rfl,?_⟩
  refine ⟨_,rfl,b,_,_,_,rfl,rfl,bc.of (g2 _ _ eb),rfl,_,_,rfl,rfl,_,rfl,dT pk.1 ⟨_,rfl,wl,_,rfl,.inl (az.of (g2 _ _ ew)),_,_,rfl,rfl,_,rfl,nF (by rw [rw'.1]; exact pk.2) ⟨g2,_,_,rfl⟩⟩⟩
 ·rintro σ H1 ⟨g1,o2,o3,rfl⟩
  exact q _ g1
theorem uR : aN ["plan","point","moment"] ["plan","point"] (ak oF) := ⟨rfl,rfl,rfl,by decide +kernel,rfl,by decide +kernel,by decide +kernel⟩
set_option maxHeartbeats 4000000 in
theorem uS {dV : Value} (F : bL K "time_of" "time_of" oF dV f fd) (B : Bn K mg c_Net f_Z8)  : bG P w K mg base bj 1 f fd ["plan","point"] ir := by
 have sc := uR
 refine F.ok sc (fun vs H Q E h => ?_) (fun cdv A outer s H vs Q E hr h => ?_)
 ·obtain ⟨t,p,R,M,v,rfl,_⟩ := h
  rfl
 obtain ⟨t,p,R,M,v,rfl,⟨rl,ml,et,⟨bs,er,rR⟩,em⟩,p0,ev,q⟩ := h
 refine ⟨_,(af (aE (i := 2) sc.nd rfl (Or.inl rfl) (aw c8 (pv 1) (aw di ac (av ao rfl B.b_len boot_len (aa (am ar (pv 0) ac (fun _ _ => rfl)) ae))))) (af (aU (aI uj (pv 2) ac (aG _)) (ai (aO (am au (am ar (pv 0) ac (fun _ _ => rfl)) (pv 2) (fun _ _ => rfl)))) aC) (ai (aO (am ar (am au (am ar (pv 0) ac (fun _ _ => rfl)) (aw bH (pv 1) ac) (fun _ _ => rfl)) (aw aR (pv 1) ac) (fun _ _ => rfl)))))),?_⟩
 have lr : (bs.map V.ref).length = R.length := by rw [List.length_map,rR.1,List.length_map]
 refine ⟨_,rfl,_,rfl,t,_,_,_,rfl,rfl,bc.of et,rfl,rl,_,rfl,.inl (az.of er),_,_,rfl,rfl,IntMulOk.of_left (by decide),_,_,rfl,rfl,?_⟩
 refine ⟨_,rfl,_,_,rfl,rfl,_,rfl,d2 (fun c => ?_) (fun c => ?_)⟩
 ·exact ⟨_,rfl,t,_,_,_,rfl,rfl,bc.of et,rfl,_,rfl,ml,_,_,_,rfl,rfl,az.of em,rK lr c ev,q⟩
 ·obtain ⟨i,r,e1,e2,e3⟩ := rJ p0 (by rw [lr] at c; omega) ev
  obtain ⟨b,hb,eb⟩ := run_get rR e2
  exact ⟨_,rfl,t,_,_,_,rfl,rfl,bc.of et,rfl,_,rfl,_,_,rfl,rfl,⟨by decide,PyProof.noPylong_small (by decide)⟩,rl,_,_,_,rfl,rfl,az.of er,by rw [e1]; exact aL (a5 hb),_,rfl,_,_,rfl,rfl,(by show (2 : Int) ≠ 0; decide),b,_,_,_,rfl,rfl,bc.of eb,e3,q⟩
theorem uT : aN ["one","other"] ["one","other"] (ak oG) := ⟨rfl,rfl,rfl,by decide +kernel,rfl,by decide +kernel,by decide +kernel⟩
set_option maxHeartbeats 4000000 in
theorem uU {dV : Value} (F : bL K "runs_meet" "runs_meet" oG dV f fd) (B : Bn K mg c_Net f_Z8)  : bG P w K mg base bj 1 f fd ["one","other"] dy := by
 have sc := uT
 refine F.ok sc (fun vs H Q E h => ?_) (fun cdv A outer s H vs Q E hr h => ?_)
 ·obtain ⟨t,u,r,s2,rfl,_⟩ := h
  rfl
 obtain ⟨t,u,r,s2,rfl,et,eu,q⟩ := h
 refine ⟨_,(ai (aO (hU (ce cv (am ar (pv 0) ac (fun _ _ => rfl)) (am ar (pv 1) ac (fun _ _ => rfl)) (aG _)) (lL (ce cv (am ar (pv 1) ac (fun _ _ => rfl)) (am ar (pv 0) ac (fun _ _ => rfl)) (aG _)))))),?_⟩
 refine ⟨_,rfl,t,_,_,_,rfl,rfl,bc.of et,rfl,_,rfl,u,_,_,_,rfl,rfl,bc.of eu,rfl,_,_,rfl,rfl,_,rfl,d2 (fun c => ⟨_,rfl,u,_,_,_,rfl,rfl,bc.of eu,rfl,_,rfl,t,_,_,_,rfl,rfl,bc.of et,rfl,_,_,rfl,rfl,?_⟩) (fun c => ?_)⟩
 ·have e : cy r s2 = decide (s2.1 < r.2.1) := by unfold cy; rw [decide_eq_true c,Bool.true_and]
  rw [e] at q
  exact q
 ·have e : cy r s2 = false := by unfold cy; rw [decide_eq_false c,Bool.false_and]
  rw [e] at q
  exact q
theorem uV : aN ["run","turn"] ["run","turn"] (ak oH) := ⟨rfl,rfl,rfl,by decide +kernel,rfl,by decide +kernel,by decide +kernel⟩
set_option maxHeartbeats 4000000 in
theorem uW {dV : Value} (F : bL K "goes_on" "goes_on" oH dV f fd) (B : Bn K mg c_Net f_Z8)  : bG P w K mg base bj 1 f fd ["run","turn"] iL := by
 have sc := uV
 refine F.ok sc (fun vs H Q E h => ?_) (fun cdv A outer s H vs Q E hr h => ?_)
 ·obtain ⟨t,r,n,rfl,_⟩ := h
  rfl
 obtain ⟨t,r,n,rfl,et,q⟩ := h
 refine ⟨_,(ai (aO (pR ci cv (am ar (pv 0) ac (fun _ _ => rfl)) (pv 1) (am ar (pv 0) ac (fun _ _ => rfl))))),?_⟩
 refine ⟨_,rfl,t,_,_,_,rfl,rfl,bc.of et,rfl,_,rfl,_,_,rfl,rfl,_,rfl,d2 (fun c => ⟨_,rfl,t,_,_,_,rfl,rfl,bc.of et,rfl,_,_,rfl,rfl,?_⟩) (fun c => ?_)⟩
 ·have e : dS r n = decide (n < r.2.1) := by unfold dS; rw [decide_eq_true c,Bool.true_and]
  rw [e] at q
  exact q
 ·have e : dS r n = false := by unfold dS; rw [decide_eq_false c,Bool.false_and]
  rw [e] at q
  exact q
theorem uX : aN ["net","plan","task","tool"] ["net","plan","task","tool"] (ak oI) := ⟨rfl,rfl,rfl,by decide +kernel,rfl,by decide +kernel,by decide +kernel⟩
set_option maxHeartbeats 4000000 in
theorem uY {dV : Value} (F : bL K "use_of" "use_of" oI dV f fd) (B : Bn K mg c_Net f_Z8) (DZ9 : Dx P w K mg base bj 1 "use_in" ["way","tool"] [] jQ) : bG P w K mg base bj 2 f fd ["net","plan","task","tool"] (hE c_Net) := by
 have sc := uX
 refine F.ok sc (fun vs H Q E h => ?_) (fun cdv A outer s H vs Q E hr h => ?_)
 ·obtain ⟨x,t,i,z,H0,rfl,_⟩ := h
  rfl
 obtain ⟨x,t,i,z,H0,rfl,g,D,T,A,B2,R,M,N,il,q1,q0⟩ := h
 refine ⟨_,(ai (aO (aH DZ9 hr (by decide) rfl (aa (am au (am au (bJ (pv 0) rfl) (pv 2) (fun _ _ => rfl)) (am ar (am au (am ar (pv 1) ac (fun _ _ => rfl)) (pv 2) (fun _ _ => rfl)) ac (fun _ _ => rfl)) (fun _ _ => rfl)) (aa (pv 3) ae))))),?_⟩
 obtain ⟨dx,td,tl,al,pl,fs,e0,l1,l2,l3,l4,l5,ed,⟨vs,el,rT⟩,hA,hB⟩ := N.net.ex
 obtain ⟨rl,ml,et,⟨bs,er,rR⟩,em⟩ := id N.plan
 obtain ⟨wl,b,ts,v,r,j,hw,ew,hv,rw',hb,eb,hr',hj,_⟩ := mD rT rR N.pok il
 refine ⟨_,rfl,x,_,dx,_,_,rfl,(g _ _ e0),B.cl_Net,B.na_Net_tasks,l2,_,rfl,tl,_,_,_,rfl,rfl,az.of (g _ _ el),(aL hw),_,rfl,t,_,_,_,rfl,rfl,bc.of (g _ _ et),rfl,_,rfl,rl,_,_,_,rfl,rfl,az.of (g _ _ er),(aL (a5 hb)),b,_,_,_,rfl,rfl,bc.of (g _ _ eb),rfl,wl,_,_,_,rfl,rfl,az.of (g _ _ ew),(by rw [hj]; exact aL hv),_,rfl,v,z,_,_,rfl,gk (wa rw') g,fun u a hu ha ea => q1 u a hu ?_,q0⟩
 cases e : H0 a with
 | none => exact absurd e ha.2
 | some o =>
  have := g _ _ e
  rw [ea] at this
  cases this
  rfl
theorem uZ : aN ["net","plan","told","i","run","way"] ["net","plan"] (ak oJ) := ⟨rfl,rfl,rfl,by decide +kernel,rfl,by decide +kernel,by decide +kernel⟩
set_option maxHeartbeats 4000000 in
theorem u0 {dV : Value} (F : bL K "breaches_of_turns" "breaches_of_turns" oJ dV f fd) (B : Bn K mg c_Net f_Z8)  : bG P w K mg base bj 1 f fd ["net","plan"] (cg c_Net fun T A B R M => cG T R T.length) := by
 have sc := uZ
 refine F.ok sc (fun vs H Q E h => ?_) (fun cdv A outer s H vs Q E hr h => ?_)
 ·obtain ⟨x,t,rfl,_⟩ := h
  rfl
 obtain ⟨x,t,rfl,D,T,A,B2,R,M,N,q⟩ := h
 refine ⟨_,(af (aE (i := 2) sc.nd rfl (Or.inl rfl) (bw ae)) (af (aX PassesOwn.never rfl (fL rfl B.b_enumerate (aa (am ar (pv 1) ac (fun _ _ => rfl)) ae)) (dI rfl (bn (ay (i := 3) sc.nd rfl (Or.inl rfl)) (bn (ay (i := 4) sc.nd rfl (Or.inl rfl)) cV))) (af (aE (i := 5) sc.nd rfl (Or.inl rfl) (am au (am au (bJ (pv 0) rfl) (pv 3) (fun _ _ => rfl)) (am ar (pv 4) ac (fun _ _ => rfl)) (fun _ _ => rfl))) (ai (aU (PW.pt (fc (aI cv (am ar (pv 4) ac (fun _ _ => rfl)) ac (aG _)) (dY (bQ (bZ ci ci (am ar (pv 5) ac (fun _ _ => rfl)) (aw c8 (am ar (pv 4) ac (fun _ _ => rfl)) (am ar (pv 4) ac (fun _ _ => rfl))) (am ar (pv 5) ac (fun _ _ => rfl))))))) (ai (be (cn PySem.F.plainAttrs_list PySem.F.slot_list_append PySem.F.type_list_append aW (pv 2) (aa (bK (aa cz (aa (pv 3) ae))) ae)))) aC)))) (ai (aO (pv 2))))),?_⟩
 have sl : sizeLine = 16777216 := sizeLine_eq
 obtain ⟨dx,td,tl,al,pl,fs,e0,l1,l2,l3,l4,l5,ed,⟨vs,el,rT⟩,hA,hB⟩ := N.net.ex
 obtain ⟨rl,ml,et,⟨bs,er,rR⟩,em⟩ := id N.plan
 refine ⟨(by show 0 ≤ sizeLine; decide),fun l nl => ?_⟩
 have g0 := ag nl (.lst [])
 have lr : (bs.map V.ref).length = T.length := by rw [List.length_map,rR.1,List.length_map,N.pok.len]
 refine ⟨_,rfl,t,_,_,_,rfl,rfl,bc.of (g0 _ _ et),rfl,rl,rfl,⟨_,az.of (g0 _ _ er)⟩,ee (xs := bs.map V.ref) (fun i σ H' => ∃ o3 o4 o5 : Option V,σ = [some (.ref x),some (.ref t),some (.ref l),o3,o4,o5] ∧ aB H H' ∧ ToldN H H' l ([] ++ cG T R i)) ⟨none,none,none,rfl,g0,bY.new⟩ (fun i σ H' _ ⟨_,_,_,_,g,_⟩ => az.of (g _ _ er)) ?_ ?_⟩
 ·rintro i y σ H1 T' hy ⟨o3,o4,o5,rfl,g1,cs,ec,rc⟩ nT
  have il : i < R.length := by
   have := (List.getElem?_eq_some_iff.mp hy).1
   rw [lr,← N.pok.len] at this
   exact this
  obtain ⟨wl,b,ts,v,r,j,hw,ew,hv,rw',hb,eb,hr',hj,hd⟩ := mD rT rR N.pok il
  obtain ⟨b',hb',rfl⟩ := cf hy
  rw [hb] at hb'
  cases hb'
  obtain ⟨tw,uw,rfl,_,_,ev,_⟩ := rw'
  have t24 := N.ok.t24
  have pl' := N.pok.len
  have bad : lg T R i = decide (r.1 < 0 ∨ ¬ ((bM T R i).1 ≤ r.2.1 - r.1 ∧ r.2.1 - r.1 ≤ (bM T R i).2.1)) := by
   simp only [lg,hd]
  generalize bM T R i = wy at ev bad
  have gT := ag nT (.tup [.int (i : Int),.ref b])
  have g2 := g1.trans gT
  have ec2 := gT _ _ ec
  have rc2 := rc.imp fun _ _ q => gk q gT
  have eb2 := g2 _ _ eb
  have ev2 := g2 _ _ ev
  have sz : cs.length < sizeLine := by
   rw [rc.1]
   have := aY i (lg T R) fun i => [V.str "turns",.int (i : Nat)]
   show (cG T R i).length < _
   unfold cG
   omega
  refine ⟨T',_,rfl,bc.of aj,rfl,_,_,rfl,_,_,rfl,rfl,?_⟩
  generalize aD H1 T' (.tup [.int (i : Int),.ref b]) = H2 at g2 ec2 rc2 eb2 ev2 ⊢
  refine ⟨_,rfl,x,_,dx,_,_,rfl,(g2 _ _ e0),B.cl_Net,B.na_Net_tasks,l2,_,rfl,tl,_,_,_,rfl,rfl,az.of (g2 _ _ el),(aL hw),_,rfl,b,_,_,_,rfl,rfl,bc.of eb2,rfl,wl,_,_,_,rfl,rfl,az.of (g2 _ _ ew),(by rw [hj]; exact aL hv),?_⟩
  refine ⟨_,rfl,b,_,_,_,rfl,rfl,bc.of eb2,rfl,_,_,rfl,rfl,_,rfl,d2 (fun c => ?_) (fun c => ?_)⟩
  ·exact d0 ⟨_,rfl,.inl ⟨rfl,_,az.of ec2⟩,_,rfl,(by show 2 ≤ sizeLine; decide),fun a na => ⟨l,_,_,rfl,rfl,ag na _ _ _ ec2,sz,_,_,_,rfl,dP (pre := []) nl g2 ec2 rc2 (by rw [bad]; exact decide_eq_true (.inl c)) na rfl⟩⟩
  ·refine ⟨_,rfl,tw,_,_,_,rfl,rfl,bc.of ev2,rfl,_,rfl,b,_,_,_,rfl,rfl,bc.of eb2,rfl,_,rfl,b,_,_,_,rfl,rfl,bc.of eb2,rfl,_,_,rfl,rfl,_,_,rfl,rfl,_,rfl,d2 (fun c1 => ?_) (fun c1 => ?_)⟩
   ·refine ⟨_,rfl,tw,_,_,_,rfl,rfl,bc.of ev2,rfl,_,_,rfl,rfl,_,rfl,n2 (fun c2 => ?_) (fun c2 => ?_)⟩
    ·exact ⟨_,rfl,.inl ⟨rfl,_,az.of ec2⟩,_,rfl,(by show 2 ≤ sizeLine; decide),fun a na => ⟨l,_,_,rfl,rfl,ag na _ _ _ ec2,sz,_,_,_,rfl,dP (pre := []) nl g2 ec2 rc2 (by rw [bad]; exact decide_eq_true (.inr fun z => c2 z.2)) na rfl⟩⟩
    ·exact ⟨_,_,_,rfl,g2,iK (pre := []) ⟨cs,ec2,rc2⟩ (by rw [bad]; exact decide_eq_false (by omega))⟩
   ·exact ⟨_,rfl,d0 ⟨_,rfl,.inl ⟨rfl,_,az.of ec2⟩,_,rfl,(by show 2 ≤ sizeLine; decide),fun a na => ⟨l,_,_,rfl,rfl,ag na _ _ _ ec2,sz,_,_,_,rfl,dP (pre := []) nl g2 ec2 rc2 (by rw [bad]; exact decide_eq_true (.inr fun z => c1 z.1)) na rfl⟩⟩⟩
 ·rintro σ H1 ⟨o3,o4,o5,rfl,g1,br⟩
  rw [lr] at br
  exact ⟨_,rfl,q l H1 g1 nl br⟩
theorem u1 : aN ["net","plan","told","k","arc"] ["net","plan"] (ak oK) := ⟨rfl,rfl,rfl,by decide +kernel,rfl,by decide +kernel,by decide +kernel⟩
set_option maxHeartbeats 4000000 in
theorem u2 {dV : Value} (F : bL K "breaches_of_arcs" "breaches_of_arcs" oK dV f fd) (B : Bn K mg c_Net f_Z8) (DZ11 : Dx P w K mg base bj 1 "time_of" ["plan","point"] [] ir) : bG P w K mg base bj 2 f fd ["net","plan"] (cg c_Net fun T A B R M => cm A R M A.length) := by
 have sc := u1
 refine F.ok sc (fun vs H Q E h => ?_) (fun cdv A outer s H vs Q E hr h => ?_)
 ·obtain ⟨x,t,rfl,_⟩ := h
  rfl
 obtain ⟨x,t,rfl,D,T,A,B2,R,M,N,q⟩ := h
 refine ⟨_,(af (aE (i := 2) sc.nd rfl (Or.inl rfl) (bw ae)) (af (aX PassesOwn.never rfl (fL rfl B.b_enumerate (aa (bJ (pv 0) rfl) ae)) (dI rfl (bn (ay (i := 3) sc.nd rfl (Or.inl rfl)) (bn (ay (i := 4) sc.nd rfl (Or.inl rfl)) cV))) (ai (aU (aI cv (aw c8 (aH DZ11 hr (by decide) rfl (aa (pv 1) (aa (am ar (pv 4) ac (fun _ _ => rfl)) ae))) (aH DZ11 hr (by decide) rfl (aa (pv 1) (aa (am ar (pv 4) ac (fun _ _ => rfl)) ae)))) (am ar (pv 4) ac (fun _ _ => rfl)) (aG _)) (ai (be (cn PySem.F.plainAttrs_list PySem.F.slot_list_append PySem.F.type_list_append aW (pv 2) (aa (bK (aa cz (aa (pv 3) ae))) ae)))) aC))) (ai (aO (pv 2))))),?_⟩
 have sl : sizeLine = 16777216 := sizeLine_eq
 obtain ⟨dx,td,tl,al,pl,fs,e0,l1,l2,l3,l4,l5,ed,⟨vs,el,rT⟩,hA,hB⟩ := N.net.ex
 obtain ⟨rl,ml,et,⟨bs,er,rR⟩,em⟩ := id N.plan
 refine ⟨(by show 0 ≤ sizeLine; decide),fun l nl => ?_⟩
 have g0 := ag nl (.lst [])
 obtain ⟨ks,ea,rA⟩ := hA
 have lr : (ks.map V.ref).length = A.length := by rw [List.length_map,rA.1]
 refine ⟨_,rfl,x,_,dx,_,_,rfl,(g0 _ _ e0),B.cl_Net,B.na_Net_arcs,l3,al,rfl,⟨_,az.of (g0 _ _ ea)⟩,ee (xs := ks.map V.ref) (fun i σ H' => ∃ o3 o4 : Option V,σ = [some (.ref x),some (.ref t),some (.ref l),o3,o4] ∧ aB H H' ∧ ToldN H H' l ([] ++ cm A R M i)) ⟨none,none,rfl,g0,bY.new⟩ (fun i σ H' _ ⟨_,_,_,g,_⟩ => az.of (g _ _ ea)) ?_ ?_⟩
 ·rintro i y σ H1 T' hy ⟨o3,o4,rfl,g1,cs,ec,rc⟩ nT
  obtain ⟨b,hb,rfl⟩ := cf hy
  have il : i < A.length := by rw [← rA.1]; exact (List.getElem?_eq_some_iff.mp hb).1
  have hA := List.getElem?_eq_getElem il
  have eb := rA.2 i b _ hb hA
  obtain ⟨p,p',gg,ek,p0,p1,q0,q1,_⟩ := N.ok.arcs _ (List.getElem_mem il)
  have a600 := N.ok.a600
  rw [ek] at eb hA
  have sl' : ((aQ R M).length : Int) = 2 * (T.length : Int) + M.length := by rw [cx,N.pok.len]; omega
  have hp := List.getElem?_eq_getElem (show p.toNat < (aQ R M).length by omega)
  have hq := List.getElem?_eq_getElem (show p'.toNat < (aQ R M).length by omega)
  generalize (aQ R M)[p.toNat]'_ = v at hp
  generalize (aQ R M)[p'.toNat]'_ = v' at hq
  have bad : mf A (aQ R M) i = decide (v' - v < gg) := by
   unfold mf
   rw [bf hA]
   show decide ((aQ R M).getD p'.toNat 0 - (aQ R M).getD p.toNat 0 < gg) = _
   rw [bf hp,bf hq]
  have gT := ag nT (.tup [.int (i : Int),.ref b])
  have g2 := g1.trans gT
  have ec2 := gT _ _ ec
  have rc2 := rc.imp fun _ _ q => gk q gT
  have eb2 := g2 _ _ eb
  have sz : cs.length < sizeLine := by
   rw [rc.1]
   have := aY i (mf A (aQ R M)) fun i => [V.str "arc",.int (i : Nat)]
   show (cm A R M i).length < _
   unfold cm
   omega
  refine ⟨T',_,rfl,bc.of aj,rfl,_,_,rfl,_,_,rfl,rfl,?_⟩
  generalize aD H1 T' (.tup [.int (i : Int),.ref b]) = H2 at g2 ec2 rc2 eb2 ⊢
  have P2 := N.plan.same g2
  refine ⟨_,rfl,_,rfl,b,_,_,_,rfl,rfl,bc.of eb2,rfl,t,_,R,M,v',rfl,P2,q0,hq,_,rfl,_,rfl,b,_,_,_,rfl,rfl,bc.of eb2,rfl,t,_,R,M,v,rfl,P2,p0,hp,_,_,rfl,rfl,_,rfl,b,_,_,_,rfl,rfl,bc.of eb2,rfl,_,_,rfl,rfl,_,rfl,d2 (fun c => ?_) (fun c => ?_)⟩
  ·exact ⟨_,rfl,.inl ⟨rfl,_,az.of ec2⟩,_,rfl,(by show 2 ≤ sizeLine; decide),fun a na => ⟨l,_,_,rfl,rfl,ag na _ _ _ ec2,sz,_,_,rfl,dP (pre := []) nl g2 ec2 rc2 (by rw [bad]; exact decide_eq_true c) na rfl⟩⟩
  ·exact ⟨_,_,rfl,g2,iK (pre := []) ⟨cs,ec2,rc2⟩ (by rw [bad]; exact decide_eq_false c)⟩
 ·rintro σ H1 ⟨o3,o4,rfl,g1,br⟩
  rw [lr] at br
  exact ⟨_,rfl,q l H1 g1 nl br⟩
theorem u3 : aN ["net","plan","told","k","pair"] ["net","plan"] (ak oM) := ⟨rfl,rfl,rfl,by decide +kernel,rfl,by decide +kernel,by decide +kernel⟩
set_option maxHeartbeats 4000000 in
theorem u4 {dV : Value} (F : bL K "breaches_of_apart" "breaches_of_apart" oM dV f fd) (B : Bn K mg c_Net f_Z8) (DZ12 : Dx P w K mg base bj 1 "runs_meet" ["one","other"] [] dy) : bG P w K mg base bj 2 f fd ["net","plan"] (cg c_Net fun T A B R M => cb B R B.length) := by
 have sc := u3
 refine F.ok sc (fun vs H Q E h => ?_) (fun cdv A outer s H vs Q E hr h => ?_)
 ·obtain ⟨x,t,rfl,_⟩ := h
  rfl
 obtain ⟨x,t,rfl,D,T,A,B2,R,M,N,q⟩ := h
 refine ⟨_,(af (aE (i := 2) sc.nd rfl (Or.inl rfl) (bw ae)) (af (aX PassesOwn.never rfl (fL rfl B.b_enumerate (aa (bJ (pv 0) rfl) ae)) (dI rfl (bn (ay (i := 3) sc.nd rfl (Or.inl rfl)) (bn (ay (i := 4) sc.nd rfl (Or.inl rfl)) cV))) (ai (aU (bX (aH DZ12 hr (by decide) rfl (aa (am au (am ar (pv 1) ac (fun _ _ => rfl)) (am ar (pv 4) ac (fun _ _ => rfl)) (fun _ _ => rfl)) (aa (am au (am ar (pv 1) ac (fun _ _ => rfl)) (am ar (pv 4) ac (fun _ _ => rfl)) (fun _ _ => rfl)) ae)))) (ai (be (cn PySem.F.plainAttrs_list PySem.F.slot_list_append PySem.F.type_list_append aW (pv 2) (aa (bK (aa cz (aa (pv 3) ae))) ae)))) aC))) (ai (aO (pv 2))))),?_⟩
 have sl : sizeLine = 16777216 := sizeLine_eq
 obtain ⟨dx,td,tl,al,pl,fs,e0,l1,l2,l3,l4,l5,ed,⟨vs,el,rT⟩,hA,hB⟩ := N.net.ex
 obtain ⟨rl,ml,et,⟨bs,er,rR⟩,em⟩ := id N.plan
 refine ⟨(by show 0 ≤ sizeLine; decide),fun l nl => ?_⟩
 have g0 := ag nl (.lst [])
 obtain ⟨ks,ea,rA⟩ := hB
 have lr : (ks.map V.ref).length = B2.length := by rw [List.length_map,rA.1]
 refine ⟨_,rfl,x,_,dx,_,_,rfl,(g0 _ _ e0),B.cl_Net,B.na_Net_apart,l4,pl,rfl,⟨_,az.of (g0 _ _ ea)⟩,ee (xs := ks.map V.ref) (fun i σ H' => ∃ o3 o4 : Option V,σ = [some (.ref x),some (.ref t),some (.ref l),o3,o4] ∧ aB H H' ∧ ToldN H H' l ([] ++ cb B2 R i)) ⟨none,none,rfl,g0,bY.new⟩ (fun i σ H' _ ⟨_,_,_,g,_⟩ => az.of (g _ _ ea)) ?_ ?_⟩
 ·rintro i y σ H1 T' hy ⟨o3,o4,rfl,g1,cs,ec,rc⟩ nT
  obtain ⟨b,hb,rfl⟩ := cf hy
  have il : i < B2.length := by rw [← rA.1]; exact (List.getElem?_eq_some_iff.mp hb).1
  have hA := List.getElem?_eq_getElem il
  have eb := rA.2 i b _ hb hA
  obtain ⟨p,p',ek,p0,p1,q0,q1,_⟩ := N.ok.pairs _ (List.getElem_mem il)
  have b300 := N.ok.b300
  rw [ek] at eb hA
  have lR := N.pok.len
  have hp := List.getElem?_eq_getElem (show p.toNat < R.length by omega)
  have hq := List.getElem?_eq_getElem (show p'.toNat < R.length by omega)
  obtain ⟨a1,h1,e1⟩ := run_get rR hp
  obtain ⟨a2,h2,e2⟩ := run_get rR hq
  generalize R[p.toNat]'_ = v at hp e1
  generalize R[p'.toNat]'_ = v' at hq e2
  have bad : mB B2 R i = cy v v' := by
   unfold mB
   rw [bf hA]
   show cy (R.getD p.toNat (0,0,0)) (R.getD p'.toNat (0,0,0)) = _
   rw [bf hp,bf hq]
  have gT := ag nT (.tup [.int (i : Int),.ref b])
  have g2 := g1.trans gT
  have ec2 := gT _ _ ec
  have rc2 := rc.imp fun _ _ q => gk q gT
  have eb2 := g2 _ _ eb
  have sz : cs.length < sizeLine := by
   rw [rc.1]
   have := aY i (mB B2 R) fun i => [V.str "apart",.int (i : Nat)]
   show (cb B2 R i).length < _
   unfold cb
   omega
  refine ⟨T',_,rfl,bc.of aj,rfl,_,_,rfl,_,_,rfl,rfl,?_⟩
  generalize aD H1 T' (.tup [.int (i : Int),.ref b]) = H2 at g2 ec2 rc2 eb2 ⊢
  have ap : fb (bs.map V.ref) p = some (.ref a1) := by
   have : p = ((p.toNat : Nat) : Int) := by omega
   rw [this]
   exact aL (a5 h1)
  have aq : fb (bs.map V.ref) p' = some (.ref a2) := by
   have : p' = ((p'.toNat : Nat) : Int) := by omega
   rw [this]
   exact aL (a5 h2)
  refine ⟨_,rfl,t,_,_,_,rfl,rfl,bc.of (g2 _ _ et),rfl,_,rfl,b,_,_,_,rfl,rfl,bc.of eb2,rfl,rl,_,_,_,rfl,rfl,az.of (g2 _ _ er),ap,_,rfl,t,_,_,_,rfl,rfl,bc.of (g2 _ _ et),rfl,_,rfl,b,_,_,_,rfl,rfl,bc.of eb2,rfl,rl,_,_,_,rfl,rfl,az.of (g2 _ _ er),aq,a1,a2,v,v',rfl,g2 _ _ e1,g2 _ _ e2,_,rfl,?_⟩
  cases hm : cy v v' with
  | true => exact d0 ⟨_,rfl,.inl ⟨rfl,_,az.of ec2⟩,_,rfl,(by show 2 ≤ sizeLine; decide),fun a na => ⟨l,_,_,rfl,rfl,ag na _ _ _ ec2,sz,_,_,rfl,dP (pre := []) nl g2 ec2 rc2 (by rw [bad]; exact hm) na rfl⟩⟩
  | false => exact cQ ⟨_,_,rfl,g2,iK (pre := []) ⟨cs,ec2,rc2⟩ (by rw [bad]; exact hm)⟩
 ·rintro σ H1 ⟨o3,o4,rfl,g1,br⟩
  rw [lr] at br
  exact ⟨_,rfl,q l H1 g1 nl br⟩
theorem u5 : aN ["net","plan","tool","turn","total","i","run","use"] ["net","plan","tool","turn"] (ak oN) := ⟨rfl,rfl,rfl,by decide +kernel,rfl,by decide +kernel,by decide +kernel⟩
set_option maxHeartbeats 4000000 in
theorem u6 {dV : Value} (F : bL K "in_use" "in_use" oN dV f fd) (B : Bn K mg c_Net f_Z8) (DZ13 : Dx P w K mg base bj 1 "goes_on" ["run","turn"] [] iL) (DZ14 : Dx P w K mg base bj 2 "use_of" ["net","plan","task","tool"] [] (hE c_Net)) : bG P w K mg base bj 3 f fd ["net","plan","tool","turn"] (jR c_Net) := by
 have sc := u5
 refine F.ok sc (fun vs H Q E h => ?_) (fun cdv A outer s H vs Q E hr h => ?_)
 ·obtain ⟨x,t,z,n,rfl,_⟩ := h
  rfl
 obtain ⟨x,t,z,n,rfl,D,T,A,B2,R,M,N,q⟩ := h
 refine ⟨_,(af (aE (i := 4) sc.nd rfl (Or.inl rfl) ac) (af (aX PassesOwn.never rfl (fL rfl B.b_enumerate (aa (am ar (pv 1) ac (fun _ _ => rfl)) ae)) (dI rfl (bn (ay (i := 5) sc.nd rfl (Or.inl rfl)) (bn (ay (i := 6) sc.nd rfl (Or.inl rfl)) cV))) (af (aE (i := 7) sc.nd rfl (Or.inl rfl) (aH DZ14 hr (by decide) rfl (aa (pv 0) (aa (pv 1) (aa (pv 5) (aa (pv 2) ae)))))) (ai (aU (PW.pt (dZ (aI fG (pv 7) dX (aG _)) (eP (bX (aH DZ13 hr (by decide) rfl (aa (pv 6) (aa (pv 3) ae))))))) (ai (sF (i := 4) sc.nd rfl (Or.inl rfl) (am ar (pv 7) ac (fun _ _ => rfl)) sG)) aC)))) (ai (aO (pv 4))))),?_⟩
 have sl : sizeLine = 16777216 := sizeLine_eq
 obtain ⟨dx,td,tl,al,pl,fs,e0,l1,l2,l3,l4,l5,ed,⟨vs,el,rT⟩,hA,hB⟩ := N.net.ex
 obtain ⟨rl,ml,et,⟨bs,er,rR⟩,em⟩ := id N.plan
 have lr : (bs.map V.ref).length = R.length := by rw [List.length_map,rR.1,List.length_map]
 refine ⟨_,rfl,t,_,_,_,rfl,rfl,bc.of et,rfl,rl,rfl,⟨_,az.of er⟩,ee (xs := bs.map V.ref) (fun i σ H' => ∃ o5 o6 o7 : Option V,σ = [some (.ref x),some (.ref t),some (.str z),some (.int n),some (.int (ck T R z n i)),o5,o6,o7] ∧ aB H H') ⟨none,none,none,rfl,.refl _⟩ (fun i σ H' _ ⟨_,_,_,_,g⟩ => az.of (g _ _ er)) ?_ ?_⟩
 ·rintro i y σ H1 T' hy ⟨o5,o6,o7,rfl,g1⟩ nT'
  obtain ⟨b,hb,rfl⟩ := cf hy
  obtain ⟨r,hr',eb⟩ := eB rR hb
  have il := (List.getElem?_eq_some_iff.mp hr').1
  have g2 := g1.trans (ag nT' (.tup [.int (i : Int),.ref b]))
  refine ⟨T',_,rfl,bc.of aj,rfl,_,_,rfl,_,_,rfl,rfl,?_⟩
  generalize aD H1 T' (.tup [.int (i : Int),.ref b]) = H2 at g2 ⊢
  have us : ck T R z n (i + 1) = ck T R z n i + (if dS r n = true then dO (bM T R i) z else 0) := by
   show ck T R z n i + (if dS (R.getD i (0,0,0)) n = true then dO (bM T R i) z else 0) = _
   rw [bf hr']
  refine ⟨_,rfl,_,rfl,_,rfl,_,rfl,x,t,i,z,H,rfl,g2,D,T,A,B2,R,M,N,il,fun u a hu ha => ?_,fun hn => ?_⟩
  ·refine ⟨_,rfl,rfl,_,rfl,nT nofun ⟨_,rfl,_,rfl,b,r,n,rfl,g2 _ _ eb,_,rfl,?_⟩⟩
   rw [lC hu] at us
   cases hg : dS r n with
   | true =>
    rw [hg,if_pos rfl] at us
    exact d0 ⟨_,rfl,_,rfl,a,_,_,_,rfl,rfl,bc.of (g2 _ _ ha),rfl,_,_,rfl,rfl,_,_,_,by rw [us]; rfl,g2⟩
   | false =>
    rw [hg,if_neg (by decide),Int.add_zero] at us
    exact cQ ⟨_,_,_,by rw [us]; rfl,g2⟩
  ·rw [lv hn] at us
   have us' : ck T R z n (i + 1) = ck T R z n i := by rw [us]; split <;> omega
   exact ⟨_,rfl,rfl,_,rfl,nF rfl ⟨_,_,_,by rw [us']; rfl,g2⟩⟩
 ·rintro σ H1 ⟨o5,o6,o7,rfl,g1⟩
  rw [lr]
  exact ⟨_,rfl,q _ g1⟩
theorem u7 : aN ["net","plan","tool","begins","many"] ["net","plan","tool"] (ak oO) := ⟨rfl,rfl,rfl,by decide +kernel,rfl,by decide +kernel,by decide +kernel⟩
set_option maxHeartbeats 4000000 in
theorem u8 {dV : Value} (F : bL K "breaches_of_tool" "breaches_of_tool" oO dV f fd) (B : Bn K mg c_Net f_Z8) (DZ18 : Dx P w K mg base bj 3 "in_use" ["net","plan","tool","turn"] [] (jR c_Net)) : bG P w K mg base bj 4 f fd ["net","plan","tool"] (jS c_Net) := by
 have sc := u7
 refine F.ok sc (fun vs H Q E h => ?_) (fun cdv A outer s H vs Q E hr h => ?_)
 ·obtain ⟨x,t,z,rfl,_⟩ := h
  rfl
 obtain ⟨x,t,z,rfl,D,T,A,B2,R,M,N,hz,q⟩ := h
 refine ⟨_,(af (aE (i := 3) sc.nd rfl (Or.inl rfl) (gR rfl rfl B.b_sorted rfl B.b_set PyProof.Rows.Boot.«sorted» PyProof.Rows.Boot.«set» (dL (own := "run") (ys := []) (js := []) rfl (lG lF .nil (by decide) rfl rfl rfl rfl rfl rfl rfl rfl) (aZ (am ar (pv 1) ac (fun _ _ => rfl))) (fun C fp s H => (am (eT (K := K) rfl) (pv 0) ac (fun _ _ => rfl)))))) (af (aE (i := 4) sc.nd rfl (Or.inr rfl) (gZ (jd hr) (bJ (pv 0) rfl) (pv 2) (fun _ _ => rfl))) (ai (aO (eR (own := "turn") (ys := ["many","net","plan","tool"]) (js := [4,0,1,2]) rfl (lG (mR (mR (mR (mR lF)))) (.cons rfl (.cons rfl (.cons rfl (.cons rfl .nil)))) (by decide) rfl rfl rfl rfl rfl rfl rfl rfl) (aZ (pv 3)) (fun C fp s H => (aI fe (aH DZ18 hr (by decide) rfl (aa (pv 2) (aa (pv 3) (aa (pv 4) (aa (pv 0) ae))))) (pv 1) (aG _))) (fun C fp s H => (bK (aa cz (aa (pv 4) (aa (pv 0) ae)))))))))),?_⟩
 have sl : sizeLine = 16777216 := sizeLine_eq
 obtain ⟨dx,td,tl,al,pl,fs,e0,l1,l2,l3,l4,l5,ed,⟨vs,el,rT⟩,hA,hB⟩ := N.net.ex
 obtain ⟨rl,ml,et,⟨bs,er,rR⟩,em⟩ := id N.plan
 have lr : (bs.map V.ref).length = R.length := by rw [List.length_map,rR.1,List.length_map]
 have r24 : R.length ≤ 24 := by rw [N.pok.len]; exact N.ok.t24
 refine ⟨_,rfl,t,_,_,_,rfl,rfl,bc.of et,rfl,rl,rfl,⟨_,az.of er⟩,dr (kW V.int) (fun _ => False) (fun i => (R.getD i (0,0,0)).1) (az.of er) (by omega) (fun a h => h.elim) (fun i y hy H3 g Q' hQ => ?_) fun p H1 np g1 hp => ?_⟩
 ·obtain ⟨b,hb,rfl⟩ := cf hy
  obtain ⟨r,hr',eb⟩ := eB rR hb
  rw [bf hr'] at hQ
  exact ⟨_,rfl,b,_,_,_,rfl,rfl,bc.of (g _ _ eb),rfl,hQ _ _ (.refl _) rfl⟩
 obtain ⟨ps,ep,rp⟩ := hp
 have e1 : (List.range (bs.map V.ref).length).map (fun i => (R.getD i (0,0,0)).1) = R.map (·.1) := by
  conv => rhs; rw [← fT R (0,0,0),List.map_map,← lr]
  rfl
 rw [e1] at rp
 rw [rp.val] at ep
 refine ⟨p,R.map (·.1),rfl,az.of ep,by rw [List.length_map]; omega,?_,fun p2 ys np2 nd mem pw => ?_⟩
 ·have := dw (R.map (·.1)) []
  rw [List.length_map] at this
  simp at this ⊢
  omega
 have ey : ys = cU R := m9 nd mem pw
 subst ey
 have g2 := g1.trans (ag np2 (.lst ((cU R).map V.int)))
 have e2 : aD H1 p2 (.lst ((cU R).map V.int)) p2 = some (.lst ((cU R).map V.int)) := aj
 generalize aD H1 p2 (.lst ((cU R).map V.int)) = H2 at g2 e2 ⊢
 obtain ⟨m,hm⟩ := fr hz
 have dg := jV (ed.same g2).rd hm
 refine ⟨_,rfl,x,_,dx,_,_,rfl,(g2 _ _ e0),B.cl_Net,B.na_Net_tools,l1,_,rfl,td,_,rfl,dg,?_⟩
 have lb : (cU R).length ≤ R.length := by
  have := fS (R.map (·.1))
  rwa [List.length_map] at this
 refine ⟨_,rfl,p2,rfl,⟨_,az.of e2⟩,oq j1 (fun _ => False) (fun i => decide ((cE D z).getD 0 < ck T R z ((cU R).getD i 0) R.length)) (fun i => [.str "tool",.str z,.int ((cU R).getD i 0)]) (az.of e2) (by rw [List.length_map]; omega) (fun a h => h.elim) (fun i y hy H3 g3 S' hS => ?_) (fun i y hy _ H3 g3 Q' hQ => ?_) fun l H' nl g3 hl => ?_⟩
 ·rw [List.getElem?_map] at hy
  obtain ⟨n,hn,rfl⟩ := Option.map_eq_some_iff.mp hy
  rw [bf hn,hm] at hS
  exact ⟨_,rfl,_,rfl,_,rfl,_,rfl,x,t,z,n,rfl,D,T,A,B2,R,M,N.same (g2.trans g3),fun H4 g4 => ⟨_,rfl,_,_,rfl,rfl,_,rfl,hS _ g4⟩⟩
 ·rw [List.getElem?_map] at hy
  obtain ⟨n,hn,rfl⟩ := Option.map_eq_some_iff.mp hy
  rw [bf hn] at hQ
  exact ⟨_,rfl,_,rfl,(by show 3 ≤ sizeLine; decide),fun a na => hQ _ _ (ag na _) ⟨a,rfl,.inl na,aj⟩⟩
 ·rw [List.length_map] at hl
  exact q l H' (g2.trans g3) (g2.free nl) (hl.mono fun a h => ⟨h.1,g2.free (h.2.elim id fun z => z.elim)⟩)
theorem u9 : aN ["net","plan","tool","told","uses","users","place","i","j"] ["net","plan","tool"] (ak oP) := ⟨rfl,rfl,rfl,by decide +kernel,rfl,by decide +kernel,by decide +kernel⟩
set_option maxHeartbeats 4000000 in
theorem va {dV : Value} (F : bL K "breaches_of_heat" "breaches_of_heat" oP dV f fd) (B : Bn K mg c_Net f_Z8) (DZ12 : Dx P w K mg base bj 1 "runs_meet" ["one","other"] [] dy) (DZ14 : Dx P w K mg base bj 2 "use_of" ["net","plan","task","tool"] [] (hE c_Net)) : bG P w K mg base bj 3 f fd ["net","plan","tool"] (jT c_Net) := by
 have sc := u9
 refine F.ok sc (fun vs H Q E h => ?_) (fun cdv A outer s H vs Q E hr h => ?_)
 ·obtain ⟨x,t,z,rfl,_⟩ := h
  rfl
 obtain ⟨x,t,z,rfl,D,T,A,B2,R,M,N,q⟩ := h
 refine ⟨_,(af (aE (i := 3) sc.nd rfl (Or.inl rfl) (bw ae)) (af (aE (i := 4) sc.nd rfl (Or.inr rfl) (qe (hd := none) (own := "i") (ys := ["net","plan","tool"]) (js := [0,1,2]) hr.hd (lG (mR (mR (mR lF))) (.cons rfl (.cons rfl (.cons rfl .nil))) (by decide) rfl rfl rfl rfl rfl rfl rfl rfl) (fZ rfl B.b_range (aa (av ao rfl B.b_len boot_len (aa (am ar (pv 1) ac (fun _ _ => rfl)) ae)) ae)) (fun C fp s H => (aH DZ14 hr (by decide) rfl (aa (pv 1) (aa (pv 2) (aa (pv 0) (aa (pv 3) ae)))))))) (af (n6 sc.nd (i := 5) rfl rfl (own := "i") (ys := ["uses"]) (js := [4]) rfl (lG (mR lF) (.cons rfl .nil) (by decide) rfl rfl rfl rfl rfl rfl rfl rfl) (bN rfl B.b_range (aa (av ao rfl B.b_len boot_len (aa (pv 4) ae)) ae)) (fun C fp s H => (aI fG (am (kH (K := K) rfl) (pv 1) (pv 0) (fun _ _ => rfl)) dX (aG _))) (fun C fp s H => (pv 0))) (af (aX PassesOwn.never rfl (fL rfl B.b_enumerate (aa (pv 5) ae)) (dI rfl (bn (ay (i := 6) sc.nd rfl (Or.inl rfl)) (bn (ay (i := 7) sc.nd rfl (Or.inl rfl)) cV))) (ai (aX PassesOwn.never rfl (aZ (cP eQ (pv 5) (cp (aw bR (pv 6) ac)) gY)) (ay (i := 8) sc.nd rfl (Or.inl rfl)) (ai (aU (PW.pt (dZ (aI gK (am ar (am au (pv 4) (pv 7) (fun _ _ => rfl)) ac (fun _ _ => rfl)) (am ar (am au (pv 4) (pv 8) (fun _ _ => rfl)) ac (fun _ _ => rfl)) (aG _)) (eP (bX (aH DZ12 hr (by decide) rfl (aa (am au (am ar (pv 1) ac (fun _ _ => rfl)) (pv 7) (fun _ _ => rfl)) (aa (am au (am ar (pv 1) ac (fun _ _ => rfl)) (pv 8) (fun _ _ => rfl)) ae))))))) (ai (be (cn PySem.F.plainAttrs_list PySem.F.slot_list_append PySem.F.type_list_append aW (pv 3) (aa (bK (aa cz (aa (pv 2) (aa (pv 7) (aa (pv 8) ae))))) ae)))) aC))))) (ai (aO (pv 3))))))),?_⟩
 have sl : sizeLine = 16777216 := sizeLine_eq
 obtain ⟨dx,td,tl,al,pl,fs,e0,l1,l2,l3,l4,l5,ed,⟨vs,el,rT⟩,hA,hB⟩ := N.net.ex
 obtain ⟨rl,ml,et,⟨bs,er,rR⟩,em⟩ := id N.plan
 have lr : (bs.map V.ref).length = R.length := by rw [List.length_map,rR.1,List.length_map]
 have r24 : R.length ≤ 24 := by rw [N.pok.len]; exact N.ok.t24
 refine ⟨(by show 0 ≤ sizeLine; decide),fun l nl => ?_⟩
 have g0 := ag nl (.lst [])
 have h0 : ToldN H (aD H l (.lst [])) l [] := bY.new
 have el0 : aD H l (.lst []) l = some (.lst []) := aj
 generalize aD H l (.lst []) = H1 at g0 h0 el0 ⊢
 refine ⟨_,rfl,t,_,_,_,rfl,rfl,bc.of (g0 _ _ et),rfl,rl,_,rfl,.inl (az.of (g0 _ _ er)),_,rfl,by omega,by omega,iC dU (fun a => H a ≠ none) (fun i => fu (bM T R i) z) jA.no (by omega) (fun a h e => h (g0.free e)) (fun i hi H3 g Q' hQ => ?_) fun p1 H2 np1 g2 hp1 => ?_⟩
 ·have il : i < R.length := by omega
  refine ⟨_,rfl,_,rfl,_,rfl,_,rfl,x,t,i,z,H,by rw [Int.zero_add]; rfl,g0.trans g,D,T,A,B2,R,M,N,il,fun u a hu ha => hQ _ _ (.refl _) ?_,fun hn => hQ _ _ (.refl _) ?_⟩
  ·rw [hu]
   exact ⟨a,rfl,.inr (by rw [ha]; exact nofun),(g0.trans g) _ _ ha⟩
  ·rw [hn]
   rfl
 obtain ⟨us,eu,ru⟩ := hp1
 rw [Int.toNat_natCast,lr] at ru
 have lu : us.length = R.length := by rw [ru.1,List.length_map,List.length_range]
 have uat : ∀ i : Nat,i < R.length → ∃ v,us[i]? = some v ∧ dU (fun a => a ≠ p1 ∧ (H1 a = none ∨ H a ≠ none)) H2 v (fu (bM T R i) z) := fun i il => ru.get (by rw [List.getElem?_map,List.getElem?_range il]; rfl)
 refine ⟨_,rfl,p1,_,rfl,.inl (az.of eu),_,rfl,by omega,by omega,gm (kW (fun i : Nat => V.int (i : Int))) (fun _ => False) (fun i => (fu (bM T R i) z).isSome) id (by omega) (fun a h => h.elim) (fun i hi H3 g S' hS => ?_) (fun i hi _ H3 g Q' hQ => ?_) fun p2 H3 np2 g3 hp2 => ?_⟩
 ·obtain ⟨v,hv,ro⟩ := uat i (by omega)
  refine ⟨_,rfl,_,rfl,p1,_,_,_,rfl,rfl,az.of (g _ _ eu),(bU hv),rfl,_,rfl,?_⟩
  rw [ro.isN]
  exact hS _ (.refl _)
 ·exact ⟨_,rfl,hQ _ _ (.refl _) (by show V.int (0 + (i : Int)) = V.int (i : Int); rw [Int.zero_add])⟩
 obtain ⟨ps,ep,rp⟩ := hp2
 rw [Int.toNat_natCast,lu] at rp
 rw [show bT R.length (fun i => (fu (bM T R i) z).isSome) id = bz T R z from rfl] at rp
 rw [rp.val] at ep
 clear rp
 have eu3 := g3 _ _ eu
 have g13 := g2.trans g3
 have l1 : p1 ≠ l := fun e => by rw [e,el0] at np1; cases np1
 have l2' : p2 ≠ l := fun e => by rw [e,g2 _ _ el0] at np2; cases np2
 have k3 := g0.trans g13
 have h3 := h0.same g13
 have uat3 : ∀ i : Nat,i < R.length → ∃ v,us[i]? = some v ∧ dU (fun a => H a ≠ none ∨ (a ≠ l ∧ H a = none)) H3 v (fu (bM T R i) z) := fun i il => by
  obtain ⟨v,hv,ro⟩ := uat i il
  refine ⟨v,hv,oo (gk ro g3) fun a h => ?_⟩
  by_cases e : H a = none
  ·refine .inr ⟨fun e2 => ?_,e⟩
   rcases h.2 with k | k
   ·rw [e2,el0] at k
    cases k
   ·exact k e
  ·exact .inl e
 clear h0 el0 g0 g2 g3 g13 ru uat eu np1 np2
 have ul := jn T R z
 have al : ∀ {H' : Hp},Fl l H3 H' → ∀ i : Nat,i < R.length → ∃ v,us[i]? = some v ∧ dU An H' v (fu (bM T R i) z) := fun fl i il => by
  obtain ⟨v,hv,ro⟩ := uat3 i il
  refine ⟨v,hv,Mv.mv (fun a o pa _ e => ⟨trivial,fl a o (fun e2 => ?_) e⟩) ro⟩
  rcases pa with k | k
  ·exact k (e2 ▸ nl)
  ·exact k.1 e2
 refine ⟨_,rfl,p2,rfl,⟨_,az.of ep⟩,ee (xs := (bz T R z).map (fun i : Nat => V.int (i : Int))) (fun k σ H' => ∃ o6 o7 o8 : Option V,σ = [some (.ref x),some (.ref t),some (.str z),some (.ref l),some (.ref p1),some (.ref p2),o6,o7,o8] ∧ aB H H' ∧ Fl l H3 H' ∧ ToldN H H' l (du T R z (bz T R z) k)) ⟨none,none,none,rfl,k3,Fl.refl _ _,h3⟩ (fun i σ H' _ ⟨_,_,_,_,_,fl,_⟩ => az.of (fl _ _ l2' ep)) ?_ ?_⟩
 ·rintro k y σ H4 T' hy ⟨o6,o7,o8,rfl,g4,fl4,told4⟩ nT'
  rw [List.getElem?_map] at hy
  obtain ⟨i,hi,rfl⟩ := Option.map_eq_some_iff.mp hy
  obtain ⟨il,u,hu⟩ := lq hi
  have kl := (List.getElem?_eq_some_iff.mp hi).1
  have gT := ag nT' (.tup [.int (k : Int),.int (i : Int)])
  refine ⟨T',_,rfl,bc.of aj,rfl,_,_,rfl,_,_,rfl,rfl,?_⟩
  have g5 := g4.trans gT
  have fl5 := fl4.trans (Fl.of gT)
  have told5 := told4.same gT
  generalize aD H4 T' (.tup [.int (k : Int),.int (i : Int)]) = H5 at g5 fl5 told5 ⊢
  refine ⟨_,rfl,_,rfl,_,_,rfl,rfl,_,rfl,p2,_,rfl,az.of (fl5 _ _ l2' ep),fun p3 np3 => ?_⟩
  have cd : eZ ((bz T R z).map (fun i : Nat => V.int (i : Int))) (some ((k : Int) + 1)) none = ((bz T R z).drop (k + 1)).map (fun i : Nat => V.int (i : Int)) := by
   have := qu (xs := (bz T R z).map (fun i : Nat => V.int (i : Int))) (c := k + 1) (by rw [List.length_map]; omega)
   rw [← List.map_drop] at this
   exact this
  rw [cd]
  have g6' := ag np3 (.lst (((bz T R z).drop (k + 1)).map (fun i : Nat => V.int (i : Int))))
  have e6 : aD H5 p3 (.lst (((bz T R z).drop (k + 1)).map (fun i : Nat => V.int (i : Int)))) p3 = some (.lst (((bz T R z).drop (k + 1)).map (fun i : Nat => V.int (i : Int)))) := aj
  have g6 := g5.trans g6'
  have fl6 := fl5.trans (Fl.of g6')
  have told6 := told5.same g6'
  have l3' : p3 ≠ l := fun e => by
   obtain ⟨vs',ev',_⟩ := told5
   rw [e,ev'] at np3
   cases np3
  generalize aD H5 p3 (.lst (((bz T R z).drop (k + 1)).map (fun i : Nat => V.int (i : Int)))) = H6 at e6 g6 fl6 told6 ⊢
  clear g4 fl4 told4 g5 fl5 told5 gT g6' np3 nT'
  have hgd : (bz T R z).getD k 0 = i := bf hi
  refine ⟨p3,rfl,⟨_,az.of e6⟩,bq (xs := ((bz T R z).drop (k + 1)).map (fun i : Nat => V.int (i : Int))) (fun m σ H' => ∃ o8 : Option V,σ = [some (.ref x),some (.ref t),some (.str z),some (.ref l),some (.ref p1),some (.ref p2),some (.int (k : Int)),some (.int (i : Int)),o8] ∧ aB H H' ∧ Fl l H6 H' ∧ ToldN H H' l (du T R z (bz T R z) k ++ bV T R z (bz T R z) k m)) ⟨o8,rfl,g6,Fl.refl _ _,by rw [fh,List.append_nil]; exact told6⟩ (fun m σ H' _ ⟨_,_,_,fl,_⟩ => az.of (fl _ _ l3' e6)) ?_ ?_⟩
  ·rintro m y σ H7 hy ⟨o8,rfl,g7,fl7,cs,ec,rc⟩
   rw [List.getElem?_map] at hy
   obtain ⟨j,hj,rfl⟩ := Option.map_eq_some_iff.mp hy
   have hj' := hj
   rw [List.getElem?_drop] at hj'
   obtain ⟨jl,v,hv⟩ := lq hj'
   have fl37 := fl6.trans fl7
   obtain ⟨vi,hvi,ri⟩ := al fl37 i il
   obtain ⟨vj,hvj,rj⟩ := al fl37 j jl
   rw [hu] at ri
   rw [hv] at rj
   obtain ⟨a,rfl,_,ea⟩ := (show dN An H7 vi u from ri)
   obtain ⟨b,rfl,_,eb⟩ := (show dN An H7 vj v from rj)
   have eu7 := fl37 _ _ l1 eu3
   have hRi := List.getElem?_eq_getElem il
   have hRj := List.getElem?_eq_getElem jl
   obtain ⟨c,hc,ec'⟩ := run_get rR hRi
   obtain ⟨d,hd,ed'⟩ := run_get rR hRj
   generalize R[i] = ri' at hRi ec'
   generalize R[j] = rj' at hRj ed'
   have hb := nc hu hv hRi hRj
   have sz : cs.length < sizeLine := by
    rw [rc.1,List.length_append]
    have h1 := gx T R z (bz T R z) k
    have h2 := fV T R z (bz T R z) k m
    have h3' : (bz T R z).length * k ≤ 24 * 24 := Nat.mul_le_mul (by omega) (by omega)
    omega
   have suc := fi (T := T) (R := R) (z := z) hj
   rw [hgd,hb] at suc
   refine ⟨_,rfl,_,rfl,p1,_,_,_,rfl,rfl,az.of eu7,(aL hvi),a,_,_,_,rfl,rfl,bc.of ea,rfl,_,rfl,_,rfl,p1,_,_,_,rfl,rfl,az.of eu7,(aL hvj),b,_,_,_,rfl,rfl,bc.of eb,rfl,rfl,_,rfl,xt (fun ne => ?_) (fun eq => ?_)⟩
   ·refine ⟨_,rfl,t,_,_,_,rfl,rfl,bc.of (g7 _ _ et),rfl,_,rfl,rl,_,_,_,rfl,rfl,az.of (g7 _ _ er),(aL (a5 hc)),_,rfl,t,_,_,_,rfl,rfl,bc.of (g7 _ _ et),rfl,_,rfl,rl,_,_,_,rfl,rfl,az.of (g7 _ _ er),(aL (a5 hd)),c,d,ri',rj',rfl,g7 _ _ ec',g7 _ _ ed',_,rfl,?_⟩
    rw [decide_eq_false ne] at suc
    cases hm : cy ri' rj' with
    | true =>
     rw [hm] at suc
     refine d0 ⟨_,rfl,.inl ⟨rfl,_,az.of ec⟩,_,rfl,_,rfl,_,rfl,(by show 4 ≤ sizeLine; decide),fun a na => ⟨l,_,_,rfl,rfl,ag na _ _ _ ec,sz,?_⟩⟩
     have tp := lD (b := [.str "heat",.str z,.int (i : Int),.int (j : Int)]) nl g7 ec rc na
     refine ⟨_,rfl,tp.1,(fl7.trans (Fl.of (ag na _))).trans (Fl.put l _ _),?_⟩
     rw [suc,← List.append_assoc]
     exact tp.2
    | false =>
     rw [hm] at suc
     exact cQ ⟨_,rfl,g7,fl7,by rw [suc]; exact ⟨cs,ec,by simpa using rc⟩⟩
   ·rw [decide_eq_true eq] at suc
    exact ⟨_,rfl,g7,fl7,by rw [suc]; exact ⟨cs,ec,by simpa using rc⟩⟩
  ·rintro σ H7 ⟨o8,rfl,g7,fl7,told7⟩
   rw [List.length_map,fU,← iM] at told7
   exact ⟨_,_,_,rfl,g7,fl6.trans fl7,told7⟩
 ·rintro σ H4 ⟨o6,o7,o8,rfl,g4,fl4,told4⟩
  rw [List.length_map] at told4
  exact ⟨_,rfl,q l H4 g4 nl told4⟩
theorem vb : aN ["net","plan","told","tool"] ["net","plan"] (ak oQ) := ⟨rfl,rfl,rfl,by decide +kernel,rfl,by decide +kernel,by decide +kernel⟩
set_option maxHeartbeats 4000000 in
theorem vc {dV : Value} (F : bL K "breaches" "breaches" oQ dV f fd) (B : Bn K mg c_Net f_Z8) (DZ10 : Dx P w K mg base bj 1 "is_plan" ["net","plan"] [] (gC c_Net)) (DZ15 : Dx P w K mg base bj 1 "breaches_of_turns" ["net","plan"] [] (cg c_Net fun T A B R M => cG T R T.length)) (DZ16 : Dx P w K mg base bj 2 "breaches_of_arcs" ["net","plan"] [] (cg c_Net fun T A B R M => cm A R M A.length)) (DZ17 : Dx P w K mg base bj 2 "breaches_of_apart" ["net","plan"] [] (cg c_Net fun T A B R M => cb B R B.length)) (DZ19 : Dx P w K mg base bj 4 "breaches_of_tool" ["net","plan","tool"] [] (jS c_Net)) (DZ20 : Dx P w K mg base bj 3 "breaches_of_heat" ["net","plan","tool"] [] (jT c_Net)) : bG P w K mg base bj 5 f fd ["net","plan"] (eX c_Net) := by
 have sc := vb
 refine F.ok sc (fun vs H Q E h => ?_) (fun cdv A outer s H vs Q E hr h => ?_)
 ·obtain ⟨x,t,rfl,_⟩ := h
  rfl
 obtain ⟨x,t,rfl,D,T,A,B2,R,M,N,q⟩ := h
 refine ⟨_,(af (aU (bQ (bX (aH DZ10 hr (by decide) rfl (aa (pv 0) (aa (pv 1) ae))))) (ai bx) aC) (af (aE (i := 2) sc.nd rfl (Or.inl rfl) (aH DZ15 hr (by decide) rfl (aa (pv 0) (aa (pv 1) ae)))) (af (be (cn PySem.F.plainAttrs_list PySem.F.slot_list_extend PySem.F.type_list_extend dB (pv 2) (aa (eR (own := "k") (ys := ["plan"]) (js := [1]) rfl (lG (mR lF) (.cons rfl .nil) (by decide) rfl rfl rfl rfl rfl rfl rfl rfl) (bN rfl B.b_range (aa (bJ (pv 0) rfl) ae)) (fun C fp s H => (aI cv (am (kH (K := K) rfl) (am (eT (K := K) rfl) (pv 1) ac (fun _ _ => rfl)) (pv 0) (fun _ _ => rfl)) ac (aG _))) (fun C fp s H => (bK (aa cz (aa (pv 0) ae))))) ae))) (af (be (cn PySem.F.plainAttrs_list PySem.F.slot_list_extend PySem.F.type_list_extend dB (pv 2) (aa (aH DZ16 hr (by decide) rfl (aa (pv 0) (aa (pv 1) ae))) ae))) (af (be (cn PySem.F.plainAttrs_list PySem.F.slot_list_extend PySem.F.type_list_extend dB (pv 2) (aa (aH DZ17 hr (by decide) rfl (aa (pv 0) (aa (pv 1) ae))) ae))) (af (aX PassesOwn.never rfl (aZ (av (dk rfl) rfl B.b_sorted PyProof.Rows.Boot.«sorted» (aa (bJ (pv 0) rfl) ae))) (ay (i := 3) sc.nd rfl (Or.inl rfl)) (ai (be (cn PySem.F.plainAttrs_list PySem.F.slot_list_extend PySem.F.type_list_extend dB (pv 2) (aa (aH DZ19 hr (by decide) rfl (aa (pv 0) (aa (pv 1) (aa (pv 3) ae)))) ae))))) (af (aX PassesOwn.never rfl (aZ (av (dk rfl) rfl B.b_sorted PyProof.Rows.Boot.«sorted» (aa (bJ (pv 0) rfl) ae))) (ay (i := 3) sc.nd rfl (Or.inl rfl)) (ai (be (cn PySem.F.plainAttrs_list PySem.F.slot_list_extend PySem.F.type_list_extend dB (pv 2) (aa (aH DZ20 hr (by decide) rfl (aa (pv 0) (aa (pv 1) (aa (pv 3) ae)))) ae))))) (ai (aO (pv 2)))))))))),?_⟩
 have sl : sizeLine = 16777216 := sizeLine_eq
 obtain ⟨dx,td,tl,al,pl,fs,e0,l1,l2,l3,l4,l5,ed,⟨vs,el,rT⟩,hA,hB⟩ := N.net.ex
 obtain ⟨rl,ml,et,⟨bs,er,rR⟩,em⟩ := id N.plan
 have r24 : R.length ≤ 24 := by rw [N.pok.len]; exact N.ok.t24
 have n8 := N.ok.n8
 have a6 := N.ok.a600
 have b3 := N.ok.b300
 have t24 := N.ok.t24
 have d12 := N.ok.d12
 refine ⟨_,rfl,_,rfl,x,t,rfl,D,T,A,B2,R,M,N.any,fun H1 g1 => ⟨_,rfl,cQ ?_⟩⟩
 have N1 := N.same g1
 refine ⟨_,rfl,_,rfl,x,t,rfl,D,T,A,B2,R,M,N1.any,fun l H2 k2 nl b2 => ?_⟩
 replace b2 : ToldN H1 H2 l (cG T R T.length) := b2
 have kk := g1.trans k2
 obtain ⟨cs,ec,rc⟩ := id b2
 have ln2 : (cG T R T.length).length ≤ 24 := Nat.le_trans (aY _ _ _) t24
 refine ⟨_,rfl,.inl ⟨rfl,_,az.of ec⟩,_,rfl,x,_,dx,_,_,rfl,(kk _ _ e0),B.cl_Net,B.na_Net_moments,l5,_,rfl,by omega,by omega,gm j1 (fun _ => False) (kK M) (fun i => [.str "moment",.int (i : Nat)]) (by omega) (fun a h => h.elim) (fun i hi H3 g3 S' hS => ?_) (fun i hi _ H3 g3 Q' hQ => ?_) fun p H3 np g3 b3' => ?_⟩
 ·have hM := List.getElem?_eq_getElem (show i < M.length by omega)
  have eb : kK M i = decide (M[i]'(by omega) < 0) := by unfold kK; rw [bf hM]
  rw [eb] at hS
  rw [Int.zero_add]
  exact ⟨_,rfl,t,_,_,_,rfl,rfl,bc.of ((kk.trans g3) _ _ et),rfl,_,rfl,ml,_,_,_,rfl,rfl,az.of ((kk.trans g3) _ _ em),(aL (a5 hM)),_,_,rfl,rfl,_,rfl,hS _ (.refl _)⟩
 ·rw [Int.zero_add]
  exact ⟨_,rfl,(by show 2 ≤ sizeLine; decide),fun a na => hQ _ _ (ag na _) ⟨a,rfl,.inl na,aj⟩⟩
 have b3'' : ToldN H2 H3 p (gw M M.length) := by
  rw [Int.toNat_natCast] at b3'
  exact b3'.mono fun a h => ⟨h.1,h.2.elim id fun z => z.elim⟩
 obtain ⟨vs',us',q1,q2,q3,q4,q5,k4,b4⟩ := dG nl k2 b2 g3 np b3''
 have ln4 : (gw M M.length).length ≤ 8 := by have := aY M.length (kK M) fun i => [V.str "moment",.int (i : Nat)]; unfold gw; omega
 refine ⟨l,p,vs',us',rfl,rfl,q2,q3,by omega,?_⟩
 generalize aD H3 l (.lst (vs' ++ us')) = H4 at k4 b4 ⊢
 clear ec rc b2 b3' b3'' q1 q2 q3 np g3 k2 kk
 obtain ⟨cs,ec,rc⟩ := id b4
 refine ⟨_,rfl,.inl ⟨rfl,_,az.of ec⟩,_,rfl,_,rfl,x,t,rfl,D,T,A,B2,R,M,(N1.same k4).any,fun p5 H5 g5 np5 b5 => ?_⟩
 replace b5 : ToldN H4 H5 p5 (cm A R M A.length) := b5
 obtain ⟨vs5,us5,q1,q2,q3,s4,s5,k6,b6⟩ := dG nl k4 b4 g5 np5 b5
 rw [List.length_append] at s4
 have ln6 : (cm A R M A.length).length ≤ 600 := Nat.le_trans (aY _ _ _) a6
 refine ⟨l,p5,vs5,us5,rfl,rfl,q2,q3,by omega,?_⟩
 generalize aD H5 l (.lst (vs5 ++ us5)) = H6 at k6 b6 ⊢
 clear ec rc b4 b5 q1 q2 q3 np5 g5 k4
 obtain ⟨cs,ec,rc⟩ := id b6
 refine ⟨_,rfl,.inl ⟨rfl,_,az.of ec⟩,_,rfl,_,rfl,x,t,rfl,D,T,A,B2,R,M,(N1.same k6).any,fun p7 H7 g7 np7 b7 => ?_⟩
 replace b7 : ToldN H6 H7 p7 (cb B2 R B2.length) := b7
 obtain ⟨vs7,us7,q1,q2,q3,v4,v5,k8,b8⟩ := dG nl k6 b6 g7 np7 b7
 rw [List.length_append,List.length_append] at v4
 have ln8 : (cb B2 R B2.length).length ≤ 300 := Nat.le_trans (aY _ _ _) b3
 refine ⟨l,p7,vs7,us7,rfl,rfl,q2,q3,by omega,?_⟩
 generalize aD H7 l (.lst (vs7 ++ us7)) = H8 at k8 b8 ⊢
 clear ec rc b6 b7 q1 q2 q3 np7 g7 k6
 have lnP : (cG T R T.length ++ gw M M.length ++ cm A R M A.length ++ cb B2 R B2.length).length ≤ 932 := by
  rw [List.length_append,List.length_append,List.length_append]
  omega
 have ed8 := (ed.same (g1.trans k8)).no
 have tk : (a8 D).map (·.1) = (D.map (·.1)).map (fun y => (.inr y : Key)) := fv D
 refine ⟨_,rfl,x,_,dx,_,_,rfl,((g1.trans k8) _ _ e0),B.cl_Net,B.na_Net_tools,l1,td,_,_,rfl,ed8,tk,N.ok.dnd,(by rw [List.length_map]; omega),fun p9 ys np9 yp ysrt => ?_⟩
 have g9 := ag np9 (.lst (ys.map V.str))
 have e9 : aD H8 p9 (.lst (ys.map V.str)) p9 = some (.lst (ys.map V.str)) := aj
 have k9 := k8.trans g9
 have b9 := b8.same g9
 have yl : ys.length ≤ 12 := by rw [yp.length_eq,List.length_map]; exact d12
 have lp9 : p9 ≠ l := fun e => by
  obtain ⟨c,e',_⟩ := b8
  rw [e,e'] at np9
  cases np9
 generalize aD H8 p9 (.lst (ys.map V.str)) = H9 at e9 k9 b9 g9 ⊢
 have np9' : H1 p9 = none := k8.free np9
 refine ⟨p9,rfl,⟨_,az.of e9⟩,bq (xs := ys.map V.str) (fun i σ H' => ∃ o3 : Option V,σ = [some (.ref x),some (.ref t),some (.ref l),o3] ∧ aB H1 H' ∧ H' p9 = some (.lst (ys.map V.str)) ∧ ToldN H1 H' l (cG T R T.length ++ gw M M.length ++ cm A R M A.length ++ cb B2 R B2.length ++ (ys.take i).flatMap (dt D T R))) ⟨none,rfl,k9,e9,by simpa using b9⟩ (fun i σ H' _ ⟨_,_,_,e,_⟩ => az.of e) ?_ ?_⟩
 ·rintro i y σ HA hy ⟨o3,rfl,gA,eA,bA⟩
  rw [List.getElem?_map] at hy
  obtain ⟨z,hz,rfl⟩ := Option.map_eq_some_iff.mp hy
  obtain ⟨cs,ec,rc⟩ := id bA
  have zD : z ∈ D.map (·.1) := yp.mem_iff.mp (List.mem_of_getElem? hz)
  refine ⟨_,rfl,.inl ⟨rfl,_,az.of ec⟩,_,rfl,_,rfl,_,rfl,x,t,z,rfl,D,T,A,B2,R,M,(N1.same gA).any,zD,fun pB HB gB npB bB => ?_⟩
  obtain ⟨vsB,usB,q1,q2,q3,w4,w5,kC,bC⟩ := dG nl gA bA gB npB bB
  have lf := cH (f := dt D T R) (m := 24) (fun a => Nat.le_trans (dE D T R a) r24) (ys.take i)
  have lt : (ys.take i).length ≤ 12 := by rw [List.length_take]; omega
  have dl := dE D T R z
  rw [List.length_append] at w4
  refine ⟨l,pB,vsB,usB,rfl,rfl,q2,q3,by omega,_,rfl,kC,?_,?_⟩
  ·rw [aA lp9]
   exact gB _ _ eA
  ·rw [eY hz,← List.append_assoc]
   exact bC
 rintro σ HA ⟨o3,rfl,gA,eA,bA⟩
 rw [List.length_map,List.take_length] at bA
 clear e9 k9 b9 g9 b8
 have edA := (ed.same (g1.trans gA)).no
 have lf := cH (f := dt D T R) (m := 24) (fun a => Nat.le_trans (dE D T R a) r24) ys
 refine ⟨_,rfl,x,_,dx,_,_,rfl,((g1.trans gA) _ _ e0),B.cl_Net,B.na_Net_tools,l1,td,_,_,rfl,edA,tk,N.ok.dnd,(by rw [List.length_map]; omega),fun pE zs npE zp zsrt => ?_⟩
 have ez : zs = ys := So.dj zsrt ysrt (zp.trans yp.symm)
 subst ez
 have gE := ag npE (.lst (zs.map V.str))
 have eE : aD HA pE (.lst (zs.map V.str)) pE = some (.lst (zs.map V.str)) := aj
 have kE := gA.trans gE
 have bE := bA.same gE
 have lpE : pE ≠ l := fun e => by
  obtain ⟨c,e',_⟩ := bA
  rw [e,e'] at npE
  cases npE
 generalize aD HA pE (.lst (zs.map V.str)) = HE at eE kE bE gE ⊢
 refine ⟨pE,rfl,⟨_,az.of eE⟩,bq (xs := zs.map V.str) (fun i σ H' => ∃ o3 : Option V,σ = [some (.ref x),some (.ref t),some (.ref l),o3] ∧ aB H1 H' ∧ H' pE = some (.lst (zs.map V.str)) ∧ ToldN H1 H' l (cG T R T.length ++ gw M M.length ++ cm A R M A.length ++ cb B2 R B2.length ++ zs.flatMap (dt D T R) ++ (zs.take i).flatMap (de T R))) ⟨o3,rfl,kE,eE,by simpa using bE⟩ (fun i σ H' _ ⟨_,_,_,e,_⟩ => az.of e) ?_ ?_⟩
 ·rintro i y σ HF hy ⟨o3,rfl,gF,eF,bF⟩
  rw [List.getElem?_map] at hy
  obtain ⟨z,hz,rfl⟩ := Option.map_eq_some_iff.mp hy
  obtain ⟨cs,ec,rc⟩ := id bF
  refine ⟨_,rfl,.inl ⟨rfl,_,az.of ec⟩,_,rfl,_,rfl,_,rfl,x,t,z,rfl,D,T,A,B2,R,M,(N1.same gF).any,fun pB HB gB npB bB => ?_⟩
  obtain ⟨vsB,usB,q1,q2,q3,w4,w5,kC,bC⟩ := dG nl gF bF gB npB bB
  have lh := cH (f := de T R) (m := 576) (fun a => eW a r24) (zs.take i)
  have lt : (zs.take i).length ≤ 12 := by rw [List.length_take]; omega
  have dl := eW (T := T) z r24
  rw [List.length_append,List.length_append] at w4
  refine ⟨l,pB,vsB,usB,rfl,rfl,q2,q3,by omega,_,rfl,kC,?_,?_⟩
  ·rw [aA lpE]
   exact gB _ _ eF
  ·rw [eY hz,← List.append_assoc]
   exact bC
 rintro σ HF ⟨o3',rfl,gF,eF,bF⟩
 rw [List.length_map,List.take_length] at bF
 exact ⟨_,rfl,q zs l HF yp ysrt (g1.trans gF) (g1.free nl) (bF.mono fun a h => ⟨h.1,g1.free h.2⟩)⟩
theorem vd : aN ["net","plan"] ["net","plan"] (ak oR) := ⟨rfl,rfl,rfl,by decide +kernel,rfl,by decide +kernel,by decide +kernel⟩
set_option maxHeartbeats 4000000 in
theorem ve {dV : Value} (F : bL K "plan_fits" "plan_fits" oR dV f fd) (B : Bn K mg c_Net f_Z8) (DZ21 : Dx P w K mg base bj 5 "breaches" ["net","plan"] [] (eX c_Net)) : bG P w K mg base bj 6 f fd ["net","plan"] (jU c_Net) := by
 have sc := vd
 refine F.ok sc (fun vs H Q E h => ?_) (fun cdv A outer s H vs Q E hr h => ?_)
 ·obtain ⟨x,t,rfl,_⟩ := h
  rfl
 obtain ⟨x,t,rfl,D,T,A,B2,R,M,N,q⟩ := h
 refine ⟨_,(ai (aO (ce (kB hr.units0) (aH DZ21 hr (by decide) rfl (aa (pv 0) (aa (pv 1) ae))) (bw ae) (aG _)))),?_⟩
 refine ⟨_,rfl,_,rfl,x,t,rfl,D,T,A,B2,R,M,N,fun ys l H1 yp ysrt g1 nl ⟨vs,ev,rv⟩ => ?_⟩
 refine ⟨(by show 0 ≤ sizeLine; decide),fun l2 nl2 => ?_⟩
 have g2 := ag nl2 (.lst [])
 refine ⟨l,l2,_,rfl,rfl,az.of (g2 _ _ ev),az.of aj,?_⟩
 have e : vs.isEmpty = (i5 ys D T A B2 R M).isEmpty := by
  have := rv.1
  cases vs <;> cases h : i5 ys D T A B2 R M <;> simp [h] at this ⊢
 rw [e]
 exact q ys _ yp ysrt (g1.trans g2)
theorem vf : aN ["_law_script","_law_k"] ["_law_script","_law_k"] (ak oS) := ⟨rfl,rfl,rfl,by decide +kernel,rfl,by decide +kernel,by decide +kernel⟩
set_option maxHeartbeats 4000000 in
theorem vg {dV : Value} (F : bL K "_law_cell_at" "_law_cell_at" oS dV f fd) (B : Bn K mg c_Net f_Z8)  : bG P w K mg base bj 1 f fd ["_law_script","_law_k"] (jz K) := by
 have sc := vf
 refine F.ok sc (fun vs H Q E h => ?_) (fun cdv A outer s H vs Q E hr h => ?_)
 ·obtain ⟨a,ns,k,rfl,_⟩ := h
  rfl
 obtain ⟨a,ns,k,rfl,hS,h0,q⟩ := h
 refine ⟨_,(af (aU (aI cv (pv 1) (av ao rfl B.b_len boot_len (aa (pv 0) ae)) (aG _)) (ai (aO (am au (pv 0) (pv 1) (fun _ _ => rfl)))) aC) (ai (aO ac))),?_⟩
 refine ⟨_,rfl,_,rfl,a,_,rfl,.inl hS,_,_,rfl,rfl,_,rfl,d2 (fun c => ?_) (fun c => ?_)⟩
 ·obtain ⟨v,hv⟩ := rh h0 c
  exact ⟨_,rfl,_,rfl,a,_,_,_,rfl,rfl,hS,hv,q v⟩
 ·exact q 0
theorem vh : aN ["_law_cell","_law_many","_law_found","_law_number","_law_k"] ["_law_cell","_law_many"] (ak oT) := ⟨rfl,rfl,rfl,by decide +kernel,rfl,by decide +kernel,by decide +kernel⟩
set_option maxHeartbeats 4000000 in
theorem vm {dV : Value} (F : bL K "_law_drawn" "_law_drawn" oT dV f fd) (B : Bn K mg c_Net f_Z8)  : bG P w K mg base bj 1 f fd ["_law_cell","_law_many"] eC := by
 have sc := vh
 refine F.ok sc (fun vs H Q E h => ?_) (fun cdv A outer s H vs Q E hr h => ?_)
 ·obtain ⟨c,m,rfl,_⟩ := h
  rfl
 have m0 : (2147483629 : Int) ≠ 0 := by decide
 obtain ⟨c,m,rfl,m0',m1,k⟩ := h
 refine ⟨_,(af (aE (i := 2) sc.nd rfl (Or.inl rfl) (bw ae)) (af (aE (i := 3) sc.nd rfl (Or.inl rfl) (aw aR (pv 0) ac)) (af (aX PassesOwn.never rfl (bN rfl B.b_range (aa (pv 1) ae)) (ay (i := 4) sc.nd rfl (Or.inl rfl)) (af (aE (i := 3) sc.nd rfl (Or.inl rfl) (aw aR (aw bR (aw bR (aw bR (aw di (pv 3) ac) (aw di (aw bH (pv 3) ac) ac)) ac) (aw di (pv 4) (pv 4))) ac)) (ai (be (cn PySem.F.plainAttrs_list PySem.F.slot_list_append PySem.F.type_list_append aW (pv 2) (aa (pv 3) ae)))))) (ai (aO (pv 2)))))),?_⟩
 refine ⟨(by show 0 ≤ sizeLine; decide),fun l nl => ?_⟩
 refine ⟨_,rfl,_,_,rfl,rfl,m0,?_⟩
 have nb : ∀ a : Int,0 ≤ a.fmod 2147483629 ∧ a.fmod 2147483629 < 2147483629 := fun a => ⟨Int.fmod_nonneg_of_pos a (by decide),Int.fmod_lt_of_pos a (by decide)⟩
 refine ⟨_,rfl,m,rfl,(by omega),(by omega),bW (fun i σ H' => ∃ (ns : List Int) (n : Int) (o : Option V),σ = [some (.int c),some (.int m),some (.ref l),some (.int n),o] ∧ 0 ≤ n ∧ n < 2147483629 ∧ ns.length = i ∧ (∀ z ∈ ns,uH z) ∧ aB H H' ∧ H' l = some (.lst (ns.map V.int))) ⟨[],_,none,rfl,(nb c).1,(nb c).2,rfl,fun z hz => by simp at hz,ag nl _,aj⟩ ?_ ?_⟩
 ·rintro i σ H' hi ⟨ns,n,o,rfl,n0,n1,hl,hd,g,el⟩
  refine ⟨_,rfl,_,_,rfl,rfl,IntMulOk.of_right (by decide),_,rfl,_,_,rfl,rfl,⟨by decide,PyProof.noPylong_small (by decide)⟩,_,_,rfl,rfl,IntMulOk.of_right (by decide),_,_,rfl,rfl,_,_,rfl,rfl,_,rfl,_,rfl,_,_,rfl,rfl,IntMulOk.of_left (intBits_le_64 (by omega) (by omega)),_,_,rfl,rfl,_,_,rfl,rfl,m0,?_⟩
  refine ⟨_,rfl,.inl ⟨rfl,_,az.of el⟩,_,rfl,l,_,_,rfl,rfl,el,(by rw [List.length_map,hl]; have : sizeLine = 16777216 := sizeLine_eq; omega),?_⟩
  refine ⟨ns ++ [(n * 69621 + n.fdiv 127 * 7 + 40692 + (0 + (i : Int)) * (0 + (i : Int))).fmod 2147483629],_,_,rfl,(nb _).1,(nb _).2,by simp [hl],fun z hz => ?_,f9 g nl _,?_⟩
  ·rcases List.mem_append.mp hz with h | h
   ·exact hd z h
   ·rw [List.mem_singleton.mp h]
    exact nb _
  rw [List.map_append]
  exact aj
 ·rintro σ H' ⟨ns,n,o,rfl,n0,n1,hl,hd,g,el⟩
  exact ⟨_,rfl,k l ns H' nl g hl hd el⟩
theorem vn : aN ["_law_cell","_law_xs","_law_tools_here","_law_k","_law_word","_law_cut","_law_name"] ["_law_cell"] (ak oU) := ⟨rfl,rfl,rfl,by decide +kernel,rfl,by decide +kernel,by decide +kernel⟩
set_option maxHeartbeats 4000000 in
theorem vo {dV : Value} (F : bL K "_law_tools" "_law_tools" oU dV f fd) (B : Bn K mg c_Net f_Z8) (DZ24 : Dx P w K mg base bj 1 "_law_drawn" ["_law_cell","_law_many"] [] eC) : bG P w K mg base bj 2 f fd ["_law_cell"] gG := by
 have sc := vn
 refine F.ok sc (fun vs H Q E h => ?_) (fun cdv A outer s H vs Q E hr h => ?_)
 ·obtain ⟨c,rfl,_⟩ := h
  rfl
 obtain ⟨c,rfl,q⟩ := h
 refine ⟨_,(af (aE (i := 1) sc.nd rfl (Or.inl rfl) (aH DZ24 hr (by decide) rfl (aa (pv 0) (aa ac ae)))) (af (aE (i := 2) sc.nd rfl (Or.inl rfl) p6) (af (aX PassesOwn.never rfl (bN rfl B.b_range (aa (aw aR (am au (pv 1) ac (fun _ _ => rfl)) ac) ae)) (ay (i := 3) sc.nd rfl (Or.inl rfl)) (af (aE (i := 4) sc.nd rfl (Or.inl rfl) (aw rV (am pV cz (aw aR (am au (pv 1) (pv 3) (fun _ _ => rfl)) ac) (fun _ _ => rfl)) (aw aR (aw bH (am au (pv 1) (pv 3) (fun _ _ => rfl)) ac) ac))) (af (aE (i := 5) sc.nd rfl (Or.inl rfl) (aw aR (aw bH (am au (pv 1) (pv 3) (fun _ _ => rfl)) ac) (aw bR (av dJ rfl B.b_len boot_len (aa (pv 4) ae)) ac))) (af (aE (i := 6) sc.nd rfl (Or.inl rfl) (aw hW (aw hW (cP qg (pv 4) gY (cp (pv 5))) (am pV cz (pv 3) (fun _ _ => rfl))) (cP qg (pv 4) (cp (pv 5)) gY))) (ai (q9 (jd hr) (pv 2) (pv 6) (am au (bw (aa ac (aa ac (aa ac (aa ac (aa ac (aa ac ae))))))) (aw aR (aw bH (am au (pv 1) (pv 3) (fun _ _ => rfl)) ac) ac) (fun _ _ => rfl)) rfl)))))) (ai (aO (pv 2)))))),?_⟩
 have sl : sizeLine = 16777216 := sizeLine_eq
 have one : ∀ c,(⟨#[c]⟩ : Str).length = 1 := fun _ => rfl
 refine ⟨_,rfl,c,4,rfl,by decide,by decide,fun l ns H1 nl g1 l4 dn el => ?_⟩
 replace l4 : ns.length = 4 := l4
 obtain ⟨z3,h3,d3⟩ := eG dn (i := 3) (by omega)
 refine fun td ntd => ?_
 have g0' := ag ntd (.dK [])
 have e0 : aD H1 td (.dK []) td = some (.dK (a8 [])) := aj
 have g0 := g1.trans g0'
 have el0 := g0' _ _ el
 generalize aD H1 td (.dK []) = H0 at g0 e0 el0 ⊢
 have ntd0 := g1.free ntd
 have t3 := fm (a := z3) (n := 4) (by decide)
 refine ⟨_,rfl,l,_,_,_,rfl,rfl,az.of el0,(aL (j := 3) (a5 h3)),_,_,rfl,rfl,(by show (4 : Int) ≠ 0; decide),_,rfl,by omega,by omega,bW (fun i σ H' => ∃ o3 o4 o5 o6 : Option V,σ = [some (.int c),some (.ref l),some (.ref td),o3,o4,o5,o6] ∧ aB H H' ∧ H' l = some (.lst (ns.map V.int)) ∧ ∃ D : Tl,H' td = some (.dK (a8 D)) ∧ cZ i D) ⟨none,none,none,none,rfl,g0,el0,[],e0,Nat.le_refl _,List.nodup_nil,fun p hp => (by cases hp)⟩ ?_ ?_⟩
 ·rintro i σ H1 hi ⟨o3,o4,o5,o6,rfl,g1,el1,D,eD,tok⟩
  have i3 : i < 3 := by omega
  obtain ⟨x,hx,dx0,dx1⟩ := eG dn (i := i) (by omega)
  have at1 : fb (ns.map V.int) (0 + (i : Int)) = some (.int x) := bU (a5 hx)
  have m2 := fm (a := x) (n := 2) (by decide)
  have m11 := fm (a := x.fdiv 2) (n := 11) (by decide)
  have m6 := fm (a := x.fdiv 512) (n := 6) (by decide)
  obtain ⟨c1,hc,cq⟩ := uK m2.1 m2.2
  obtain ⟨d,hd,dq⟩ := tG i3
  refine ⟨_,rfl,_,rfl,l,_,_,_,rfl,rfl,az.of el1,at1,_,_,rfl,rfl,(by show (2 : Int) ≠ 0; decide),_,_,c1,rfl,rfl,(by decide),hc,_,rfl,_,rfl,l,_,_,_,rfl,rfl,az.of el1,at1,_,_,rfl,rfl,⟨by decide,PyProof.noPylong_small (by decide)⟩,_,_,rfl,rfl,(by show (11 : Int) ≠ 0; decide),_,_,rfl,rfl,(by show 1 ≤ 16; decide),m11.1,(by omega),?_⟩
  have wl := rW (z := ⟨#[c1]⟩) m11.1
  have wL := Lt.mul cq ((x.fdiv 2).fmod 11)
  rw [one] at wl
  generalize Txt.mul ⟨#[c1]⟩ ((x.fdiv 2).fmod 11) = wd at wl wL ⊢
  have wz : wd.length ≤ sizeLine := by omega
  refine ⟨_,rfl,_,rfl,l,_,_,_,rfl,rfl,az.of el1,at1,_,_,rfl,rfl,⟨by decide,PyProof.noPylong_small (by decide)⟩,_,rfl,_,rfl,wz,_,_,rfl,rfl,_,_,rfl,rfl,(by omega),?_⟩
  have mc := fm (a := x.fdiv 32) (n := (wd.length : Int) + 1) (by omega)
  have c1' := rQ (x := wd) mc.1
  have c2' := rS (x := wd) mc.1
  have nm : Nm (fo wd none (some ((x.fdiv 32).fmod ((wd.length : Int) + 1))) ++ ({ cps := #[d] } : Str) ++ fo wd (some ((x.fdiv 32).fmod ((wd.length : Int) + 1))) none) := by
   refine (((wL.cut _ _).app (Lt.one dq)).app (wL.cut _ _)).nm ?_ ?_
   ·rw [Str.length_append,Str.length_append,one]; omega
   ·rw [Str.length_append,Str.length_append,one,c1',c2']; omega
  refine ⟨_,rfl,_,rfl,_,rfl,_,rfl,wz,_,rfl,_,_,d,rfl,rfl,(by decide),hd,_,_,rfl,rfl,?_,_,rfl,_,rfl,_,rfl,_,rfl,wz,_,_,rfl,rfl,?_,?_⟩
  ·rw [one,c1']; omega
  ·rw [Str.length_append,one,c1',c2']; omega
  generalize fo wd none (some ((x.fdiv 32).fmod ((wd.length : Int) + 1))) ++ ({ cps := #[d] } : Str) ++ fo wd (some ((x.fdiv 32).fmod ((wd.length : Int) + 1))) none = nmz at nm ⊢
  obtain ⟨mm,hmm,mm1,mm8⟩ : ∃ mm : Int,fb [V.int 1,V.int 2,V.int 2,V.int 3,V.int 4,V.int 8] ((x.fdiv 512).fmod 6) = some (.int mm) ∧ 1 ≤ mm ∧ mm ≤ 8 := by
   obtain e | e | e | e | e | e : (x.fdiv 512).fmod 6 = 0 ∨ (x.fdiv 512).fmod 6 = 1 ∨ (x.fdiv 512).fmod 6 = 2 ∨ (x.fdiv 512).fmod 6 = 3 ∨ (x.fdiv 512).fmod 6 = 4 ∨ (x.fdiv 512).fmod 6 = 5 := by omega
   all_goals (rw [e]; exact ⟨_,rfl,by decide,by decide⟩)
  refine ⟨(by show 6 ≤ sizeLine; decide),fun l6 nl6 => ?_⟩
  have g6 := ag nl6 (.lst [.int 1,.int 2,.int 2,.int 3,.int 4,.int 8])
  have ltd : l ≠ td := fun z => by rw [z,eD] at el1; cases el1
  refine ⟨_,rfl,_,rfl,l,_,_,_,rfl,rfl,az.of (g6 _ _ el1),at1,_,_,rfl,rfl,⟨by decide,PyProof.noPylong_small (by decide)⟩,_,_,rfl,rfl,(by show (6 : Int) ≠ 0; decide),l6,_,_,_,rfl,rfl,az.of aj,hmm,_,rfl,_,rfl,td,_,rfl,pY.k (k := .inr nmz) (g6 _ _ eD) (by rw [jm]; have := tok.1; omega),?_⟩
  obtain ⟨E,eE,ok⟩ := tok.put (m := mm) nm mm1 mm8
  exact ⟨_,_,_,_,rfl,f9 (g1.trans g6) ntd0 _,by rw [aA ltd]; exact g6 _ _ el1,E,by rw [eE]; exact aj,ok⟩
 ·rintro σ H1 ⟨o3,o4,o5,o6,rfl,g1,el1,D,eD,tok⟩
  exact ⟨_,rfl,q td D H1 g1 ntd0 eD ⟨by have := tok.1; omega,tok.2⟩⟩
theorem vv : aN ["_law_xs","_law_tools_here","_law_alike","_law_uses","_law_names","_law_k","_law_x","_law_heat","_law_many"] ["_law_xs","_law_tools_here","_law_alike"] (ak oV) := ⟨rfl,rfl,rfl,by decide +kernel,rfl,by decide +kernel,by decide +kernel⟩
set_option maxHeartbeats 4000000 in
theorem vw {dV : Value} (F : bL K "_law_way" "_law_way" oV dV f fd) (B : Bn K mg c_Net f_Z8)  : bG P w K mg base bj 1 f fd ["_law_xs","_law_tools_here","_law_alike"] jY := by
 have sc := vv
 refine F.ok sc (fun vs H Q E h => ?_) (fun cdv A outer s H vs Q E hr h => ?_)
 ·obtain ⟨l,td,ns,D,b,rfl,_⟩ := h
  rfl
 obtain ⟨l,td,ns,D,b,rfl,el,l4,dn,ed,tok,q⟩ := h
 refine ⟨_,(af (aE (i := 3) sc.nd rfl (Or.inl rfl) (bw ae)) (af (aE (i := 4) sc.nd rfl (Or.inl rfl) (bO (mE rfl) rfl B.b_list boot_list (aa (pv 1) ae))) (af (aX PassesOwn.never rfl (bN rfl B.b_range (aa (av ao rfl B.b_len boot_len (aa (pv 4) ae)) ae)) (ay (i := 5) sc.nd rfl (Or.inl rfl)) (af (aE (i := 6) sc.nd rfl (Or.inl rfl) (am au (pv 0) (pv 5) (fun _ _ => rfl))) (ai (aU (aI gJ (aw aR (pv 6) ac) ac (aG _)) (af (aE (i := 7) sc.nd rfl (Or.inl rfl) (am au (bw (aa (aw aR (aw bH (pv 6) ac) ac) (aa (aw c8 (aw fN ac ac) (aw aR (aw bH (pv 6) ac) ac)) ae))) (aw bH (aw aR (aw bH (pv 6) ac) ac) ac) (fun _ _ => rfl))) (af (aU (bX (pv 2)) (ai (aE (i := 7) sc.nd rfl (Or.inl rfl) ac)) aC) (af (aE (i := 8) sc.nd rfl (Or.inl rfl) (aw bR ac (aw aR (aw bH (pv 6) ac) (gZ (jd hr) (pv 1) (am au (pv 4) (pv 5) (fun _ _ => rfl)) (fun _ _ => rfl))))) (af (aU (aI fe (aw aR (aw bH (pv 6) ac) ac) ac (aG _)) (ai (aE (i := 8) sc.nd rfl (Or.inl rfl) ac)) aC) (ai (be (cn PySem.F.plainAttrs_list PySem.F.slot_list_append PySem.F.type_list_append aW (pv 3) (aa (bK (aa (am au (pv 4) (pv 5) (fun _ _ => rfl)) (aa (pv 8) (aa (pv 7) ae)))) ae)))))))) aC)))) (af (aU (aI gJ (aw aR (am au (pv 0) ac (fun _ _ => rfl)) ac) ac (aG _)) (ai (aE (i := 3) sc.nd rfl (Or.inl rfl) (ma rfl rfl B.b_list rfl B.b_reversed boot_list PyProof.Rows.Boot.«reversed» (pv 3)))) aC) (ai (aO (bK (aa ac (aa (aw fN ac ac) (aa (pv 3) ae)))))))))),?_⟩
 have sl : sizeLine = 16777216 := sizeLine_eq
 have e9 : (10 : Int) ^ (9 : Int).toNat = 1000000000 := by decide
 obtain ⟨z3,h3,_⟩ := eG dn (i := 3) (by omega)
 refine ⟨(by show 0 ≤ sizeLine; decide),fun u nu => ?_⟩
 have g0 := ag nu (.lst [])
 have hu0 : bY dN (fun a => a ≠ u ∧ H a = none) (aD H u (.lst [])) u [] := bY.new
 generalize aD H u (.lst []) = H0 at g0 hu0 ⊢
 refine ⟨_,rfl,td,_,rfl,g0 _ _ ed,fun nl nnl => ?_⟩
 have kn : ((a8 D).map fun p => kV p.1) = D.map fun p => V.str p.1 := by unfold a8; rw [List.map_map]; rfl
 rw [kn]
 have g1' := ag nnl (.lst (D.map fun p => V.str p.1))
 have en : aD H0 nl (.lst (D.map fun p => V.str p.1)) nl = some (.lst (D.map fun p => V.str p.1)) := aj
 have nu' : nl ≠ u := fun z => by
  obtain ⟨_,e,_⟩ := hu0
  rw [z,e] at nnl
  cases nnl
 have g1 := g0.trans g1'
 have hu1 := hu0.same g1'
 generalize aD H0 nl (.lst (D.map fun p => V.str p.1)) = H1 at en g1 hu1 ⊢
 clear g0 hu0 g1' nnl
 have dl := tok.1
 try dsimp only [cB,c7]
 refine cut (fun σ H' => ∃ (o5 o6 o7 o8 : Option V) (us : List Us),σ = [some (.ref l),some (.ref td),some (.bl b),some (.ref u),some (.ref nl),o5,o6,o7,o8] ∧ aB H H' ∧ bY dN (fun a => a ≠ u ∧ H a = none) H' u us ∧ oz D D.length us) (fun N hN => ?_) ?_
 ·refine ⟨_,rfl,nl,_,rfl,.inl (az.of en),_,rfl,by rw [List.length_map]; omega,by rw [List.length_map]; omega,bW (fun i σ H' => ∃ (o5 o6 o7 o8 : Option V) (us : List Us),σ = [some (.ref l),some (.ref td),some (.bl b),some (.ref u),some (.ref nl),o5,o6,o7,o8] ∧ aB H H' ∧ H' nl = some (.lst (D.map fun p => V.str p.1)) ∧ bY dN (fun a => a ≠ u ∧ H a = none) H' u us ∧ oz D i us) ⟨none,none,none,none,[],rfl,g1,en,hu1,oz.nil D⟩ ?_ ?_⟩
  ·rintro i σ H2 hi ⟨o5,o6,o7,o8,us,rfl,g2,en2,⟨vs,eu,ru⟩,uk⟩
   rw [Int.toNat_natCast,List.length_map] at hi
   obtain ⟨x,hx,x0,x1⟩ := eG dn (i := i) (by omega)
   have el2 := g2 _ _ el
   have at1 : fb (ns.map V.int) (0 + (i : Int)) = some (.int x) := bU (a5 hx)
   have hD := List.getElem?_eq_getElem hi
   have mem := List.getElem_mem hi
   generalize D[i] = p at hD mem
   obtain ⟨pn,p1,p8⟩ := tok.2.2 p mem
   have at2 : fb (D.map fun p => V.str p.1) (0 + (i : Int)) = some (.str p.1) := bU (a5 (f := fun p : Str × Int => V.str p.1) hD)
   have dg : ∀ H',aB H2 H' → lY H' td (.str p.1) (some (.int p.2)) := fun H' g => jV (.inl ((g2.trans g) _ _ ed)) (eV tok.2.1 (show (p.1,p.2) ∈ D from mem))
   refine ⟨_,rfl,_,rfl,l,_,_,_,rfl,rfl,az.of el2,at1,?_⟩
   refine ⟨_,rfl,_,_,rfl,rfl,(by show (2 : Int) ≠ 0; decide),rfl,_,rfl,d2 (fun _ => ?_) (fun _ => ⟨_,_,_,_,us,rfl,g2,en2,⟨vs,eu,ru⟩,uk.skip⟩)⟩
   have h3' := fm (a := x.fdiv 8) (n := 3) (by decide)
   have h2' := fm (a := x.fdiv 8) (n := 2) (by decide)
   have h4' := fm (a := x.fdiv 2) (n := 4) (by decide)
   refine ⟨_,rfl,_,_,rfl,rfl,⟨by decide,PyProof.noPylong_small (by decide)⟩,_,_,rfl,rfl,(by show (3 : Int) ≠ 0; decide),_,_,rfl,rfl,⟨by decide,by decide⟩,_,rfl,_,_,rfl,rfl,⟨by decide,PyProof.noPylong_small (by decide)⟩,_,_,rfl,rfl,(by show (2 : Int) ≠ 0; decide),_,_,rfl,rfl,(by show 2 ≤ sizeLine; decide),fun lh nlh => ?_⟩
   have gh := ag nlh (.lst [.int ((x.fdiv 8).fmod 3),.int ((10 : Int) ^ (9 : Int).toNat - (x.fdiv 8).fmod 2)])
   obtain ⟨hh,ahh,hh0,hh9⟩ : ∃ hh : Int,fb [V.int ((x.fdiv 8).fmod 3),V.int ((10 : Int) ^ (9 : Int).toNat - (x.fdiv 8).fmod 2)] (((x.fdiv 2).fmod 4).fdiv 3) = some (.int hh) ∧ 0 ≤ hh ∧ hh ≤ 1000000000 := by
    rw [show ((x.fdiv 2).fmod 4).fdiv 3 = ((x.fdiv 2).fmod 4) / 3 from Int.fdiv_eq_ediv_of_nonneg _ (by decide)]
    obtain e | e : ((x.fdiv 2).fmod 4) / 3 = 0 ∨ ((x.fdiv 2).fmod 4) / 3 = 1 := by omega
    ·rw [e]; exact ⟨_,rfl,by omega,by omega⟩
    ·rw [e]; exact ⟨_,rfl,by rw [e9]; omega,by rw [e9]; omega⟩
   refine ⟨_,rfl,_,_,rfl,rfl,⟨by decide,PyProof.noPylong_small (by decide)⟩,_,_,rfl,rfl,(by show (4 : Int) ≠ 0; decide),_,_,rfl,rfl,⟨by decide,PyProof.noPylong_small (by decide)⟩,lh,_,_,_,rfl,rfl,az.of aj,ahh,?_⟩
   have g3 := g2.trans gh
   have en3 := gh _ _ en2
   have eu3 := gh _ _ eu
   have ru3 := ru.imp fun _ _ q => gk q gh
   have dg3 := dg _ gh
   generalize aD H2 lh (.lst [.int ((x.fdiv 8).fmod 3),.int ((10 : Int) ^ (9 : Int).toNat - (x.fdiv 8).fmod 2)]) = H3 at g3 en3 eu3 ru3 dg3 ⊢
   clear ahh
   try dsimp only [cB,c7]
   refine cut (fun σ H' => ∃ (h9 : Int),σ = [some (.ref l),some (.ref td),some (.bl b),some (.ref u),some (.ref nl),some (.int (0 + (i : Int))),some (.int x),some (.int h9),o8] ∧ H3 = H' ∧ 0 ≤ h9 ∧ h9 ≤ 1000000000) (fun N' hN' => ?_) ?_
   ·refine ⟨_,rfl,_,rfl,?_⟩
    cases b with
    | true => exact d0 (hN' _ _ ⟨7,rfl,rfl,by decide,by decide⟩)
    | false => exact cQ (hN' _ _ ⟨hh,rfl,rfl,hh0,hh9⟩)
   rintro σ Hx ⟨h9,rfl,rfl,h90,h99⟩
   have mm := fm (a := x.fdiv 64) (n := p.2) (by omega)
   refine ⟨_,rfl,_,_,rfl,rfl,⟨by decide,PyProof.noPylong_small (by decide)⟩,_,rfl,_,rfl,_,rfl,nl,_,_,_,rfl,rfl,az.of en3,at2,td,_,rfl,dg3,_,_,rfl,rfl,(by omega),_,_,rfl,rfl,?_⟩
   try dsimp only [cB,c7]
   refine cut (fun σ H' => ∃ (m : Int),σ = [some (.ref l),some (.ref td),some (.bl b),some (.ref u),some (.ref nl),some (.int (0 + (i : Int))),some (.int x),some (.int h9),some (.int m)] ∧ H3 = H' ∧ 1 ≤ m ∧ m ≤ p.2) (fun N' hN' => ?_) ?_
   ·exact ⟨_,rfl,_,_,rfl,rfl,⟨by decide,PyProof.noPylong_small (by decide)⟩,_,_,rfl,rfl,(by show (3 : Int) ≠ 0; decide),_,_,rfl,rfl,_,rfl,d2 (fun _ => hN' _ _ ⟨1,rfl,rfl,Int.le_refl _,p1⟩) (fun _ => hN' _ _ ⟨_,rfl,rfl,by omega,by omega⟩)⟩
   rintro σ Hx ⟨m,rfl,rfl,m1,m2⟩
   refine ⟨_,rfl,.inl ⟨rfl,_,az.of eu3⟩,_,rfl,_,rfl,nl,_,_,_,rfl,rfl,az.of en3,at2,_,rfl,_,rfl,(by show 3 ≤ sizeLine; decide),fun a na => ⟨u,_,_,rfl,rfl,ag na _ _ _ eu3,by have := uk.len; rw [ru.1]; omega,?_⟩⟩
   have ga := ag na (.tup [.str p.1,.int m,.int h9])
   refine ⟨_,_,_,_,us ++ [(p.1,m,h9)],rfl,f9 (g3.trans ga) nu _,?_,?_,uk.put tok.2.1 hD m1 m2 h90 h99⟩
   ·rw [aA nu']
    exact ga _ _ en3
   ·exact bY.put (fun z => z.1 rfl) (ru3.imp fun _ _ q => gk q ga) ⟨a,rfl,⟨(fun z => by rw [z,eu3] at na; cases na),g3.free na⟩,aj⟩
  ·rintro σ H2 ⟨o5,o6,o7,o8,us,rfl,g2,en2,hu,uk⟩
   rw [Int.toNat_natCast,List.length_map] at uk
   exact hN _ _ ⟨_,_,_,_,us,rfl,g2,hu,uk⟩
 clear g1 hu1 en
 rintro σ H2 ⟨o5,o6,o7,o8,us,rfl,g2,hu,uk⟩
 try dsimp only [cB,c7]
 refine cut (fun σ H' => ∃ (u' : Addr) (us' : List Us),σ = [some (.ref l),some (.ref td),some (.bl b),some (.ref u'),some (.ref nl),o5,o6,o7,o8] ∧ aB H H' ∧ H u' = none ∧ bY dN (fun a => H a = none) H' u' us' ∧ (us' = us ∨ us' = us.reverse)) (fun N hN => ?_) ?_
 ·refine ⟨_,rfl,l,_,_,_,rfl,rfl,az.of (g2 _ _ el),(aL (j := 3) (a5 h3)),_,_,rfl,rfl,(by show (2 : Int) ≠ 0; decide),rfl,_,rfl,d2 (fun _ => ?_) (fun _ => hN _ _ ⟨u,us,rfl,g2,nu,hu.mono fun a h => h.2,.inl rfl⟩)⟩
  obtain ⟨vs,eu,ru⟩ := hu
  refine ⟨_,rfl,u,_,rfl,az.of eu,fun u' nu2 => ?_⟩
  have g3 := ag nu2 (.lst vs.reverse)
  exact hN _ _ ⟨u',us.reverse,rfl,g2.trans g3,g2.free nu2,⟨_,aj,ru.rev.imp fun _ _ q => oo (gk q g3) fun a h => h.2⟩,.inr rfl⟩
 clear hu
 rintro σ H3 ⟨u',us',rfl,g3,nu2,hu,eus⟩
 refine ⟨_,_,rfl,rfl,⟨by decide,by decide⟩,_,rfl,(by show 3 ≤ sizeLine; decide),fun t nt => ?_⟩
 have g4 := ag nt (.tup [.int 1,.int ((10 : Int) ^ (9 : Int).toNat),.ref u'])
 exact q (.ref t) (1,1000000000,us') _ (g3.trans g4) ⟨t,u',rfl,g3.free nt,nu2,aj,hu.same g4⟩ ⟨rfl,rfl,uk.ok dl tok.2.1 eus⟩
theorem vx : aN ["_law_one","_law_other"] ["_law_one","_law_other"] (ak oW) := ⟨rfl,rfl,rfl,by decide +kernel,rfl,by decide +kernel,by decide +kernel⟩
set_option maxHeartbeats 4000000 in
theorem vz {dV : Value} (F : bL K "_law_meet" "_law_meet" oW dV f fd) (B : Bn K mg c_Net f_Z8)  : bG P w K mg base bj 1 f fd ["_law_one","_law_other"] dy := by
 have sc := vx
 refine F.ok sc (fun vs H Q E h => ?_) (fun cdv A outer s H vs Q E hr h => ?_)
 ·obtain ⟨t,u,r,s2,rfl,_⟩ := h
  rfl
 obtain ⟨t,u,r,s2,rfl,et,eu,q⟩ := h
 refine ⟨_,(ai (aO (hU (ce cv (am ar (pv 0) ac (fun _ _ => rfl)) (am ar (pv 1) ac (fun _ _ => rfl)) (aG _)) (lL (ce cv (am ar (pv 1) ac (fun _ _ => rfl)) (am ar (pv 0) ac (fun _ _ => rfl)) (aG _)))))),?_⟩
 refine ⟨_,rfl,t,_,_,_,rfl,rfl,bc.of et,rfl,_,rfl,u,_,_,_,rfl,rfl,bc.of eu,rfl,_,_,rfl,rfl,_,rfl,d2 (fun c => ⟨_,rfl,u,_,_,_,rfl,rfl,bc.of eu,rfl,_,rfl,t,_,_,_,rfl,rfl,bc.of et,rfl,_,_,rfl,rfl,?_⟩) (fun c => ?_)⟩
 ·have e : cy r s2 = decide (s2.1 < r.2.1) := by unfold cy; rw [decide_eq_true c,Bool.true_and]
  rw [e] at q
  exact q
 ·have e : cy r s2 = false := by unfold cy; rw [decide_eq_false c,Bool.false_and]
  rw [e] at q
  exact q
theorem vA : aN ["_law_uses","_law_name","_law_use_here"] ["_law_uses","_law_name"] (ak oX) := ⟨rfl,rfl,rfl,by decide +kernel,rfl,by decide +kernel,by decide +kernel⟩
set_option maxHeartbeats 4000000 in
theorem vB {dV : Value} (F : bL K "_law_use" "_law_use" oX dV f fd) (B : Bn K mg c_Net f_Z8)  : bG P w K mg base bj 1 f fd ["_law_uses","_law_name"] hG := by
 have sc := vA
 refine F.ok sc (fun vs H Q E h => ?_) (fun cdv A outer s H vs Q E hr h => ?_)
 ·obtain ⟨u,z,us,P0,rfl,_⟩ := h
  rfl
 obtain ⟨u,z,us,P0,rfl,⟨vs,eu,ru⟩,q⟩ := h
 refine ⟨_,(af (aX PassesOwn.never rfl (aZ (pv 0)) (ay (i := 2) sc.nd rfl (Or.inl rfl)) (ai (aU (aI gJ (am ar (pv 2) ac (fun _ _ => rfl)) (pv 1) (aG _)) (ai (aO (pv 2))) aC))) (ai (aO dX))),?_⟩
 refine ⟨_,rfl,u,rfl,⟨_,az.of eu⟩,bq (xs := vs) (fun i σ H' => H = H' ∧ (∃ o2 : Option V,σ = [some (.ref u),some (.str z),o2]) ∧ ∀ (j : Nat) (x : Us),j < i → us[j]? = some x → x.1 ≠ z) ⟨rfl,⟨none,rfl⟩,fun j x hj => absurd hj (Nat.not_lt_zero _)⟩ (fun i σ H' _ h => by rw [← h.1]; exact az.of eu) ?_ ?_⟩
 ·rintro i y σ H1 hy ⟨rfl,⟨o2,rfl⟩,hn⟩
  obtain ⟨e,he,re⟩ := ru.at_ hy
  obtain ⟨a,rfl,pa,ea⟩ := id re
  refine ⟨_,rfl,a,_,_,_,rfl,rfl,bc.of ea,rfl,_,rfl,rfl,_,rfl,d2 (fun c => ?_) (fun c => ⟨rfl,⟨_,rfl⟩,fun j x hj hx => ?_⟩)⟩
  ·have c' : e.1 = z := by injection c
   have : sd us z = some e := jW (us := us) he c' hn
   exact ⟨_,rfl,q _ (by rw [this]; exact re)⟩
  ·by_cases ji : j = i
   ·rw [ji,he] at hx
    cases hx
    exact fun z => c (by rw [z])
   ·exact hn j x (by omega) hx
 ·rintro σ H1 ⟨rfl,⟨o2,rfl⟩,hn⟩
  rw [ru.1] at hn
  have : sd us z = none := by
   unfold sd
   rw [List.find?_eq_none]
   intro x hx
   obtain ⟨j,hj⟩ := List.mem_iff_getElem?.mp hx
   have := hn j x (List.getElem?_eq_some_iff.mp hj).1 hj
   simp [this]
  exact q _ (by rw [this]; exact rfl)
theorem vC : aN ["_law_runs_here","_law_times","_law_arcs_here","_law_pairs","_law_due_here","_law_spots","_law_i","_law_k"] ["_law_runs_here","_law_times","_law_arcs_here","_law_pairs"] (ak oY) := ⟨rfl,rfl,rfl,by decide +kernel,rfl,by decide +kernel,by decide +kernel⟩
set_option maxHeartbeats 4000000 in
theorem vD {dV : Value} (F : bL K "_law_times_due" "_law_times_due" oY dV f fd) (B : Bn K mg c_Net f_Z8) (DZ27 : Dx P w K mg base bj 1 "_law_meet" ["_law_one","_law_other"] [] dy) : bG P w K mg base bj 2 f fd ["_law_runs_here","_law_times","_law_arcs_here","_law_pairs"] fy := by
 have sc := vC
 refine F.ok sc (fun vs H Q E h => ?_) (fun cdv A outer s H vs Q E hr h => ?_)
 ·obtain ⟨rl,ml,al,pl,R,M,A1,B1,rfl,_⟩ := h
  rfl
 obtain ⟨rl,ml,al,pl,R,M,A1,B1,rfl,N,q⟩ := h
 refine ⟨_,(af (aE (i := 4) sc.nd rfl (Or.inl rfl) (bw ae)) (af (aE (i := 5) sc.nd rfl (Or.inl rfl) (bw ae)) (af (aX PassesOwn.never rfl (bN rfl B.b_range (aa (av ao rfl B.b_len boot_len (aa (pv 0) ae)) ae)) (ay (i := 6) sc.nd rfl (Or.inl rfl)) (af (aU (PW.pt (fc (aI cv (am ar (am au (pv 0) (pv 6) (fun _ _ => rfl)) ac (fun _ _ => rfl)) ac (aG _)) (dY (aI cv (aw c8 (am ar (am au (pv 0) (pv 6) (fun _ _ => rfl)) ac (fun _ _ => rfl)) (am ar (am au (pv 0) (pv 6) (fun _ _ => rfl)) ac (fun _ _ => rfl))) ac (aG _))))) (ai (be (cn PySem.F.plainAttrs_list PySem.F.slot_list_append PySem.F.type_list_append aW (pv 4) (aa (bK (aa cz (aa (pv 6) ae))) ae)))) aC) (ai (aE (i := 5) sc.nd rfl (Or.inl rfl) (aw fk (pv 5) (bw (aa (am ar (am au (pv 0) (pv 6) (fun _ _ => rfl)) ac (fun _ _ => rfl)) (aa (am ar (am au (pv 0) (pv 6) (fun _ _ => rfl)) ac (fun _ _ => rfl)) ae)))))))) (af (aE (i := 5) sc.nd rfl (Or.inl rfl) (aw fk (pv 5) (pv 1))) (af (aE (i := 4) sc.nd rfl (Or.inl rfl) (aw fk (pv 4) (eR (own := "_law_k") (ys := ["_law_times"]) (js := [1]) rfl (lG (mR lF) (.cons rfl .nil) (by decide) rfl rfl rfl rfl rfl rfl rfl rfl) (bN rfl B.b_range (aa (av ao rfl B.b_len boot_len (aa (pv 1) ae)) ae)) (fun C fp s H => (aI cv (am (c9 (K := K) rfl) (pv 1) (pv 0) (fun _ _ => rfl)) ac (aG _))) (fun C fp s H => (bK (aa cz (aa (pv 0) ae))))))) (af (aX PassesOwn.never rfl (bN rfl B.b_range (aa (av ao rfl B.b_len boot_len (aa (pv 2) ae)) ae)) (ay (i := 7) sc.nd rfl (Or.inl rfl)) (ai (aU (aI cv (aw c8 (am au (pv 5) (am ar (am au (pv 2) (pv 7) (fun _ _ => rfl)) ac (fun _ _ => rfl)) (fun _ _ => rfl)) (am au (pv 5) (am ar (am au (pv 2) (pv 7) (fun _ _ => rfl)) ac (fun _ _ => rfl)) (fun _ _ => rfl))) (am ar (am au (pv 2) (pv 7) (fun _ _ => rfl)) ac (fun _ _ => rfl)) (aG _)) (ai (be (cn PySem.F.plainAttrs_list PySem.F.slot_list_append PySem.F.type_list_append aW (pv 4) (aa (bK (aa cz (aa (pv 7) ae))) ae)))) aC))) (af (aX PassesOwn.never rfl (bN rfl B.b_range (aa (av ao rfl B.b_len boot_len (aa (pv 3) ae)) ae)) (ay (i := 7) sc.nd rfl (Or.inl rfl)) (ai (aU (bX (aH DZ27 hr (by decide) rfl (aa (am au (pv 0) (am ar (am au (pv 3) (pv 7) (fun _ _ => rfl)) ac (fun _ _ => rfl)) (fun _ _ => rfl)) (aa (am au (pv 0) (am ar (am au (pv 3) (pv 7) (fun _ _ => rfl)) ac (fun _ _ => rfl)) (fun _ _ => rfl)) ae)))) (ai (be (cn PySem.F.plainAttrs_list PySem.F.slot_list_append PySem.F.type_list_append aW (pv 4) (aa (bK (aa cz (aa (pv 7) ae))) ae)))) aC))) (ai (aO (pv 4)))))))))),?_⟩
 have sl : sizeLine = 16777216 := sizeLine_eq
 obtain ⟨bs,er,rR⟩ := id N.runs
 have r24 := N.r24
 have m8 := N.m8
 have a6 := N.a600
 have b3 := N.b300
 have em := N.mom
 have lr : (bs.map V.ref).length = R.length := by rw [List.length_map,rR.1,List.length_map]
 refine ⟨(by show 0 ≤ sizeLine; decide),fun l nl => ?_⟩
 have g0 := ag nl (.lst [])
 have t0 : ToldN H (aD H l (.lst [])) l ([] ++ cI R 0) := bY.new
 generalize aD H l (.lst []) = H0 at g0 t0 ⊢
 refine ⟨(by show 0 ≤ sizeLine; decide),fun s0 ns0 => ?_⟩
 have g1' := ag ns0 (.lst [])
 have e1 : aD H0 s0 (.lst []) s0 = some (.lst []) := aj
 have g1 := g0.trans g1'
 have t1 := t0.same g1'
 have n0 : s0 ≠ l := fun z => by
  obtain ⟨_,e,_⟩ := t0
  rw [z,e] at ns0
  cases ns0
 generalize aD H0 s0 (.lst []) = H1 at g1 e1 t1 ⊢
 clear g0 g1' t0 ns0
 try dsimp only [cB,c7]
 refine cut (fun σ H' => ∃ (s1 : Addr) (o6 : Option V),σ = [some (.ref rl),some (.ref ml),some (.ref al),some (.ref pl),some (.ref l),some (.ref s1),o6,none] ∧ aB H H' ∧ H' s1 = some (.lst ((aQ R []).map V.int)) ∧ ToldN H H' l (cI R R.length)) (fun Nx hN => ?_) ?_
 ·refine ⟨_,rfl,rl,_,rfl,.inl (az.of (g1 _ _ er)),_,rfl,by omega,by omega,bW (fun i σ H' => ∃ (s1 : Addr) (o6 : Option V),σ = [some (.ref rl),some (.ref ml),some (.ref al),some (.ref pl),some (.ref l),some (.ref s1),o6,none] ∧ aB H H' ∧ s1 ≠ l ∧ H' s1 = some (.lst ((aQ (R.take i) []).map V.int)) ∧ ToldN H H' l ([] ++ cI R i)) ⟨s0,none,rfl,g1,n0,e1,t1⟩ ?_ ?_⟩
  ·rintro i σ H2 hi ⟨s1,o6,rfl,g2,n1,e2,cs,ec,rc⟩
   rw [Int.toNat_natCast,lr] at hi
   have hr' := List.getElem?_eq_getElem hi
   obtain ⟨b,hb,eb0⟩ := run_get rR hr'
   generalize R[i] = r at hr' eb0
   have bad : tO R i = decide (r.1 < 0 ∨ r.2.1 - r.1 < 1) := by unfold tO; rw [bf hr']
   have br : fb (bs.map V.ref) (0 + (i : Int)) = some (.ref b) := bU (a5 hb)
   have er2 := g2 _ _ er
   have eb2 := g2 _ _ eb0
   have sz : cs.length < sizeLine := by
    rw [rc.1]
    have := aY i (tO R) fun i => [V.str "turns",.int (i : Nat)]
    show (cI R i).length < _
    unfold cI
    omega
   try dsimp only [cB,c7]
   refine cut (fun σ H' => σ = [some (.ref rl),some (.ref ml),some (.ref al),some (.ref pl),some (.ref l),some (.ref s1),some (.int (0 + (i : Int))),none] ∧ aB H H' ∧ H' s1 = some (.lst ((aQ (R.take i) []).map V.int)) ∧ ToldN H H' l ([] ++ cI R (i + 1))) (fun N' hN' => ?_) ?_
   ·have yes : tO R i = true → ∀ a,H2 a = none → N' [some (.ref rl),some (.ref ml),some (.ref al),some (.ref pl),some (.ref l),some (.ref s1),some (.int (0 + (i : Int))),none] (aD (aD H2 a (.tup [.str "turns",.int (0 + (i : Int))])) l (.lst (cs ++ [.ref a]))) := fun hb' a na => by
     have y := dP (pre := []) (f := fun i => [V.str "turns",.int (i : Nat)]) (o := .tup [.str "turns",.int (0 + (i : Int))]) nl g2 ec rc hb' na (by rw [Int.zero_add])
     exact hN' _ _ ⟨rfl,y.1,by rw [aA n1]; exact ag na _ _ _ e2,y.2⟩
    refine ⟨_,rfl,_,rfl,rl,_,_,_,rfl,rfl,az.of er2,br,b,_,_,_,rfl,rfl,bc.of eb2,rfl,_,_,rfl,rfl,_,rfl,d2 (fun c => ?_) (fun c => ⟨_,rfl,_,rfl,rl,_,_,_,rfl,rfl,az.of er2,br,b,_,_,_,rfl,rfl,bc.of eb2,rfl,_,rfl,_,rfl,rl,_,_,_,rfl,rfl,az.of er2,br,b,_,_,_,rfl,rfl,bc.of eb2,rfl,_,_,rfl,rfl,_,_,rfl,rfl,_,rfl,d2 (fun c2 => ?_) (fun c2 => ?_)⟩)⟩
    ·exact ⟨_,rfl,.inl ⟨rfl,_,az.of ec⟩,_,rfl,(by show 2 ≤ sizeLine; decide),fun a na => ⟨l,_,_,rfl,rfl,ag na _ _ _ ec,sz,yes (by rw [bad]; exact decide_eq_true (.inl c)) a na⟩⟩
    ·exact ⟨_,rfl,.inl ⟨rfl,_,az.of ec⟩,_,rfl,(by show 2 ≤ sizeLine; decide),fun a na => ⟨l,_,_,rfl,rfl,ag na _ _ _ ec,sz,yes (by rw [bad]; exact decide_eq_true (.inr c2)) a na⟩⟩
    ·exact hN' _ _ ⟨rfl,g2,e2,iK (pre := []) ⟨cs,ec,rc⟩ (by rw [bad]; exact decide_eq_false (by omega))⟩
   clear ec rc er2 eb2 g2 e2
   rintro σ H3 ⟨rfl,g3,e3,t3⟩
   have er3 := g3 _ _ er
   have eb3 := g3 _ _ eb0
   have ll : ((aQ (R.take i) []).map V.int).length ≤ 48 := by rw [List.length_map,cx,List.length_take]; simp; omega
   refine ⟨_,rfl,_,rfl,_,rfl,rl,_,_,_,rfl,rfl,az.of er3,br,b,_,_,_,rfl,rfl,bc.of eb3,rfl,_,rfl,_,rfl,rl,_,_,_,rfl,rfl,az.of er3,br,b,_,_,_,rfl,rfl,bc.of eb3,rfl,(by show 2 ≤ sizeLine; decide),fun p np => ⟨s1,p,_,_,rfl,rfl,ag np _ _ _ e3,aj,by simp at ll ⊢; omega,fun l2 nl2 => ?_⟩⟩
   have g4 := (ag np (.lst [.int r.1,.int r.2.1])).trans (ag nl2 (.lst ((aQ (R.take i) []).map V.int ++ [.int r.1,.int r.2.1])))
   refine ⟨l2,_,rfl,g3.trans g4,fun z => ?_,?_,t3.same g4⟩
   ·obtain ⟨_,e,_⟩ := t3
    rw [z] at nl2
    rw [ag np _ _ _ e] at nl2
    cases nl2
   ·rw [aj,fq hr',List.map_append,List.map_append,List.append_assoc]
    rfl
  ·rintro σ H2 ⟨s1,o6,rfl,g2,n1,e2,t2⟩
   rw [Int.toNat_natCast,lr] at e2 t2
   rw [List.take_length] at e2
   exact hN _ _ ⟨s1,_,rfl,g2,e2,t2⟩
 clear g1 e1 t1 n0
 rintro σ H1 ⟨s1,o6,rfl,g1,e1,t1⟩
 have ls : ((aQ R []).map V.int).length ≤ 48 := by rw [List.length_map,cx]; simp; omega
 refine ⟨_,rfl,_,rfl,s1,ml,_,_,rfl,rfl,e1,g1 _ _ em,by rw [show (M.map V.int).length = M.length from List.length_map _]; omega,fun s2 ns2 => ?_⟩
 rw [← List.map_append,gc]
 have g2' := ag ns2 (.lst ((aQ R M).map V.int))
 have e2 : aD H1 s2 (.lst ((aQ R M).map V.int)) s2 = some (.lst ((aQ R M).map V.int)) := aj
 have g2 := g1.trans g2'
 have t2 := t1.same g2'
 generalize aD H1 s2 (.lst ((aQ R M).map V.int)) = H2 at g2 e2 t2 ⊢
 clear g1 e1 t1 g2' ns2
 refine ⟨_,rfl,_,rfl,ml,_,rfl,.inl (az.of (g2 _ _ em)),_,rfl,by rw [List.length_map]; omega,by rw [List.length_map]; omega,gm j1 (fun _ => False) (kK M) (fun i => [.str "moment",.int (i : Nat)]) (by rw [List.length_map]; omega) (fun a h => h.elim) (fun i hi H3 g3 S' hS => ?_) (fun i hi _ H3 g3 Q' hQ => ?_) fun p H3 np g3 b3' => ?_⟩
 ·rw [List.length_map] at hi
  have hM := List.getElem?_eq_getElem (show i < M.length by omega)
  have eb : kK M i = decide (M[i]'(by omega) < 0) := by unfold kK; rw [bf hM]
  rw [eb] at hS
  exact ⟨_,rfl,_,rfl,ml,_,_,_,rfl,rfl,az.of ((g2.trans g3) _ _ em),(bU (a5 hM)),_,_,rfl,rfl,_,rfl,hS _ (.refl _)⟩
 ·rw [Int.zero_add]
  exact ⟨_,rfl,(by show 2 ≤ sizeLine; decide),fun a na => hQ _ _ (ag na _) ⟨a,rfl,.inl na,aj⟩⟩
 rw [Int.toNat_natCast,List.length_map] at b3'
 obtain ⟨vs1,ev1,rv1⟩ := t2.same g3
 obtain ⟨vs2,ev2,rv2⟩ := b3'
 have lt1 : (cI R R.length).length ≤ 24 := Nat.le_trans (aY _ _ _) r24
 have lt2 : (gw M M.length).length ≤ 8 := Nat.le_trans (aY _ _ _) m8
 refine ⟨l,p,_,_,rfl,rfl,ev1,ev2,by rw [rv1.1,rv2.1]; show (cI R R.length).length + (gw M M.length).length ≤ _; omega,fun l2 nl2 => ?_⟩
 have g4' := ag nl2 (.lst (vs1 ++ vs2))
 have nH : H l2 = none := (g2.trans g3).free nl2
 have t4 : ToldN H (aD H3 l2 (.lst (vs1 ++ vs2))) l2 (cI R R.length ++ gw M M.length) := by
  have ne : ∀ a o,H3 a = some o → a ≠ l2 := fun a o e z => by rw [z,nl2] at e; cases e
  refine ⟨_,aj,A2.append (rv1.imp fun _ _ q => Mv.mv (fun a o h _ e => ⟨⟨ne a o e,h.2⟩,g4' _ _ e⟩) q) (rv2.imp fun _ _ q => Mv.mv (fun a o h _ e => ⟨⟨ne a o e,h.2.elim (fun z => g2.free z) fun z => z.elim⟩,g4' _ _ e⟩) q)⟩
 have g4 := (g2.trans g3).trans g4'
 have e4 := (g3.trans g4') _ _ e2
 have n4 : s2 ≠ l2 := fun z => by
  have := g3 _ _ e2
  rw [z,nl2] at this
  cases this
 generalize aD H3 l2 (.lst (vs1 ++ vs2)) = H4 at g4 e4 t4 ⊢
 clear g2 e2 t2 g3 ev1 ev2 rv1 rv2 g4' nl2 np
 obtain ⟨ks,ea,rA⟩ := id N.arcs
 have la : (ks.map V.ref).length = A1.length := by rw [List.length_map,rA.1]
 obtain ⟨hs,ep,rP⟩ := id N.apart
 have lp : (hs.map V.ref).length = B1.length := by rw [List.length_map,rP.1]
 generalize hpre : cI R R.length ++ gw M M.length = pre at t4
 have lpre : pre.length ≤ 32 := by rw [← hpre,List.length_append]; omega
 try dsimp only [cB,c7]
 refine cut (fun σ H' => ∃ (o7 : Option V),σ = [some (.ref rl),some (.ref ml),some (.ref al),some (.ref pl),some (.ref l2),some (.ref s2),o6,o7] ∧ aB H H' ∧ ToldN H H' l2 (pre ++ cm A1 R M A1.length)) (fun Nx hN => ?_) ?_
 ·refine ⟨_,rfl,al,_,rfl,.inl (az.of (g4 _ _ ea)),_,rfl,by omega,by omega,bW (fun i σ H' => ∃ (o7 : Option V),σ = [some (.ref rl),some (.ref ml),some (.ref al),some (.ref pl),some (.ref l2),some (.ref s2),o6,o7] ∧ aB H H' ∧ H' s2 = some (.lst ((aQ R M).map V.int)) ∧ ToldN H H' l2 (pre ++ cm A1 R M i)) ⟨none,rfl,g4,e4,by rw [show cm A1 R M 0 = [] from rfl,List.append_nil]; exact t4⟩ ?_ ?_⟩
  ·rintro i σ H5 hi ⟨o7,rfl,g5,e5,cs,ec,rc⟩
   rw [Int.toNat_natCast,la] at hi
   have hA := List.getElem?_eq_getElem hi
   obtain ⟨b,hb,_⟩ := rA.get hA
   have eb := rA.2 i b _ hb hA
   obtain ⟨p,p',gg,ek,p0,p1,q0,q1,_⟩ := N.aok _ (List.getElem_mem hi)
   rw [ek] at eb hA
   have sl' : ((aQ R M).length : Int) = 2 * (R.length : Int) + M.length := by rw [cx]; omega
   have hp := List.getElem?_eq_getElem (show p.toNat < (aQ R M).length by omega)
   have hq := List.getElem?_eq_getElem (show p'.toNat < (aQ R M).length by omega)
   generalize (aQ R M)[p.toNat]'_ = v at hp
   generalize (aQ R M)[p'.toNat]'_ = v' at hq
   have bad : mf A1 (aQ R M) i = decide (v' - v < gg) := by
    unfold mf
    rw [bf hA]
    show decide ((aQ R M).getD p'.toNat 0 - (aQ R M).getD p.toNat 0 < gg) = _
    rw [bf hp,bf hq]
   have ea5 := g5 _ _ ea
   have eb5 := g5 _ _ eb
   have ab : fb (ks.map V.ref) (0 + (i : Int)) = some (.ref b) := bU (a5 hb)
   have ap : fb ((aQ R M).map V.int) p = some (.int v) := by
    have := aL (a5 (f := V.int) hp)
    rw [Int.toNat_of_nonneg p0] at this
    exact this
   have aq : fb ((aQ R M).map V.int) p' = some (.int v') := by
    have := aL (a5 (f := V.int) hq)
    rw [Int.toNat_of_nonneg q0] at this
    exact this
   have sz : cs.length < sizeLine := by
    rw [rc.1,List.length_append]
    have := aY i (mf A1 (aQ R M)) fun i => [V.str "arc",.int (i : Nat)]
    unfold cm
    omega
   refine ⟨_,rfl,_,rfl,_,rfl,al,_,_,_,rfl,rfl,az.of ea5,ab,b,_,_,_,rfl,rfl,bc.of eb5,rfl,s2,_,_,_,rfl,rfl,az.of e5,aq,_,rfl,_,rfl,_,rfl,al,_,_,_,rfl,rfl,az.of ea5,ab,b,_,_,_,rfl,rfl,bc.of eb5,rfl,s2,_,_,_,rfl,rfl,az.of e5,ap,_,_,rfl,rfl,_,rfl,_,rfl,al,_,_,_,rfl,rfl,az.of ea5,ab,b,_,_,_,rfl,rfl,bc.of eb5,rfl,_,_,rfl,rfl,_,rfl,d2 (fun c => ?_) (fun c => ?_)⟩
   ·refine ⟨_,rfl,.inl ⟨rfl,_,az.of ec⟩,_,rfl,(by show 2 ≤ sizeLine; decide),fun a na => ⟨l2,_,_,rfl,rfl,ag na _ _ _ ec,sz,?_⟩⟩
    have y := dP (pre := pre) (f := fun i => [V.str "arc",.int (i : Nat)]) (o := .tup [.str "arc",.int (0 + (i : Int))]) nH g5 ec rc (by rw [bad]; exact decide_eq_true c) na (by rw [Int.zero_add])
    exact ⟨_,rfl,y.1,by rw [aA n4]; exact ag na _ _ _ e5,y.2⟩
   ·exact ⟨_,rfl,g5,e5,iK (pre := pre) ⟨cs,ec,rc⟩ (by rw [bad]; exact decide_eq_false c)⟩
  ·rintro σ H5 ⟨o7,rfl,g5,e5,t5⟩
   rw [Int.toNat_natCast,la] at t5
   exact hN _ _ ⟨_,rfl,g5,t5⟩
 clear g4 e4 t4
 rintro σ H4 ⟨o7,rfl,g4,t4⟩
 have ltA : (cm A1 R M A1.length).length ≤ 600 := Nat.le_trans (aY _ _ _) a6
 refine ⟨_,rfl,pl,_,rfl,.inl (az.of (g4 _ _ ep)),_,rfl,by omega,by omega,bW (fun i σ H' => ∃ (o7 : Option V),σ = [some (.ref rl),some (.ref ml),some (.ref al),some (.ref pl),some (.ref l2),some (.ref s2),o6,o7] ∧ aB H H' ∧ ToldN H H' l2 ((pre ++ cm A1 R M A1.length) ++ cb B1 R i)) ⟨o7,rfl,g4,by rw [show cb B1 R 0 = [] from rfl,List.append_nil]; exact t4⟩ ?_ ?_⟩
 ·rintro i σ H5 hi ⟨o7,rfl,g5,cs,ec,rc⟩
  rw [Int.toNat_natCast,lp] at hi
  have hA := List.getElem?_eq_getElem hi
  obtain ⟨b,hb,_⟩ := rP.get hA
  have eb := rP.2 i b _ hb hA
  obtain ⟨p,p',ek,p0,p1,q0,q1⟩ := N.bok _ (List.getElem_mem hi)
  rw [ek] at eb hA
  have hp := List.getElem?_eq_getElem (show p.toNat < R.length by omega)
  have hq := List.getElem?_eq_getElem (show p'.toNat < R.length by omega)
  obtain ⟨a1,h1,e1⟩ := run_get rR hp
  obtain ⟨a2,h2,e2⟩ := run_get rR hq
  generalize R[p.toNat]'_ = v at hp e1
  generalize R[p'.toNat]'_ = v' at hq e2
  have bad : mB B1 R i = cy v v' := by
   unfold mB
   rw [bf hA]
   show cy (R.getD p.toNat (0,0,0)) (R.getD p'.toNat (0,0,0)) = _
   rw [bf hp,bf hq]
  have ap : fb (bs.map V.ref) p = some (.ref a1) := by
   have : p = ((p.toNat : Nat) : Int) := by omega
   rw [this]
   exact aL (a5 h1)
  have aq : fb (bs.map V.ref) p' = some (.ref a2) := by
   have : p' = ((p'.toNat : Nat) : Int) := by omega
   rw [this]
   exact aL (a5 h2)
  have ep5 := g5 _ _ ep
  have eb5 := g5 _ _ eb
  have er5 := g5 _ _ er
  have ab : fb (hs.map V.ref) (0 + (i : Int)) = some (.ref b) := bU (a5 hb)
  have sz : cs.length < sizeLine := by
   rw [rc.1,List.length_append,List.length_append]
   have := aY i (mB B1 R) fun i => [V.str "apart",.int (i : Nat)]
   unfold cb
   omega
  refine ⟨_,rfl,_,rfl,_,rfl,pl,_,_,_,rfl,rfl,az.of ep5,ab,b,_,_,_,rfl,rfl,bc.of eb5,rfl,rl,_,_,_,rfl,rfl,az.of er5,ap,_,rfl,_,rfl,_,rfl,pl,_,_,_,rfl,rfl,az.of ep5,ab,b,_,_,_,rfl,rfl,bc.of eb5,rfl,rl,_,_,_,rfl,rfl,az.of er5,aq,a1,a2,v,v',rfl,g5 _ _ e1,g5 _ _ e2,_,rfl,?_⟩
  cases hm : cy v v' with
  | true =>
   refine d0 ⟨_,rfl,.inl ⟨rfl,_,az.of ec⟩,_,rfl,(by show 2 ≤ sizeLine; decide),fun a na => ⟨l2,_,_,rfl,rfl,ag na _ _ _ ec,sz,?_⟩⟩
   have y := dP (pre := pre ++ cm A1 R M A1.length) (f := fun i => [V.str "apart",.int (i : Nat)]) (o := .tup [.str "apart",.int (0 + (i : Int))]) nH g5 ec rc (by rw [bad]; exact hm) na (by rw [Int.zero_add])
   exact ⟨_,rfl,y.1,y.2⟩
  | false => exact cQ ⟨_,rfl,g5,iK (pre := pre ++ cm A1 R M A1.length) ⟨cs,ec,rc⟩ (by rw [bad]; exact hm)⟩
 ·rintro σ H5 ⟨o7,rfl,g5,t5⟩
  rw [Int.toNat_natCast,lp,← hpre] at t5
  exact ⟨_,rfl,q l2 H5 g5 t5.any⟩
theorem vE : aN ["_law_runs_here","_law_uses","_law_tools_here","_law_due_here","_law_name","_law_t","_law_total","_law_i","_law_use_here"] ["_law_runs_here","_law_uses","_law_tools_here"] (ak oZ) := ⟨rfl,rfl,rfl,by decide +kernel,rfl,by decide +kernel,by decide +kernel⟩
set_option maxHeartbeats 4000000 in
theorem vF {dV : Value} (F : bL K "_law_tools_due" "_law_tools_due" oZ dV f fd) (B : Bn K mg c_Net f_Z8) (DZ28 : Dx P w K mg base bj 1 "_law_use" ["_law_uses","_law_name"] [] hG) : bG P w K mg base bj 2 f fd ["_law_runs_here","_law_uses","_law_tools_here"] fA := by
 have sc := vE
 refine F.ok sc (fun vs H Q E h => ?_) (fun cdv A outer s H vs Q E hr h => ?_)
 ·obtain ⟨rl,ul,td,D,T,R,rfl,_⟩ := h
  rfl
 obtain ⟨rl,ul,td,D,T,R,rfl,N,q⟩ := h
 refine ⟨_,(af (aE (i := 3) sc.nd rfl (Or.inl rfl) (bw ae)) (af (aX PassesOwn.never rfl (aZ (av (dk rfl) rfl B.b_sorted PyProof.Rows.Boot.«sorted» (aa (pv 2) ae))) (ay (i := 4) sc.nd rfl (Or.inl rfl)) (ai (aX PassesOwn.never rfl (aZ (gR rfl rfl B.b_sorted rfl B.b_set PyProof.Rows.Boot.«sorted» PyProof.Rows.Boot.«set» (dL (own := "_law_run") (ys := []) (js := []) rfl (lG lF .nil (by decide) rfl rfl rfl rfl rfl rfl rfl rfl) (aZ (pv 0)) (fun C fp s H => (am (eU (K := K) rfl) (pv 0) ac (fun _ _ => rfl)))))) (ay (i := 5) sc.nd rfl (Or.inl rfl)) (af (aE (i := 6) sc.nd rfl (Or.inl rfl) ac) (af (aX PassesOwn.never rfl (bN rfl B.b_range (aa (av ao rfl B.b_len boot_len (aa (pv 0) ae)) ae)) (ay (i := 7) sc.nd rfl (Or.inl rfl)) (af (aE (i := 8) sc.nd rfl (Or.inl rfl) (aH DZ28 hr (by decide) rfl (aa (am au (pv 1) (pv 7) (fun _ _ => rfl)) (aa (pv 4) ae)))) (ai (aU (PW.pt (dZ (aI fG (pv 8) dX (aG _)) (dZ (aI ci (am ar (am au (pv 0) (pv 7) (fun _ _ => rfl)) ac (fun _ _ => rfl)) (pv 5) (aG _)) (eP (aI cv (pv 5) (am ar (am au (pv 0) (pv 7) (fun _ _ => rfl)) ac (fun _ _ => rfl)) (aG _)))))) (ai (aE (i := 6) sc.nd rfl (Or.inl rfl) (aw bR (pv 6) (am ar (pv 8) ac (fun _ _ => rfl))))) aC)))) (ai (aU (aI fe (pv 6) (gZ (jd hr) (pv 2) (pv 4) (fun _ _ => rfl)) (aG _)) (ai (be (cn PySem.F.plainAttrs_list PySem.F.slot_list_append PySem.F.type_list_append aW (pv 3) (aa (bK (aa cz (aa (pv 4) (aa (pv 5) ae)))) ae)))) aC))))))) (ai (aO (pv 3))))),?_⟩
 have sl : sizeLine = 16777216 := sizeLine_eq
 have r24 := N.r24
 have tok := N.tok
 refine ⟨(by show 0 ≤ sizeLine; decide),fun ld nld => ?_⟩
 have gd := ag nld (.lst [])
 have hd0 : ToldN H (aD H ld (.lst [])) ld [] := bY.new
 generalize aD H ld (.lst []) = H5 at gd hd0 ⊢
 refine ⟨_,rfl,td,_,_,rfl,gd _ _ N.tools,fv D,tok.2.1,(by rw [List.length_map]; have := tok.1; omega),fun ly ys nly yp ysrt => ?_⟩
 have gy := ag nly (.lst (ys.map V.str))
 have ey : aD H5 ly (.lst (ys.map V.str)) ly = some (.lst (ys.map V.str)) := aj
 have k6 := gd.trans gy
 have hd6 := hd0.same gy
 have lyd : ly ≠ ld := fun z => by
  obtain ⟨_,e,_⟩ := hd0
  rw [z,e] at nly
  cases nly
 generalize aD H5 ly (.lst (ys.map V.str)) = H6 at ey k6 hd6 ⊢
 clear gd gy hd0 nly
 have yl : ys.length ≤ 3 := by rw [yp.length_eq,List.length_map]; exact tok.1
 refine ⟨ly,rfl,⟨_,az.of ey⟩,bq (xs := ys.map V.str) (fun i σ H' => ∃ o4 o5 o6 o7 o8 : Option V,σ = [some (.ref rl),some (.ref ul),some (.ref td),some (.ref ld),o4,o5,o6,o7,o8] ∧ aB H H' ∧ H' ly = some (.lst (ys.map V.str)) ∧ ToldN H H' ld ((ys.take i).flatMap (dt D T R))) ⟨none,none,none,none,none,rfl,k6,ey,hd6⟩ (fun i σ H' _ ⟨_,_,_,_,_,_,_,e,_⟩ => az.of e) ?_ ?_⟩
 ·rintro i y σ H7 hy ⟨o4,o5,o6,o7,o8,rfl,g7,ey7,hd7⟩
  rw [List.getElem?_map] at hy
  obtain ⟨z,hz,rfl⟩ := Option.map_eq_some_iff.mp hy
  obtain ⟨bs,er,rR⟩ := N.runs.same g7
  have lnR : (bs.map V.ref).length = R.length := by rw [List.length_map,rR.1,List.length_map]
  obtain ⟨mz,hmz⟩ := fr (yp.mem_iff.mp (List.mem_of_getElem? hz))
  refine ⟨_,rfl,rl,rfl,⟨_,az.of er⟩,dr (kW V.int) (fun _ => False) (fun i => (R.getD i (0,0,0)).1) (az.of er) (by omega) (fun a h => h.elim) (fun j y hy H8 g Q' hQ => ?_) fun p H8 np g8 hp => ?_⟩
  ·obtain ⟨b,hb,rfl⟩ := cf hy
   obtain ⟨r,hr',eb⟩ := eB rR hb
   rw [bf hr'] at hQ
   exact ⟨_,rfl,b,_,_,_,rfl,rfl,bc.of (g _ _ eb),rfl,hQ _ _ (.refl _) rfl⟩
  obtain ⟨ps,ep,rp⟩ := hp
  have e1 : (List.range (bs.map V.ref).length).map (fun i => (R.getD i (0,0,0)).1) = R.map (·.1) := by
   conv => rhs; rw [← fT R (0,0,0),List.map_map,← lnR]
   rfl
  rw [e1] at rp
  rw [rp.val] at ep
  refine ⟨p,R.map (·.1),rfl,az.of ep,by rw [List.length_map]; omega,?_,fun p2 vs np2 vnd mem pw => ?_⟩
  ·have := dw (R.map (·.1)) []
   rw [List.length_map] at this
   simp at this ⊢
   omega
  have ev : vs = cU R := m9 vnd mem pw
  subst ev
  have g9' := g8.trans (ag np2 (.lst ((cU R).map V.int)))
  have e9 : aD H8 p2 (.lst ((cU R).map V.int)) p2 = some (.lst ((cU R).map V.int)) := aj
  have g9 := g7.trans g9'
  have ey9 := g9' _ _ ey7
  have hd9 := hd7.same g9'
  have lp2 : p2 ≠ ld := fun z => by
   obtain ⟨_,e,_⟩ := hd7
   rw [z,g8 _ _ e] at np2
   cases np2
  generalize aD H8 p2 (.lst ((cU R).map V.int)) = H9 at e9 g9 ey9 hd9 ⊢
  clear g9' np2 ep rp np g8 er rR ey7 hd7
  obtain ⟨bs,er0,rR⟩ := id N.runs
  have lnR : (bs.map V.ref).length = R.length := by rw [List.length_map,rR.1,List.length_map]
  have lb : (cU R).length ≤ R.length := by
   have := fS (R.map (·.1))
   rwa [List.length_map] at this
  refine ⟨p2,rfl,⟨_,az.of e9⟩,bq (xs := (cU R).map V.int) (fun j σ H' => ∃ o5 o6 o7 o8 : Option V,σ = [some (.ref rl),some (.ref ul),some (.ref td),some (.ref ld),some (.str z),o5,o6,o7,o8] ∧ aB H H' ∧ H' p2 = some (.lst ((cU R).map V.int)) ∧ H' ly = some (.lst (ys.map V.str)) ∧ ToldN H H' ld ((ys.take i).flatMap (dt D T R) ++ bT j (fun i => decide ((cE D z).getD 0 < ck T R z ((cU R).getD i 0) R.length)) (fun i => [.str "tool",.str z,.int ((cU R).getD i 0)]))) ⟨o5,o6,o7,o8,rfl,g9,e9,ey9,by rw [mC,List.append_nil]; exact hd9⟩ (fun j σ H' _ ⟨_,_,_,_,_,_,e,_⟩ => az.of e) ?_ ?_⟩
  ·rintro j y σ HA hy ⟨o5,o6,o7,o8,rfl,gA,eA,eyA,cs,ec,rc⟩
   rw [List.getElem?_map] at hy
   obtain ⟨n,hn,rfl⟩ := Option.map_eq_some_iff.mp hy
   have dg := jV (.inl (gA _ _ N.tools)) hmz
   have lf := cH (f := dt D T R) (m := 24) (fun a => Nat.le_trans (dE D T R a) r24) (ys.take i)
   have lt' : (ys.take i).length ≤ 3 := by rw [List.length_take]; omega
   have jl := (List.getElem?_eq_some_iff.mp hn).1
   have sz : cs.length < sizeLine := by
    rw [rc.1,List.length_append]
    have := aY j (fun i => decide ((cE D z).getD 0 < ck T R z ((cU R).getD i 0) R.length)) (fun i => [V.str "tool",.str z,.int ((cU R).getD i 0)])
    omega
   have pr : (fun i => decide ((cE D z).getD 0 < ck T R z ((cU R).getD i 0) R.length)) j = decide (mz < ck T R z n R.length) := by
    show decide ((cE D z).getD 0 < ck T R z ((cU R).getD j 0) R.length) = _
    rw [bf hn,hmz]
    rfl
   have er := gA _ _ er0
   obtain ⟨vu,eu,ru⟩ := N.uses.same gA
   try dsimp only [cB,c7]
   refine cut (fun σ H' => σ = [some (.ref rl),some (.ref ul),some (.ref td),some (.ref ld),some (.str z),some (.int n),some (.int 0),o7,o8] ∧ HA = H') (fun Nx hN => hN _ _ ⟨rfl,rfl⟩) ?_
   rintro σ HA' ⟨rfl,rfl⟩
   refine cut (fun σ H' => ∃ o7 o8 : Option V,σ = [some (.ref rl),some (.ref ul),some (.ref td),some (.ref ld),some (.str z),some (.int n),some (.int (ck T R z n R.length)),o7,o8] ∧ HA = H') (fun Nx hN => ?_) ?_
   ·refine ⟨_,rfl,rl,_,rfl,.inl (az.of er),_,rfl,by omega,by omega,bW (fun k σ H' => ∃ o7 o8 : Option V,σ = [some (.ref rl),some (.ref ul),some (.ref td),some (.ref ld),some (.str z),some (.int n),some (.int (ck T R z n k)),o7,o8] ∧ HA = H') ⟨o7,o8,rfl,rfl⟩ ?_ ?_⟩
    ·rintro k σ HB hk ⟨o7,o8,rfl,rfl⟩
     rw [Int.toNat_natCast,lnR] at hk
     have hr' := List.getElem?_eq_getElem hk
     obtain ⟨b,hb,eb0⟩ := run_get rR hr'
     generalize R[k] = r at hr' eb0
     have eb := gA _ _ eb0
     have br : fb (bs.map V.ref) (0 + (k : Int)) = some (.ref b) := bU (a5 hb)
     obtain ⟨vk,hvk,u,rfl,_,hu⟩ := ru.get (ss (T := T) hk)
     have us : ck T R z n (k + 1) = ck T R z n k + (if dS r n = true then dO (bM T R k) z else 0) := by
      show ck T R z n k + (if dS (R.getD k (0,0,0)) n = true then dO (bM T R k) z else 0) = _
      rw [bf hr']
     have gz : dS r n = (decide (r.1 ≤ n) && decide (n < r.2.1)) := rfl
     refine ⟨_,rfl,_,rfl,ul,_,_,_,rfl,rfl,az.of eu,(bU hvk),_,rfl,u,z,_,An,rfl,hu,fun v ro => ?_⟩
     replace ro : dU An HA v (fu (bM T R k) z) := ro
     refine ⟨_,rfl,rfl,_,rfl,?_⟩
     rw [ro.isN]
     cases hf : fu (bM T R k) z with
     | none =>
      rw [lv hf] at us
      have : ck T R z n (k + 1) = ck T R z n k := by rw [us]; split <;> rw [Int.add_zero]
      exact cQ ⟨_,_,by rw [this]; rfl,rfl⟩
     | some e =>
      rw [hf] at ro
      obtain ⟨a,rfl,_,ea⟩ := (show dN An HA v e from ro)
      rw [lC hf] at us
      refine d0 ⟨_,rfl,_,rfl,rl,_,_,_,rfl,rfl,az.of er,br,b,_,_,_,rfl,rfl,bc.of eb,rfl,_,rfl,_,_,rfl,rfl,_,rfl,d2 (fun c1 => ⟨_,rfl,_,rfl,_,rfl,rl,_,_,_,rfl,rfl,az.of er,br,b,_,_,_,rfl,rfl,bc.of eb,rfl,_,_,rfl,rfl,_,rfl,d2 (fun c2 => ?_) (fun c2 => ?_)⟩) (fun c1 => ?_)⟩
      ·rw [gz,decide_eq_true c1,decide_eq_true c2] at us
       exact ⟨_,rfl,_,rfl,a,_,_,_,rfl,rfl,bc.of ea,rfl,_,_,rfl,rfl,_,_,by rw [us]; rfl,rfl⟩
      ·rw [gz,decide_eq_true c1,decide_eq_false c2] at us
       rw [show (if (true && false) = true then e.2.1 else 0) = 0 from rfl,Int.add_zero] at us
       exact ⟨_,_,by rw [us]; rfl,rfl⟩
      ·rw [gz,decide_eq_false c1,Bool.false_and,if_neg (by decide),Int.add_zero] at us
       exact ⟨_,_,by rw [us]; rfl,rfl⟩
    ·rintro σ HB ⟨o7,o8,rfl,rfl⟩
     rw [Int.toNat_natCast,lnR]
     exact hN _ _ ⟨_,_,rfl,rfl⟩
   rintro σ HB ⟨o7',o8',rfl,rfl⟩
   refine ⟨_,rfl,_,rfl,_,rfl,td,_,rfl,dg,_,_,rfl,rfl,_,rfl,d2 (fun c => ?_) (fun c => ?_)⟩
   ·refine ⟨_,rfl,.inl ⟨rfl,_,az.of ec⟩,_,rfl,_,rfl,(by show 3 ≤ sizeLine; decide),fun b nb => ⟨ld,_,_,rfl,rfl,ag nb _ _ _ ec,sz,?_⟩⟩
    obtain ⟨q1,q2⟩ := dP (o := .tup [.str "tool",.str z,.int n]) nld gA ec rc (pr.trans (decide_eq_true c)) nb (by rw [bf hn])
    exact ⟨_,_,_,_,rfl,q1,by rw [aA lp2]; exact ag nb _ _ _ eA,by rw [aA lyd]; exact ag nb _ _ _ eyA,q2⟩
   ·exact ⟨_,_,_,_,rfl,gA,eA,eyA,iK ⟨cs,ec,rc⟩ (pr.trans (decide_eq_false c))⟩
  ·rintro σ HA ⟨o5,o6,o7,o8,rfl,gA,eA,eyA,hdA⟩
   rw [List.length_map] at hdA
   refine ⟨_,_,_,_,_,rfl,gA,eyA,?_⟩
   rw [eY hz]
   exact hdA
 rintro σ H7 ⟨o4,o5,o6,o7,o8,rfl,g7,ey7,hd7⟩
 rw [List.length_map,List.take_length] at hd7
 exact ⟨_,rfl,q ys ld H7 yp ysrt g7 hd7.any⟩
theorem vG : aN ["_law_runs_here","_law_uses","_law_tools_here","_law_due_here","_law_name","_law_held","_law_i","_law_j"] ["_law_runs_here","_law_uses","_law_tools_here"] (ak pb) := ⟨rfl,rfl,rfl,by decide +kernel,rfl,by decide +kernel,by decide +kernel⟩
set_option maxHeartbeats 4000000 in
theorem vH {dV : Value} (F : bL K "_law_heats_due" "_law_heats_due" pb dV f fd) (B : Bn K mg c_Net f_Z8) (DZ27 : Dx P w K mg base bj 1 "_law_meet" ["_law_one","_law_other"] [] dy) (DZ28 : Dx P w K mg base bj 1 "_law_use" ["_law_uses","_law_name"] [] hG) : bG P w K mg base bj 2 f fd ["_law_runs_here","_law_uses","_law_tools_here"] fB := by
 have sc := vG
 refine F.ok sc (fun vs H Q E h => ?_) (fun cdv A outer s H vs Q E hr h => ?_)
 ·obtain ⟨rl,ul,td,D,T,R,rfl,_⟩ := h
  rfl
 obtain ⟨rl,ul,td,D,T,R,rfl,N,q⟩ := h
 refine ⟨_,(af (aE (i := 3) sc.nd rfl (Or.inl rfl) (bw ae)) (af (aX PassesOwn.never rfl (aZ (av (dk rfl) rfl B.b_sorted PyProof.Rows.Boot.«sorted» (aa (pv 2) ae))) (ay (i := 4) sc.nd rfl (Or.inr rfl)) (af (qr (own := "_law_row") (ys := ["_law_name"]) (js := [4]) sc.nd (i := 5) rfl rfl rfl (lG (mR lF) (.cons rfl .nil) (by decide) rfl rfl rfl rfl rfl rfl rfl rfl) (aZ (pv 1)) (fun C fp s H => (aH DZ28 hr (by decide) rfl (aa (pv 0) (aa (pv 1) ae))))) (ai (aX PassesOwn.never rfl (bN rfl B.b_range (aa (av ao rfl B.b_len boot_len (aa (pv 0) ae)) ae)) (ay (i := 6) sc.nd rfl (Or.inl rfl)) (ai (aX PassesOwn.never rfl (nr rfl B.b_range (aa (aw bR (pv 6) ac) (aa (av ao rfl B.b_len boot_len (aa (pv 0) ae)) ae))) (ay (i := 7) sc.nd rfl (Or.inl rfl)) (ai (aU (PW.pt (dZ (aI fG (am au (pv 5) (pv 6) (fun _ _ => rfl)) dX (aG _)) (dZ (aI fG (am au (pv 5) (pv 7) (fun _ _ => rfl)) dX (aG _)) (eP (bX (aH DZ27 hr (by decide) rfl (aa (am au (pv 0) (pv 6) (fun _ _ => rfl)) (aa (am au (pv 0) (pv 7) (fun _ _ => rfl)) ae)))))))) (ai (aU (aI gK (am ar (am au (pv 5) (pv 6) (fun _ _ => rfl)) ac (fun _ _ => rfl)) (am ar (am au (pv 5) (pv 7) (fun _ _ => rfl)) ac (fun _ _ => rfl)) (aG _)) (ai (be (cn PySem.F.plainAttrs_list PySem.F.slot_list_append PySem.F.type_list_append aW (pv 3) (aa (bK (aa cz (aa (pv 4) (aa (pv 6) (aa (pv 7) ae))))) ae)))) aC)) aC)))))))) (ai (aO (pv 3))))),?_⟩
 have sl : sizeLine = 16777216 := sizeLine_eq
 have r24 := N.r24
 have tok := N.tok
 obtain ⟨bs,er0,rR⟩ := id N.runs
 have lnR : (bs.map V.ref).length = R.length := by rw [List.length_map,rR.1,List.length_map]
 obtain ⟨vu,eu0,ru⟩ := id N.uses
 have lvu : vu.length = R.length := by rw [ru.1]; unfold UF; rw [List.length_map,List.length_range]
 refine ⟨(by show 0 ≤ sizeLine; decide),fun ld nld => ?_⟩
 have gd := ag nld (.lst [])
 have hd0 : ToldN H (aD H ld (.lst [])) ld [] := bY.new
 generalize aD H ld (.lst []) = H5 at gd hd0 ⊢
 refine ⟨_,rfl,td,_,_,rfl,gd _ _ N.tools,fv D,tok.2.1,(by rw [List.length_map]; have := tok.1; omega),fun ly ys nly yp ysrt => ?_⟩
 have gy := ag nly (.lst (ys.map V.str))
 have ey : aD H5 ly (.lst (ys.map V.str)) ly = some (.lst (ys.map V.str)) := aj
 have k6 := gd.trans gy
 have hd6 := hd0.same gy
 have lyd : ly ≠ ld := fun z => by
  obtain ⟨_,e,_⟩ := hd0
  rw [z,e] at nly
  cases nly
 generalize aD H5 ly (.lst (ys.map V.str)) = H6 at ey k6 hd6 ⊢
 clear gd gy hd0 nly
 have yl : ys.length ≤ 3 := by rw [yp.length_eq,List.length_map]; exact tok.1
 refine ⟨ly,rfl,⟨_,az.of ey⟩,bq (xs := ys.map V.str) (fun i σ H' => ∃ o4 o5 o6 o7 : Option V,σ = [some (.ref rl),some (.ref ul),some (.ref td),some (.ref ld),o4,o5,o6,o7] ∧ aB H H' ∧ H' ly = some (.lst (ys.map V.str)) ∧ ToldN H H' ld ((ys.take i).flatMap (de T R))) ⟨none,none,none,none,rfl,k6,ey,hd6⟩ (fun i σ H' _ ⟨_,_,_,_,_,_,e,_⟩ => az.of e) ?_ ?_⟩
 ·rintro i y σ H7 hy ⟨o4,o5,o6,o7,rfl,g7,ey7,hd7⟩
  rw [List.getElem?_map] at hy
  obtain ⟨z,hz,rfl⟩ := Option.map_eq_some_iff.mp hy
  have eld : ∃ v,H7 ld = some (.lst v) := let ⟨v,e,_⟩ := hd7; ⟨v,e⟩
  refine ⟨_,rfl,ul,rfl,⟨_,az.of (g7 _ _ eu0)⟩,dr dU (fun a => H a ≠ none) (fun i => fu (bM T R i) z) (az.of (g7 _ _ eu0)) (by omega) (fun a h e => h (g7.free e)) (fun k y hy H8 g8 Q' hQ => ?_) fun p1 H8 np1 g8 hp1 => ?_⟩
  ·have kl : k < R.length := by have := (List.getElem?_eq_some_iff.mp hy).1; omega
   obtain ⟨vk,hvk,u,rfl,_,vs,eu,rvu⟩ := ru.get (ss (T := T) kl)
   rw [hvk] at hy
   cases hy
   exact ⟨_,rfl,_,rfl,u,z,_,fun a => H a ≠ none,rfl,⟨vs,(g7.trans g8) _ _ eu,rvu.imp fun _ _ q => Mv.mv (fun a o _ _ e => ⟨(by rw [e]; exact nofun),(g7.trans g8) _ _ e⟩) q⟩,fun v ro => hQ _ _ (.refl _) (oo ro fun a h => .inr h)⟩
  obtain ⟨us,eus,rus⟩ := hp1
  rw [lvu] at rus
  have lus : us.length = R.length := by rw [rus.1,List.length_map,List.length_range]
  have uat : ∀ i : Nat,i < R.length → ∃ v,us[i]? = some v ∧ dU (fun a => a ≠ ld) H8 v (fu (bM T R i) z) := fun i il => by
   obtain ⟨v,hv,ro⟩ := rus.get (show ((List.range R.length).map fun i => fu (bM T R i) z)[i]? = some (fu (bM T R i) z) by rw [List.getElem?_map,List.getElem?_range il]; rfl)
   refine ⟨v,hv,oo ro fun a h e2 => ?_⟩
   rcases h.2 with k | k
   ·obtain ⟨w,ew⟩ := eld
    rw [e2,ew] at k
    cases k
   ·exact k (e2 ▸ nld)
  have g9 := g7.trans g8
  have ey8 := g8 _ _ ey7
  have hd8 := hd7.same g8
  have lp1 : p1 ≠ ld := fun z => by
   obtain ⟨_,e⟩ := eld
   rw [z,e] at np1
   cases np1
  have al : ∀ {H' : Hp},Fl ld H8 H' → ∀ i : Nat,i < R.length → ∃ v,us[i]? = some v ∧ dU An H' v (fu (bM T R i) z) := fun fl i il => by
   obtain ⟨v,hv,ro⟩ := uat i il
   exact ⟨v,hv,Mv.mv (fun a o pa _ e => ⟨trivial,fl a o pa e⟩) ro⟩
  clear g8 np1 rus ey7 hd7
  have lf := cH (f := de T R) (m := 576) (fun a => eW a r24) (ys.take i)
  have lt' : (ys.take i).length ≤ 3 := by rw [List.length_take]; omega
  have lU : (List.range R.length).length = R.length := List.length_range
  refine ⟨_,rfl,rl,_,rfl,.inl (az.of (g9 _ _ er0)),_,rfl,by omega,by omega,bW (fun k σ H' => ∃ o6 o7 : Option V,σ = [some (.ref rl),some (.ref ul),some (.ref td),some (.ref ld),some (.str z),some (.ref p1),o6,o7] ∧ aB H H' ∧ Fl ld H8 H' ∧ ToldN H H' ld ((ys.take i).flatMap (de T R) ++ du T R z (List.range R.length) k)) ⟨o6,o7,rfl,g9,Fl.refl _ _,by rw [show du T R z (List.range R.length) 0 = [] from rfl,List.append_nil]; exact hd8⟩ ?_ ?_⟩
  ·rintro k σ HA hk ⟨o6,o7,rfl,gA,flA,hdA⟩
   rw [Int.toNat_natCast,lnR] at hk
   have hgd : (List.range R.length).getD k 0 = k := bf (List.getElem?_range hk)
   refine ⟨_,rfl,_,_,rfl,rfl,_,rfl,rl,_,rfl,.inl (az.of (gA _ _ er0)),_,_,rfl,⟨by omega,by omega,by omega,by omega⟩,bW (fun m σ H' => ∃ o7 : Option V,σ = [some (.ref rl),some (.ref ul),some (.ref td),some (.ref ld),some (.str z),some (.ref p1),some (.int (0 + (k : Int))),o7] ∧ aB H H' ∧ Fl ld H8 H' ∧ ToldN H H' ld ((ys.take i).flatMap (de T R) ++ du T R z (List.range R.length) k ++ bV T R z (List.range R.length) k m)) ⟨o7,rfl,gA,flA,by rw [fh,List.append_nil]; exact hdA⟩ ?_ ?_⟩
   ·rintro m σ HB hm ⟨o7,rfl,gB,flB,cs,ec,rc⟩
    rw [lnR] at hm
    have jl : k + 1 + m < R.length := by omega
    have cj : 0 + (k : Int) + 1 + (m : Int) = ((k + 1 + m : Nat) : Int) := by omega
    have hj : ((List.range R.length).drop (k + 1))[m]? = some (k + 1 + m) := by rw [List.getElem?_drop,List.getElem?_range jl]
    rw [cj]
    obtain ⟨vi,hvi,ri⟩ := al flB k hk
    obtain ⟨vj,hvj,rj⟩ := al flB (k + 1 + m) jl
    have eu7 := flB _ _ lp1 eus
    have er := gB _ _ er0
    have suc := fi (T := T) (R := R) (z := z) hj
    rw [hgd] at suc
    have sz : cs.length < sizeLine := by
     rw [rc.1,List.length_append,List.length_append]
     have h1 := gx T R z (List.range R.length) k
     have h2 := fV T R z (List.range R.length) k m
     rw [lU] at h1 h2
     have h3' : R.length * k ≤ 24 * 24 := Nat.mul_le_mul (by omega) (by omega)
     omega
    have no : cF T R z k (k + 1 + m) = false → ToldN H HB ld ((ys.take i).flatMap (de T R) ++ du T R z (List.range R.length) k ++ bV T R z (List.range R.length) k (m + 1)) := fun hb => by
     rw [suc,hb,if_neg (by decide),List.append_nil]
     exact ⟨cs,ec,rc⟩
    refine ⟨_,rfl,_,rfl,p1,_,_,_,rfl,rfl,az.of eu7,(bU hvi),rfl,_,rfl,?_⟩
    rw [ri.isN]
    cases hu : fu (bM T R k) z with
    | none => exact cQ ⟨_,rfl,gB,flB,no (by unfold cF; rw [hu])⟩
    | some u =>
     refine d0 ⟨_,rfl,_,rfl,p1,_,_,_,rfl,rfl,az.of eu7,(aL hvj),rfl,_,rfl,?_⟩
     rw [rj.isN]
     cases hv : fu (bM T R (k + 1 + m)) z with
     | none => exact cQ ⟨_,rfl,gB,flB,no (by unfold cF; rw [hu,hv])⟩
     | some v =>
      rw [hu] at ri
      rw [hv] at rj
      obtain ⟨a,rfl,_,ea⟩ := (show dN An HB vi u from ri)
      obtain ⟨b,rfl,_,eb⟩ := (show dN An HB vj v from rj)
      have hRi := List.getElem?_eq_getElem hk
      have hRj := List.getElem?_eq_getElem jl
      obtain ⟨c,hc,ec'⟩ := run_get rR hRi
      obtain ⟨d,hd,ed'⟩ := run_get rR hRj
      generalize R[k] = ri' at hRi ec'
      generalize R[k + 1 + m] = rj' at hRj ed'
      have hb := nc hu hv hRi hRj
      refine d0 ⟨_,rfl,_,rfl,rl,_,_,_,rfl,rfl,az.of er,(bU (a5 hc)),_,rfl,_,rfl,rl,_,_,_,rfl,rfl,az.of er,(aL (a5 hd)),c,d,ri',rj',rfl,gB _ _ ec',gB _ _ ed',_,rfl,?_⟩
      cases hm' : cy ri' rj' with
      | false => exact cQ ⟨_,rfl,gB,flB,no (by rw [hb,hm',Bool.and_false])⟩
      | true =>
       rw [hm',Bool.and_true] at hb
       refine d0 ⟨_,rfl,_,rfl,p1,_,_,_,rfl,rfl,az.of eu7,(bU hvi),a,_,_,_,rfl,rfl,bc.of ea,rfl,_,rfl,_,rfl,p1,_,_,_,rfl,rfl,az.of eu7,(aL hvj),b,_,_,_,rfl,rfl,bc.of eb,rfl,rfl,_,rfl,xt (fun ne => ?_) (fun eq => ⟨_,rfl,gB,flB,no (by rw [hb,decide_eq_true eq]; rfl)⟩)⟩
       refine ⟨_,rfl,.inl ⟨rfl,_,az.of ec⟩,_,rfl,_,rfl,_,rfl,(by show 4 ≤ sizeLine; decide),fun a na => ⟨ld,_,_,rfl,rfl,ag na _ _ _ ec,sz,?_⟩⟩
       have tp := lD (b := [.str "heat",.str z,.int (0 + (k : Int)),.int ((k + 1 + m : Nat) : Int)]) nld gB ec rc na
       refine ⟨_,rfl,tp.1,(flB.trans (Fl.of (ag na _))).trans (Fl.put ld _ _),?_⟩
       rw [suc,hb,decide_eq_false ne,if_pos (show (!false) = true from rfl),← List.append_assoc]
       have := tp.2
       rw [Int.zero_add] at this
       rw [Int.zero_add]
       exact this
   ·rintro σ HB ⟨o7,rfl,gB,flB,hdB⟩
    rw [lnR,show (((R.length : Nat) : Int) - (0 + (k : Int) + 1)).toNat = ((List.range R.length).drop (k + 1)).length by rw [List.length_drop,lU]; omega,fU,List.append_assoc,← iM] at hdB
    exact ⟨_,_,rfl,gB,flB,hdB⟩
  ·rintro σ HA ⟨o6,o7,rfl,gA,flA,hdA⟩
   rw [Int.toNat_natCast,lnR,qG] at hdA
   refine ⟨_,_,_,_,rfl,gA,flA _ _ lyd ey8,?_⟩
   rw [eY hz]
   exact hdA
 rintro σ H7 ⟨o4,o5,o6,o7,rfl,g7,ey7,hd7⟩
 rw [List.length_map,List.take_length] at hd7
 exact ⟨_,rfl,q ys ld H7 yp ysrt g7 hd7.any⟩
theorem vI : aN ["_law_found","_law_due_here","_law_thing"] ["_law_found","_law_due_here"] (ak pd) := ⟨rfl,rfl,rfl,by decide +kernel,rfl,by decide +kernel,by decide +kernel⟩
set_option maxHeartbeats 4000000 in
theorem vJ {dV : Value} (F : bL K "_law_told" "_law_told" pd dV f fd) (B : Bn K mg c_Net f_Z8)  : bG P w K mg base bj 1 f fd ["_law_found","_law_due_here"] jX := by
 have sc := vI
 refine F.ok sc (fun vs H Q E h => ?_) (fun cdv A outer s H vs Q E hr h => ?_)
 ·obtain ⟨l,m,xs,rfl,_⟩ := h
  rfl
 obtain ⟨l,m,xs,rfl,⟨vs,ev,rv⟩,⟨us,eu,ru⟩,nb,q⟩ := h
 refine ⟨_,(af (aU (PW.pt (fc (bQ (bX (av (dC (K := K) rfl) rfl B.b_isinstance boot_isinstance (aa (pv 0) (aa (eO (v := .ty "list") rfl B.b_list boot_list rfl) ae))))) (dY (aI gK (av ao rfl B.b_len boot_len (aa (pv 0) ae)) (av ao rfl B.b_len boot_len (aa (pv 1) ae)) (aG _))))) (ai (aO c6)) aC) (af (aX PassesOwn.never rfl (aZ (pv 0)) (ay (i := 2) sc.nd rfl (Or.inl rfl)) (af (aU (bQ (bX (av (dC (K := K) rfl) rfl B.b_isinstance boot_isinstance (aa (pv 2) (aa (eO (v := .ty "tuple") rfl B.b_tuple boot_tuple rfl) ae))))) (ai (aO c6)) aC) (ai (aU (aI (kF hr.units0) (eR (own := "_law_part") (ys := []) (js := []) rfl (lG lF .nil (by decide) rfl rfl rfl rfl rfl rfl rfl rfl) (sI (pv 2)) (fun C fp s H => (bX (av (dC (K := K) rfl) rfl B.b_isinstance boot_isinstance (aa (pv 0) (aa (eO (v := .ty "bool") rfl B.b_bool boot_bool rfl) ae))))) (fun C fp s H => (pv 0))) (bw ae) (aG _)) (ai (aO c6)) aC)))) (ai (aO (ce (jF 1 (Nat.lt_trans (Nat.add_lt_add_left (by decide : 1 + 1 < 64) _) hr.units)) (pv 0) (pv 1) (aG _)))))),?_⟩
 have sl : sizeLine = 16777216 := sizeLine_eq
 refine ⟨_,rfl,_,_,_,true,rfl,.lst ev,rfl,_,rfl,cQ ⟨_,rfl,l,_,rfl,.inl (az.of ev),_,rfl,m,_,rfl,.inl (az.of eu),rfl,_,rfl,v7 (by rw [rv.1,ru.1]) ?_⟩⟩
 refine ⟨_,rfl,l,rfl,⟨_,az.of ev⟩,bq (xs := vs) (fun i σ H' => aB H H' ∧ ∃ o2 : Option V,σ = [some (.ref l),some (.ref m),o2]) ⟨.refl _,none,rfl⟩ (fun i σ H' _ h => az.of (h.1 _ _ ev)) ?_ ?_⟩
 ·rintro i y σ H1 hy ⟨g1,o2,rfl⟩
  obtain ⟨x,hx,t,rfl,_,et0⟩ := rv.at_ hy
  obtain ⟨xl,xb⟩ := nb x (List.mem_of_getElem? hx)
  have et := g1 _ _ et0
  refine ⟨_,rfl,_,_,_,true,rfl,.tup et,rfl,_,rfl,cQ ⟨_,rfl,t,rfl,⟨_,bc.of et⟩,kG (bc.of et) (by show x.length ≤ _; omega) (fun z hz H3 g R' r => ?_) fun p H' g ep => ?_⟩⟩
  ·rcases xb z hz with ⟨s2,rfl⟩ | ⟨n,rfl⟩
   ·exact ⟨_,rfl,_,_,_,false,rfl,.str _,rfl,_,rfl,r⟩
   ·exact ⟨_,rfl,_,_,_,false,rfl,.int _,rfl,_,rfl,r⟩
  ·refine ⟨(by show 0 ≤ sizeLine; decide),fun e ne' => ?_⟩
   have g2 := ag ne' (.lst [])
   exact ⟨p,e,[],rfl,rfl,az.of (g2 _ _ ep),az.of aj,_,rfl,cQ ⟨g1.trans (g.trans g2),_,rfl⟩⟩
 ·rintro σ H1 ⟨g1,o2,rfl⟩
  exact ⟨_,rfl,_,rfl,l,m,_,_,rfl,rfl,az.of (g1 _ _ ev),az.of (g1 _ _ eu),jN (fun v w x hx a b => mZ (fun y hy => ((nb x hx).2 y hy).smp) a b) (rv.imp fun _ _ q => gk q g1) (ru.imp fun _ _ q => gk q g1),q _ g1⟩
theorem vK : aN ["_law_runs_here","_law_one","_law_other","_law_found"] ["_law_runs_here"] (ak pe) := ⟨rfl,rfl,rfl,by decide +kernel,rfl,by decide +kernel,by decide +kernel⟩
set_option maxHeartbeats 4000000 in
theorem vL {dV : Value} (F : bL K "_law_meets_told" "_law_meets_told" pe dV f fd) (B : Bn K mg c_Net f_Z8) (DZ12 : Dx P w K mg base bj 1 "runs_meet" ["one","other"] [] dy) (DZ27 : Dx P w K mg base bj 1 "_law_meet" ["_law_one","_law_other"] [] dy) : bG P w K mg base bj 2 f fd ["_law_runs_here"] eM := by
 have sc := vK
 refine F.ok sc (fun vs H Q E h => ?_) (fun cdv A outer s H vs Q E hr h => ?_)
 ·obtain ⟨rl,R2,rfl,_⟩ := h
  rfl
 obtain ⟨rl,R2,rfl,⟨bs,er,rR⟩,q⟩ := h
 refine ⟨_,(af (aX PassesOwn.never rfl (aZ (pv 0)) (ay (i := 1) sc.nd rfl (Or.inl rfl)) (ai (aX PassesOwn.never rfl (aZ (pv 0)) (ay (i := 2) sc.nd rfl (Or.inl rfl)) (af (aE (i := 3) sc.nd rfl (Or.inl rfl) (aH DZ12 hr (by decide) rfl (aa (pv 1) (aa (pv 2) ae)))) (ai (aU (PW.pt (fc (bQ (bX (av qd rfl B.b_isinstance boot_isinstance (aa (pv 3) (aa (eO (v := .ty "bool") rfl B.b_bool boot_bool rfl) ae))))) (dY (aI gK (pv 3) (aH DZ27 hr (by decide) rfl (aa (pv 1) (aa (pv 2) ae))) (aG _))))) (ai (aO c6)) aC)))))) (ai (aO c6))),?_⟩
 refine ⟨_,rfl,rl,rfl,⟨_,az.of er⟩,bq (xs := bs.map V.ref) (fun k σ H' => H = H' ∧ ∃ o1 o2 o3 : Option V,σ = [some (.ref rl),o1,o2,o3]) ⟨rfl,none,none,none,rfl⟩ (fun k σ H' _ h => by rw [← h.1]; exact az.of er) ?_ ?_⟩
 ·rintro i y σ H1 hy ⟨rfl,o1,o2,o3,rfl⟩
  obtain ⟨b,hb,rfl⟩ := cf hy
  obtain ⟨r,hr',eb⟩ := eB rR hb
  refine ⟨_,rfl,rl,rfl,⟨_,az.of er⟩,bq (xs := bs.map V.ref) (fun k σ H' => H = H' ∧ ∃ o2 o3 : Option V,σ = [some (.ref rl),some (.ref b),o2,o3]) ⟨rfl,o2,o3,rfl⟩ (fun k σ H' _ h => by rw [← h.1]; exact az.of er) ?_ ?_⟩
  ·rintro j y σ H1 hy ⟨rfl,o2,o3,rfl⟩
   obtain ⟨b2,hb2,rfl⟩ := cf hy
   obtain ⟨r2,hr2,eb2⟩ := eB rR hb2
   exact ⟨_,rfl,_,rfl,b,b2,r,r2,rfl,eb,eb2,_,rfl,_,_,true,rfl,.bb _,_,rfl,cQ ⟨_,rfl,_,rfl,_,rfl,b,b2,r,r2,rfl,eb,eb2,rfl,_,rfl,nF rfl ⟨rfl,_,_,rfl⟩⟩⟩
  ·rintro σ H1 ⟨rfl,o2,o3,rfl⟩
   exact ⟨rfl,_,_,_,rfl⟩
 ·rintro σ H1 ⟨rfl,o1,o2,o3,rfl⟩
  exact q _ (.refl _)
theorem vM : aN ["_law_cells","_law_spots","_law_arcs_here","_law_cell","_law_xs","_law_p","_law_q","_law_lag"] ["_law_cells","_law_spots"] (ak ph) := ⟨rfl,rfl,rfl,by decide +kernel,rfl,by decide +kernel,by decide +kernel⟩
set_option maxHeartbeats 4000000 in
theorem vN {dV : Value} (F : bL K "_law_arcs" "_law_arcs" ph dV f fd) (B : Bn K mg c_Net f_Z8) (DZ24 : Dx P w K mg base bj 1 "_law_drawn" ["_law_cell","_law_many"] [] eC) : bG P w K mg base bj 2 f fd ["_law_cells","_law_spots"] iQ := by
 have sc := vM
 refine F.ok sc (fun vs H Q E h => ?_) (fun cdv A outer s H vs Q E hr h => ?_)
 ·obtain ⟨lc,ls,cs,S,rfl,_⟩ := h
  rfl
 obtain ⟨lc,ls,cs,S,rfl,ec,c60,es,q⟩ := h
 refine ⟨_,(af (aE (i := 2) sc.nd rfl (Or.inl rfl) (bw ae)) (af (aX PassesOwn.never rfl (aZ (pv 0)) (ay (i := 3) sc.nd rfl (Or.inl rfl)) (af (aE (i := 4) sc.nd rfl (Or.inl rfl) (aH DZ24 hr (by decide) rfl (aa (pv 3) (aa ac ae)))) (ai (aU (aI (kF hr.units0) (pv 1) (bw ae) (aG _)) (af (aE (i := 5) sc.nd rfl (Or.inl rfl) (aw aR (am au (pv 4) ac (fun _ _ => rfl)) (av ao rfl B.b_len boot_len (aa (pv 1) ae)))) (af (aE (i := 6) sc.nd rfl (Or.inl rfl) (aw aR (am au (pv 4) ac (fun _ _ => rfl)) (av ao rfl B.b_len boot_len (aa (pv 1) ae)))) (af (aE (i := 7) sc.nd rfl (Or.inl rfl) (aw bR (aw c8 (am au (pv 1) (pv 6) (fun _ _ => rfl)) (am au (pv 1) (pv 5) (fun _ _ => rfl))) (am au (bw (aa ac (aa ac (aa ac (aa (pN lP ac) (aa (aw c8 (aw aR (am au (pv 4) ac (fun _ _ => rfl)) ac) ac) ae)))))) (aw aR (am au (pv 4) ac (fun _ _ => rfl)) ac) (fun _ _ => rfl)))) (ai (be (cn PySem.F.plainAttrs_list PySem.F.slot_list_append PySem.F.type_list_append aW (pv 2) (aa (bK (aa (pv 5) (aa (pv 6) (aa (av (nA rfl) rfl B.b_max boot_max (aa (pN lP (aw fN ac ac)) (aa (av (nB rfl) rfl B.b_min boot_min (aa (aw fN ac ac) (aa (pv 7) ae))) ae))) ae)))) ae))))))) aC)))) (ai (aO (pv 2))))),?_⟩
 have sl : sizeLine = 16777216 := sizeLine_eq
 have e9 : (10 : Int) ^ (9 : Int).toNat = 1000000000 := by decide
 have lm : (S.map V.int).length = S.length := List.length_map _
 refine ⟨(by show 0 ≤ sizeLine; decide),fun l nl => ?_⟩
 have g0 := ag nl (.lst [])
 have e0 : aD H l (.lst []) l = some (.lst []) := aj
 generalize aD H l (.lst []) = H0 at g0 e0 ⊢
 refine ⟨_,rfl,lc,rfl,⟨_,az.of (g0 _ _ ec)⟩,bq (xs := cs.map V.int) (fun i σ H' => ∃ (o3 o4 o5 o6 o7 : Option V) (A : List Ky),σ = [some (.ref lc),some (.ref ls),some (.ref l),o3,o4,o5,o6,o7] ∧ aB H H' ∧ bu H' l A ∧ A.length ≤ i ∧ ∀ k ∈ A,mV (S.length : Int) k) ⟨none,none,none,none,none,[],rfl,g0,⟨[],e0,df.nil⟩,Nat.le_refl _,fun k hk => by cases hk⟩ (fun i σ H' _ ⟨_,_,_,_,_,_,_,g,_⟩ => az.of (g _ _ ec)) ?_ ?_⟩
 ·rintro i y σ H4 hy ⟨o3,o4,o5,o6,o7,A,rfl,g4,hA,lA,okA⟩
  have il := (List.getElem?_eq_some_iff.mp hy).1
  rw [List.length_map] at il
  rw [List.getElem?_map] at hy
  obtain ⟨c,hc,rfl⟩ := Option.map_eq_some_iff.mp hy
  refine ⟨_,rfl,c,4,rfl,by decide,by decide,fun lx ns H5 nx g5 lnx dn ex => ?_⟩
  have l4 : ns.length = 4 := lnx
  obtain ⟨z0,h0,_⟩ := eG dn (i := 0) (by omega)
  obtain ⟨z1,h1,_⟩ := eG dn (i := 1) (by omega)
  obtain ⟨z2,h2,_⟩ := eG dn (i := 2) (by omega)
  obtain ⟨z3,h3,_⟩ := eG dn (i := 3) (by omega)
  have k5 := g4.trans g5
  have es5 := k5 _ _ es
  have hA5 := hA.same g5
  clear hA g5 nx
  refine ⟨_,rfl,(by show 0 ≤ sizeLine; decide),fun l2 nl2 => ⟨ls,l2,_,rfl,rfl,az.of (ag nl2 _ _ _ es5),az.of aj,_,rfl,?_⟩⟩
  have g2 := ag nl2 (.lst [])
  have k6 := k5.trans g2
  have es6 := g2 _ _ es5
  have hA6 := hA5.same g2
  have ex6 := g2 _ _ ex
  generalize aD H5 l2 (.lst []) = H6 at k6 es6 hA6 ex6 ⊢
  clear k5 es5 hA5 ex g2 nl2
  cases hs : (S.map V.int).isEmpty with
  | true => exact cQ ⟨_,_,_,_,_,A,rfl,k6,hA6,by omega,okA⟩
  | false =>
   refine d0 ?_
   have pos : 0 < ((S.map V.int).length : Int) := by
    cases h : S.map V.int with
    | nil => rw [h] at hs; cases hs
    | cons a b => simp
   have tp := fm (a := z0) pos
   have tq := fm (a := z1) pos
   obtain ⟨vp,hp⟩ := jG (ns := S) tp.1 (by rw [← lm]; exact tp.2)
   obtain ⟨vq,hq⟩ := jG (ns := S) tq.1 (by rw [← lm]; exact tq.2)
   refine ⟨_,rfl,lx,_,_,_,rfl,rfl,az.of ex6,(aL (j := 0) (a5 h0)),_,rfl,ls,_,rfl,.inl (az.of es6),_,_,rfl,rfl,(by omega),?_⟩
   refine ⟨_,rfl,lx,_,_,_,rfl,rfl,az.of ex6,(aL (j := 1) (a5 h1)),_,rfl,ls,_,rfl,.inl (az.of es6),_,_,rfl,rfl,(by omega),?_⟩
   have t5 := fm (a := z2) (n := 5) (by decide)
   obtain ⟨v5,hv5⟩ := jG (ns := [0,0,1,-1,z3.fmod 9 - 4]) t5.1 t5.2
   refine ⟨_,rfl,_,rfl,ls,_,_,_,rfl,rfl,az.of es6,hq,_,rfl,_,rfl,ls,_,_,_,rfl,rfl,az.of es6,hp,_,_,rfl,rfl,_,rfl,_,rfl,lx,_,_,_,rfl,rfl,az.of ex6,(aL (j := 3) (a5 h3)),_,_,rfl,rfl,(by show (9 : Int) ≠ 0; decide),_,_,rfl,rfl,(by show 5 ≤ sizeLine; decide),fun l5 nl5 => ⟨_,rfl,lx,_,_,_,rfl,rfl,az.of (ag nl5 _ _ _ ex6),(aL (j := 2) (a5 h2)),_,_,rfl,rfl,(by show (5 : Int) ≠ 0; decide),l5,_,_,_,rfl,rfl,az.of aj,hv5,_,_,rfl,rfl,?_⟩⟩
   have g7 := ag nl5 (.lst [.int 0,.int 0,.int 1,.int (-1),.int (z3.fmod 9 - 4)])
   have k7 := k6.trans g7
   obtain ⟨as8,ea8,ra8⟩ := hA6.same g7
   generalize aD H6 l5 (.lst [.int 0,.int 0,.int 1,.int (-1),.int (z3.fmod 9 - 4)]) = H8 at k7 ea8 ra8 ⊢
   generalize vq - vp + v5 = lag
   refine ⟨_,rfl,.inl ⟨rfl,_,az.of ea8⟩,_,rfl,_,rfl,_,_,rfl,rfl,⟨by decide,by decide⟩,_,rfl,_,_,rfl,rfl,⟨by decide,by decide⟩,_,rfl,_,_,rfl,_,_,rfl,(by show 3 ≤ sizeLine; decide),fun a na => ?_⟩
   have ga := fun o : HO => ag na o
   refine ⟨l,_,_,rfl,rfl,ga _ _ _ ea8,by rw [List.length_map,ra8.1]; omega,_,_,_,_,_,A ++ [[z0.fmod ((S.map V.int).length : Int),z1.fmod ((S.map V.int).length : Int),_]],rfl,?_,iu (ga _ _ _ ea8) (ra8.imp fun a k q => ga _ _ _ q) aj,by rw [List.length_append]; simp; omega,?_⟩
   ·exact f9 (k7.trans (ga _)) nl _
   ·intro k hk
    rcases List.mem_append.mp hk with h | h
    ·exact okA k h
    ·rw [List.mem_singleton.mp h]
     refine ⟨_,_,_,rfl,tp.1,by omega,tq.1,by omega,?_,?_⟩
     ·split <;> split <;> omega
     ·split <;> split <;> omega
 ·rintro σ H4 ⟨o3,o4,o5,o6,o7,A,rfl,g4,hA,lA,okA⟩
  rw [List.length_map] at lA
  exact ⟨_,rfl,q l A H4 g4 hA lA okA⟩
theorem vO : aN ["_law_script","_law_tools_here","_law_alike","_law_ahead","_law_tasks","_law_runs_here","_law_i","_law_xs","_law_ways","_law_begin","_law_size","_law_times","_law_x"] ["_law_script","_law_tools_here"] (ak pi) := ⟨rfl,rfl,rfl,by decide +kernel,rfl,by decide +kernel,by decide +kernel⟩
set_option maxHeartbeats 4000000 in
theorem vP {dV : Value} (F : bL K "_law_runs" "_law_runs" pi dV f fd) (B : Bn K mg c_Net f_Z8) (DZ23 : Dx P w K mg base bj 1 "_law_cell_at" ["_law_script","_law_k"] [] (jz K)) (DZ24 : Dx P w K mg base bj 1 "_law_drawn" ["_law_cell","_law_many"] [] eC) (DZ26 : Dx P w K mg base bj 1 "_law_way" ["_law_xs","_law_tools_here","_law_alike"] [] jY) : bG P w K mg base bj 2 f fd ["_law_script","_law_tools_here"] (iR K) := by
 have sc := vO
 refine F.ok sc (fun vs H Q E h => ?_) (fun cdv A outer s H vs Q E hr h => ?_)
 ·obtain ⟨a,td,ns,D,rfl,_⟩ := h
  rfl
 obtain ⟨a,td,ns,D,rfl,hS,ed,tok,q⟩ := h
 refine ⟨_,(af (aE (i := 2) sc.nd rfl (Or.inl rfl) (ce gJ (aw aR (aH DZ23 hr (by decide) rfl (aa (pv 0) (aa ac ae))) ac) ac (aG _))) (af (aE (i := 3) sc.nd rfl (Or.inl rfl) ac) (af (aU (aI gJ (aw aR (aH DZ23 hr (by decide) rfl (aa (pv 0) (aa ac ae))) ac) ac (aG _)) (ai (aE (i := 3) sc.nd rfl (Or.inl rfl) (aw aR (aw bH (aH DZ23 hr (by decide) rfl (aa (pv 0) (aa ac ae))) ac) (aw fN ac ac)))) aC) (af (aE (i := 4) sc.nd rfl (Or.inl rfl) (bw ae)) (af (aE (i := 5) sc.nd rfl (Or.inl rfl) (bw ae)) (af (aX PassesOwn.never rfl (bN rfl B.b_range (aa (aw aR (aw bH (aH DZ23 hr (by decide) rfl (aa (pv 0) (aa ac ae))) ac) ac) ae)) (ay (i := 6) sc.nd rfl (Or.inl rfl)) (af (aE (i := 7) sc.nd rfl (Or.inl rfl) (aH DZ24 hr (by decide) rfl (aa (aw bR (aw di (aH DZ23 hr (by decide) rfl (aa (pv 0) (aa (aw bR ac (pv 6)) ae))) ac) (pv 6)) (aa ac ae)))) (af (aE (i := 8) sc.nd rfl (Or.inl rfl) (bw (aa (aH DZ26 hr (by decide) rfl (aa (cP eQ (pv 7) (cp ac) (cp ac)) (aa (pv 1) (aa (pv 2) ae)))) (aa (aH DZ26 hr (by decide) rfl (aa (cP eQ (pv 7) (cp ac) (cp ac)) (aa (pv 1) (aa (pv 2) ae)))) ae)))) (af (be (cn PySem.F.plainAttrs_list PySem.F.slot_list_append PySem.F.type_list_append aW (pv 4) (aa (cP eQ (pv 8) gY (cp (aw bR ac (aw aR (am au (pv 7) ac (fun _ _ => rfl)) ac)))) ae))) (af (aE (i := 9) sc.nd rfl (Or.inl rfl) (aw c8 (aw bR (pv 3) (aw aR (am au (pv 7) ac (fun _ _ => rfl)) ac)) (bO oC rfl B.b_int boot_int (aa (ce gJ (aw aR (aw bH (am au (pv 7) ac (fun _ _ => rfl)) ac) ac) ac (aG _)) ae)))) (af (aE (i := 10) sc.nd rfl (Or.inl rfl) (am au (bw (aa ac (aa ac (aa ac (aa ac (aa ac (aa ac (aa ac (aa (pN lP ac) (aa ac ae)))))))))) (aw aR (am au (pv 7) ac (fun _ _ => rfl)) ac) (fun _ _ => rfl))) (ai (be (cn PySem.F.plainAttrs_list PySem.F.slot_list_append PySem.F.type_list_append aW (pv 5) (aa (bK (aa (pv 9) (aa (aw bR (pv 9) (pv 10)) (aa (aw aR (aw bH (am au (pv 7) ac (fun _ _ => rfl)) ac) (av ao rfl B.b_len boot_len (aa (am au (pv 4) (pv 6) (fun _ _ => rfl)) ae))) ae)))) ae)))))))))) (af (aE (i := 11) sc.nd rfl (Or.inl rfl) (bw ae)) (af (aX PassesOwn.never rfl (aZ (aH DZ24 hr (by decide) rfl (aa (aH DZ23 hr (by decide) rfl (aa (pv 0) (aa ac ae))) (aa (aw aR (aH DZ23 hr (by decide) rfl (aa (pv 0) (aa ac ae))) ac) ae)))) (ay (i := 12) sc.nd rfl (Or.inl rfl)) (ai (be (cn PySem.F.plainAttrs_list PySem.F.slot_list_append PySem.F.type_list_append aW (pv 11) (aa (aw c8 (aw bR (pv 3) (aw aR (pv 12) ac)) ac) ae))))) (ai (aO (bK (aa (pv 4) (aa (pv 5) (aa (pv 11) ae)))))))))))))),?_⟩
 have sl : sizeLine = 16777216 := sizeLine_eq
 refine ⟨_,rfl,a,ns,1,rfl,hS,(by decide),fun c1 => ⟨_,_,rfl,rfl,(by show (3 : Int) ≠ 0; decide),rfl,?_⟩⟩
 generalize decide (V.int (c1.fmod 3) = V.int 1) = b
 try dsimp only [cB,c7]
 refine cut (fun σ H' => σ = [some (.ref a),some (.ref td),some (.bl b),some (.int 0),none,none,none,none,none,none,none,none,none] ∧ H = H') (fun N hN => hN _ _ ⟨rfl,rfl⟩) ?_
 rintro σ H' ⟨rfl,rfl⟩
 refine cut (fun σ H' => ∃ ah : Int,σ = [some (.ref a),some (.ref td),some (.bl b),some (.int ah),none,none,none,none,none,none,none,none,none] ∧ H = H') (fun N hN => ?_) ?_
 ·refine ⟨_,rfl,a,ns,2,rfl,hS,(by decide),fun c2 => ⟨_,_,rfl,rfl,(by show (3 : Int) ≠ 0; decide),rfl,_,rfl,d2 (fun _ => ?_) (fun _ => hN _ _ ⟨0,rfl,rfl⟩)⟩⟩
  exact ⟨_,rfl,a,ns,2,rfl,hS,(by decide),fun c2 => ⟨_,_,rfl,rfl,⟨by decide,PyProof.noPylong_small (by decide)⟩,_,_,rfl,rfl,⟨by decide,by decide⟩,_,_,rfl,rfl,(by show (10 : Int) ^ (59 : Int).toNat ≠ 0; decide),hN _ _ ⟨_,rfl,rfl⟩⟩⟩
 rintro σ H' ⟨ah,rfl,rfl⟩
 refine ⟨(by show 0 ≤ sizeLine; decide),fun lt nlt => ⟨(by show 0 ≤ sizeLine; decide),fun lr nlr => ?_⟩⟩
 have ltr : lt ≠ lr := fun z => by rw [← z,aj] at nlr; cases nlr
 have gl := (ag nlt (.lst [])).trans (ag nlr (.lst []))
 have nlr0 := (ag nlt (.lst [])).free nlr
 have bt : aD (aD H lt (.lst [])) lr (.lst []) lt = some (.lst []) := ag nlr _ _ _ aj
 have br : aD (aD H lt (.lst [])) lr (.lst []) lr = some (.lst []) := aj
 generalize aD (aD H lt (.lst [])) lr (.lst []) = H3 at gl bt br ⊢
 clear nlr
 try dsimp only [cB,c7]
 refine cut (fun σ H' => ∃ (o6 o7 o8 o9 o10 : Option V) (T : Tk) (R : List Rn),σ = [some (.ref a),some (.ref td),some (.bl b),some (.int ah),some (.ref lt),some (.ref lr),o6,o7,o8,o9,o10,none,none] ∧ aB H H' ∧ bY dR An H' lt T ∧ bu H' lr (R.map rk) ∧ su D T R) (fun N hN => ?_) ?_
 ·refine ⟨_,rfl,a,ns,1,rfl,(gl.seq hS),(by decide),fun c1 => ⟨_,_,rfl,rfl,⟨by decide,PyProof.noPylong_small (by decide)⟩,_,_,rfl,rfl,(by show (7 : Int) ≠ 0; decide),?_⟩⟩
  have t7 := fm (a := c1.fdiv 3) (n := 7) (by decide)
  refine ⟨_,rfl,by omega,by omega,bW (fun i σ H' => ∃ (o6 o7 o8 o9 o10 : Option V),σ = [some (.ref a),some (.ref td),some (.bl b),some (.int ah),some (.ref lt),some (.ref lr),o6,o7,o8,o9,o10,none,none] ∧ aB H H' ∧ ∃ (T : Tk) (R : List Rn),bY dR (fun a => a ≠ lt ∧ a ≠ lr) H' lt T ∧ bu H' lr (R.map rk) ∧ T.length = i ∧ cN T R ∧ (∀ ws ∈ T,1 ≤ ws.length ∧ ws.length ≤ 2 ∧ ∀ w ∈ ws,r8 D w) ∧ ∀ r ∈ R,r.2.1 - r.1 ≤ 5) ⟨none,none,none,none,none,rfl,gl,[],[],⟨[],bt,A2.nil⟩,⟨[],br,df.nil⟩,rfl,⟨rfl,fun i r ws e => by simp at e⟩,fun ws h => (by simp at h),fun r h => (by simp at h)⟩ ?_ ?_⟩
  ·rintro i σ H4 hi ⟨o6,o7,o8,o9,o10,rfl,g4,T,R,hT,hR,lT,pok,okT,okR⟩
   refine ⟨_,rfl,_,rfl,_,_,rfl,rfl,a,ns,_,rfl,g4.seq hS,by omega,fun cc => ⟨_,_,rfl,rfl,IntMulOk.of_right (by decide),_,rfl,_,_,rfl,rfl,_,11,rfl,by decide,by decide,fun lx xs H5 nx g5 lnx dn ex => ?_⟩⟩
   have l11 : xs.length = 11 := lnx
   obtain ⟨z8,h8,d8⟩ := eG dn (i := 8) (by omega)
   obtain ⟨z9,h9,d9⟩ := eG dn (i := 9) (by omega)
   obtain ⟨z10,h10,d10⟩ := eG dn (i := 10) (by omega)
   obtain ⟨cs0,ec0,rc0⟩ := id hT
   have k5 := g4.trans g5
   have cu1 : eZ (xs.map V.int) (some 0) (some 4) = ((xs.take 4)).map V.int := by unfold eZ; rw [List.map_take,List.length_map,l11]; rfl
   have cu2 : eZ (xs.map V.int) (some 4) (some 8) = ((xs.drop 4).take 4).map V.int := by unfold eZ; rw [List.map_take,List.map_drop,List.length_map,l11]; rfl
   refine ⟨_,rfl,_,rfl,_,rfl,lx,_,rfl,az.of ex,fun s1 ns1 => ?_⟩
   rw [cu1]
   have gs1 := ag ns1 (.lst ((xs.take 4).map V.int))
   refine ⟨_,rfl,_,rfl,s1,td,xs.take 4,D,b,rfl,aj,by rw [List.length_take]; omega,fun z hz => dn z (List.mem_of_mem_take hz),(k5.trans gs1) _ _ ed,tok,fun v1 w1 H6 g6 rw1 ok1 => ?_⟩
   have k6 := gs1.trans g6
   refine ⟨_,rfl,_,rfl,_,rfl,lx,_,rfl,az.of (k6 _ _ ex),fun s2 ns2 => ?_⟩
   rw [cu2]
   have gs2 := ag ns2 (.lst (((xs.drop 4).take 4).map V.int))
   refine ⟨_,rfl,_,rfl,s2,td,(xs.drop 4).take 4,D,b,rfl,aj,by rw [List.length_take,List.length_drop]; omega,fun z hz => dn z (List.mem_of_mem_drop (List.mem_of_mem_take hz)),((k5.trans k6).trans gs2) _ _ ed,tok,fun v2 w2 H7 g7 rw2 ok2 => ?_⟩
   have k7 := (k6.trans gs2).trans g7
   refine ⟨(by show 2 ≤ sizeLine; decide),fun l2 nl2 => ?_⟩
   have g8 := ag nl2 (.lst [v1,v2])
   have k8 := k7.trans g8
   have t2 := fm (a := z8) (n := 2) (by decide)
   have ex8 := k8 _ _ ex
   have H54 : ∀ {a : Addr},H5 a = none → a ≠ lt ∧ a ≠ lr := fun {a} h => by
    obtain ⟨as',er',_⟩ := id hR
    exact ⟨(fun z => by rw [z,g5 _ _ ec0] at h; cases h),(fun z => by rw [z,g5 _ _ er'] at h; cases h)⟩
   have r1 : gX (fun a => a ≠ lt ∧ a ≠ lr) (aD H7 l2 (.lst [v1,v2])) v1 w1 := oo (gk rw1 ((gs2.trans g7).trans g8)) fun a h => H54 (gs1.free h)
   have r2 : gX (fun a => a ≠ lt ∧ a ≠ lr) (aD H7 l2 (.lst [v1,v2])) v2 w2 := oo (gk rw2 g8) fun a h => H54 ((k6.trans gs2).free h)
   have e2 : aD H7 l2 (.lst [v1,v2]) l2 = some (.lst [v1,v2]) := aj
   generalize aD H7 l2 (.lst [v1,v2]) = H8 at k8 ex8 r1 r2 e2 ⊢
   clear rw1 rw2 g6 gs1 gs2 g7 g8 k6 k7 ns1 ns2 nl2
   obtain ⟨kn,hkn⟩ : ∃ kn : Nat,1 + z8.fmod 2 = (kn : Int) := ⟨(1 + z8.fmod 2).toNat,by omega⟩
   have kn1 : 1 ≤ kn := by omega
   have kn2 : kn ≤ 2 := by omega
   refine ⟨_,rfl,.inl ⟨rfl,_,az.of ((g5.trans k8) _ _ ec0)⟩,_,rfl,_,rfl,lx,_,_,_,rfl,rfl,az.of ex8,(aL (j := 8) (a5 h8)),_,_,rfl,rfl,(by show (2 : Int) ≠ 0; decide),_,_,rfl,rfl,_,rfl,l2,_,rfl,az.of e2,fun l3 nl3 => ?_⟩
   have cu3 : eZ [v1,v2] none (some (1 + z8.fmod 2)) = [v1,v2].take kn := by rw [hkn]; exact qt (by simpa using kn2)
   rw [cu3]
   have g9 := ag nl3 (.lst ([v1,v2].take kn))
   have hl3 : dR (fun a => a ≠ lt ∧ a ≠ lr) (aD H8 l3 (.lst ([v1,v2].take kn))) (.ref l3) ([w1,w2].take kn) := by
    refine ⟨l3,rfl,H54 (k8.free nl3),_,aj,?_⟩
    exact (((A2.one r1).append (A2.one r2)).take kn).imp fun _ _ q => gk q g9
   have e3 : aD H8 l3 (.lst ([v1,v2].take kn)) l3 = some (.lst ([v1,v2].take kn)) := aj
   have k9 := k8.trans g9
   have ex9 := k9 _ _ ex
   have hT9 := (hT.same g5).same k9
   have hR9 := (hR.same g5).same k9
   have gg9 := k5.trans k9
   have nl3' : l3 ≠ lt ∧ l3 ≠ lr := H54 (k8.free nl3)
   have nx' : lx ≠ lt ∧ lx ≠ lr := by
    obtain ⟨as',er',_⟩ := id hR
    exact ⟨(fun z => by rw [z,ec0] at nx; cases nx),(fun z => by rw [z,er'] at nx; cases nx)⟩
   generalize aD H8 l3 (.lst ([v1,v2].take kn)) = H9 at hl3 e3 ex9 hT9 hR9 gg9 ⊢
   have wl3 : ([w1,w2].take kn).length = kn := by rw [List.length_take]; simp; omega
   have wsok : ∀ w ∈ [w1,w2].take kn,r8 D w := fun w hw => by
    have := List.mem_of_mem_take hw
    simp at this
    rcases this with e | e
    ·rw [e]; exact ok1
    ·rw [e]; exact ok2
   generalize [w1,w2].take kn = ws at hl3 wl3 wsok
   clear k8 ex8 r1 r2 e2 g9 cu1 cu2 cu3 k9
   obtain ⟨cs,ec,rc⟩ := hT9
   have lc : cs.length = i := by rw [rc.1,lT]
   have npx : ¬ (fun a => a ≠ lt ∧ a ≠ lr) lt := fun z => z.1 rfl
   have sz : cs.length < sizeLine := by omega
   refine ⟨lt,_,_,rfl,rfl,ec,sz,?_⟩
   have hT10 := bY.put (l := lt) npx rc hl3
   have hR10 := hR9.upd (ys := cs ++ [.ref l3]) ec ltr.symm
   have g10 := f9 gg9 nlt (.lst (cs ++ [.ref l3]))
   have ex10 : aD H9 lt (.lst (cs ++ [.ref l3])) lx = some (.lst (xs.map V.int)) := by rw [aA nx'.1]; exact ex9
   have e310 : aD H9 lt (.lst (cs ++ [.ref l3])) l3 = some (.lst ([v1,v2].take kn)) := by rw [aA nl3'.1]; exact e3
   have ec10 : aD H9 lt (.lst (cs ++ [.ref l3])) lt = some (.lst (cs ++ [.ref l3])) := aj
   generalize aD H9 lt (.lst (cs ++ [.ref l3])) = H10 at hT10 hR10 g10 ex10 e310 ec10 ⊢
   clear hl3 e3 ex9 hR9 gg9 ec rc hT hR k5 g4 g5 ec0 rc0 ex nx
   refine ⟨_,rfl,_,rfl,lx,_,_,_,rfl,rfl,az.of ex10,(aL (j := 9) (a5 h9)),_,_,rfl,rfl,(by show (10 : Int) ≠ 0; decide),_,_,rfl,rfl,_,rfl,lx,_,_,_,rfl,rfl,az.of ex10,(aL (j := 9) (a5 h9)),_,_,rfl,rfl,⟨by decide,PyProof.noPylong_small (by decide)⟩,_,_,rfl,rfl,(by show (8 : Int) ≠ 0; decide),rfl,_,rfl,_,_,rfl,rfl,?_⟩
   have t9 := fm (a := z10) (n := 9) (by decide)
   obtain ⟨sz9,hs9,s95⟩ : ∃ sz9 : Int,fb [V.int 1,V.int 2,V.int 3,V.int 4,V.int 5,V.int 0,V.int 2,V.int (-1),V.int 3] (z10.fmod 9) = some (.int sz9) ∧ sz9 ≤ 5 := by
    obtain e | e | e | e | e | e | e | e | e : z10.fmod 9 = 0 ∨ z10.fmod 9 = 1 ∨ z10.fmod 9 = 2 ∨ z10.fmod 9 = 3 ∨ z10.fmod 9 = 4 ∨ z10.fmod 9 = 5 ∨ z10.fmod 9 = 6 ∨ z10.fmod 9 = 7 ∨ z10.fmod 9 = 8 := by omega
    all_goals (rw [e]; exact ⟨_,rfl,by decide⟩)
   refine ⟨_,rfl,(by show 9 ≤ sizeLine; decide),fun l9 nl9 => ?_⟩
   have g9 := ag nl9 (.lst [V.int 1,V.int 2,V.int 3,V.int 4,V.int 5,V.int 0,V.int 2,V.int (-1),V.int 3])
   refine ⟨_,rfl,lx,_,_,_,rfl,rfl,az.of (g9 _ _ ex10),(aL (j := 10) (a5 h10)),_,_,rfl,rfl,(by show (9 : Int) ≠ 0; decide),l9,_,_,_,rfl,rfl,az.of aj,hs9,?_⟩
   have hT10' := hT10.same g9
   have hR10' := hR10.same g9
   have g10' := g10.trans g9
   have ex10' := g9 _ _ ex10
   have e310' := g9 _ _ e310
   have ec10' := g9 _ _ ec10
   generalize aD H10 l9 (.lst [V.int 1,V.int 2,V.int 3,V.int 4,V.int 5,V.int 0,V.int 2,V.int (-1),V.int 3]) = H11 at hT10' hR10' g10' ex10' e310' ec10' ⊢
   clear hT10 hR10 g10 ex10 e310 ec10 g9 nl9 hs9
   have lv3 : ([v1,v2].take kn).length = kn := by rw [List.length_take]; simp; omega
   have tk := fm (a := z10.fdiv 9) (n := (([v1,v2].take kn).length : Int)) (by omega)
   obtain ⟨bs,er,rR⟩ := hR10'
   have lb : (bs.map V.ref).length = i := by rw [List.length_map,rR.1,List.length_map,pok.len,lT]
   have ati : fb (cs ++ [.ref l3]) (0 + (i : Int)) = some (.ref l3) := by
    rw [Int.zero_add]
    refine aL ?_
    rw [List.getElem?_append_right (by omega),lc]
    simp
   refine ⟨_,rfl,.inl ⟨rfl,_,az.of er⟩,_,rfl,_,rfl,_,rfl,_,_,rfl,rfl,_,rfl,lx,_,_,_,rfl,rfl,az.of ex10',(aL (j := 10) (a5 h10)),_,_,rfl,rfl,⟨by decide,PyProof.noPylong_small (by decide)⟩,_,rfl,_,rfl,lt,_,_,_,rfl,rfl,az.of ec10',ati,l3,_,rfl,.inl (az.of e310'),_,_,rfl,rfl,(by omega),(by show 3 ≤ sizeLine; decide),fun tr ntr => ⟨lr,_,_,rfl,rfl,ag ntr _ _ _ er,by omega,?_⟩⟩
   have g11 := ag ntr (.tup [.int (ah + z9.fmod 10 - (if decide (V.int ((z9.fdiv 10).fmod 8) = V.int 1) = true then 1 else 0)),.int ((ah + z9.fmod 10 - (if decide (V.int ((z9.fdiv 10).fmod 8) = V.int 1) = true then 1 else 0)) + sz9),.int ((z10.fdiv 9).fmod (([v1,v2].take kn).length : Int))])
   refine ⟨_,_,_,_,_,rfl,f9 (g10'.trans g11) nlr0 _,T ++ [ws],R ++ [((ah + z9.fmod 10 - (if decide (V.int ((z9.fdiv 10).fmod 8) = V.int 1) = true then 1 else 0)),(ah + z9.fmod 10 - (if decide (V.int ((z9.fdiv 10).fmod 8) = V.int 1) = true then 1 else 0)) + sz9,(z10.fdiv 9).fmod (([v1,v2].take kn).length : Int))],(hT10'.same g11).upd (fun z => z.2 rfl) ltr _,?_,by rw [List.length_append,lT]; rfl,?_,fun vs hv => ?_,fun r hr => ?_⟩
   ·rw [List.map_append]
    exact iu (g11 _ _ er) (rR.imp fun a k q => g11 _ _ q) aj
   ·refine ⟨by rw [List.length_append,List.length_append,pok.len]; rfl,fun j r vs e1 e2 => ?_⟩
    by_cases c : j < R.length
    ·rw [List.getElem?_append_left c] at e1
     rw [List.getElem?_append_left (by rw [← pok.len]; exact c)] at e2
     exact pok.way j r vs e1 e2
    ·have il := (List.getElem?_eq_some_iff.mp e1).1
     have ej : j = R.length := by simp at il; omega
     rw [List.getElem?_append_right (by omega),ej] at e1
     rw [List.getElem?_append_right (by rw [← pok.len]; omega),ej,pok.len] at e2
     simp only [Nat.sub_self,List.getElem?_cons_zero,Option.some.injEq] at e1 e2
     subst e1 e2
     exact ⟨tk.1,by have h := tk.2; show (z10.fdiv 9).fmod (([v1,v2].take kn).length : Int) < (ws.length : Int); omega⟩
   ·rcases List.mem_append.mp hv with h | h
    ·exact okT vs h
    ·rw [List.mem_singleton.mp h]
     exact ⟨by omega,by omega,wsok⟩
   ·rcases List.mem_append.mp hr with h | h
    ·exact okR r h
    ·rw [List.mem_singleton.mp h]
     show (ah + z9.fmod 10 - (if decide (V.int ((z9.fdiv 10).fmod 8) = V.int 1) = true then 1 else 0)) + sz9 - (ah + z9.fmod 10 - (if decide (V.int ((z9.fdiv 10).fmod 8) = V.int 1) = true then 1 else 0)) ≤ 5
     generalize (ah + z9.fmod 10 - (if decide (V.int ((z9.fdiv 10).fmod 8) = V.int 1) = true then 1 else 0)) = bg
     omega
  ·rintro σ H4 ⟨o6,o7,o8,o9,o10,rfl,g4,T,R,hT,hR,lT,pok,okT,okR⟩
   exact hN _ _ ⟨_,_,_,_,_,T,R,rfl,g4,hT.any,hR,by omega,pok,okT,okR⟩
 clear gl bt br nlt nlr0 ltr
 rintro σ H4 ⟨o6,o7,o8,o9,o10,T,R,rfl,g4,hT,hR,run⟩
 refine ⟨(by show 0 ≤ sizeLine; decide),fun ml nml => ?_⟩
 have g5 := ag nml (.lst [])
 have e5 : aD H4 ml (.lst []) ml = some (.lst []) := aj
 generalize aD H4 ml (.lst []) = H5 at g5 e5 ⊢
 have k5 := g4.trans g5
 refine ⟨_,rfl,a,ns,3,rfl,(k5.seq hS),(by decide),fun c3 => ⟨_,rfl,a,ns,3,rfl,(k5.seq hS),(by decide),fun c4 => ⟨_,_,rfl,rfl,(by show (3 : Int) ≠ 0; decide),?_⟩⟩⟩
 have t3 := fm (a := c4) (n := 3) (by decide)
 refine ⟨_,_,rfl,t3.1,by omega,fun lx xs H6 nx g6 lnx dn ex => ?_⟩
 have eml : H6 ml = some (.lst []) := g6 _ _ e5
 have xl : xs.length ≤ 2 := by omega
 have nxm : lx ≠ ml := fun z => by rw [z,e5] at nx; cases nx
 have k6 := g5.trans g6
 refine ⟨lx,rfl,⟨_,az.of ex⟩,bq (xs := xs.map V.int) (fun i σ H' => ∃ (o12 : Option V) (M : List Int),σ = [some (.ref a),some (.ref td),some (.bl b),some (.int ah),some (.ref lt),some (.ref lr),o6,o7,o8,o9,o10,some (.ref ml),o12] ∧ aB H4 H' ∧ H' lx = some (.lst (xs.map V.int)) ∧ H' ml = some (.lst (M.map V.int)) ∧ M.length = i) ⟨none,[],rfl,k6,ex,eml,rfl⟩ (fun i σ H' _ ⟨_,_,_,_,e,_⟩ => az.of e) ?_ ?_⟩
 ·rintro i y σ H7 hy ⟨o12,M,rfl,g7,ex7,em7,lM⟩
  have il := (List.getElem?_eq_some_iff.mp hy).1
  rw [List.length_map] at il
  rw [List.getElem?_map] at hy
  obtain ⟨x,hx,rfl⟩ := Option.map_eq_some_iff.mp hy
  refine ⟨_,rfl,.inl ⟨rfl,_,az.of em7⟩,_,rfl,_,rfl,_,_,rfl,rfl,(by show (12 : Int) ≠ 0; decide),_,_,rfl,rfl,_,_,rfl,rfl,ml,_,_,rfl,rfl,em7,by rw [List.length_map]; omega,?_⟩
  refine ⟨_,M ++ [ah + x.fmod 12 - 1],rfl,f9 g7 nml _,by rw [aA nxm]; exact ex7,?_,by rw [List.length_append,lM]; rfl⟩
  rw [aj,List.map_append]
  rfl
 ·rintro σ H7 ⟨o12,M,rfl,g7,ex7,em7,lM⟩
  rw [List.length_map] at lM
  refine ⟨_,rfl,_,rfl,_,rfl,(by show 3 ≤ sizeLine; decide),fun t nt => ?_⟩
  have gt := ag nt (.tup [.ref lt,.ref lr,.ref ml])
  have kt := g7.trans gt
  exact q t lt lr ml T R M _ (g4.trans kt) aj (hT.same kt) (hR.same kt) (gt _ _ em7) (by omega) run
theorem vQ : aN ["_law_made","_law_runs_here","_law_times","_law_tools_here","_law_tasks","_law_arcs_here","_law_pairs","_law_uses","_law_due_here"] ["_law_made","_law_runs_here","_law_times"] (ak pj) := ⟨rfl,rfl,rfl,by decide +kernel,rfl,by decide +kernel,by decide +kernel⟩
set_option maxHeartbeats 4000000 in
theorem vR {dV : Value} (F : bL K "_law_due" "_law_due" pj dV f fd) (B : Bn K mg c_Net f_Z8) (DZ29 : Dx P w K mg base bj 2 "_law_times_due" ["_law_runs_here","_law_times","_law_arcs_here","_law_pairs"] [] fy) (DZ30 : Dx P w K mg base bj 2 "_law_tools_due" ["_law_runs_here","_law_uses","_law_tools_here"] [] fA) (DZ31 : Dx P w K mg base bj 2 "_law_heats_due" ["_law_runs_here","_law_uses","_law_tools_here"] [] fB) : bG P w K mg base bj 3 f fd ["_law_made","_law_runs_here","_law_times"] jZ := by
 have sc := vQ
 refine F.ok sc (fun vs H Q E h => ?_) (fun cdv A outer s H vs Q E hr h => ?_)
 ·obtain ⟨mt,td,tl,al,pl,rl,ml,D,T,A1,B1,R,M,rfl,_⟩ := h
  rfl
 obtain ⟨mt,td,tl,al,pl,rl,ml,D,T,A1,B1,R,M,rfl,N,I,pok,q⟩ := h
 refine ⟨_,(af (pM (pv 0) (dI rfl (bn (ay (i := 3) sc.nd rfl (Or.inl rfl)) (bn (ay (i := 4) sc.nd rfl (Or.inr rfl)) (bn (ay (i := 5) sc.nd rfl (Or.inl rfl)) (bn (ay (i := 6) sc.nd rfl (Or.inl rfl)) cV)))))) (af (km (hd := none) (own := "_law_i") (ys := ["_law_tasks","_law_runs_here"]) (js := [4,1]) sc.nd (i := 7) rfl rfl hr.hd (lG (mR (mR lF)) (.cons rfl (.cons rfl .nil)) (by decide) rfl rfl rfl rfl rfl rfl rfl rfl) (fZ rfl B.b_range (aa (av ao rfl B.b_len boot_len (aa (pv 1) ae)) ae)) (fun C fp s H => (am (eU (K := K) rfl) (am (c9 (K := K) rfl) (am (c9 (K := K) rfl) (pv 1) (pv 0) (fun _ _ => rfl)) (am (eU (K := K) rfl) (am (c9 (K := K) rfl) (pv 2) (pv 0) (fun _ _ => rfl)) ac (fun _ _ => rfl)) (fun _ _ => rfl)) ac (fun _ _ => rfl)))) (af (aE (i := 8) sc.nd rfl (Or.inl rfl) (aH DZ29 hr (by decide) rfl (aa (pv 1) (aa (pv 2) (aa (pv 5) (aa (pv 6) ae)))))) (ai (aO (aw fk (aw fk (pv 8) (aH DZ30 hr (by decide) rfl (aa (pv 1) (aa (pv 7) (aa (pv 3) ae))))) (aH DZ31 hr (by decide) rfl (aa (pv 1) (aa (pv 7) (aa (pv 3) ae)))))))))),?_⟩
 have sl : sizeLine = 16777216 := sizeLine_eq
 have r24 := I.r24
 have m8 := I.m8
 have a6 := I.a600
 have b3 := I.b300
 refine ⟨_,rfl,mt,_,rfl,bc.of N.tup,rfl,_,_,rfl,_,_,rfl,_,_,rfl,_,_,rfl,rfl,?_⟩
 obtain ⟨vs,el,rT⟩ := N.tasks
 obtain ⟨bs,er,rR⟩ := id I.runs
 have lr : (bs.map V.ref).length = R.length := by rw [List.length_map,rR.1,List.length_map]
 refine ⟨_,rfl,rl,_,rfl,.inl (az.of er),_,rfl,by omega,by omega,iC (kU dN) (fun a => H a ≠ none) (fun i => (bM T R i).2.2) jA.no (by omega) (fun a h => h) (fun i hi H3 g Q' hQ => ?_) fun ul H1 nul g1 hul => ?_⟩
 ·rw [Int.toNat_natCast,lr] at hi
  obtain ⟨wl,b,ts,v,r,j,hw,ew,hv,rw',hb,eb,hr',hj,hgd⟩ := mD rT rR pok hi
  obtain ⟨tw,uw,rfl,_,_,etw,us',eu,ru⟩ := rw'
  refine ⟨_,rfl,_,rfl,tl,_,_,_,rfl,rfl,az.of (g _ _ el),(bU hw),_,rfl,_,rfl,rl,_,_,_,rfl,rfl,az.of (g _ _ er),(bU (a5 hb)),b,_,_,_,rfl,rfl,bc.of (g _ _ eb),rfl,wl,_,_,_,rfl,rfl,az.of (g _ _ ew),(by rw [hj]; exact aL hv),tw,_,_,_,rfl,rfl,bc.of (g _ _ etw),rfl,hQ _ _ (.refl _) ⟨uw,rfl,.inr (by rw [eu]; exact nofun),us',g _ _ eu,ru.imp fun _ _ q => Mv.mv (fun a o _ _ e => ⟨.inr (by rw [e]; exact nofun),g _ _ e⟩) q⟩⟩
 rw [Int.toNat_natCast,lr] at hul
 have hul' := hul.any
 have I1 := I.same g1
 have U1 : gH H1 rl ul td D T R := ⟨I1.runs,r24,hul',g1 _ _ N.tools,N.tok⟩
 clear hul hul'
 refine ⟨_,rfl,_,rfl,_,rfl,_,rfl,rl,ml,al,pl,R,M,A1,B1,rfl,I1,fun l1 H2 g2 h1 => ?_⟩
 refine ⟨_,rfl,_,rfl,_,rfl,_,rfl,rl,ul,td,D,T,R,rfl,U1.same g2,fun ys l2 H3 yp ysrt g3 h2 => ?_⟩
 obtain ⟨v1,e1,r1⟩ := h1.same g3
 obtain ⟨v2,e2,r2⟩ := h2
 have yl : ys.length ≤ 3 := by rw [yp.length_eq,List.length_map]; exact N.tok.1
 have q1 : v1.length ≤ 932 := by
  rw [r1.1]
  have h1 : (cI R R.length).length ≤ R.length := aY _ _ _
  have h2 : (gw M M.length).length ≤ M.length := aY _ _ _
  have h3 : (cm A1 R M A1.length).length ≤ A1.length := aY _ _ _
  have h4 : (cb B1 R B1.length).length ≤ B1.length := aY _ _ _
  unfold qH
  rw [List.length_append,List.length_append,List.length_append]
  omega
 have q2 : v2.length ≤ 72 := by
  rw [r2.1]
  have := cH (f := dt D T R) (m := 24) (fun a => Nat.le_trans (dE D T R a) r24) ys
  omega
 refine ⟨l1,l2,_,_,rfl,rfl,e1,e2,by omega,fun l3 nl3 => ?_⟩
 have g4 := ag nl3 (.lst (v1 ++ v2))
 have h3 : bY j1 An (aD H3 l3 (.lst (v1 ++ v2))) l3 (qH R M A1 B1 ++ ys.flatMap (dt D T R)) := ⟨_,aj,A2.append (r1.imp fun _ _ q => gk q g4) (r2.imp fun _ _ q => gk q g4)⟩
 generalize aD H3 l3 (.lst (v1 ++ v2)) = H4 at g4 h3 ⊢
 have g24 := g3.trans g4
 refine ⟨_,rfl,_,rfl,_,rfl,rl,ul,td,D,T,R,rfl,(U1.same g2).same g24,fun zs l5 H5 zp zsrt g5 h5 => ?_⟩
 have ez : zs = ys := So.dj zsrt ysrt (zp.trans yp.symm)
 subst ez
 obtain ⟨v3,e3,r3⟩ := h3.same g5
 obtain ⟨v5,e5,r5⟩ := h5
 have l3' : v3.length = v1.length + v2.length := by rw [r3.1,List.length_append,r1.1,r2.1]
 have q5 : v5.length ≤ 1728 := by
  rw [r5.1]
  have := cH (f := de T R) (m := 576) (fun a => eW a r24) zs
  omega
 refine ⟨l3,l5,_,_,rfl,rfl,e3,e5,by omega,fun l6 nl6 => ?_⟩
 have g6 := ag nl6 (.lst (v3 ++ v5))
 exact q zs l6 _ zp zsrt (((((g1.trans g2).trans g3).trans g4).trans g5).trans g6) ⟨_,aj,A2.append (r3.imp fun _ _ q => gk q g6) (r5.imp fun _ _ q => gk q g6)⟩
theorem vS : aN ["_law_net","_law_made","_law_runs_here","_law_times","_law_due_here","_law_plan","_law_fits"] ["_law_net","_law_made","_law_runs_here","_law_times"] (ak pq) := ⟨rfl,rfl,rfl,by decide +kernel,rfl,by decide +kernel,by decide +kernel⟩
set_option maxHeartbeats 4000000 in
theorem vT {dV : Value} (F : bL K "_law_right" "_law_right" pq dV f fd) (B : Bn K mg c_Net f_Z8) (DZ21 : Dx P w K mg base bj 5 "breaches" ["net","plan"] [] (eX c_Net)) (DZ22 : Dx P w K mg base bj 6 "plan_fits" ["net","plan"] [] (jU c_Net)) (DZ32 : Dx P w K mg base bj 1 "_law_told" ["_law_found","_law_due_here"] [] jX) (DZ33 : Dx P w K mg base bj 2 "_law_meets_told" ["_law_runs_here"] [] eM) (DZ36 : Dx P w K mg base bj 3 "_law_due" ["_law_made","_law_runs_here","_law_times"] [] jZ) : bG P w K mg base bj 7 f fd ["_law_net","_law_made","_law_runs_here","_law_times"] (gI c_Net) := by
 have sc := vS
 refine F.ok sc (fun vs H Q E h => ?_) (fun cdv A outer s H vs Q E hr h => ?_)
 ·obtain ⟨x,mt,td,tl,al,pl,rl,ml,D,T,A1,B1,R,M,rfl,_⟩ := h
  rfl
 obtain ⟨x,mt,td,tl,al,pl,rl,ml,D,T,A1,B1,R,M,rfl,N,I,pok,hl,q⟩ := h
 refine ⟨_,(af (aE (i := 4) sc.nd rfl (Or.inl rfl) (aH DZ36 hr (by decide) rfl (aa (pv 1) (aa (pv 2) (aa (pv 3) ae))))) (af (aE (i := 5) sc.nd rfl (Or.inl rfl) (bK (aa (bO (dM (K := K) rfl) rfl B.b_list boot_list (aa (pv 2) ae)) (aa (bO (dM (K := K) rfl) rfl B.b_list boot_list (aa (pv 3) ae)) ae)))) (af (aU (PW.pt (fc (bQ (bX (aH DZ32 hr (by decide) rfl (aa (aH DZ21 hr (by decide) rfl (aa (pv 0) (aa (pv 5) ae))) (aa (pv 4) ae))))) (dY (bQ (bX (aH DZ33 hr (by decide) rfl (aa (pv 2) ae))))))) (ai (aO c6)) aC) (af (aE (i := 6) sc.nd rfl (Or.inl rfl) (aH DZ22 hr (by decide) rfl (aa (pv 0) (aa (pv 5) ae)))) (af (aU (PW.pt (fc (bQ (bX (av (dC (K := K) rfl) rfl B.b_isinstance boot_isinstance (aa (pv 6) (aa (eO (v := .ty "bool") rfl B.b_bool boot_bool rfl) ae))))) (fc (aI gK (pv 6) (ce (kB hr.units0) (pv 4) (bw ae) (aG _)) (aG _)) (dY (aI (rH 2 (Nat.lt_trans (Nat.add_lt_add_left (by decide : 2 + 1 < 64) _) hr.units)) (pv 5) (bK (aa (pv 2) (aa (pv 3) ae))) (aG _)))))) (ai (aO c6)) aC) (ai (aO (hU (ce (rZ (Nat.lt_trans (Nat.add_lt_add_left (by decide : 1 < 64) _) hr.units)) (bJ (pv 0) rfl) (am ar (pv 1) ac (fun _ _ => rfl)) (aG _)) (hU (ce (jF 4 (Nat.lt_trans (Nat.add_lt_add_left (by decide : 4 + 1 < 64) _) hr.units)) (bJ (pv 0) rfl) (am ar (pv 1) ac (fun _ _ => rfl)) (aG _)) (hU (ce (jF 1 (Nat.lt_trans (Nat.add_lt_add_left (by decide : 1 + 1 < 64) _) hr.units)) (bJ (pv 0) rfl) (am ar (pv 1) ac (fun _ _ => rfl)) (aG _)) (lL (ce (jF 1 (Nat.lt_trans (Nat.add_lt_add_left (by decide : 1 + 1 < 64) _) hr.units)) (bJ (pv 0) rfl) (am ar (pv 1) ac (fun _ _ => rfl)) (aG _))))))))))))),?_⟩
 have sl : sizeLine = 16777216 := sizeLine_eq
 refine ⟨_,rfl,_,rfl,_,rfl,mt,td,tl,al,pl,rl,ml,D,T,A1,B1,R,M,rfl,N.made,I,pok,fun ys ld H1 yp ysrt g1 hd => ?_⟩
 rw [tL pok N.way hl] at hd
 have I1 := I.same g1
 have N1 := N.same g1
 obtain ⟨bs,er,rR⟩ := id I1.runs
 refine ⟨_,rfl,rl,_,rfl,.inl (az.of er),fun l1 n1 => ?_⟩
 have h1 := ag n1 (.lst (bs.map V.ref))
 refine ⟨_,rfl,ml,_,rfl,.inl (az.of (h1 _ _ I1.mom)),fun l2 n2 => ⟨(by show 2 ≤ sizeLine; decide),fun th nth => ?_⟩⟩
 have h2 := ag n2 (.lst (M.map V.int))
 have h3 := ag nth (.tup [.ref l1,.ref l2])
 have gg := (h1.trans h2).trans h3
 have hP : jg (aD (aD (aD H1 l1 (.lst (bs.map V.ref))) l2 (.lst (M.map V.int))) th (.tup [.ref l1,.ref l2])) th R M := ⟨l1,l2,aj,⟨bs,h3 _ _ (h2 _ _ aj),rR.imp fun a k q => gg _ _ q⟩,h3 _ _ aj⟩
 generalize aD (aD (aD H1 l1 (.lst (bs.map V.ref))) l2 (.lst (M.map V.int))) th (.tup [.ref l1,.ref l2]) = H2 at gg hP ⊢
 clear h1 h2 h3 n1 n2 nth er rR
 have N2 := N1.same gg
 have I2 := I1.same gg
 have hd2 := hd.same gg
 refine ⟨_,rfl,_,rfl,x,th,rfl,D,T,A1,B1,R,M,⟨N2.net,hP,N2.ok,pok⟩,fun zs lf H3 zp zsrt g3 nlf hf => ?_⟩
 have ez : zs = ys := So.dj zsrt ysrt (zp.trans yp.symm)
 subst ez
 have hf3 := hf.any
 have hd3 := hd2.same g3
 refine ⟨_,rfl,lf,ld,_,rfl,hf3,hd3,qJ,fun H4 g4 => ⟨_,rfl,cQ ?_⟩⟩
 have k4 := g3.trans g4
 refine ⟨_,rfl,rl,R,rfl,(I2.same k4).runs,fun H5 g5 => ⟨_,rfl,cQ ?_⟩⟩
 have k5 := k4.trans g5
 have N5 := N2.same k5
 refine ⟨_,rfl,_,rfl,x,th,rfl,D,T,A1,B1,R,M,⟨N5.net,hP.same k5,N5.ok,pok⟩,fun us H6 up usrt g6 => ?_⟩
 have eu : us = zs := So.dj usrt zsrt (up.trans zp.symm)
 subst eu
 have k6 := k5.trans g6
 obtain ⟨dv,edv,rdv⟩ := id (hd2.same k6)
 refine ⟨_,rfl,_,_,_,true,rfl,.bl _,rfl,_,rfl,cQ ⟨_,rfl,_,rfl,(by show 0 ≤ sizeLine; decide),fun l3 nl3 => ⟨ld,l3,_,rfl,rfl,az.of (ag nl3 _ _ _ edv),az.of aj,rfl,_,rfl,nF ?_ ?_⟩⟩⟩
 ·have : dv.isEmpty = (i5 us D T A1 B1 R M).isEmpty := by
   have := rdv.1
   cases dv <;> cases h : i5 us D T A1 B1 R M <;> simp [h] at this ⊢
  rw [this]
 have k7 := k6.trans (ag nl3 (.lst []))
 generalize aD H6 l3 (.lst []) = H7 at k7 ⊢
 obtain ⟨r2',m2',eth',⟨bs',er',rR'⟩,em'⟩ := hP.same k7
 have I7 := I2.same k7
 obtain ⟨bt',ert,rRt⟩ := id I7.runs
 refine ⟨_,rfl,_,rfl,_,rfl,(by show 2 ≤ sizeLine; decide),fun tt ntt => ?_⟩
 have h6 := ag ntt (.tup [.ref rl,.ref ml])
 refine ⟨th,tt,_,_,rfl,rfl,bc.of (h6 _ _ eth'),bc.of aj,⟨.inr ⟨r2',rl,_,_,rfl,rfl,.inr ⟨az.of (h6 _ _ er'),az.of (h6 _ _ ert)⟩,iN (rR'.imp fun _ _ q => h6 _ _ q) (rRt.imp fun _ _ q => h6 _ _ q)⟩,.inl (.inr ⟨m2',ml,_,_,rfl,rfl,.inr ⟨az.of (h6 _ _ em'),az.of (h6 _ _ I7.mom)⟩,iD (lE M)⟩),trivial⟩,_,rfl,cQ ?_⟩
 have k8 := (g1.trans gg).trans (k7.trans h6)
 have N8 := N.same k8
 generalize aD H7 tt (.tup [.ref rl,.ref ml]) = H8 at k8 N8 ⊢
 clear h6 ntt eth' er' rR' em' ert rRt I7 k7 edv rdv
 obtain ⟨dx,td',tl',al',pl',fs,e0,l1',l2',l3',l4',l5',ed,⟨vt,et,rT⟩,⟨ba,ea,rA⟩,⟨bp,ep,rP⟩⟩ := N8.net.ex
 obtain ⟨vt',et',rT'⟩ := N8.made.tasks
 obtain ⟨ba',ea',rA'⟩ := N8.made.arcs
 obtain ⟨bp',ep',rP'⟩ := N8.made.apart
 have emt := N8.made.tup
 refine ⟨_,rfl,x,_,dx,_,_,rfl,e0,B.cl_Net,B.na_Net_tools,l1',_,rfl,mt,_,_,_,rfl,rfl,bc.of emt,rfl,td',td,D,rfl,rfl,ed.no,N8.made.tools,N.made.tok.2.1,_,rfl,d0 ?_⟩
 refine ⟨_,rfl,x,_,dx,_,_,rfl,e0,B.cl_Net,B.na_Net_tasks,l2',_,rfl,mt,_,_,_,rfl,rfl,bc.of emt,rfl,tl',tl,_,_,rfl,rfl,az.of et,az.of et',jN (fun v w x _ h k => rM (fun v w x _ h k => rY h k) h k) rT rT',_,rfl,d0 ?_⟩
 refine ⟨_,rfl,x,_,dx,_,_,rfl,e0,B.cl_Net,B.na_Net_arcs,l3',_,rfl,mt,_,_,_,rfl,rfl,bc.of emt,rfl,al',al,_,_,rfl,rfl,az.of ea,az.of ea',iN rA rA',_,rfl,d0 ?_⟩
 exact ⟨_,rfl,x,_,dx,_,_,rfl,e0,B.cl_Net,B.na_Net_apart,l4',_,rfl,mt,_,_,_,rfl,rfl,bc.of emt,rfl,pl',pl,_,_,rfl,rfl,az.of ep,az.of ep',iN rP rP',q _ k8⟩
theorem vU : aN ["_law_script","_law_tools_here","_law_tasks","_law_runs_here","_law_times","_law_pairs","_law_cell","_law_i","_law_spots","_law_run","_law_arcs_here","_law_made","_law_net","_law_later"] ["_law_script"] (ak j0) := ⟨rfl,rfl,rfl,by decide +kernel,rfl,by decide +kernel,by decide +kernel⟩
set_option maxHeartbeats 4000000 in
theorem vV {dV : Value} (F : bL K "law" "law" j0 dV f fd) (B : Bn K mg c_Net f_Z8) (DZ8 : wR P w K mg base bj 3 f_Z8 ["self","tools","tasks","arcs","apart","moments"] [.non,.int 0] (my c_Net)) (DZ23 : Dx P w K mg base bj 1 "_law_cell_at" ["_law_script","_law_k"] [] (jz K)) (DZ25 : Dx P w K mg base bj 2 "_law_tools" ["_law_cell"] [] gG) (DZ34 : Dx P w K mg base bj 2 "_law_arcs" ["_law_cells","_law_spots"] [] iQ) (DZ35 : Dx P w K mg base bj 2 "_law_runs" ["_law_script","_law_tools_here"] [] (iR K)) (DZ37 : Dx P w K mg base bj 7 "_law_right" ["_law_net","_law_made","_law_runs_here","_law_times"] [] (gI c_Net)) : bG P w K mg base bj 9 f fd ["_law_script"] (mO K) := by
 have sc := vU
 refine F.ok sc (fun vs H Q E h => ?_) (fun cdv A outer s H vs Q E hr h => ?_)
 ·obtain ⟨a,ns,rfl,_⟩ := h
  rfl
 obtain ⟨a,ns,rfl,hS,n63,q⟩ := h
 refine ⟨_,(af (aE (i := 1) sc.nd rfl (Or.inl rfl) (aH DZ25 hr (by decide) rfl (aa (aH DZ23 hr (by decide) rfl (aa (pv 0) (aa ac ae))) ae))) (af (pM (aH DZ35 hr (by decide) rfl (aa (pv 0) (aa (pv 1) ae))) (dI rfl (bn (ay (i := 2) sc.nd rfl (Or.inl rfl)) (bn (ay (i := 3) sc.nd rfl (Or.inr rfl)) (bn (ay (i := 4) sc.nd rfl (Or.inl rfl)) cV))))) (af (aE (i := 5) sc.nd rfl (Or.inl rfl) (bw ae)) (af (aX PassesOwn.never rfl (aZ (cP eQ (pv 0) (cp ac) (cp ac))) (ay (i := 6) sc.nd rfl (Or.inl rfl)) (ai (aU (aI fe (av ao rfl B.b_len boot_len (aa (pv 3) ae)) ac (aG _)) (af (aE (i := 7) sc.nd rfl (Or.inl rfl) (aw aR (pv 6) (av ao rfl B.b_len boot_len (aa (pv 3) ae)))) (ai (be (cn PySem.F.plainAttrs_list PySem.F.slot_list_append PySem.F.type_list_append aW (pv 5) (aa (bK (aa (pv 7) (aa (aw aR (aw bR (aw bR (pv 7) ac) (aw aR (aw bH (pv 6) ac) (aw c8 (av ao rfl B.b_len boot_len (aa (pv 3) ae)) ac))) (av ao rfl B.b_len boot_len (aa (pv 3) ae))) ae))) ae))))) aC))) (af (aE (i := 8) sc.nd rfl (Or.inl rfl) (bw ae)) (af (aX PassesOwn.never rfl (aZ (pv 3)) (ay (i := 9) sc.nd rfl (Or.inl rfl)) (ai (aE (i := 8) sc.nd rfl (Or.inl rfl) (aw fk (pv 8) (bw (aa (am ar (pv 9) ac (fun _ _ => rfl)) (aa (am ar (pv 9) ac (fun _ _ => rfl)) ae))))))) (af (aE (i := 10) sc.nd rfl (Or.inl rfl) (aH DZ34 hr (by decide) rfl (aa (cP eQ (pv 0) (cp ac) (cp ac)) (aa (aw fk (pv 8) (pv 4)) ae)))) (af (aE (i := 11) sc.nd rfl (Or.inl rfl) (bK (aa (pv 1) (aa (pv 2) (aa (pv 10) (aa (pv 5) ae)))))) (af (aE (i := 12) sc.nd rfl (Or.inl rfl) (tu B.mk_Net DZ8 hr (by decide) rfl B.m_Net (aa (bO ij rfl B.b_dict ip (aa (pv 1) ae)) (aa (dL (own := "_law_ways") (ys := []) (js := []) rfl (lG lF .nil (by decide) rfl rfl rfl rfl rfl rfl rfl rfl) (aZ (pv 2)) (fun C fp s H => (bO (dM (K := K) rfl) rfl B.b_list boot_list (aa (pv 0) ae)))) (aa (bO cC rfl B.b_list boot_list (aa (pv 10) ae)) (aa (bO cC rfl B.b_list boot_list (aa (pv 5) ae)) (aa (av ao rfl B.b_len boot_len (aa (pv 4) ae)) ae))))))) (af (km (hd := none) (own := "_law_i") (ys := ["_law_runs_here"]) (js := [3]) sc.nd (i := 13) rfl rfl hr.hd (lG (mR lF) (.cons rfl .nil) (by decide) rfl rfl rfl rfl rfl rfl rfl rfl) (fZ rfl B.b_range (aa (av ao rfl B.b_len boot_len (aa (pv 3) ae)) ae)) (fun C fp s H => (bK (aa (aw bR (am (eU (K := K) rfl) (am (c9 (K := K) rfl) (pv 1) (pv 0) (fun _ _ => rfl)) ac (fun _ _ => rfl)) (aw di ac (pv 0))) (aa (aw bR (am (eU (K := K) rfl) (am (c9 (K := K) rfl) (pv 1) (pv 0) (fun _ _ => rfl)) ac (fun _ _ => rfl)) (aw di ac (pv 0))) (aa (am (eU (K := K) rfl) (am (c9 (K := K) rfl) (pv 1) (pv 0) (fun _ _ => rfl)) ac (fun _ _ => rfl)) ae)))))) (af (aU (bQ (bX (aH DZ37 hr (by decide) rfl (aa (pv 12) (aa (pv 11) (aa (pv 3) (aa (pv 4) ae))))))) (ai (aO c6)) aC) (af (aU (bQ (bX (aH DZ37 hr (by decide) rfl (aa (pv 12) (aa (pv 11) (aa (pv 13) (aa (dL (own := "_law_time") (ys := []) (js := []) rfl (lG lF .nil (by decide) rfl rfl rfl rfl rfl rfl rfl rfl) (aZ (pv 4)) (fun C fp s H => (aw bR (pv 0) ac))) ae))))))) (ai (aO c6)) aC) (ai (aO (aH DZ37 hr (by decide) rfl (aa (pv 12) (aa (pv 11) (aa (pv 3) (aa (pv 4) ae))))))))))))))))))),?_⟩
 have sl : sizeLine = 16777216 := sizeLine_eq
 refine ⟨_,rfl,a,ns,0,rfl,hS,(by decide),fun c0 => ⟨c0,rfl,fun td D H1 g1 ntd ed tok => ?_⟩⟩
 refine ⟨_,rfl,_,rfl,a,td,ns,D,rfl,g1.seq hS,ed,tok,fun tt lt lr ml T R M H2 g2 ett hT hR em m2 run => ?_⟩
 refine ⟨tt,_,rfl,bc.of ett,rfl,_,_,rfl,_,_,rfl,_,_,rfl,rfl,?_⟩
 have k2 := g1.trans g2
 have ed2 := g2 _ _ ed
 have rlen : R.length ≤ 6 := by rw [run.pok.len]; exact run.len
 clear g1 g2 ed ntd ett
 obtain ⟨bs,er,rR⟩ := id hR
 have lnR : (bs.map V.ref).length = R.length := by rw [List.length_map,rR.1,List.length_map]
 refine ⟨(by show 0 ≤ sizeLine; decide),fun lp nlp => ?_⟩
 have g3 := ag nlp (.lst [])
 have elp : aD H2 lp (.lst []) lp = some (.lst []) := aj
 generalize aD H2 lp (.lst []) = H3 at g3 elp ⊢
 obtain ⟨cs,ecs,lcs⟩ := jh ns (some 31) (some 61)
 try dsimp only [cB,c7]
 refine cut (fun σ H' => ∃ (o6 o7 : Option V) (B1 : List Ky),σ = [some (.ref a),some (.ref td),some (.ref lt),some (.ref lr),some (.ref ml),some (.ref lp),o6,o7,none,none,none,none,none,none] ∧ aB H2 H' ∧ bu H' lp B1 ∧ B1.length ≤ cs.length ∧ ∀ k ∈ B1,∃ p q : Int,k = [p,q] ∧ 0 ≤ p ∧ p < (R.length : Int) ∧ 0 ≤ q ∧ q < (R.length : Int) ∧ p ≠ q) (fun N hN => ?_) ?_
 ·refine ⟨_,rfl,_,rfl,_,rfl,a,_,rfl,(k2.trans g3).seq hS,fun lz nlz => ?_⟩
  rw [ecs]
  have g4' := ag nlz (.lst (cs.map V.int))
  have elz : aD H3 lz (.lst (cs.map V.int)) lz = some (.lst (cs.map V.int)) := aj
  have elp4 := g4' _ _ elp
  have nzp : lz ≠ lp := fun z => by rw [z,elp] at nlz; cases nlz
  have g4 := g3.trans g4'
  generalize aD H3 lz (.lst (cs.map V.int)) = H4 at g4 elz elp4 ⊢
  clear g4' nlz
  refine ⟨lz,rfl,⟨_,az.of elz⟩,bq (xs := cs.map V.int) (fun i σ H' => ∃ (o6 o7 : Option V) (B1 : List Ky),σ = [some (.ref a),some (.ref td),some (.ref lt),some (.ref lr),some (.ref ml),some (.ref lp),o6,o7,none,none,none,none,none,none] ∧ aB H2 H' ∧ H' lz = some (.lst (cs.map V.int)) ∧ bu H' lp B1 ∧ B1.length ≤ i ∧ ∀ k ∈ B1,∃ p q : Int,k = [p,q] ∧ 0 ≤ p ∧ p < (R.length : Int) ∧ 0 ≤ q ∧ q < (R.length : Int) ∧ p ≠ q) ⟨none,none,[],rfl,g4,elz,⟨[],elp4,df.nil⟩,Nat.le_refl _,fun k hk => by cases hk⟩ (fun i σ H' _ ⟨_,_,_,_,_,e,_⟩ => az.of e) ?_ ?_⟩
  ·rintro i y σ H5 hy ⟨o6,o7,B1,rfl,g5,elz5,hB,lB,okB⟩
   have il := (List.getElem?_eq_some_iff.mp hy).1
   rw [List.length_map] at il
   rw [List.getElem?_map] at hy
   obtain ⟨c,hc,rfl⟩ := Option.map_eq_some_iff.mp hy
   have er5 := g5 _ _ er
   refine ⟨_,rfl,lr,_,rfl,.inl (az.of er5),_,_,rfl,rfl,_,rfl,d2 (fun big => ?_) (fun _ => ⟨_,_,B1,rfl,g5,elz5,hB,by omega,okB⟩)⟩
   have mp := fm (a := c) (n := ((bs.map V.ref).length : Int)) (by omega)
   have mr := fm (a := c.fdiv 6) (n := ((bs.map V.ref).length : Int) - 1) (by omega)
   have mq := fm (a := c.fmod ((bs.map V.ref).length : Int) + 1 + (c.fdiv 6).fmod (((bs.map V.ref).length : Int) - 1)) (n := ((bs.map V.ref).length : Int)) (by omega)
   have ne := se mp.1 mp.2 mr.1 mr.2
   obtain ⟨bp,ep,rP⟩ := hB
   refine ⟨_,rfl,_,rfl,lr,_,rfl,.inl (az.of er5),_,_,rfl,rfl,(by omega),?_⟩
   refine ⟨_,rfl,.inl ⟨rfl,_,az.of ep⟩,_,rfl,_,rfl,_,_,rfl,rfl,_,rfl,_,_,rfl,rfl,⟨by decide,PyProof.noPylong_small (by decide)⟩,_,rfl,lr,_,rfl,.inl (az.of er5),_,_,rfl,rfl,_,_,rfl,rfl,(by omega),_,_,rfl,rfl,_,rfl,lr,_,rfl,.inl (az.of er5),_,_,rfl,rfl,(by omega),(by show 2 ≤ sizeLine; decide),fun t nt => ?_⟩
   have gt := fun o : HO => ag nt o
   refine ⟨lp,_,_,rfl,rfl,gt _ _ _ ep,by rw [List.length_map,rP.1]; omega,_,_,B1 ++ [[c.fmod ((bs.map V.ref).length : Int),(c.fmod ((bs.map V.ref).length : Int) + 1 + (c.fdiv 6).fmod (((bs.map V.ref).length : Int) - 1)).fmod ((bs.map V.ref).length : Int)]],rfl,f9 (g5.trans (gt _)) nlp _,by rw [aA nzp]; exact gt _ _ _ elz5,iu (gt _ _ _ ep) (rP.imp fun a k q => gt _ _ _ q) aj,by rw [List.length_append]; simp; omega,fun k hk => ?_⟩
   rcases List.mem_append.mp hk with h | h
   ·exact okB k h
   ·rw [List.mem_singleton.mp h]
    exact ⟨_,_,rfl,mp.1,by omega,mq.1,by omega,ne⟩
  ·rintro σ H5 ⟨o6,o7,B1,rfl,g5,elz5,hB,lB,okB⟩
   rw [List.length_map] at lB
   exact hN _ _ ⟨_,_,B1,rfl,g5,hB,lB,okB⟩
 clear g3 elp nlp
 rintro σ H4 ⟨o6,o7,B1,rfl,g4,hB,lB,okB⟩
 refine ⟨(by show 0 ≤ sizeLine; decide),fun l nl => ?_⟩
 have g5 := ag nl (.lst [])
 have e5 : aD H4 l (.lst []) l = some (.lst []) := aj
 generalize aD H4 l (.lst []) = H5 at g5 e5 ⊢
 have er5 := (g4.trans g5) _ _ er
 try dsimp only [cB,c7]
 refine cut (fun σ H' => ∃ (l : Addr) (o9 : Option V),σ = [some (.ref a),some (.ref td),some (.ref lt),some (.ref lr),some (.ref ml),some (.ref lp),o6,o7,some (.ref l),o9,none,none,none,none] ∧ aB H4 H' ∧ H' l = some (.lst ((aQ R []).map V.int))) (fun N hN => ?_) ?_
 ·refine ⟨_,rfl,lr,rfl,⟨_,az.of er5⟩,bq (xs := bs.map V.ref) (fun i σ H' => ∃ (l : Addr) (o9 : Option V),σ = [some (.ref a),some (.ref td),some (.ref lt),some (.ref lr),some (.ref ml),some (.ref lp),o6,o7,some (.ref l),o9,none,none,none,none] ∧ aB H4 H' ∧ H' l = some (.lst ((aQ (R.take i) []).map V.int))) ⟨l,none,rfl,g5,e5⟩ (fun i σ H' _ ⟨_,_,_,g,_⟩ => az.of ((g4.trans g) _ _ er)) ?_ ?_⟩
  ·rintro i y σ H6 hy ⟨l,o9,rfl,g6,e6⟩
   obtain ⟨b,hb,rfl⟩ := cf hy
   obtain ⟨r,hr',eb⟩ := eB rR hb
   have ll : ((aQ (R.take i) []).map V.int).length ≤ 12 := by rw [List.length_map,cx,List.length_take]; simp; omega
   have eb6 := (g4.trans g6) _ _ eb
   refine ⟨_,rfl,_,rfl,b,_,_,_,rfl,rfl,bc.of eb6,rfl,_,rfl,b,_,_,_,rfl,rfl,bc.of eb6,rfl,(by show 2 ≤ sizeLine; decide),fun p np => ⟨l,p,_,_,rfl,rfl,ag np _ _ _ e6,aj,by simp at ll ⊢; omega,fun l2 nl2 => ?_⟩⟩
   refine ⟨l2,_,rfl,(g6.trans (ag np _)).trans (ag nl2 _),?_⟩
   rw [aj,fq hr',List.map_append,List.map_append,List.append_assoc]
   rfl
  ·rintro σ H6 ⟨l,o9,rfl,g6,e6⟩
   rw [lnR,List.take_length] at e6
   exact hN _ _ ⟨l,_,rfl,g6,e6⟩
 clear g5 e5 er5 nl
 rintro σ H5 ⟨ls,o9,rfl,g5,e5⟩
 have k5 := g4.trans g5
 obtain ⟨cs2,ecs2,lcs2⟩ := jh ns (some 11) (some 17)
 refine ⟨_,rfl,_,rfl,_,rfl,a,_,rfl,(k2.trans k5).seq hS,fun lc nlc => ?_⟩
 rw [ecs2]
 have g6 := ag nlc (.lst (cs2.map V.int))
 have elc : aD H5 lc (.lst (cs2.map V.int)) lc = some (.lst (cs2.map V.int)) := aj
 generalize aD H5 lc (.lst (cs2.map V.int)) = H6 at g6 elc ⊢
 have lsp : (aQ R M).length = 2 * R.length + M.length := cx M R
 refine ⟨_,rfl,_,rfl,ls,ml,_,_,rfl,rfl,g6 _ _ e5,(k5.trans g6) _ _ em,?_,fun sp nsp => ?_⟩
 ·rw [List.length_map,List.length_map,cx]
  simp
  omega
 rw [← List.map_append,gc]
 have g7 := ag nsp (.lst ((aQ R M).map V.int))
 refine ⟨lc,sp,cs2,aQ R M,rfl,g7 _ _ elc,by omega,aj,fun la A1 H8 g8 hA lA okA => ?_⟩
 have k8 := (k5.trans g6).trans (g7.trans g8)
 have kA := (g5.trans g6).trans (g7.trans g8)
 have hB8 := hB.same kA
 have ed8 := k8 _ _ ed2
 have hT8 := hT.same k8
 have hR8 := hR.same k8
 have em8 := k8 _ _ em
 clear g4 g5 e5 k5 g6 elc nlc g7 g8 nsp kA hB k8 ed2 hT hR em er rR hS k2
 refine ⟨_,rfl,_,rfl,_,rfl,_,rfl,(by show 4 ≤ sizeLine; decide),fun mt nmt => ?_⟩
 have g9 := ag nmt (.tup [.ref td,.ref lt,.ref la,.ref lp])
 have made9 : Made (aD H8 mt (.tup [.ref td,.ref lt,.ref la,.ref lp])) mt td lt la lp D T A1 B1 := ⟨aj,g9 _ _ ed8,tok,hT8.same g9,hA.same g9,hB8.same g9⟩
 have hR9 := hR8.same g9
 have em9 := g9 _ _ em8
 generalize aD H8 mt (.tup [.ref td,.ref lt,.ref la,.ref lp]) = H9 at made9 hR9 em9 ⊢
 clear g9 nmt ed8 hT8 hA hB8 hR8 em8
 refine ⟨_,rfl,td,_,rfl,made9.tools,fun td2 ntd2 => ?_⟩
 have h1 := ag ntd2 (.dK (a8 D))
 have ed2 : aD H9 td2 (.dK (a8 D)) td2 = some (.dK (a8 D)) := aj
 generalize aD H9 td2 (.dK (a8 D)) = H5 at h1 ed2 ⊢
 obtain ⟨vt,et,rT⟩ := made9.tasks.same h1
 have t6 := run.len
 refine ⟨_,rfl,lt,rfl,⟨_,az.of et⟩,dr (kU gX) (fun a => An a ∧ H5 a ≠ none) (fun i => T.getD i []) (az.of et) (by rw [rT.1]; omega) (fun a h => h.2) (fun i y hy H6 g6 Q' hQ => ?_) fun tl2 H6 ntl2 g6 hT2 => ?_⟩
 ·obtain ⟨ws,hw,l,rfl,_,us,el,rl'⟩ := rT.at_ hy
  rw [bf hw] at hQ
  have rl2 := rl'.imp fun _ _ q => wa q
  refine ⟨_,rfl,l,us,rfl,.inl (az.of (g6 _ _ el)),fun p np => ?_⟩
  have gp := ag np (.lst us)
  exact hQ _ _ gp ⟨p,rfl,.inl np,us,aj,rl2.imp fun v e q => oo (gk q (g6.trans gp)) fun a h => .inr h⟩
 rw [gD T [] rT.1] at hT2
 have hT2' := hT2.any
 obtain ⟨ba,ea,ra⟩ := made9.arcs.same (h1.trans g6)
 refine ⟨_,rfl,la,_,rfl,.inl (az.of ea),fun la2 nla2 => ?_⟩
 have h3 := ag nla2 (.lst (ba.map V.ref))
 have hA2 : bu (aD H6 la2 (.lst (ba.map V.ref))) la2 A1 := ⟨ba,aj,ra.imp fun a k q => h3 _ _ q⟩
 generalize aD H6 la2 (.lst (ba.map V.ref)) = H7 at h3 hA2 ⊢
 have h7 := (h1.trans g6).trans h3
 obtain ⟨bb,eb,rb⟩ := made9.apart.same h7
 refine ⟨_,rfl,lp,_,rfl,.inl (az.of eb),fun lp2 nlp2 => ?_⟩
 have g8 := ag nlp2 (.lst (bb.map V.ref))
 have hP2 : bu (aD H7 lp2 (.lst (bb.map V.ref))) lp2 B1 := ⟨bb,aj,rb.imp fun a k q => g8 _ _ q⟩
 generalize aD H7 lp2 (.lst (bb.map V.ref)) = H8 at g8 hP2 ⊢
 have h8 := h7.trans g8
 refine ⟨_,rfl,ml,_,rfl,.inl (az.of (h8 _ _ em9)),?_⟩
 have pl := run.pok.len
 have okA' : ∀ k ∈ A1,mV (2 * (R.length : Int) + M.length) k := fun k hk => by
  have := okA k hk
  rw [lsp] at this
  have e : ((2 * R.length + M.length : Nat) : Int) = 2 * (R.length : Int) + M.length := by omega
  rw [e] at this
  exact this
 have nok : jO D T A1 B1 (M.length : Int) := ⟨by have := tok.1; omega,tok.2.1,tok.2.2,by omega,fun ws hw => ⟨(run.way ws hw).1,(run.way ws hw).2.1,fun w hww => by
  obtain ⟨a1,a2,a3⟩ := (run.way ws hw).2.2 w hww
  exact ⟨by omega,by omega,by omega,a3⟩⟩,by omega,by omega,by omega,fun k hk => by
  obtain ⟨p,q,g,e,p0,p1,q0,q1,r⟩ := okA' k hk
  exact ⟨p,q,g,e,p0,by omega,q0,by omega,r⟩,by omega,fun k hk => by
  obtain ⟨p,q,e,p0,p1,q0,q1,r⟩ := okB k hk
  exact ⟨p,q,e,p0,by omega,q0,by omega,r⟩⟩
 refine fun x dx nx ndx dxx => ?_
 have sm := iw (C := c_Net) nx ndx (H' := aD (aD H8 dx (.own x)) x (.ins c_Net dx [])) (fun a o _ e => e)
 have lMm : (M.map V.int).length = M.length := List.length_map _
 refine ⟨x,dx,td2,tl2,la2,.ref lp2,_,D,T,A1,B1,rfl,aj,sm _ _ (((g6.trans h3).trans g8) _ _ ed2),(hT2'.same (h3.trans g8)).same sm,(hA2.same g8).same sm,.inr ⟨lp2,rfl,hP2.same sm⟩,by rw [lMm]; exact nok,fun HN fx N => ⟨rfl,?_⟩⟩
 rw [lMm] at N
 have h9 := h8.trans (iw nx ndx fx)
 have hway : ∀ ws ∈ T,∀ w ∈ ws,w.1 = 1 ∧ w.2.1 = 1000000000 := fun ws hw w hww => ⟨((run.way ws hw).2.2 w hww).1,((run.way ws hw).2.2 w hww).2.1⟩
 have r54 : uO c_Net HN x mt td lt la lp D T A1 B1 M.length := ⟨N,nok,made9.same h9,hway⟩
 have okP : nh R.length B1 := fun k hk => by
  obtain ⟨p,q,e,p0,p1,q0,q1,_⟩ := okB k hk
  exact ⟨p,q,e,p0,p1,q0,q1⟩
 have times : dQ HN lr ml la lp R M A1 B1 := ⟨hR9.same h9,by omega,h9 _ _ em9,by omega,r54.made.arcs,by omega,okA',r54.made.apart,by omega,okP⟩
 have long : ∀ r ∈ R,r.2.1 - r.1 ≤ 1000000000 := fun r hr => by have := run.long r hr; omega
 clear sm fx h9 h8 h7 h3 h1 ed2 hT2 hT2' hA2 hP2 ea ra eb rb et rT nx ndx dxx g6 g8 N hR9 em9 made9
 obtain ⟨bs',er',rR'⟩ := id times.runs
 have lnR' : (bs'.map V.ref).length = R.length := by rw [List.length_map,rR'.1,List.length_map]
 refine ⟨_,rfl,lr,_,rfl,.inl (az.of er'),_,rfl,by omega,by omega,iC (mx fun k : Ky => k.map V.int) (fun _ => False) (fun i => rk (iU R i)) jA.no (by omega) (fun a h => h.elim) (fun i hi H3 g Q' hQ => ?_) fun ll HL nll gL hL => ?_⟩
 ·rw [Int.toNat_natCast,lnR'] at hi
  have hr' := List.getElem?_eq_getElem hi
  obtain ⟨b,hb,eb0⟩ := run_get rR' hr'
  generalize R[i] = r at hr' eb0
  have e : rk (iU R i) = [r.1 + 3 * (0 + (i : Int)),r.2.1 + 3 * (0 + (i : Int)),r.2.2] := by
   unfold iU
   rw [bf hr',Int.zero_add]
   rfl
  rw [e] at hQ
  have ab : fb (bs'.map V.ref) (0 + (i : Int)) = some (.ref b) := bU (a5 hb)
  refine ⟨_,rfl,_,rfl,lr,_,_,_,rfl,rfl,az.of (g _ _ er'),ab,b,_,_,_,rfl,rfl,bc.of (g _ _ eb0),rfl,_,rfl,_,_,rfl,rfl,IntMulOk.of_left (by decide),_,_,rfl,rfl,_,rfl,_,rfl,lr,_,_,_,rfl,rfl,az.of (g _ _ er'),ab,b,_,_,_,rfl,rfl,bc.of (g _ _ eb0),rfl,_,rfl,_,_,rfl,rfl,IntMulOk.of_left (by decide),_,_,rfl,rfl,_,rfl,_,rfl,lr,_,_,_,rfl,rfl,az.of (g _ _ er'),ab,b,_,_,_,rfl,rfl,bc.of (g _ _ eb0),rfl,(by show 3 ≤ sizeLine; decide),fun t nt => hQ _ _ (ag nt _) ⟨t,rfl,.inl nt,aj⟩⟩
 rw [Int.toNat_natCast,lnR'] at hL
 have hL' : bu HL ll ((dA R).map rk) := by
  have := uM hL
  have e : (dA R).map rk = (List.range R.length).map fun i => rk (iU R i) := by unfold dA; rw [List.map_map]; rfl
  rw [e]
  exact this
 refine ⟨_,rfl,_,rfl,_,rfl,_,rfl,x,mt,td,lt,la,lp,lr,ml,D,T,A1,B1,R,M,rfl,r54.same gL,times.same gL,run.pok,long,fun H1 g1 => ⟨_,rfl,cQ ?_⟩⟩
 have kL := gL.trans g1
 refine ⟨_,rfl,_,rfl,_,rfl,_,rfl,ml,rfl,⟨_,az.of (kL _ _ times.mom)⟩,dr (kW V.int) (fun _ => False) (fun i => M.getD i 0 + 2) (az.of (kL _ _ times.mom)) (by rw [List.length_map]; omega) (fun a h => h.elim) (fun j y hy H8 g Q' hQ => ?_) fun p H2 np g2 hp => ?_⟩
 ·rw [List.getElem?_map] at hy
  obtain ⟨t,ht,rfl⟩ := Option.map_eq_some_iff.mp hy
  rw [bf ht] at hQ
  exact ⟨_,rfl,_,_,rfl,rfl,hQ _ _ (.refl _) rfl⟩
 obtain ⟨ps,ep,rp⟩ := hp
 rw [rp.val] at ep
 have lM2 : ((List.range (M.map V.int).length).map fun i => M.getD i 0 + 2).length = M.length := by rw [List.length_map,List.length_range,List.length_map]
 generalize (List.range (M.map V.int).length).map (fun i => M.getD i 0 + 2) = M2 at ep lM2
 have k3 := kL.trans g2
 have I3 := times.same k3
 have ll' := fD R
 refine ⟨x,mt,td,lt,la,lp,ll,p,D,T,A1,B1,dA R,M2,rfl,by rw [lM2]; exact r54.same k3,⟨(hL'.same g1).same g2,by omega,ep,by omega,I3.arcs,by omega,by rw [ll',lM2]; exact okA',I3.apart,by omega,by rw [ll']; exact okP⟩,oB run.pok,mF long,fun H4 g4 => ⟨_,rfl,cQ ?_⟩⟩
 have k4 := k3.trans g4
 exact ⟨_,rfl,_,rfl,_,rfl,_,rfl,x,mt,td,lt,la,lp,lr,ml,D,T,A1,B1,R,M,rfl,r54.same k4,times.same k4,run.pok,long,fun H5 g5 => q _⟩
end
set_option maxHeartbeats 4000000 in
theorem tM {l : PySem.W.OpenLaw} {w : World} {K : PySem.W.Frag} {h : Heap} {mg : Str → Option Value} {fa fZ0 fZ1 fZ2 fZ3 fZ4 fZ5 fZ6 fZ7 fZ9 fZ10 fZ11 fZ12 fZ13 fZ14 fZ15 fZ16 fZ17 fZ18 fZ19 fZ20 fZ21 fZ22 fZ23 fZ24 fZ25 fZ26 fZ27 fZ28 fZ29 fZ30 fZ31 fZ32 fZ33 fZ34 fZ35 fZ36 fZ37 flaw c_Net f_Z8 : Addr} (X : K.In h) (G : h.Ns mainGlobals mg) (hfa : mg "law" = some (.ref fa))
  {odZ0 anZ0 odZ1 anZ1 odZ2 anZ2 odZ3 anZ3 odZ4 anZ4 odZ5 anZ5 odZ6 anZ6 odZ7 anZ7 odZ9 anZ9 odZ10 anZ10 odZ11 anZ11 odZ12 anZ12 odZ13 anZ13 odZ14 anZ14 odZ15 anZ15 odZ16 anZ16 odZ17 anZ17 odZ18 anZ18 odZ19 anZ19 odZ20 anZ20 odZ21 anZ21 odZ22 anZ22 odZ23 anZ23 odZ24 anZ24 odZ25 anZ25 odZ26 anZ26 odZ27 anZ27 odZ28 anZ28 odZ29 anZ29 odZ30 anZ30 odZ31 anZ31 odZ32 anZ32 odZ33 anZ33 odZ34 anZ34 odZ35 anZ35 odZ36 anZ36 odZ37 anZ37 odlaw anlaw odZ8 anZ8 : Option Addr} {slZ0 slZ1 slZ2 slZ3 slZ4 slZ5 slZ6 slZ7 slZ9 slZ10 slZ11 slZ12 slZ13 slZ14 slZ15 slZ16 slZ17 slZ18 slZ19 slZ20 slZ21 slZ22 slZ23 slZ24 slZ25 slZ26 slZ27 slZ28 slZ29 slZ30 slZ31 slZ32 slZ33 slZ34 slZ35 slZ36 slZ37 sllaw slZ8 : Array (Option Value)} {ocZ0 kVZ0 dcZ0 pmZ0 cdZ0 ctZ0 ocZ1 kVZ1 dcZ1 pmZ1 cdZ1 ctZ1 ocZ2 kVZ2 dcZ2 pmZ2 cdZ2 ctZ2 ocZ3 kVZ3 dcZ3 pmZ3 cdZ3 ctZ3 ocZ4 kVZ4 dcZ4 pmZ4 cdZ4 ctZ4 ocZ5 kVZ5 dcZ5 pmZ5 cdZ5 ctZ5 ocZ6 kVZ6 dcZ6 pmZ6 cdZ6 ctZ6 ocZ7 kVZ7 dcZ7 pmZ7 cdZ7 ctZ7 ocZ9 kVZ9 dcZ9 pmZ9 cdZ9 ctZ9 ocZ10 kVZ10 dcZ10 pmZ10 cdZ10 ctZ10 ocZ11 kVZ11 dcZ11 pmZ11 cdZ11 ctZ11 ocZ12 kVZ12 dcZ12 pmZ12 cdZ12 ctZ12 ocZ13 kVZ13 dcZ13 pmZ13 cdZ13 ctZ13 ocZ14 kVZ14 dcZ14 pmZ14 cdZ14 ctZ14 ocZ15 kVZ15 dcZ15 pmZ15 cdZ15 ctZ15 ocZ16 kVZ16 dcZ16 pmZ16 cdZ16 ctZ16 ocZ17 kVZ17 dcZ17 pmZ17 cdZ17 ctZ17 ocZ18 kVZ18 dcZ18 pmZ18 cdZ18 ctZ18 ocZ19 kVZ19 dcZ19 pmZ19 cdZ19 ctZ19 ocZ20 kVZ20 dcZ20 pmZ20 cdZ20 ctZ20 ocZ21 kVZ21 dcZ21 pmZ21 cdZ21 ctZ21 ocZ22 kVZ22 dcZ22 pmZ22 cdZ22 ctZ22 ocZ23 kVZ23 dcZ23 pmZ23 cdZ23 ctZ23 ocZ24 kVZ24 dcZ24 pmZ24 cdZ24 ctZ24 ocZ25 kVZ25 dcZ25 pmZ25 cdZ25 ctZ25 ocZ26 kVZ26 dcZ26 pmZ26 cdZ26 ctZ26 ocZ27 kVZ27 dcZ27 pmZ27 cdZ27 ctZ27 ocZ28 kVZ28 dcZ28 pmZ28 cdZ28 ctZ28 ocZ29 kVZ29 dcZ29 pmZ29 cdZ29 ctZ29 ocZ30 kVZ30 dcZ30 pmZ30 cdZ30 ctZ30 ocZ31 kVZ31 dcZ31 pmZ31 cdZ31 ctZ31 ocZ32 kVZ32 dcZ32 pmZ32 cdZ32 ctZ32 ocZ33 kVZ33 dcZ33 pmZ33 cdZ33 ctZ33 ocZ34 kVZ34 dcZ34 pmZ34 cdZ34 ctZ34 ocZ35 kVZ35 dcZ35 pmZ35 cdZ35 ctZ35 ocZ36 kVZ36 dcZ36 pmZ36 cdZ36 ctZ36 ocZ37 kVZ37 dcZ37 pmZ37 cdZ37 ctZ37 oclaw kVlaw dclaw pmlaw cdlaw ctlaw ocZ8 kVZ8 dcZ8 pmZ8 cdZ8 ctZ8 : Value}
  {tk_LETTERS : Tok}
  {tk_MOST_LETTERS : Tok}
  {tk_MOST_TASKS : Tok}
  {tk_MOST_TOOLS : Tok}
  {tk_MOST_PIECES : Tok}
  {tk_MOST_WAYS : Tok}
  {tk_MOST_MOMENTS : Tok}
  {tk_MOST_ARCS : Tok}
  {tk_MOST_APART : Tok}
  {tk_GREATEST : Tok}
  {TZ8 : Addr} {ToZ8 : Value} {TdZ8 : Option Addr} {TnZ8 : Nat} {TsZ8 : Array (Option Value)} {TtZ8 : Tok}
  (aZ0 : PySem.W.nsIn K mainGlobals "is_name" = some (some (.ref fZ0)))
  (lZ0 : K.lookup fZ0 = some ⟨ocZ0,odZ0,.func (PySem.W.fnOf "is_name" "is_name" (aK tP) (aJ tP) (ak tP) .none kVZ0 dcZ0 pmZ0 anZ0 cdZ0 ctZ0),slZ0⟩) (cZ0 : PySem.W.codeIn K cdZ0 "is_name" = true) (kZ0 : PySem.W.keepIn K (.ref fZ0) = true)
  (aZ1 : PySem.W.nsIn K mainGlobals "points_of" = some (some (.ref fZ1)))
  (lZ1 : K.lookup fZ1 = some ⟨ocZ1,odZ1,.func (PySem.W.fnOf "points_of" "points_of" (aK tQ) (aJ tQ) (ak tQ) .none kVZ1 dcZ1 pmZ1 anZ1 cdZ1 ctZ1),slZ1⟩) (cZ1 : PySem.W.codeIn K cdZ1 "points_of" = true) (kZ1 : PySem.W.keepIn K (.ref fZ1) = true)
  (aZ2 : PySem.W.nsIn K mainGlobals "copy_of_task" = some (some (.ref fZ2)))
  (lZ2 : K.lookup fZ2 = some ⟨ocZ2,odZ2,.func (PySem.W.fnOf "copy_of_task" "copy_of_task" (aK tR) (aJ tR) (ak tR) .none kVZ2 dcZ2 pmZ2 anZ2 cdZ2 ctZ2),slZ2⟩) (cZ2 : PySem.W.codeIn K cdZ2 "copy_of_task" = true) (kZ2 : PySem.W.keepIn K (.ref fZ2) = true)
  (aZ3 : PySem.W.nsIn K mainGlobals "refuse_wrong_tools" = some (some (.ref fZ3)))
  (lZ3 : K.lookup fZ3 = some ⟨ocZ3,odZ3,.func (PySem.W.fnOf "refuse_wrong_tools" "refuse_wrong_tools" (aK tT) (aJ tT) (ak tT) .none kVZ3 dcZ3 pmZ3 anZ3 cdZ3 ctZ3),slZ3⟩) (cZ3 : PySem.W.codeIn K cdZ3 "refuse_wrong_tools" = true) (kZ3 : PySem.W.keepIn K (.ref fZ3) = true)
  (aZ4 : PySem.W.nsIn K mainGlobals "refuse_wrong_uses" = some (some (.ref fZ4)))
  (lZ4 : K.lookup fZ4 = some ⟨ocZ4,odZ4,.func (PySem.W.fnOf "refuse_wrong_uses" "refuse_wrong_uses" (aK tU) (aJ tU) (ak tU) .none kVZ4 dcZ4 pmZ4 anZ4 cdZ4 ctZ4),slZ4⟩) (cZ4 : PySem.W.codeIn K cdZ4 "refuse_wrong_uses" = true) (kZ4 : PySem.W.keepIn K (.ref fZ4) = true)
  (aZ5 : PySem.W.nsIn K mainGlobals "refuse_wrong_tasks" = some (some (.ref fZ5)))
  (lZ5 : K.lookup fZ5 = some ⟨ocZ5,odZ5,.func (PySem.W.fnOf "refuse_wrong_tasks" "refuse_wrong_tasks" (aK tV) (aJ tV) (ak tV) .none kVZ5 dcZ5 pmZ5 anZ5 cdZ5 ctZ5),slZ5⟩) (cZ5 : PySem.W.codeIn K cdZ5 "refuse_wrong_tasks" = true) (kZ5 : PySem.W.keepIn K (.ref fZ5) = true)
  (aZ6 : PySem.W.nsIn K mainGlobals "refuse_wrong_arcs" = some (some (.ref fZ6)))
  (lZ6 : K.lookup fZ6 = some ⟨ocZ6,odZ6,.func (PySem.W.fnOf "refuse_wrong_arcs" "refuse_wrong_arcs" (aK tW) (aJ tW) (ak tW) .none kVZ6 dcZ6 pmZ6 anZ6 cdZ6 ctZ6),slZ6⟩) (cZ6 : PySem.W.codeIn K cdZ6 "refuse_wrong_arcs" = true) (kZ6 : PySem.W.keepIn K (.ref fZ6) = true)
  (aZ7 : PySem.W.nsIn K mainGlobals "refuse_wrong_pairs" = some (some (.ref fZ7)))
  (lZ7 : K.lookup fZ7 = some ⟨ocZ7,odZ7,.func (PySem.W.fnOf "refuse_wrong_pairs" "refuse_wrong_pairs" (aK tX) (aJ tX) (ak tX) .none kVZ7 dcZ7 pmZ7 anZ7 cdZ7 ctZ7),slZ7⟩) (cZ7 : PySem.W.codeIn K cdZ7 "refuse_wrong_pairs" = true) (kZ7 : PySem.W.keepIn K (.ref fZ7) = true)
  (aZ9 : PySem.W.nsIn K mainGlobals "use_in" = some (some (.ref fZ9)))
  (lZ9 : K.lookup fZ9 = some ⟨ocZ9,odZ9,.func (PySem.W.fnOf "use_in" "use_in" (aK tZ) (aJ tZ) (ak tZ) .none kVZ9 dcZ9 pmZ9 anZ9 cdZ9 ctZ9),slZ9⟩) (cZ9 : PySem.W.codeIn K cdZ9 "use_in" = true) (kZ9 : PySem.W.keepIn K (.ref fZ9) = true)
  (aZ10 : PySem.W.nsIn K mainGlobals "is_plan" = some (some (.ref fZ10)))
  (lZ10 : K.lookup fZ10 = some ⟨ocZ10,odZ10,.func (PySem.W.fnOf "is_plan" "is_plan" (aK oE) (aJ oE) (ak oE) .none kVZ10 dcZ10 pmZ10 anZ10 cdZ10 ctZ10),slZ10⟩) (cZ10 : PySem.W.codeIn K cdZ10 "is_plan" = true) (kZ10 : PySem.W.keepIn K (.ref fZ10) = true)
  (aZ11 : PySem.W.nsIn K mainGlobals "time_of" = some (some (.ref fZ11)))
  (lZ11 : K.lookup fZ11 = some ⟨ocZ11,odZ11,.func (PySem.W.fnOf "time_of" "time_of" (aK oF) (aJ oF) (ak oF) .none kVZ11 dcZ11 pmZ11 anZ11 cdZ11 ctZ11),slZ11⟩) (cZ11 : PySem.W.codeIn K cdZ11 "time_of" = true) (kZ11 : PySem.W.keepIn K (.ref fZ11) = true)
  (aZ12 : PySem.W.nsIn K mainGlobals "runs_meet" = some (some (.ref fZ12)))
  (lZ12 : K.lookup fZ12 = some ⟨ocZ12,odZ12,.func (PySem.W.fnOf "runs_meet" "runs_meet" (aK oG) (aJ oG) (ak oG) .none kVZ12 dcZ12 pmZ12 anZ12 cdZ12 ctZ12),slZ12⟩) (cZ12 : PySem.W.codeIn K cdZ12 "runs_meet" = true) (kZ12 : PySem.W.keepIn K (.ref fZ12) = true)
  (aZ13 : PySem.W.nsIn K mainGlobals "goes_on" = some (some (.ref fZ13)))
  (lZ13 : K.lookup fZ13 = some ⟨ocZ13,odZ13,.func (PySem.W.fnOf "goes_on" "goes_on" (aK oH) (aJ oH) (ak oH) .none kVZ13 dcZ13 pmZ13 anZ13 cdZ13 ctZ13),slZ13⟩) (cZ13 : PySem.W.codeIn K cdZ13 "goes_on" = true) (kZ13 : PySem.W.keepIn K (.ref fZ13) = true)
  (aZ14 : PySem.W.nsIn K mainGlobals "use_of" = some (some (.ref fZ14)))
  (lZ14 : K.lookup fZ14 = some ⟨ocZ14,odZ14,.func (PySem.W.fnOf "use_of" "use_of" (aK oI) (aJ oI) (ak oI) .none kVZ14 dcZ14 pmZ14 anZ14 cdZ14 ctZ14),slZ14⟩) (cZ14 : PySem.W.codeIn K cdZ14 "use_of" = true) (kZ14 : PySem.W.keepIn K (.ref fZ14) = true)
  (aZ15 : PySem.W.nsIn K mainGlobals "breaches_of_turns" = some (some (.ref fZ15)))
  (lZ15 : K.lookup fZ15 = some ⟨ocZ15,odZ15,.func (PySem.W.fnOf "breaches_of_turns" "breaches_of_turns" (aK oJ) (aJ oJ) (ak oJ) .none kVZ15 dcZ15 pmZ15 anZ15 cdZ15 ctZ15),slZ15⟩) (cZ15 : PySem.W.codeIn K cdZ15 "breaches_of_turns" = true) (kZ15 : PySem.W.keepIn K (.ref fZ15) = true)
  (aZ16 : PySem.W.nsIn K mainGlobals "breaches_of_arcs" = some (some (.ref fZ16)))
  (lZ16 : K.lookup fZ16 = some ⟨ocZ16,odZ16,.func (PySem.W.fnOf "breaches_of_arcs" "breaches_of_arcs" (aK oK) (aJ oK) (ak oK) .none kVZ16 dcZ16 pmZ16 anZ16 cdZ16 ctZ16),slZ16⟩) (cZ16 : PySem.W.codeIn K cdZ16 "breaches_of_arcs" = true) (kZ16 : PySem.W.keepIn K (.ref fZ16) = true)
  (aZ17 : PySem.W.nsIn K mainGlobals "breaches_of_apart" = some (some (.ref fZ17)))
  (lZ17 : K.lookup fZ17 = some ⟨ocZ17,odZ17,.func (PySem.W.fnOf "breaches_of_apart" "breaches_of_apart" (aK oM) (aJ oM) (ak oM) .none kVZ17 dcZ17 pmZ17 anZ17 cdZ17 ctZ17),slZ17⟩) (cZ17 : PySem.W.codeIn K cdZ17 "breaches_of_apart" = true) (kZ17 : PySem.W.keepIn K (.ref fZ17) = true)
  (aZ18 : PySem.W.nsIn K mainGlobals "in_use" = some (some (.ref fZ18)))
  (lZ18 : K.lookup fZ18 = some ⟨ocZ18,odZ18,.func (PySem.W.fnOf "in_use" "in_use" (aK oN) (aJ oN) (ak oN) .none kVZ18 dcZ18 pmZ18 anZ18 cdZ18 ctZ18),slZ18⟩) (cZ18 : PySem.W.codeIn K cdZ18 "in_use" = true) (kZ18 : PySem.W.keepIn K (.ref fZ18) = true)
  (aZ19 : PySem.W.nsIn K mainGlobals "breaches_of_tool" = some (some (.ref fZ19)))
  (lZ19 : K.lookup fZ19 = some ⟨ocZ19,odZ19,.func (PySem.W.fnOf "breaches_of_tool" "breaches_of_tool" (aK oO) (aJ oO) (ak oO) .none kVZ19 dcZ19 pmZ19 anZ19 cdZ19 ctZ19),slZ19⟩) (cZ19 : PySem.W.codeIn K cdZ19 "breaches_of_tool" = true) (kZ19 : PySem.W.keepIn K (.ref fZ19) = true)
  (aZ20 : PySem.W.nsIn K mainGlobals "breaches_of_heat" = some (some (.ref fZ20)))
  (lZ20 : K.lookup fZ20 = some ⟨ocZ20,odZ20,.func (PySem.W.fnOf "breaches_of_heat" "breaches_of_heat" (aK oP) (aJ oP) (ak oP) .none kVZ20 dcZ20 pmZ20 anZ20 cdZ20 ctZ20),slZ20⟩) (cZ20 : PySem.W.codeIn K cdZ20 "breaches_of_heat" = true) (kZ20 : PySem.W.keepIn K (.ref fZ20) = true)
  (aZ21 : PySem.W.nsIn K mainGlobals "breaches" = some (some (.ref fZ21)))
  (lZ21 : K.lookup fZ21 = some ⟨ocZ21,odZ21,.func (PySem.W.fnOf "breaches" "breaches" (aK oQ) (aJ oQ) (ak oQ) .none kVZ21 dcZ21 pmZ21 anZ21 cdZ21 ctZ21),slZ21⟩) (cZ21 : PySem.W.codeIn K cdZ21 "breaches" = true) (kZ21 : PySem.W.keepIn K (.ref fZ21) = true)
  (aZ22 : PySem.W.nsIn K mainGlobals "plan_fits" = some (some (.ref fZ22)))
  (lZ22 : K.lookup fZ22 = some ⟨ocZ22,odZ22,.func (PySem.W.fnOf "plan_fits" "plan_fits" (aK oR) (aJ oR) (ak oR) .none kVZ22 dcZ22 pmZ22 anZ22 cdZ22 ctZ22),slZ22⟩) (cZ22 : PySem.W.codeIn K cdZ22 "plan_fits" = true) (kZ22 : PySem.W.keepIn K (.ref fZ22) = true)
  (aZ23 : PySem.W.nsIn K mainGlobals "_law_cell_at" = some (some (.ref fZ23)))
  (lZ23 : K.lookup fZ23 = some ⟨ocZ23,odZ23,.func (PySem.W.fnOf "_law_cell_at" "_law_cell_at" (aK oS) (aJ oS) (ak oS) .none kVZ23 dcZ23 pmZ23 anZ23 cdZ23 ctZ23),slZ23⟩) (cZ23 : PySem.W.codeIn K cdZ23 "_law_cell_at" = true) (kZ23 : PySem.W.keepIn K (.ref fZ23) = true)
  (aZ24 : PySem.W.nsIn K mainGlobals "_law_drawn" = some (some (.ref fZ24)))
  (lZ24 : K.lookup fZ24 = some ⟨ocZ24,odZ24,.func (PySem.W.fnOf "_law_drawn" "_law_drawn" (aK oT) (aJ oT) (ak oT) .none kVZ24 dcZ24 pmZ24 anZ24 cdZ24 ctZ24),slZ24⟩) (cZ24 : PySem.W.codeIn K cdZ24 "_law_drawn" = true) (kZ24 : PySem.W.keepIn K (.ref fZ24) = true)
  (aZ25 : PySem.W.nsIn K mainGlobals "_law_tools" = some (some (.ref fZ25)))
  (lZ25 : K.lookup fZ25 = some ⟨ocZ25,odZ25,.func (PySem.W.fnOf "_law_tools" "_law_tools" (aK oU) (aJ oU) (ak oU) .none kVZ25 dcZ25 pmZ25 anZ25 cdZ25 ctZ25),slZ25⟩) (cZ25 : PySem.W.codeIn K cdZ25 "_law_tools" = true) (kZ25 : PySem.W.keepIn K (.ref fZ25) = true)
  (aZ26 : PySem.W.nsIn K mainGlobals "_law_way" = some (some (.ref fZ26)))
  (lZ26 : K.lookup fZ26 = some ⟨ocZ26,odZ26,.func (PySem.W.fnOf "_law_way" "_law_way" (aK oV) (aJ oV) (ak oV) .none kVZ26 dcZ26 pmZ26 anZ26 cdZ26 ctZ26),slZ26⟩) (cZ26 : PySem.W.codeIn K cdZ26 "_law_way" = true) (kZ26 : PySem.W.keepIn K (.ref fZ26) = true)
  (aZ27 : PySem.W.nsIn K mainGlobals "_law_meet" = some (some (.ref fZ27)))
  (lZ27 : K.lookup fZ27 = some ⟨ocZ27,odZ27,.func (PySem.W.fnOf "_law_meet" "_law_meet" (aK oW) (aJ oW) (ak oW) .none kVZ27 dcZ27 pmZ27 anZ27 cdZ27 ctZ27),slZ27⟩) (cZ27 : PySem.W.codeIn K cdZ27 "_law_meet" = true) (kZ27 : PySem.W.keepIn K (.ref fZ27) = true)
  (aZ28 : PySem.W.nsIn K mainGlobals "_law_use" = some (some (.ref fZ28)))
  (lZ28 : K.lookup fZ28 = some ⟨ocZ28,odZ28,.func (PySem.W.fnOf "_law_use" "_law_use" (aK oX) (aJ oX) (ak oX) .none kVZ28 dcZ28 pmZ28 anZ28 cdZ28 ctZ28),slZ28⟩) (cZ28 : PySem.W.codeIn K cdZ28 "_law_use" = true) (kZ28 : PySem.W.keepIn K (.ref fZ28) = true)
  (aZ29 : PySem.W.nsIn K mainGlobals "_law_times_due" = some (some (.ref fZ29)))
  (lZ29 : K.lookup fZ29 = some ⟨ocZ29,odZ29,.func (PySem.W.fnOf "_law_times_due" "_law_times_due" (aK oY) (aJ oY) (ak oY) .none kVZ29 dcZ29 pmZ29 anZ29 cdZ29 ctZ29),slZ29⟩) (cZ29 : PySem.W.codeIn K cdZ29 "_law_times_due" = true) (kZ29 : PySem.W.keepIn K (.ref fZ29) = true)
  (aZ30 : PySem.W.nsIn K mainGlobals "_law_tools_due" = some (some (.ref fZ30)))
  (lZ30 : K.lookup fZ30 = some ⟨ocZ30,odZ30,.func (PySem.W.fnOf "_law_tools_due" "_law_tools_due" (aK oZ) (aJ oZ) (ak oZ) .none kVZ30 dcZ30 pmZ30 anZ30 cdZ30 ctZ30),slZ30⟩) (cZ30 : PySem.W.codeIn K cdZ30 "_law_tools_due" = true) (kZ30 : PySem.W.keepIn K (.ref fZ30) = true)
  (aZ31 : PySem.W.nsIn K mainGlobals "_law_heats_due" = some (some (.ref fZ31)))
  (lZ31 : K.lookup fZ31 = some ⟨ocZ31,odZ31,.func (PySem.W.fnOf "_law_heats_due" "_law_heats_due" (aK pb) (aJ pb) (ak pb) .none kVZ31 dcZ31 pmZ31 anZ31 cdZ31 ctZ31),slZ31⟩) (cZ31 : PySem.W.codeIn K cdZ31 "_law_heats_due" = true) (kZ31 : PySem.W.keepIn K (.ref fZ31) = true)
  (aZ32 : PySem.W.nsIn K mainGlobals "_law_told" = some (some (.ref fZ32)))
  (lZ32 : K.lookup fZ32 = some ⟨ocZ32,odZ32,.func (PySem.W.fnOf "_law_told" "_law_told" (aK pd) (aJ pd) (ak pd) .none kVZ32 dcZ32 pmZ32 anZ32 cdZ32 ctZ32),slZ32⟩) (cZ32 : PySem.W.codeIn K cdZ32 "_law_told" = true) (kZ32 : PySem.W.keepIn K (.ref fZ32) = true)
  (aZ33 : PySem.W.nsIn K mainGlobals "_law_meets_told" = some (some (.ref fZ33)))
  (lZ33 : K.lookup fZ33 = some ⟨ocZ33,odZ33,.func (PySem.W.fnOf "_law_meets_told" "_law_meets_told" (aK pe) (aJ pe) (ak pe) .none kVZ33 dcZ33 pmZ33 anZ33 cdZ33 ctZ33),slZ33⟩) (cZ33 : PySem.W.codeIn K cdZ33 "_law_meets_told" = true) (kZ33 : PySem.W.keepIn K (.ref fZ33) = true)
  (aZ34 : PySem.W.nsIn K mainGlobals "_law_arcs" = some (some (.ref fZ34)))
  (lZ34 : K.lookup fZ34 = some ⟨ocZ34,odZ34,.func (PySem.W.fnOf "_law_arcs" "_law_arcs" (aK ph) (aJ ph) (ak ph) .none kVZ34 dcZ34 pmZ34 anZ34 cdZ34 ctZ34),slZ34⟩) (cZ34 : PySem.W.codeIn K cdZ34 "_law_arcs" = true) (kZ34 : PySem.W.keepIn K (.ref fZ34) = true)
  (aZ35 : PySem.W.nsIn K mainGlobals "_law_runs" = some (some (.ref fZ35)))
  (lZ35 : K.lookup fZ35 = some ⟨ocZ35,odZ35,.func (PySem.W.fnOf "_law_runs" "_law_runs" (aK pi) (aJ pi) (ak pi) .none kVZ35 dcZ35 pmZ35 anZ35 cdZ35 ctZ35),slZ35⟩) (cZ35 : PySem.W.codeIn K cdZ35 "_law_runs" = true) (kZ35 : PySem.W.keepIn K (.ref fZ35) = true)
  (aZ36 : PySem.W.nsIn K mainGlobals "_law_due" = some (some (.ref fZ36)))
  (lZ36 : K.lookup fZ36 = some ⟨ocZ36,odZ36,.func (PySem.W.fnOf "_law_due" "_law_due" (aK pj) (aJ pj) (ak pj) .none kVZ36 dcZ36 pmZ36 anZ36 cdZ36 ctZ36),slZ36⟩) (cZ36 : PySem.W.codeIn K cdZ36 "_law_due" = true) (kZ36 : PySem.W.keepIn K (.ref fZ36) = true)
  (aZ37 : PySem.W.nsIn K mainGlobals "_law_right" = some (some (.ref fZ37)))
  (lZ37 : K.lookup fZ37 = some ⟨ocZ37,odZ37,.func (PySem.W.fnOf "_law_right" "_law_right" (aK pq) (aJ pq) (ak pq) .none kVZ37 dcZ37 pmZ37 anZ37 cdZ37 ctZ37),slZ37⟩) (cZ37 : PySem.W.codeIn K cdZ37 "_law_right" = true) (kZ37 : PySem.W.keepIn K (.ref fZ37) = true)
  (alaw : PySem.W.nsIn K mainGlobals "law" = some (some (.ref flaw)))
  (llaw : K.lookup flaw = some ⟨oclaw,odlaw,.func (PySem.W.fnOf "law" "law" (aK j0) (aJ j0) (ak j0) .none kVlaw dclaw pmlaw anlaw cdlaw ctlaw),sllaw⟩) (claw : PySem.W.codeIn K cdlaw "law" = true) (klaw : PySem.W.keepIn K (.ref flaw) = true)
  (zg_LETTERS : PySem.W.nsIn K mainGlobals "LETTERS" = some (some (.str "abcdefghijklmnopqrstuvwxyz" tk_LETTERS)))
  (zg_MOST_LETTERS : PySem.W.nsIn K mainGlobals "MOST_LETTERS" = some (some (.int 12 tk_MOST_LETTERS)))
  (zg_MOST_TASKS : PySem.W.nsIn K mainGlobals "MOST_TASKS" = some (some (.int 24 tk_MOST_TASKS)))
  (zg_MOST_TOOLS : PySem.W.nsIn K mainGlobals "MOST_TOOLS" = some (some (.int 12 tk_MOST_TOOLS)))
  (zg_MOST_PIECES : PySem.W.nsIn K mainGlobals "MOST_PIECES" = some (some (.int 8 tk_MOST_PIECES)))
  (zg_MOST_WAYS : PySem.W.nsIn K mainGlobals "MOST_WAYS" = some (some (.int 2 tk_MOST_WAYS)))
  (zg_MOST_MOMENTS : PySem.W.nsIn K mainGlobals "MOST_MOMENTS" = some (some (.int 8 tk_MOST_MOMENTS)))
  (zg_MOST_ARCS : PySem.W.nsIn K mainGlobals "MOST_ARCS" = some (some (.int 600 tk_MOST_ARCS)))
  (zg_MOST_APART : PySem.W.nsIn K mainGlobals "MOST_APART" = some (some (.int 300 tk_MOST_APART)))
  (zg_GREATEST : PySem.W.nsIn K mainGlobals "GREATEST" = some (some (.int 1000000000 tk_GREATEST)))
  (zb_abs : PySem.W.nsIn K mainGlobals "abs" = some none)
  (zb_bool : PySem.W.nsIn K mainGlobals "bool" = some none)
  (zb_dict : PySem.W.nsIn K mainGlobals "dict" = some none)
  (zb_enumerate : PySem.W.nsIn K mainGlobals "enumerate" = some none)
  (zb_int : PySem.W.nsIn K mainGlobals "int" = some none)
  (zb_isinstance : PySem.W.nsIn K mainGlobals "isinstance" = some none)
  (zb_len : PySem.W.nsIn K mainGlobals "len" = some none)
  (zb_list : PySem.W.nsIn K mainGlobals "list" = some none)
  (zb_max : PySem.W.nsIn K mainGlobals "max" = some none)
  (zb_min : PySem.W.nsIn K mainGlobals "min" = some none)
  (zb_range : PySem.W.nsIn K mainGlobals "range" = some none)
  (zb_reversed : PySem.W.nsIn K mainGlobals "reversed" = some none)
  (zb_set : PySem.W.nsIn K mainGlobals "set" = some none)
  (zb_sorted : PySem.W.nsIn K mainGlobals "sorted" = some none)
  (zb_str : PySem.W.nsIn K mainGlobals "str" = some none)
  (zb_tuple : PySem.W.nsIn K mainGlobals "tuple" = some none)
  (zb_zip : PySem.W.nsIn K mainGlobals "zip" = some none)
  (zm_Net : PySem.W.nsIn K mainGlobals "Net" = some (some (.ref c_Net)))
  (atZ8 : PySem.W.findIn K (.ref c_Net) "__init__" = some (some (.ref f_Z8)))
  (lZ8 : K.lookup f_Z8 = some ⟨ocZ8,odZ8,.func (PySem.W.fnOf "__init__" "Net.__init__" (aK tY) (aJ tY) (ak tY) (.ref TZ8) kVZ8 dcZ8 pmZ8 anZ8 cdZ8 ctZ8),slZ8⟩) (cZ8 : PySem.W.codeIn K cdZ8 "Net.__init__" = true) (kZ8 : PySem.W.keepIn K (.ref f_Z8) = true)
  (dZ8 : K.lookup TZ8 = some ⟨ToZ8,TdZ8,.seq #[.none,.int 0 TtZ8] TnZ8,TsZ8⟩)
  (zcl_Net : qP K c_Net)
  (zmk_Net : Mk K c_Net f_Z8)
  (zna_Net_tools : bS K c_Net "tools")
  (zna_Net_tasks : bS K c_Net "tasks")
  (zna_Net_arcs : bS K c_Net "arcs")
  (zna_Net_apart : bS K c_Net "apart")
  (zna_Net_moments : bS K c_Net "moments")
  : ∃ fd : FuncData,(∀ (s : Shared) (v : Value),BindsTo s fd ⟨[v],[]⟩ [("_law_script",v)]) ∧ ∀ base : Heap,K.In base → base.Ns mainGlobals mg → bG l.prog w K mg base bj 9 fa fd ["_law_script"] (mO K) := by
 have e := hfa.symm.trans (PySem.W.mg_of X G alaw)
 cases e
 have B : Bn K mg c_Net f_Z8 := ⟨Exists.intro _ <| PySem.W.mg_of X G zg_LETTERS,Exists.intro _ <| PySem.W.mg_of X G zg_MOST_LETTERS,Exists.intro _ <| PySem.W.mg_of X G zg_MOST_TASKS,Exists.intro _ <| PySem.W.mg_of X G zg_MOST_TOOLS,Exists.intro _ <| PySem.W.mg_of X G zg_MOST_PIECES,Exists.intro _ <| PySem.W.mg_of X G zg_MOST_WAYS,Exists.intro _ <| PySem.W.mg_of X G zg_MOST_MOMENTS,Exists.intro _ <| PySem.W.mg_of X G zg_MOST_ARCS,Exists.intro _ <| PySem.W.mg_of X G zg_MOST_APART,Exists.intro _ <| PySem.W.mg_of X G zg_GREATEST,PySem.W.mg_none_of X G zb_abs,PySem.W.mg_none_of X G zb_bool,PySem.W.mg_none_of X G zb_dict,PySem.W.mg_none_of X G zb_enumerate,PySem.W.mg_none_of X G zb_int,PySem.W.mg_none_of X G zb_isinstance,PySem.W.mg_none_of X G zb_len,PySem.W.mg_none_of X G zb_list,PySem.W.mg_none_of X G zb_max,PySem.W.mg_none_of X G zb_min,PySem.W.mg_none_of X G zb_range,PySem.W.mg_none_of X G zb_reversed,PySem.W.mg_none_of X G zb_set,PySem.W.mg_none_of X G zb_sorted,PySem.W.mg_none_of X G zb_str,PySem.W.mg_none_of X G zb_tuple,PySem.W.mg_none_of X G zb_zip,PySem.W.mg_of X G zm_Net,zcl_Net,zmk_Net,zna_Net_tools,zna_Net_tasks,zna_Net_arcs,zna_Net_apart,zna_Net_moments⟩
 have FZ0 := aP (st := tP) lZ0 cZ0 kZ0
 have FZ1 := aP (st := tQ) lZ1 cZ1 kZ1
 have FZ2 := aP (st := tR) lZ2 cZ2 kZ2
 have FZ3 := aP (st := tT) lZ3 cZ3 kZ3
 have FZ4 := aP (st := tU) lZ4 cZ4 kZ4
 have FZ5 := aP (st := tV) lZ5 cZ5 kZ5
 have FZ6 := aP (st := tW) lZ6 cZ6 kZ6
 have FZ7 := aP (st := tX) lZ7 cZ7 kZ7
 have FZ8 := aP (st := tY) lZ8 cZ8 kZ8
 have FZ9 := aP (st := tZ) lZ9 cZ9 kZ9
 have FZ10 := aP (st := oE) lZ10 cZ10 kZ10
 have FZ11 := aP (st := oF) lZ11 cZ11 kZ11
 have FZ12 := aP (st := oG) lZ12 cZ12 kZ12
 have FZ13 := aP (st := oH) lZ13 cZ13 kZ13
 have FZ14 := aP (st := oI) lZ14 cZ14 kZ14
 have FZ15 := aP (st := oJ) lZ15 cZ15 kZ15
 have FZ16 := aP (st := oK) lZ16 cZ16 kZ16
 have FZ17 := aP (st := oM) lZ17 cZ17 kZ17
 have FZ18 := aP (st := oN) lZ18 cZ18 kZ18
 have FZ19 := aP (st := oO) lZ19 cZ19 kZ19
 have FZ20 := aP (st := oP) lZ20 cZ20 kZ20
 have FZ21 := aP (st := oQ) lZ21 cZ21 kZ21
 have FZ22 := aP (st := oR) lZ22 cZ22 kZ22
 have FZ23 := aP (st := oS) lZ23 cZ23 kZ23
 have FZ24 := aP (st := oT) lZ24 cZ24 kZ24
 have FZ25 := aP (st := oU) lZ25 cZ25 kZ25
 have FZ26 := aP (st := oV) lZ26 cZ26 kZ26
 have FZ27 := aP (st := oW) lZ27 cZ27 kZ27
 have FZ28 := aP (st := oX) lZ28 cZ28 kZ28
 have FZ29 := aP (st := oY) lZ29 cZ29 kZ29
 have FZ30 := aP (st := oZ) lZ30 cZ30 kZ30
 have FZ31 := aP (st := pb) lZ31 cZ31 kZ31
 have FZ32 := aP (st := pd) lZ32 cZ32 kZ32
 have FZ33 := aP (st := pe) lZ33 cZ33 kZ33
 have FZ34 := aP (st := ph) lZ34 cZ34 kZ34
 have FZ35 := aP (st := pi) lZ35 cZ35 kZ35
 have FZ36 := aP (st := pj) lZ36 cZ36 kZ36
 have FZ37 := aP (st := pq) lZ37 cZ37 kZ37
 have Flaw := aP (st := j0) llaw claw klaw
 refine ⟨PySem.W.fnOf "law" "law" (aK j0) (aJ j0) (ak j0) .none kVlaw dclaw pmlaw anlaw cdlaw ctlaw,?bind,fun base _ _ => ?ok⟩
 case bind => exact fun s v => .of_eq rfl
 case ok =>
  have bZ0 := FZ0.binds0 (ps := ["thing"]) fun _ _ _ _ _ _ us hl => match us,hl with | [_],_ => rfl
  have DZ0 : Dx l.prog w K mg base bj 1 "is_name" ["thing"] [] (iE K) := ⟨fZ0,_,wT FZ0 B ,PySem.W.mg_of X G aZ0,kZ0,bZ0,⟨[],bZ0,.nil⟩⟩
  have bZ1 := FZ1.binds0 (ps := ["net"]) fun _ _ _ _ _ _ us hl => match us,hl with | [_],_ => rfl
  have DZ1 : Dx l.prog w K mg base bj 1 "points_of" ["net"] [] (gu c_Net) := ⟨fZ1,_,wV FZ1 B ,PySem.W.mg_of X G aZ1,kZ1,bZ1,⟨[],bZ1,.nil⟩⟩
  have bZ2 := FZ2.binds0 (ps := ["ways"]) fun _ _ _ _ _ _ us hl => match us,hl with | [_],_ => rfl
  have DZ2 : Dx l.prog w K mg base bj 1 "copy_of_task" ["ways"] [] jP := ⟨fZ2,_,wX FZ2 B ,PySem.W.mg_of X G aZ2,kZ2,bZ2,⟨[],bZ2,.nil⟩⟩
  have bZ3 := FZ3.binds0 (ps := ["tools"]) fun _ _ _ _ _ _ us hl => match us,hl with | [_],_ => rfl
  have DZ3 : Dx l.prog w K mg base bj 2 "refuse_wrong_tools" ["tools"] [] gq := ⟨fZ3,_,wZ FZ3 B DZ0,PySem.W.mg_of X G aZ3,kZ3,bZ3,⟨[],bZ3,.nil⟩⟩
  have bZ4 := FZ4.binds0 (ps := ["uses","tools"]) fun _ _ _ _ _ _ us hl => match us,hl with | [_,_],_ => rfl
  have DZ4 : Dx l.prog w K mg base bj 1 "refuse_wrong_uses" ["uses","tools"] [] iG := ⟨fZ4,_,xa FZ4 B ,PySem.W.mg_of X G aZ4,kZ4,bZ4,⟨[],bZ4,.nil⟩⟩
  have bZ5 := FZ5.binds0 (ps := ["tasks","tools"]) fun _ _ _ _ _ _ us hl => match us,hl with | [_,_],_ => rfl
  have DZ5 : Dx l.prog w K mg base bj 2 "refuse_wrong_tasks" ["tasks","tools"] [] gr := ⟨fZ5,_,xf FZ5 B DZ4,PySem.W.mg_of X G aZ5,kZ5,bZ5,⟨[],bZ5,.nil⟩⟩
  have bZ6 := FZ6.binds0 (ps := ["arcs","points"]) fun _ _ _ _ _ _ us hl => match us,hl with | [_,_],_ => rfl
  have DZ6 : Dx l.prog w K mg base bj 1 "refuse_wrong_arcs" ["arcs","points"] [] jD := ⟨fZ6,_,xh FZ6 B ,PySem.W.mg_of X G aZ6,kZ6,bZ6,⟨[],bZ6,.nil⟩⟩
  have bZ7 := FZ7.binds0 (ps := ["pairs","many"]) fun _ _ _ _ _ _ us hl => match us,hl with | [_,_],_ => rfl
  have DZ7 : Dx l.prog w K mg base bj 1 "refuse_wrong_pairs" ["pairs","many"] [] gs := ⟨fZ7,_,xj FZ7 B ,PySem.W.mg_of X G aZ7,kZ7,bZ7,⟨[],bZ7,.nil⟩⟩
  have DZ8 : wR l.prog w K mg base bj 3 f_Z8 ["self","tools","tasks","arcs","apart","moments"] [.non,.int 0] (my c_Net) := ⟨_,xm FZ8 B DZ1 DZ2 DZ3 DZ5 DZ6 DZ7,FZ8.binds (ps := ["self","tools","tasks","arcs","apart","moments"]) (ds := []) dZ8 rfl fun _ _ _ _ _ _ us hl => match us,hl with | [_,_,_,_,_,_],_ => ⟨_,rfl,rfl⟩,⟨[.none,.int 0 TtZ8],FZ8.binds (ps := ["self","tools","tasks","arcs","apart","moments"]) (ds := [.none,.int 0 TtZ8]) dZ8 rfl fun _ _ _ _ _ _ us hl => match us,hl with | [_,_,_,_],_ => ⟨_,rfl,rfl⟩ | [],h => absurd h (by simp) | [_],h => absurd h (by simp) | [_,_],h => absurd h (by simp) | [_,_,_],h => absurd h (by simp) | _ :: _ :: _ :: _ :: _ :: _,h => absurd h (by simp),.cons rfl (.cons ⟨_,rfl⟩ .nil)⟩⟩
  have bZ9 := FZ9.binds0 (ps := ["way","tool"]) fun _ _ _ _ _ _ us hl => match us,hl with | [_,_],_ => rfl
  have DZ9 : Dx l.prog w K mg base bj 1 "use_in" ["way","tool"] [] jQ := ⟨fZ9,_,xo FZ9 B ,PySem.W.mg_of X G aZ9,kZ9,bZ9,⟨[],bZ9,.nil⟩⟩
  have bZ10 := FZ10.binds0 (ps := ["net","plan"]) fun _ _ _ _ _ _ us hl => match us,hl with | [_,_],_ => rfl
  have DZ10 : Dx l.prog w K mg base bj 1 "is_plan" ["net","plan"] [] (gC c_Net) := ⟨fZ10,_,uQ FZ10 B ,PySem.W.mg_of X G aZ10,kZ10,bZ10,⟨[],bZ10,.nil⟩⟩
  have bZ11 := FZ11.binds0 (ps := ["plan","point"]) fun _ _ _ _ _ _ us hl => match us,hl with | [_,_],_ => rfl
  have DZ11 : Dx l.prog w K mg base bj 1 "time_of" ["plan","point"] [] ir := ⟨fZ11,_,uS FZ11 B ,PySem.W.mg_of X G aZ11,kZ11,bZ11,⟨[],bZ11,.nil⟩⟩
  have bZ12 := FZ12.binds0 (ps := ["one","other"]) fun _ _ _ _ _ _ us hl => match us,hl with | [_,_],_ => rfl
  have DZ12 : Dx l.prog w K mg base bj 1 "runs_meet" ["one","other"] [] dy := ⟨fZ12,_,uU FZ12 B ,PySem.W.mg_of X G aZ12,kZ12,bZ12,⟨[],bZ12,.nil⟩⟩
  have bZ13 := FZ13.binds0 (ps := ["run","turn"]) fun _ _ _ _ _ _ us hl => match us,hl with | [_,_],_ => rfl
  have DZ13 : Dx l.prog w K mg base bj 1 "goes_on" ["run","turn"] [] iL := ⟨fZ13,_,uW FZ13 B ,PySem.W.mg_of X G aZ13,kZ13,bZ13,⟨[],bZ13,.nil⟩⟩
  have bZ14 := FZ14.binds0 (ps := ["net","plan","task","tool"]) fun _ _ _ _ _ _ us hl => match us,hl with | [_,_,_,_],_ => rfl
  have DZ14 : Dx l.prog w K mg base bj 2 "use_of" ["net","plan","task","tool"] [] (hE c_Net) := ⟨fZ14,_,uY FZ14 B DZ9,PySem.W.mg_of X G aZ14,kZ14,bZ14,⟨[],bZ14,.nil⟩⟩
  have bZ15 := FZ15.binds0 (ps := ["net","plan"]) fun _ _ _ _ _ _ us hl => match us,hl with | [_,_],_ => rfl
  have DZ15 : Dx l.prog w K mg base bj 1 "breaches_of_turns" ["net","plan"] [] (cg c_Net fun T A B R M => cG T R T.length) := ⟨fZ15,_,u0 FZ15 B ,PySem.W.mg_of X G aZ15,kZ15,bZ15,⟨[],bZ15,.nil⟩⟩
  have bZ16 := FZ16.binds0 (ps := ["net","plan"]) fun _ _ _ _ _ _ us hl => match us,hl with | [_,_],_ => rfl
  have DZ16 : Dx l.prog w K mg base bj 2 "breaches_of_arcs" ["net","plan"] [] (cg c_Net fun T A B R M => cm A R M A.length) := ⟨fZ16,_,u2 FZ16 B DZ11,PySem.W.mg_of X G aZ16,kZ16,bZ16,⟨[],bZ16,.nil⟩⟩
  have bZ17 := FZ17.binds0 (ps := ["net","plan"]) fun _ _ _ _ _ _ us hl => match us,hl with | [_,_],_ => rfl
  have DZ17 : Dx l.prog w K mg base bj 2 "breaches_of_apart" ["net","plan"] [] (cg c_Net fun T A B R M => cb B R B.length) := ⟨fZ17,_,u4 FZ17 B DZ12,PySem.W.mg_of X G aZ17,kZ17,bZ17,⟨[],bZ17,.nil⟩⟩
  have bZ18 := FZ18.binds0 (ps := ["net","plan","tool","turn"]) fun _ _ _ _ _ _ us hl => match us,hl with | [_,_,_,_],_ => rfl
  have DZ18 : Dx l.prog w K mg base bj 3 "in_use" ["net","plan","tool","turn"] [] (jR c_Net) := ⟨fZ18,_,u6 FZ18 B DZ13 DZ14,PySem.W.mg_of X G aZ18,kZ18,bZ18,⟨[],bZ18,.nil⟩⟩
  have bZ19 := FZ19.binds0 (ps := ["net","plan","tool"]) fun _ _ _ _ _ _ us hl => match us,hl with | [_,_,_],_ => rfl
  have DZ19 : Dx l.prog w K mg base bj 4 "breaches_of_tool" ["net","plan","tool"] [] (jS c_Net) := ⟨fZ19,_,u8 FZ19 B DZ18,PySem.W.mg_of X G aZ19,kZ19,bZ19,⟨[],bZ19,.nil⟩⟩
  have bZ20 := FZ20.binds0 (ps := ["net","plan","tool"]) fun _ _ _ _ _ _ us hl => match us,hl with | [_,_,_],_ => rfl
  have DZ20 : Dx l.prog w K mg base bj 3 "breaches_of_heat" ["net","plan","tool"] [] (jT c_Net) := ⟨fZ20,_,va FZ20 B DZ12 DZ14,PySem.W.mg_of X G aZ20,kZ20,bZ20,⟨[],bZ20,.nil⟩⟩
  have bZ21 := FZ21.binds0 (ps := ["net","plan"]) fun _ _ _ _ _ _ us hl => match us,hl with | [_,_],_ => rfl
  have DZ21 : Dx l.prog w K mg base bj 5 "breaches" ["net","plan"] [] (eX c_Net) := ⟨fZ21,_,vc FZ21 B DZ10 DZ15 DZ16 DZ17 DZ19 DZ20,PySem.W.mg_of X G aZ21,kZ21,bZ21,⟨[],bZ21,.nil⟩⟩
  have bZ22 := FZ22.binds0 (ps := ["net","plan"]) fun _ _ _ _ _ _ us hl => match us,hl with | [_,_],_ => rfl
  have DZ22 : Dx l.prog w K mg base bj 6 "plan_fits" ["net","plan"] [] (jU c_Net) := ⟨fZ22,_,ve FZ22 B DZ21,PySem.W.mg_of X G aZ22,kZ22,bZ22,⟨[],bZ22,.nil⟩⟩
  have bZ23 := FZ23.binds0 (ps := ["_law_script","_law_k"]) fun _ _ _ _ _ _ us hl => match us,hl with | [_,_],_ => rfl
  have DZ23 : Dx l.prog w K mg base bj 1 "_law_cell_at" ["_law_script","_law_k"] [] (jz K) := ⟨fZ23,_,vg FZ23 B ,PySem.W.mg_of X G aZ23,kZ23,bZ23,⟨[],bZ23,.nil⟩⟩
  have bZ24 := FZ24.binds0 (ps := ["_law_cell","_law_many"]) fun _ _ _ _ _ _ us hl => match us,hl with | [_,_],_ => rfl
  have DZ24 : Dx l.prog w K mg base bj 1 "_law_drawn" ["_law_cell","_law_many"] [] eC := ⟨fZ24,_,vm FZ24 B ,PySem.W.mg_of X G aZ24,kZ24,bZ24,⟨[],bZ24,.nil⟩⟩
  have bZ25 := FZ25.binds0 (ps := ["_law_cell"]) fun _ _ _ _ _ _ us hl => match us,hl with | [_],_ => rfl
  have DZ25 : Dx l.prog w K mg base bj 2 "_law_tools" ["_law_cell"] [] gG := ⟨fZ25,_,vo FZ25 B DZ24,PySem.W.mg_of X G aZ25,kZ25,bZ25,⟨[],bZ25,.nil⟩⟩
  have bZ26 := FZ26.binds0 (ps := ["_law_xs","_law_tools_here","_law_alike"]) fun _ _ _ _ _ _ us hl => match us,hl with | [_,_,_],_ => rfl
  have DZ26 : Dx l.prog w K mg base bj 1 "_law_way" ["_law_xs","_law_tools_here","_law_alike"] [] jY := ⟨fZ26,_,vw FZ26 B ,PySem.W.mg_of X G aZ26,kZ26,bZ26,⟨[],bZ26,.nil⟩⟩
  have bZ27 := FZ27.binds0 (ps := ["_law_one","_law_other"]) fun _ _ _ _ _ _ us hl => match us,hl with | [_,_],_ => rfl
  have DZ27 : Dx l.prog w K mg base bj 1 "_law_meet" ["_law_one","_law_other"] [] dy := ⟨fZ27,_,vz FZ27 B ,PySem.W.mg_of X G aZ27,kZ27,bZ27,⟨[],bZ27,.nil⟩⟩
  have bZ28 := FZ28.binds0 (ps := ["_law_uses","_law_name"]) fun _ _ _ _ _ _ us hl => match us,hl with | [_,_],_ => rfl
  have DZ28 : Dx l.prog w K mg base bj 1 "_law_use" ["_law_uses","_law_name"] [] hG := ⟨fZ28,_,vB FZ28 B ,PySem.W.mg_of X G aZ28,kZ28,bZ28,⟨[],bZ28,.nil⟩⟩
  have bZ29 := FZ29.binds0 (ps := ["_law_runs_here","_law_times","_law_arcs_here","_law_pairs"]) fun _ _ _ _ _ _ us hl => match us,hl with | [_,_,_,_],_ => rfl
  have DZ29 : Dx l.prog w K mg base bj 2 "_law_times_due" ["_law_runs_here","_law_times","_law_arcs_here","_law_pairs"] [] fy := ⟨fZ29,_,vD FZ29 B DZ27,PySem.W.mg_of X G aZ29,kZ29,bZ29,⟨[],bZ29,.nil⟩⟩
  have bZ30 := FZ30.binds0 (ps := ["_law_runs_here","_law_uses","_law_tools_here"]) fun _ _ _ _ _ _ us hl => match us,hl with | [_,_,_],_ => rfl
  have DZ30 : Dx l.prog w K mg base bj 2 "_law_tools_due" ["_law_runs_here","_law_uses","_law_tools_here"] [] fA := ⟨fZ30,_,vF FZ30 B DZ28,PySem.W.mg_of X G aZ30,kZ30,bZ30,⟨[],bZ30,.nil⟩⟩
  have bZ31 := FZ31.binds0 (ps := ["_law_runs_here","_law_uses","_law_tools_here"]) fun _ _ _ _ _ _ us hl => match us,hl with | [_,_,_],_ => rfl
  have DZ31 : Dx l.prog w K mg base bj 2 "_law_heats_due" ["_law_runs_here","_law_uses","_law_tools_here"] [] fB := ⟨fZ31,_,vH FZ31 B DZ27 DZ28,PySem.W.mg_of X G aZ31,kZ31,bZ31,⟨[],bZ31,.nil⟩⟩
  have bZ32 := FZ32.binds0 (ps := ["_law_found","_law_due_here"]) fun _ _ _ _ _ _ us hl => match us,hl with | [_,_],_ => rfl
  have DZ32 : Dx l.prog w K mg base bj 1 "_law_told" ["_law_found","_law_due_here"] [] jX := ⟨fZ32,_,vJ FZ32 B ,PySem.W.mg_of X G aZ32,kZ32,bZ32,⟨[],bZ32,.nil⟩⟩
  have bZ33 := FZ33.binds0 (ps := ["_law_runs_here"]) fun _ _ _ _ _ _ us hl => match us,hl with | [_],_ => rfl
  have DZ33 : Dx l.prog w K mg base bj 2 "_law_meets_told" ["_law_runs_here"] [] eM := ⟨fZ33,_,vL FZ33 B DZ12 DZ27,PySem.W.mg_of X G aZ33,kZ33,bZ33,⟨[],bZ33,.nil⟩⟩
  have bZ34 := FZ34.binds0 (ps := ["_law_cells","_law_spots"]) fun _ _ _ _ _ _ us hl => match us,hl with | [_,_],_ => rfl
  have DZ34 : Dx l.prog w K mg base bj 2 "_law_arcs" ["_law_cells","_law_spots"] [] iQ := ⟨fZ34,_,vN FZ34 B DZ24,PySem.W.mg_of X G aZ34,kZ34,bZ34,⟨[],bZ34,.nil⟩⟩
  have bZ35 := FZ35.binds0 (ps := ["_law_script","_law_tools_here"]) fun _ _ _ _ _ _ us hl => match us,hl with | [_,_],_ => rfl
  have DZ35 : Dx l.prog w K mg base bj 2 "_law_runs" ["_law_script","_law_tools_here"] [] (iR K) := ⟨fZ35,_,vP FZ35 B DZ23 DZ24 DZ26,PySem.W.mg_of X G aZ35,kZ35,bZ35,⟨[],bZ35,.nil⟩⟩
  have bZ36 := FZ36.binds0 (ps := ["_law_made","_law_runs_here","_law_times"]) fun _ _ _ _ _ _ us hl => match us,hl with | [_,_,_],_ => rfl
  have DZ36 : Dx l.prog w K mg base bj 3 "_law_due" ["_law_made","_law_runs_here","_law_times"] [] jZ := ⟨fZ36,_,vR FZ36 B DZ29 DZ30 DZ31,PySem.W.mg_of X G aZ36,kZ36,bZ36,⟨[],bZ36,.nil⟩⟩
  have bZ37 := FZ37.binds0 (ps := ["_law_net","_law_made","_law_runs_here","_law_times"]) fun _ _ _ _ _ _ us hl => match us,hl with | [_,_,_,_],_ => rfl
  have DZ37 : Dx l.prog w K mg base bj 7 "_law_right" ["_law_net","_law_made","_law_runs_here","_law_times"] [] (gI c_Net) := ⟨fZ37,_,vT FZ37 B DZ21 DZ22 DZ32 DZ33 DZ36,PySem.W.mg_of X G aZ37,kZ37,bZ37,⟨[],bZ37,.nil⟩⟩
  exact vV Flaw B DZ8 DZ23 DZ25 DZ34 DZ35 DZ37
theorem walk {l : PySem.W.OpenLaw} {q : Program} {loose : List Str} {XP : (Str → Option Value) → Heap → Prop} {YP : World → Heap → Prop} {d : DefRec} {K : Params → PySem.W.Frag} (hn : l.most = some 63) (hdf : d.params.defaults = [])
  (hY : ∀ (w : World) (h : Heap),YP w h → (K w.params).In h)
  (F : ∀ (w : World) (mg : Str → Option Value) (fa : Addr) (h : Heap),(K w.params).In h → h.Ns mainGlobals mg → mg d.name = some (.ref fa) →
   ∃ fd : FuncData,(∀ (s : Shared) (u : Value),BindsTo s fd ⟨[u],[]⟩ [("_law_script",u)]) ∧ ∀ base : Heap,(K w.params).In base → base.Ns mainGlobals mg → bG l.prog w (K w.params) mg base bj 9 fa fd ["_law_script"] (mO (K w.params))) :
  PySem.W.WalkO q loose XP YP l.row.toRowW d [] (fun f vs => PySem.call f vs) :=
 L2.rf (n := 63) (k := 9) (x := "_law_script") (CX := fun _ => bj) (sp := fun w => mO (K w.params)) hn (by decide) hdf ⟨rfl,by decide,by decide⟩ hY F (fun _ _ a ns hl _ hS => ⟨a,ns,rfl,hS,hl,fun _ => rfl⟩) fun _ _ _ _ _ z => z
end Lk54
open PySem PySem.W PyProof.Rows
set_option maxRecDepth 100000 in
set_option maxHeartbeats 0 in
theorem PySem.Challenge.cw_stovework_k54_all_kinds_in_order_holds : PySem.Challenge.rw_stovework_k54_all_kinds_in_order.Holds := by
 refine Lk54.hd ?_
 k_fill
 refine Lk54.walk (l := PySem.Challenge.rw_stovework_k54_all_kinds_in_order) rfl rfl (fun w h Y => PySem.W.kIn_of Y) ?F
 case F =>
  intro w mg fa h KX G hmg
  refine' Lk54.tM KX G hmg ?h0 ?h1 ?h2 ?h3 ?h4 ?h5 ?h6 ?h7 ?h8 ?h9 ?h10 ?h11 ?h12 ?h13 ?h14 ?h15 ?h16 ?h17 ?h18 ?h19 ?h20 ?h21 ?h22 ?h23 ?h24 ?h25 ?h26 ?h27 ?h28 ?h29 ?h30 ?h31 ?h32 ?h33 ?h34 ?h35 ?h36 ?h37 ?h38 ?h39 ?h40 ?h41 ?h42 ?h43 ?h44 ?h45 ?h46 ?h47 ?h48 ?h49 ?h50 ?h51 ?h52 ?h53 ?h54 ?h55 ?h56 ?h57 ?h58 ?h59 ?h60 ?h61 ?h62 ?h63 ?h64 ?h65 ?h66 ?h67 ?h68 ?h69 ?h70 ?h71 ?h72 ?h73 ?h74 ?h75 ?h76 ?h77 ?h78 ?h79 ?h80 ?h81 ?h82 ?h83 ?h84 ?h85 ?h86 ?h87 ?h88 ?h89 ?h90 ?h91 ?h92 ?h93 ?h94 ?h95 ?h96 ?h97 ?h98 ?h99 ?h100 ?h101 ?h102 ?h103 ?h104 ?h105 ?h106 ?h107 ?h108 ?h109 ?h110 ?h111 ?h112 ?h113 ?h114 ?h115 ?h116 ?h117 ?h118 ?h119 ?h120 ?h121 ?h122 ?h123 ?h124 ?h125 ?h126 ?h127 ?h128 ?h129 ?h130 ?h131 ?h132 ?h133 ?h134 ?h135 ?h136 ?h137 ?h138 ?h139 ?h140 ?h141 ?h142 ?h143 ?h144 ?h145 ?h146 ?h147 ?h148 ?h149 ?h150 ?h151 ?h152 ?h153 ?h154 ?h155 ?h156 ?h157 ?h158 ?h159 ?h160 ?h161 ?h162 ?h163 ?h164 ?h165 ?h166 ?h167 ?h168 ?h169 ?h170 ?h171 ?h172 ?h173 ?h174 ?h175 ?h176 ?h177 ?h178 ?h179 ?h180 ?h181 ?h182 ?h183 ?h184 ?h185 ?h186 ?h187 ?h188 ?h189 ?h190 ?h191
  (case h0 => k_is)
  (case h1 => k_is)
  (case h2 => k_is)
  (case h3 => k_is)
  (case h4 => k_is)
  (case h5 => k_is)
  (case h6 => k_is)
  (case h7 => k_is)
  (case h8 => k_is)
  (case h9 => k_is)
  (case h10 => k_is)
  (case h11 => k_is)
  (case h12 => k_is)
  (case h13 => k_is)
  (case h14 => k_is)
  (case h15 => k_is)
  (case h16 => k_is)
  (case h17 => k_is)
  (case h18 => k_is)
  (case h19 => k_is)
  (case h20 => k_is)
  (case h21 => k_is)
  (case h22 => k_is)
  (case h23 => k_is)
  (case h24 => k_is)
  (case h25 => k_is)
  (case h26 => k_is)
  (case h27 => k_is)
  (case h28 => k_is)
  (case h29 => k_is)
  (case h30 => k_is)
  (case h31 => k_is)
  (case h32 => k_is)
  (case h33 => k_is)
  (case h34 => k_is)
  (case h35 => k_is)
  (case h36 => k_is)
  (case h37 => k_is)
  (case h38 => k_is)
  (case h39 => k_is)
  (case h40 => k_is)
  (case h41 => k_is)
  (case h42 => k_is)
  (case h43 => k_is)
  (case h44 => k_is)
  (case h45 => k_is)
  (case h46 => k_is)
  (case h47 => k_is)
  (case h48 => k_is)
  (case h49 => k_is)
  (case h50 => k_is)
  (case h51 => k_is)
  (case h52 => k_is)
  (case h53 => k_is)
  (case h54 => k_is)
  (case h55 => k_is)
  (case h56 => k_is)
  (case h57 => k_is)
  (case h58 => k_is)
  (case h59 => k_is)
  (case h60 => k_is)
  (case h61 => k_is)
  (case h62 => k_is)
  (case h63 => k_is)
  (case h64 => k_is)
  (case h65 => k_is)
  (case h66 => k_is)
  (case h67 => k_is)
  (case h68 => k_is)
  (case h69 => k_is)
  (case h70 => k_is)
  (case h71 => k_is)
  (case h72 => k_is)
  (case h73 => k_is)
  (case h74 => k_is)
  (case h75 => k_is)
  (case h76 => k_is)
  (case h77 => k_is)
  (case h78 => k_is)
  (case h79 => k_is)
  (case h80 => k_is)
  (case h81 => k_is)
  (case h82 => k_is)
  (case h83 => k_is)
  (case h84 => k_is)
  (case h85 => k_is)
  (case h86 => k_is)
  (case h87 => k_is)
  (case h88 => k_is)
  (case h89 => k_is)
  (case h90 => k_is)
  (case h91 => k_is)
  (case h92 => k_is)
  (case h93 => k_is)
  (case h94 => k_is)
  (case h95 => k_is)
  (case h96 => k_is)
  (case h97 => k_is)
  (case h98 => k_is)
  (case h99 => k_is)
  (case h100 => k_is)
  (case h101 => k_is)
  (case h102 => k_is)
  (case h103 => k_is)
  (case h104 => k_is)
  (case h105 => k_is)
  (case h106 => k_is)
  (case h107 => k_is)
  (case h108 => k_is)
  (case h109 => k_is)
  (case h110 => k_is)
  (case h111 => k_is)
  (case h112 => k_is)
  (case h113 => k_is)
  (case h114 => k_is)
  (case h115 => k_is)
  (case h116 => k_is)
  (case h117 => k_is)
  (case h118 => k_is)
  (case h119 => k_is)
  (case h120 => k_is)
  (case h121 => k_is)
  (case h122 => k_is)
  (case h123 => k_is)
  (case h124 => k_is)
  (case h125 => k_is)
  (case h126 => k_is)
  (case h127 => k_is)
  (case h128 => k_is)
  (case h129 => k_is)
  (case h130 => k_is)
  (case h131 => k_is)
  (case h132 => k_is)
  (case h133 => k_is)
  (case h134 => k_is)
  (case h135 => k_is)
  (case h136 => k_is)
  (case h137 => k_is)
  (case h138 => k_is)
  (case h139 => k_is)
  (case h140 => k_is)
  (case h141 => k_is)
  (case h142 => k_is)
  (case h143 => k_is)
  (case h144 => k_is)
  (case h145 => k_is)
  (case h146 => k_is)
  (case h147 => k_is)
  (case h148 => k_is)
  (case h149 => k_is)
  (case h150 => k_is)
  (case h151 => k_is)
  (case h152 => k_is)
  (case h153 => k_is)
  (case h154 => k_is)
  (case h155 => k_is)
  (case h156 => k_is)
  (case h157 => k_is)
  (case h158 => k_is)
  (case h159 => k_is)
  (case h160 => k_is)
  (case h161 => k_is)
  (case h162 => k_is)
  (case h163 => k_is)
  (case h164 => k_is)
  (case h165 => k_is)
  (case h166 => k_is)
  (case h167 => k_is)
  (case h168 => k_is)
  (case h169 => k_is)
  (case h170 => k_is)
  (case h171 => k_is)
  (case h172 => k_is)
  (case h173 => k_is)
  (case h174 => k_is)
  (case h175 => k_is)
  (case h176 => k_is)
  (case h177 => k_is)
  (case h178 => k_is)
  (case h179 => k_is)
  (case h180 => k_is)
  (case h181 => k_is)
  (case h182 => k_is)
  (case h183 => k_is)
  (case h184 => k_is)
  (case h185 => exact ⟨by k_is,by k_is,by k_is,by k_is⟩)
  (case h186 => exact ⟨by k_is,by k_is,by k_is,by k_is⟩)
  (case h187 => unfold L2.bS; k_is)
  (case h188 => unfold L2.bS; k_is)
  (case h189 => unfold L2.bS; k_is)
  (case h190 => unfold L2.bS; k_is)
  (case h191 => unfold L2.bS; k_is)
