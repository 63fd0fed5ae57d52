import PyProof.Rows.All
import Wide.All
import OpenK.AllK
import Wide.FinOn
import Lean
import PyProof.EqAt
import PyProof.EqKinds
import PyProof.TupleCall
import PyProof.NeKinds
import PyProof.StationsW
import PyProof.RulesAs
import PyProof.ExcArgsOwn
import PyProof.CompFree
import PyProof.ExcInit
import PyProof.ConsumeWalk
import PyProof.Rows.SeqGen
import PyProof.StrWalks
import PyProof.SliceStr2
import PyProof.MeetsStr
import KE.KIntText
import PyProof.Rows.FStr
import PyProof.StrCalls6
import PyProof.StrBlockL
import PyProof.ToksMono
import PyProof.WalkInts
import PyProof.Rows.MinMaxN
import PyProof.StrLawsReplace
import PyProof.StrLawsTight
import PyProof.Rows.StrLawsPart
import PyProof.DictWalks
import KE.KEqDict
import KE.KDictLaws
import KE.KRevIter
import PyProof.ListCopy
import PyProof.CollectIter
import PyProof.Rows.SetFrom
import PyProof.Rows.SortShellK
import PyProof.Rows.SortStr
import PyProof.Rows.SortWalk
import KE.KDictSum
import KE.KSortTup
import PyProof.TupleOfSeq
import PyProof.Rows.SortRuns
import PyProof.FactsAll.tuple_2
import PyProof.WalksEnum
import PyProof.EnumMake
import PyProof.EnumFor
import PyProof.ZipIter
import KE.KDictOf
import PyProof.DictItems
import PyProof.FactsAll.dict_itemiterator_1
import PyProof.MeetsSeq3
import PyProof.FactsAll.list_2
import PyProof.Rows.StrRules
import PyProof.Rows.StrMul
import KE.KDictList
import PySem.Challenge.RW_stovework_k26_stand_in
open Array renaming length_toList → B9, getElem?_toList → BA, getElem?_eq_getElem → Bg
open Bool renaming false_ne_true → AE, eq_iff_iff → BU
open Int renaming fmod_nonneg_of_pos → AI, fmod_lt_of_pos → AU, toNat_natCast → BW
open List renaming getElem?_eq_some_iff → A1, getElem?_eq_getElem → A2, mem_singleton → A3, length_map → A5, length_append → A7, mem_of_getElem? → A8, getElem?_append_left → AA, mem_cons → AB, mem_map → AC, length_singleton → AF, size_toArray → AG, mem_append_right → AJ, getElem?_map → AK, mem_append → AM, getD_eq_getElem?_getD → AO, nodup_cons → AQ, getElem?_append_right → AT, mem_cons_of_mem → AV, mem_iff_getElem? → AW, map_cons → Ap, map_append → Ar, length_cons → As, mem_append_left → Au, getElem?_eq_none → B6, nodup_append → B8, not_mem_nil → BB, mem_cons_self → BC, length_pos_iff → BH, length_take → BJ, filter_cons → BK, mem_filter → BO, all_eq_true → BP, lookup → BR, length_filter_le → BV, map_map → Be, length_drop → Bf, filterMap_cons → Bh, length_nil → Bk, find?_cons → Bl
open Nat renaming le_refl → A4, ne_of_lt → AD, lt_of_lt_of_le → AL, le_trans → AR, lt_succ_iff_lt_or_eq → AY, zero_le → AZ, eq_zero_or_pos → BS, lt_irrefl → Bj
open Option renaming map_eq_some_iff → B1, isSome_iff_exists → B5, bind_eq_some_iff → BG, map_some → Bi
open Option.some renaming inj → AN
open PyProof renaming noPylong_small → Aq
open PyProof.Rows renaming callWith_type1 → BF
open PySem renaming mem_of_lookup → B2
open PySem.F renaming plainAttrs_list → Az, type_list_append → B3, slot_list_append → B4, plain_min_loop → B7, plainAttrs_dict → BE, slot_dict_get → BL
open PySem.W renaming Frag → A0, nsIn → A6, mg_of → A9, findIn → AH, emptyDict → AS, mg_none_of → AX, kitOne → Av, keepIn → Aw, kia_one → Ax, fnOf → Ay, codeIn → BI, instObj → BM, excIn → BN, callWith_K → BQ
open PySem.W.Fast renaming te14364793385576792824 → BX, te14289696077712309145 → BY, te11892475500146522536 → BZ, te10274390034422433532 → Ba, te10156331382660048174 → Bb, te6613529449190102663 → Bc
namespace Ht
open PySem PySem.W PyProof.Rows
noncomputable def qb (ok : Thread -> Bool) (st : SharedT -> Thread -> Option (SharedT × Thread)) (n : Nat) : SharedT -> Thread -> Option SharedT :=
 Nat.rec (motive := fun _ => SharedT -> Thread -> Option SharedT) (fun _ _ => none) (fun _ ih s t =>
  Bool.rec (motive := fun _ => Option SharedT)
   (Bool.rec (motive := fun _ => Option SharedT) none (Option.rec (motive := fun _ => Option SharedT) none (fun r => Prod.rec (motive := fun _ => Option SharedT) (fun s' t' => ih s' t') r) (st s t)) (ok t))
   (some s) (through t)) n
theorem nD {tb : String -> Option Builtin} {p : Program} {w : World} {m : Nat} {ann : Option Value} : ∀ {n : Nat} {s s' : SharedT} {t : Thread},qb (stepOk m ann) (stepT (denote tb) p w) n s t = some s' -> topRun tb p w m ann n s.abs t = some s'.abs
 | 0,_,_,_,h => by cases h
 | n + 1,s,s',t,h => by
  unfold topRun
  have h' : Bool.rec (motive := fun _ => Option SharedT)
   (Bool.rec (motive := fun _ => Option SharedT) none (Option.rec (motive := fun _ => Option SharedT) none (fun r => Prod.rec (motive := fun _ => Option SharedT) (fun s' t' => qb (stepOk m ann) (stepT (denote tb) p w) n s' t') r) (stepT (denote tb) p w s t)) (stepOk m ann t))
   (some s) (through t) = some s' := h
  cases ht : through t with
  | true => rw [ht] at h'; cases h'; rfl
  | false =>
   rw [ht] at h'
   cases hk : stepOk m ann t with
   | false => rw [hk] at h'; cases h'
   | true =>
    rw [hk] at h'
    cases hs : stepT (denote tb) p w s t with
    | none => rw [hs] at h'; cases h'
    | some r =>
     obtain ⟨s₂,t₂⟩ := r
     rw [hs] at h'
     dsimp only
     rw [stepT_spec hs]
     exact nD h'
noncomputable def grow (l : List Obj) : Nat -> BT -> Option BT :=
 List.rec (motive := fun _ => Nat -> BT -> Option BT) (fun _ t => some t) (fun o _ ih n t =>
  Bool.rec (motive := fun _ => Option BT) none (ih (n + 1) (t.ins n o)) ((t.ins n o).get n).isSome) l
theorem nE {life : Life} : ∀ {l : List Obj} {n : Nat} {t t' : BT},grow l n t = some t' -> absHeap t' (n + l.length) life = ⟨(absHeap t n life).objs ++ l.toArray,life⟩
 | [],n,t,t',h => by
  cases h
  simp [absHeap]
 | o :: l,n,t,t',h => by
  have h' : Bool.rec (motive := fun _ => Option BT) none (grow l (n + 1) (t.ins n o)) ((t.ins n o).get n).isSome = some t' := h
  cases e : ((t.ins n o).get n).isSome with
  | false => rw [e] at h'; cases h'
  | true =>
   rw [e] at h'
   have z := nE (life := life) h'
   rw [absHeap_ins e] at z
   rw [show n + (o :: l).length = n + 1 + l.length by rw [As]; omega,z]
   simp [Heap.push]
noncomputable def treeOf (s : Shared) : Option SharedT :=
 Option.rec (motive := fun _ => Option SharedT) none (fun t => some ⟨t,s.heap.objs.size,s.heap.life,s.gens,s.drawn,s.toks,s.os⟩) (grow s.heap.objs.toList 0 .nil)
theorem mh {s : Shared} {s' : SharedT} (h : treeOf s = some s') : s'.abs = s := by
 have h' : Option.rec (motive := fun _ => Option SharedT) none (fun t => some ⟨t,s.heap.objs.size,s.heap.life,s.gens,s.drawn,s.toks,s.os⟩) (grow s.heap.objs.toList 0 .nil) = some s' := h
 cases e : grow s.heap.objs.toList 0 .nil with
 | none => rw [e] at h'; cases h'
 | some t =>
  rw [e] at h'
  cases h'
  have z := nE (life := s.heap.life) e
  obtain ⟨⟨objs,life⟩,gens,drawn,toks,os⟩ := s
  simp only [SharedT.abs]
  have z' : absHeap t objs.size life = ⟨objs,life⟩ := by
   simpa [absHeap,BT.list] using z
  rw [z']
noncomputable def qc (ok : Nat -> Option Value -> Thread -> Bool) (st : SharedT -> Thread -> Option (SharedT × Thread)) (p : Program) (N : Nat) (s₀ : Shared) : Option Shared :=
 Bool.rec (motive := fun _ => Option Shared) none
  ((treeOf s₀).bind fun t₀ => (qb (ok s₀.heap.objs.size (s₀.heap.nsMap mainGlobals "__annotations__")) st N t₀ (topStub p)).bind fun t₁ =>
   (fun s₁ => Bool.rec (motive := fun _ => Option Shared) none (some s₁) (staticsOk (importedModules p.main.body) s₀.heap s₁.heap && namesBound p s₁.heap && gensDone s₁ && laidKept s₀.heap s₁.heap)) t₁.abs)
  (s₀.heap.isNs mainGlobals && s₀.gens.size == 0)
theorem qd {tb : String -> Option Builtin} {p : Program} {w : World} {N : Nat} {s₀ s : Shared} (h : qc stepOk (stepT (denote tb) p w) p N s₀ = some s) : topFrom tb p w N s₀ = some s := by
 unfold qc at h
 unfold topFrom
 cases e : s₀.heap.isNs mainGlobals && s₀.gens.size == 0 with
 | false => rw [e] at h; cases h
 | true =>
  rw [e] at h
  obtain ⟨t₀,e0,h⟩ := BG.mp h
  obtain ⟨t₁,e1,h⟩ := BG.mp h
  have r := nD e1
  rw [mh e0] at r
  dsimp only
  rw [r]
  dsimp only at h
  show (match staticsOk (importedModules p.main.body) s₀.heap t₁.abs.heap && namesBound p t₁.abs.heap && gensDone t₁.abs && laidKept s₀.heap t₁.abs.heap with | true => some t₁.abs | false => none) = some s
  cases q : staticsOk (importedModules p.main.body) s₀.heap t₁.abs.heap && namesBound p t₁.abs.heap && gensDone t₁.abs && laidKept s₀.heap t₁.abs.heap with
  | false => rw [q] at h; cases h
  | true => rw [q] at h; exact h
noncomputable def oN (ok : Nat -> Option Value -> Thread -> Bool) (st : SharedT -> Thread -> Option (SharedT × Thread)) (p : Program) (N : Nat) (s₀ : Shared) : Option Shared :=
 (treeOf s₀).bind fun t₀ => (qb (ok s₀.heap.objs.size (s₀.heap.nsMap mainGlobals "__annotations__")) st N t₀ (topStub p)).map fun t₁ => t₁.abs
def r9 (p : Program) (s₀ s₁ : Shared) : Bool := (s₀.heap.isNs mainGlobals && s₀.gens.size == 0) && (staticsOk (importedModules p.main.body) s₀.heap s₁.heap && namesBound p s₁.heap && gensDone s₁ && laidKept s₀.heap s₁.heap)
theorem qf {tb : String -> Option Builtin} {p : Program} {w : World} {N : Nat} {s₀ s : Shared} (h : oN stepOk (stepT (denote tb) p w) p N s₀ = some s) (c : r9 p s₀ s = true) : topFrom tb p w N s₀ = some s := by
 apply qd
 unfold oN at h
 obtain ⟨t₀,e0,h⟩ := BG.mp h
 obtain ⟨t₁,e1,rfl⟩ := B1.mp h
 unfold r9 at c
 rw [Bool.and_eq_true] at c
 unfold qc
 rw [c.1]
 show ((treeOf s₀).bind fun t₀ => _) = _
 rw [e0]
 show ((qb _ _ N t₀ (topStub p)).bind fun t₁ => _) = _
 rw [e1]
 show (Bool.rec (motive := fun _ => Option Shared) none (some t₁.abs) (staticsOk (importedModules p.main.body) s₀.heap t₁.abs.heap && namesBound p t₁.abs.heap && gensDone t₁.abs && laidKept s₀.heap t₁.abs.heap) : Option Shared) = _
 rw [c.2]
abbrev Look (p : Program) (N : Nat) {α : Type} (f : Shared -> Shared -> α) (v : World -> α) : Prop := ∀ w : World,((importEnds treeTable (opening p) w N (start (opening p)).1 (start (opening p)).2).bind fun s => (fenceModules? p s).bind fun s₀ => (oN stepOk (stepT (denote treeTable) p w) p N s₀).map fun s₁ => f s₀ s₁) = some (v w)
theorem Look.at_ {p : Program} {N : Nat} {α : Type} {f : Shared -> Shared -> α} {v : World -> α} (h : Look p N f v) (w : World) {s s₀ s₁ : Shared} (a : importEnds treeTable (opening p) w N (start (opening p)).1 (start (opening p)).2 = some s) (b : fenceModules? p s = some s₀) (c : oN stepOk (stepT (denote treeTable) p w) p N s₀ = some s₁) : f s₀ s₁ = v w := by
 have := h w
 rw [a] at this
 replace this : ((fenceModules? p s).bind fun s₀ => (oN stepOk (stepT (denote treeTable) p w) p N s₀).map fun s₁ => f s₀ s₁) = some (v w) := this
 rw [b] at this
 replace this : ((oN stepOk (stepT (denote treeTable) p w) p N s₀).map fun s₁ => f s₀ s₁) = some (v w) := this
 rw [c] at this
 injection this
theorem qg {p q : Program} {loose : List Str} {Xt : Shared -> Bool} {α : Type} {Yf : Shared -> α} {Ya : World -> α} {N : Nat} {g0 : Bool} (hc : Look p N (fun s₀ s₁ => r9 p s₀ s₁) fun _ => true)
  (h1 : Look p N (fun _ s => openSeen q loose (importedModules p.main.body) Xt g0 s) fun _ => openGood q loose) (h2 : Look p N (fun _ s => Yf s) Ya) : LeftO p q loose Xt Yf Ya N g0 := fun w => by
 obtain ⟨s,a,e⟩ := BG.mp (hc w)
 obtain ⟨s₀,b,e⟩ := BG.mp e
 obtain ⟨s₁,c,e⟩ := B1.mp e
 have z : openEnds treeTable p w N = some s₁ := by
  unfold openEnds fencedOpening
  rw [a]
  show (fenceModules? p s).bind _ = _
  rw [b]
  exact qf c e
 rw [z]
 show some (_,_) = some (_,_)
 rw [h1.at_ w a b c,h2.at_ w a b c]
end Ht
set_option Elab.async false
set_option linter.all false
set_option maxRecDepth 100000
namespace Lk26
open PySem PySem.W PyProof.Rows
def qv : Program := { PySem.Challenge.pw_stovework_k26_stand_in with main := { PySem.Challenge.pw_stovework_k26_stand_in.main with body := ([0,2,3,4,5,6,7,8,9,10,11,12,13,14,15,16,17,18,20,21,22,24,25,26,28,29,32,33,35,37,38,39,41,42,43,44,45,46,47,48,49,50,51,52,53,54,55] : List Nat).filterMap fun i => PySem.Challenge.pw_stovework_k26_stand_in.main.body[i]? } }
def lo : List Str := ["fraction"]
theorem head {α : Type} {Yf : Shared -> α} {Ya : World -> α} {YP : World -> Heap -> Prop} {d : DefRec} {kwd : List (Str × Expr)} (left : LeftO PySem.Challenge.pw_stovework_k26_stand_in qv lo (fun s => xlAt qv [] s && recOk [] s) Yf Ya 10760)
  (hY : ∀ w s,Yf s = Ya w -> YP w s.heap) (hYk : ∀ w h h',YP w h -> (∀ b o,h.get? b = some o -> h'.get? b = some o) -> YP w h') (hd : defOf qv PySem.Challenge.rw_stovework_k26_stand_in.row.name = some (d,kwd))
  (hp : PySem.Challenge.rw_stovework_k26_stand_in.row.prog.theDef PySem.Challenge.rw_stovework_k26_stand_in.row.name = some (d.params,d.body,d.scope)) (hk : kwWritten? d.params.kwonlyargs d.params.kw_defaults = some kwd)
  (said : PySem.Challenge.rw_stovework_k26_stand_in.row.wellSaid = true) (hw : PySem.Challenge.rw_stovework_k26_stand_in.row.toRowW.promised) (call : WalkO qv lo (XL qv []) YP PySem.Challenge.rw_stovework_k26_stand_in.row.toRowW d kwd fun f vs => PySem.call f vs) : PySem.Challenge.rw_stovework_k26_stand_in.row.Holds :=
 holds_open left hY hYk (fun s e => xl_of s (Bool.and_eq_true_iff.mp e).1) XL.keeps hd hp hk (fun s e => recFacts_of (Bool.and_eq_true_iff.mp e).2) rfl said (by decide +kernel) ⟨rfl,rfl,rfl,rfl,rfl,by decide +kernel⟩ hw call
set_option maxHeartbeats 0 in
theorem la : Ht.Look PySem.Challenge.pw_stovework_k26_stand_in 10760 (fun s₀ s₁ => Ht.r9 PySem.Challenge.pw_stovework_k26_stand_in s₀ s₁) (fun _ => true) := by
 intro w
 rw [Ba,BY,Bc,Bb,BZ,BX]
 kernel_rfl
set_option maxHeartbeats 0 in
theorem lb : Ht.Look PySem.Challenge.pw_stovework_k26_stand_in 10760 (fun _ s => openSeen qv lo (importedModules PySem.Challenge.pw_stovework_k26_stand_in.main.body) (fun s => xlAt qv [] s && recOk [] s) true s) (fun _ => openGood qv lo) := by
 intro w
 rw [Ba,BY,Bc,Bb,BZ,BX,PySem.W.Fast.te4187177175401517315]
 kernel_rfl
end Lk26
local macro_rules | `(tactic| o_head $H) => `(tactic| (refine Lk26.head (Yf := PySem.W.Hook.obs $H) (Ya := PySem.W.Hook.val $H) (YP := PySem.W.Hook.says $H) ?hl (PySem.W.Hook.of $H) (PySem.W.Hook.keeps $H) (by rfl) (by rfl) (by rfl) (by assumption) ?hw ?hc; (case hl => (refine Ht.qg Lk26.la Lk26.lb ?c; (case c => (intro w; rw [Ba,BY,Bc,Bb,BZ,BX]; kernel_rfl))))))
namespace PySem.W.Fast
def ez : PySem.Program := PySem.Challenge.pw_stovework_k26_stand_in
theorem jX : PySem.Challenge.pw_stovework_k26_stand_in = ez := rfl
end PySem.W.Fast
set_option maxHeartbeats 0 in
open_top Lk26.hd for PySem.Challenge.rw_stovework_k26_stand_in
namespace L2
open PySem PySem.Spec PyProof.Rows
abbrev Key := Sum Int Str
def jh : Key -> Value -> Bool
 | .inl k,v => Value.isInt k v
 | .inr x,v => Value.isStrOf x v
def yT (w : World) : Key -> Int
 | .inl k => hashInt k
 | .inr x => hashStr w x
theorem bJ : ∀ {k : Key} {v : Value},jh k v = true -> (∃ i t,k = Sum.inl i /\ v = Value.int i t) ∨ (∃ x t,k = Sum.inr x /\ v = Value.str x t)
 | .inl i,v,h => by
  obtain ⟨t,e⟩ := Value.isInt_shape (k := i) (v := v) h
  exact .inl ⟨i,t,rfl,e⟩
 | .inr x,v,h => by
  obtain ⟨t,e⟩ := Value.isStrOf_shape (x := x) (v := v) h
  exact .inr ⟨x,t,rfl,e⟩
theorem oO (i : Int) (t : Tok) : jh (.inl i) (.int i t) = true := by simp [jh,Value.isInt]
theorem oP (x : Str) (t : Tok) : jh (.inr x) (.str x t) = true := by simp [jh,Value.isStrOf]
theorem uP (a b : Int) : decide ((Sum.inl a : Key) = Sum.inl b) = (a == b) := by
 by_cases e : a = b
 ·subst e; simp
 ·have h : ¬ (Sum.inl a : Key) = Sum.inl b := fun q => e (Sum.inl.inj q)
  rw [decide_eq_false h]
  exact (beq_eq_false_iff_ne.mpr e).symm
theorem uQ (a b : Str) : decide ((Sum.inr a : Key) = Sum.inr b) = decide (a = b) := by
 by_cases e : a = b
 ·subst e; simp
 ·have h : ¬ (Sum.inr a : Key) = Sum.inr b := fun q => e (Sum.inr.inj q)
  rw [decide_eq_false h,decide_eq_false e]
theorem uR (a : Int) (b : Str) : decide ((Sum.inl a : Key) = Sum.inr b) = false := decide_eq_false (fun q => nomatch q)
theorem uS (a : Str) (b : Int) : decide ((Sum.inr a : Key) = Sum.inl b) = false := decide_eq_false (fun q => nomatch q)
def aU (prog : Program) (w : World) : PySem.KeyKind prog w Key where
 is := jh
 hash := yT w
 inj := fun v a b ha hb => by
  rcases bJ ha with ⟨i,t,rfl,rfl⟩ | ⟨x,t,rfl,rfl⟩
  ·rcases bJ hb with ⟨j,u,rfl,e⟩ | ⟨y,u,rfl,e⟩
   ·injection e with e1 _; rw [e1]
   ·exact nomatch e
  ·rcases bJ hb with ⟨j,u,rfl,e⟩ | ⟨y,u,rfl,e⟩
   ·exact nomatch e
   ·injection e with e1 _; rw [e1]
 byValue := fun k v h => by
  rcases bJ h with ⟨i,t,rfl,rfl⟩ | ⟨x,t,rfl,rfl⟩ <;> rfl
 pyHash := fun hv h => by
  rcases bJ hv with ⟨i,t,rfl,rfl⟩ | ⟨x,t,rfl,rfl⟩
  ·exact wpAny_pyHash_int h
  ·exact wpAny_pyHash_str h
 eqBool := fun hu hv h => by
  rcases bJ hu with ⟨i,t,rfl,rfl⟩ | ⟨x,t,rfl,rfl⟩
  ·rcases bJ hv with ⟨j,u,rfl,rfl⟩ | ⟨y,u,rfl,rfl⟩
   ·rw [uP] at h; exact wpAny_eqBool_int h
   ·rw [uR] at h; exact SeqAt.EqAt.int_str i t y u _ _ _ _ h
  ·rcases bJ hv with ⟨j,u,rfl,rfl⟩ | ⟨y,u,rfl,rfl⟩
   ·rw [uS] at h; exact SeqAt.EqAt.str_int x t j u _ _ _ _ h
   ·rw [uQ] at h; exact wpAny_eqBool_str h
 «strs» := fun k x t v h => by
  rcases bJ h with ⟨i,u,rfl,e⟩ | ⟨y,u,rfl,e⟩
  ·exact nomatch e
  ·injection e with e1 _
   subst e1
   cases v <;> rfl
theorem kY (prog : Program) (w : World) (i : Int) (t : Tok) : (aU prog w).is (.inl i) (.int i t) = true := oO i t
theorem kZ (prog : Program) (w : World) (x : Str) (t : Tok) : (aU prog w).is (.inr x) (.str x t) = true := oP x t
inductive V where
 | non | bl (b : Bool) | int (i : Int) | str (x : Str) | byt (b : Array UInt8) | flt (b : UInt64) | ref (a : Addr) | ty (n : String)
 deriving DecidableEq
def RelV : V -> Value -> Prop
 | .non,u => u = Value.none
 | .bl b,u => u = Value.bool b
 | .int i,u => ∃ t,u = Value.int i t
 | .str x,u => ∃ t,u = Value.str x t
 | .byt b,u => ∃ t,u = Value.bytes b t
 | .flt b,u => ∃ t,u = Value.float b t
 | .ref a,u => u = Value.ref a
 | .ty n,u => u = Value.type n
abbrev aM : List V -> List Value -> Prop := Paired RelV
theorem aM.length {xs : List V} {us : List Value} (r : aM xs us) : xs.length = us.length := Paired.length r
theorem aM.get : ∀ {xs : List V} {us : List Value} {i : Nat} {x : V},aM xs us -> xs[i]? = some x -> ∃ u,us[i]? = some u /\ RelV x u
 | _,_,_,_,.nil,e => by simp at e
 | _,_,0,_,.cons r _,e => by simp at e; subst e; exact ⟨_,rfl,r⟩
 | _,_,i + 1,x,.cons _ t,e => by
  obtain ⟨u,h1,h2⟩ := aM.get (i := i) (x := x) t (by simpa using e)
  exact ⟨u,by simpa using h1,h2⟩
theorem aM.append : ∀ {xs ys : List V} {us ws : List Value},aM xs us -> aM ys ws -> aM (xs ++ ys) (us ++ ws)
 | _,_,_,_,.nil,s => s
 | _,_,_,_,.cons r t,s => .cons r (aM.append t s)
theorem aM.take : ∀ {xs : List V} {us : List Value} (n : Nat),aM xs us -> aM (xs.take n) (us.take n)
 | _,_,0,_ => .nil
 | _,_,_ + 1,.nil => .nil
 | _,_,n + 1,.cons r t => .cons r (aM.take n t)
theorem aM.drop : ∀ {xs : List V} {us : List Value} (n : Nat),aM xs us -> aM (xs.drop n) (us.drop n)
 | _,_,0,r => r
 | _,_,_ + 1,.nil => .nil
 | _,_,n + 1,.cons _ t => aM.drop n t
def dE : Option V -> Option Value -> Prop
 | some v,some u => RelV v u
 | none,none => True
 | _,_ => False
def KV {κ : Type} : List (κ × V) -> List (κ × Value) -> Prop := Paired fun (p : κ × V) (q : κ × Value) => p.1 = q.1 /\ RelV p.2 q.2
def kV : Key -> V
 | .inl i => .int i
 | .inr x => .str x
inductive HO where
  | lst (xs : List V)
  | tup (xs : List V)
  | dK (kvs : List (Key × V)) | dT (kvs : List (List Key × V))
  | set (S : Int -> Bool) (n : Nat)
  | ins (C dx : Addr) (fs : List (Str × V))
  | own (x : Addr)
  | xd (fs : List (Str × V))
  | met (f x : Addr)
  | rng (lo hi : Int)
  | frz (o : Obj) (u : HO)
  | tbl (ps : Array Value)
  | ext (φ : Heap -> Prop)
abbrev Hp := Addr -> Option HO
def aq (H : Hp) (a : Addr) (o : HO) : Hp := fun b => if b = a then some o else H b
theorem ac {H : Hp} {a : Addr} {o : HO} : aq H a o a = some o := by unfold aq; rw [if_pos rfl]
theorem ae {H : Hp} {a b : Addr} {o : HO} (h : b ≠ a) : aq H a o b = H b := by unfold aq; rw [if_neg h]
theorem jY {H : Hp} {a : Addr} {o u : HO} : aq (aq H a o) a u = aq H a u := by
 funext b; unfold aq; split <;> rfl
theorem b9 {H : Hp} {a b : Addr} {o u : HO} (h : H a = some o) (h' : H b = some u) (d : o ≠ u) : a ≠ b := by
 intro e; subst e; rw [h] at h'; exact d (AN h')
theorem aQ {H : Hp} {a b : Addr} {o : HO} (h : H a = some o) (h' : H b = none) : a ≠ b := by
 intro e; subst e; rw [h] at h'; cases h'
section
variable (P : Program) (w : World)
def aV (H : Hp) (h : Heap) (a : Addr) : HO -> Prop
 | .lst xs => xs.length <= sizeLine /\ ∃ (its : List Value) (n : Nat),aM xs its /\ h.get? a = some { cls := .type "list",data := .seq its.toArray n }
 | .tup xs => xs.length <= sizeLine /\ ∃ its : List Value,aM xs its /\ IsTup h a its.toArray
 | .dK kvs => kvs.length <= sizeLine /\ (a == sysModules) = false /\ ∃ vs,KV kvs vs /\ h.DictOf (aU P w) a vs
 | .dT kvs => kvs.length <= sizeLine /\ (a == sysModules) = false /\ ∃ xs : List (List Key × Addr × Value),
   Paired (fun (p : List Key × V) (q : List Key × Addr × Value) => p.1 = q.1 /\ H q.2.1 = some (.tup (p.1.map kV)) /\ RelV p.2 q.2.2) kvs xs /\
   ∃ o es ep,h.get? a = some o /\ o.ExactDict /\ o.data = .dict es ep /\ es.toList = xs.map (entryOfKey (tupleKind (aU P w))) /\ (xs.map (·.1)).Nodup
 | .set S n => h.SetOf (intKind P w) a S n
 | .ins C dx fs => H dx = some (.own a) /\ fs.length <= 1000 /\ dx ≠ a /\ h.get? a = some (BM C dx) /\
   ∃ mA,h.Ns1 dx mA /\ (∀ f,dE (fs.lookup f) (mA f)) /\ PySem.Within mA (fs.map (·.1))
 | .own _ => ∃ o,h.get? a = some o
 | .xd fs => ∃ mA,h.Ns1 a mA /\ ∀ f,dE (fs.lookup f) (mA f)
 | .rng lo hi => ∃ t u v,h.get? a = some { cls := .type "range",data := .fields #[.int lo t,.int hi u,.int 1 v] }
 | .frz o u => h.get? a = some o /\ aV H h a u
 | .tbl ps => h.get? a = some { cls := .none,data := .fields ps }
 | .met f x => h.get? a = some (PySem.W.methodObj (.ref f) (.ref x))
 | .ext φ => φ h /\ (∃ o,h.get? a = some o) /\ ∀ h1 h2 : Heap,φ h1 -> (∀ o,h1.get? a = some o -> h2.get? a = some o) -> φ h2
def dQ (H : Hp) (h : Heap) : Prop := ∀ a o,H a = some o -> aV P w H h a o
end
section
variable {P : Program} {w : World} {H H' : Hp} {h h' : Heap} {a : Addr} {o : HO}
theorem aV.lt (x : aV P w H h a o) : a < h.objs.size := by
 cases o with
 | lst xs => obtain ⟨_,_,_,_,e⟩ := x; exact Heap.lt_size e
 | tup xs => obtain ⟨_,_,_,p⟩ := x; exact p.lt
 | dK kvs => obtain ⟨_,_,_,_,o,_,_,e,_⟩ := x; exact Heap.lt_size e
 | dT kvs => obtain ⟨_,_,_,_,o,_,_,e,_⟩ := x; exact Heap.lt_size e
 | set S n => obtain ⟨o,_,_,_,e,_⟩ := x; exact Heap.lt_size e
 | ins C dx fs => obtain ⟨_,_,_,e,_⟩ := x; exact Heap.lt_size e
 | own y => obtain ⟨_,e⟩ := x; exact Heap.lt_size e
 | xd fs => obtain ⟨_,⟨_,_,_,e,_⟩,_⟩ := x; exact Heap.lt_size e
 | rng lo hi => obtain ⟨_,_,_,e⟩ := x; exact Heap.lt_size e
 | frz ob u => obtain ⟨e,_⟩ := x; exact Heap.lt_size e
 | tbl ps => exact Heap.lt_size (show h.get? a = some _ from x)
 | met f y => exact Heap.lt_size (show h.get? a = some _ from x)
 | ext φ => obtain ⟨_,⟨_,e⟩,_⟩ := x; exact Heap.lt_size e
theorem Paired.mapP {α β : Type} {F G : α -> β -> Prop} : ∀ {l₁ : List α} {l₂ : List β},Paired F l₁ l₂ -> (∀ a b,F a b -> G a b) -> Paired G l₁ l₂
 | _,_,.nil,_ => .nil
 | _,_,.cons r t,f => .cons (f _ _ r) (Paired.mapP t f)
theorem aV.stay (x : aV P w H h a o) (k : ∀ b u,(b = a ∨ H b = some (.own a)) -> h.get? b = some u -> h'.get? b = some u)
  (ho : ∀ b,H b = some (.own a) -> H' b = some (.own a)) (ht : ∀ b xs,H b = some (.tup xs) -> H' b = some (.tup xs)) : aV P w H' h' a o := by
 induction o with
 | lst xs => obtain ⟨z,its,n,r,e⟩ := x; exact ⟨z,its,n,r,k _ _ (.inl rfl) e⟩
 | tup xs => obtain ⟨z,its,r,ob,e,c⟩ := x; exact ⟨z,its,r,ob,k _ _ (.inl rfl) e,c⟩
 | dK kvs => obtain ⟨z,y,vs,r,ob,es,ep,e,c⟩ := x; exact ⟨z,y,vs,r,ob,es,ep,k _ _ (.inl rfl) e,c⟩
 | dT kvs =>
  obtain ⟨z,y,xs,r,ob,es,ep,e,c⟩ := x
  exact ⟨z,y,xs,Paired.mapP r fun p q z => ⟨z.1,ht _ _ z.2.1,z.2.2⟩,ob,es,ep,k _ _ (.inl rfl) e,c⟩
 | set S n => obtain ⟨ob,es,ep,t,e,c⟩ := x; exact ⟨ob,es,ep,t,k _ _ (.inl rfl) e,c⟩
 | ins C dx fs =>
  obtain ⟨d,z,ne,e,mA,⟨od,es,ep,e2,c⟩,r⟩ := x
  exact ⟨ho _ d,z,ne,k _ _ (.inl rfl) e,mA,⟨od,es,ep,k _ _ (.inr d) e2,c⟩,r⟩
 | own y => obtain ⟨ob,e⟩ := x; exact ⟨ob,k _ _ (.inl rfl) e⟩
 | xd fs => obtain ⟨mA,⟨od,es,ep,e,c⟩,r⟩ := x; exact ⟨mA,⟨od,es,ep,k _ _ (.inl rfl) e,c⟩,r⟩
 | rng lo hi => obtain ⟨t,u,v,e⟩ := x; exact ⟨t,u,v,k _ _ (.inl rfl) e⟩
 | frz ob u ih => obtain ⟨e,q⟩ := x; exact ⟨k _ _ (.inl rfl) e,ih q⟩
 | tbl ps =>
  have e : h.get? a = some { cls := .none,data := .fields ps } := x
  show h'.get? a = some { cls := .none,data := .fields ps }
  exact k a _ (.inl rfl) e
 | met f y =>
  have e : h.get? a = some (PySem.W.methodObj (.ref f) (.ref y)) := x
  show h'.get? a = some (PySem.W.methodObj (.ref f) (.ref y))
  exact k a _ (.inl rfl) e
 | ext φ => obtain ⟨p,⟨o,e⟩,st⟩ := x; exact ⟨st _ _ p fun o q => k _ _ (.inl rfl) q,⟨o,k _ _ (.inl rfl) e⟩,st⟩
theorem dQ.lt (x : dQ P w H h) (e : H a = some o) : a < h.objs.size := (x a o e).lt
theorem dQ.fresh (x : dQ P w H h) (e : h.objs.size <= a) : H a = none := by
 cases q : H a with
 | none => rfl
 | some u => exact absurd (AL (x.lt q) e) (Bj _)
theorem dQ.kept (x : dQ P w H h) (k : ∀ b u,h.get? b = some u -> h'.get? b = some u) : dQ P w H h' := fun a o e =>
 (x a o e).stay (fun b u _ q => k b u q) (fun _ q => q) fun _ _ q => q
theorem dQ.laid (x : dQ P w H h) (k : ∀ b u,h.get? b = some u -> h'.get? b = some u) (hp : h.objs.size <= a) (new : aV P w (aq H a o) h' a o) : dQ P w (aq H a o) h' := fun b u e => by
 have hn := x.fresh hp
 by_cases hb : b = a
 ·subst hb; rw [ac] at e; cases e; exact new
 ·rw [ae hb] at e
  exact (x b u e).stay (fun c v _ q => k c v q) (fun c q => by rw [ae (aQ q hn)]; exact q) fun c xs q => by rw [ae (aQ q hn)]; exact q
end
def Rd (H : Hp) (a : Addr) (u : HO) : Prop := H a = some u ∨ ∃ o,H a = some (.frz o u)
theorem Rd.ok {P : Program} {w : World} {H : Hp} {h : Heap} {a : Addr} {u : HO} (r : Rd H a u) (x : dQ P w H h) : aV P w H h a u := by
 rcases r with r | ⟨o,r⟩
 ·exact x a u r
 ·obtain ⟨_,q⟩ := x a _ r
  exact q
def wq : Option HO -> Prop
 | some (.lst _) => True
 | some (.dK _) => True
 | some (.dT _) => True
 | some (.set _ _) => True
 | some (.ins _ _ _) => True
 | some (.ext _) => True
 | _ => False
section
variable {P : Program} {w : World} {H : Hp} {h h' : Heap} {x e : Addr} {o' : HO}
theorem dQ.write (ok : dQ P w H h) (mu : wq (H x)) (he : e = x ∨ H e = some (.own x)) (k : ∀ b u,b ≠ e -> h.get? b = some u -> h'.get? b = some u) (heo : ∃ u,h'.get? e = some u)
  (new : aV P w (aq H x o') h' x o') : dQ P w (aq H x o') h' := fun b u q => by
 have nown : ∀ c y,H c = some (.own y) -> c ≠ x := fun c y r z => by subst z; rw [r] at mu; exact mu
 have ntup : ∀ c xs,H c = some (.tup xs) -> c ≠ x := fun c xs r z => by subst z; rw [r] at mu; exact mu
 by_cases hb : b = x
 ·subst hb; rw [ac] at q; cases q; exact new
 ·rw [ae hb] at q
  by_cases hbe : b = e
  ·have q' : H b = some (.own x) := by
    rcases he with z | z
    ·exact absurd (hbe.trans z) hb
    ·rw [hbe]; exact z
   rw [q] at q'; cases q'
   obtain ⟨v,hv⟩ := heo
   exact ⟨v,by rw [hbe]; exact hv⟩
  ·refine (ok b u q).stay (fun c v hc r => k c v ?_ r) (fun c r => by rw [ae (nown c b r)]; exact r) fun c xs r => by rw [ae (ntup c xs r)]; exact r
   rcases hc with rfl | hc
   ·exact hbe
   ·rintro rfl
    rcases he with z | z
    ·exact nown c b hc z
    ·rw [hc] at z; cases z; exact hb rfl
end
structure Un (fs ex : List Addr) (H H' : Hp) (h h' : Heap) : Prop where
 keep : ∀ b o,h.get? b = some o -> H b = none -> b ∉ fs -> b ∉ ex -> h'.get? b = some o
 slot : ∀ b o,h.get? b = some o -> H b = none -> b ∈ fs -> b ∉ ex -> ∃ sl,h'.get? b = some { o with slots := sl }
 free : ∀ b o,h.get? b = some o -> H b = none -> b ∉ ex -> H' b = none
 there : ∀ b o,h.get? b = some o -> b ∉ ex -> ∃ o',h'.get? b = some o'
 tups : ∀ b xs,H b = some (.tup xs) -> H' b = some (.tup xs)
 frzs : ∀ b o u,H b = some (.frz o u) -> H' b = some (.frz o u)
 tbls : ∀ b ps,H b = some (.tbl ps) -> ∃ more,H' b = some (.tbl (ps ++ more))
section
variable {fs fs' ex ex' : List Addr} {H H1 H2 : Hp} {h h1 h2 h' : Heap} {a x e : Addr} {o : HO}
theorem Un.any (u : Un fs ex H H1 h h1) {b : Addr} {ob : Obj} (q : h.get? b = some ob) (n : H b = none) (hx : b ∉ ex) : ∃ sl,h1.get? b = some { ob with slots := sl } := by
 by_cases hb : b ∈ fs
 ·exact u.slot b ob q n hb hx
 ·exact ⟨ob.slots,u.keep b ob q n hb hx⟩
theorem Un.trans (a : Un fs ex H H1 h h1) (b : Un fs ex H1 H2 h1 h2) : Un fs ex H H2 h h2 where
 keep := fun c ob q n hc hx => b.keep c ob (a.keep c ob q n hc hx) (a.free c ob q n hx) hc hx
 slot := fun c ob q n hc hx => by
  obtain ⟨sl,e1⟩ := a.slot c ob q n hc hx
  obtain ⟨sl',e2⟩ := b.slot c _ e1 (a.free c ob q n hx) hc hx
  exact ⟨sl',e2⟩
 free := fun c ob q n hx => by
  obtain ⟨o',e1⟩ := a.there c ob q hx
  exact b.free c o' e1 (a.free c ob q n hx) hx
 there := fun c ob q hx => by
  obtain ⟨o',e1⟩ := a.there c ob q hx
  exact b.there c o' e1 hx
 tups := fun c xs q => b.tups c xs (a.tups c xs q)
 frzs := fun c ob xs q => b.frzs c ob xs (a.frzs c ob xs q)
 tbls := fun c ps q => by
  obtain ⟨m1,e1⟩ := a.tbls c ps q
  obtain ⟨m2,e2⟩ := b.tbls c _ e1
  exact ⟨m1 ++ m2,by rw [e2,Array.append_assoc]⟩
theorem Un.kept (k : ∀ b u,h.get? b = some u -> h'.get? b = some u) : Un fs ex H H h h' :=
 ⟨fun b ob q _ _ _ => k b ob q,fun b ob q _ _ _ => ⟨ob.slots,k b ob q⟩,fun _ _ _ n _ => n,fun b ob q _ => ⟨ob,k b ob q⟩,fun _ _ q => q,fun _ _ _ q => q,fun _ ps q => ⟨#[],by rw [q]; simp⟩⟩
theorem Un.refl : Un fs ex H H h h := Un.kept fun _ _ q => q
theorem Un.laid (k : ∀ b u,h.get? b = some u -> h'.get? b = some u) (hp : h.objs.size <= a) (hn : H a = none) : Un fs ex H (aq H a o) h h' where
 keep := fun b u q _ _ _ => k b u q
 slot := fun b u q _ _ _ => ⟨u.slots,k b u q⟩
 free := fun b u q n _ => by rw [ae (AD (AL (Heap.lt_size q) hp))]; exact n
 there := fun b u q _ => ⟨u,k b u q⟩
 tups := fun b xs q => by rw [ae (aQ q hn)]; exact q
 frzs := fun b u xs q => by rw [ae (aQ q hn)]; exact q
 tbls := fun b ps q => ⟨#[],by rw [ae (aQ q hn),q]; simp⟩
theorem Un.write (mu : wq (H x)) (he : e = x ∨ H e = some (.own x)) (k : ∀ b u,b ≠ e -> h.get? b = some u -> h'.get? b = some u) (heo : ∃ u,h'.get? e = some u) : Un fs ex H (aq H x o) h h' := by
 have hx : ∀ b,H b = none -> b ≠ x := fun b n z => by subst z; rw [n] at mu; exact mu
 have hb : ∀ b,H b = none -> b ≠ e := fun b n z => by
  subst z
  rcases he with r | r
  ·exact hx b n r
  ·rw [n] at r; cases r
 have hm : ∀ b u,H b = some u -> ¬ wq (some u) -> b ≠ x := fun b u q nm z => by subst z; rw [q] at mu; exact nm mu
 refine ⟨fun b u q n _ _ => k b u (hb b n) q,fun b u q n _ _ => ⟨u.slots,k b u (hb b n) q⟩,fun b u q n _ => by rw [ae (hx b n)]; exact n,fun b u q _ => ?_,
  fun b xs q => by rw [ae (hm b _ q fun z => z)]; exact q,fun b u xs q => by rw [ae (hm b _ q fun z => z)]; exact q,fun b ps q => ⟨#[],by rw [ae (hm b _ q fun z => z),q]; simp⟩⟩
 by_cases hbe : b = e
 ·subst hbe; exact heo
 ·exact ⟨u,k b u hbe q⟩
end
def yC (h : Heap) (H : Hp) : List Addr := (List.range h.objs.size).filter fun a => (H a).isSome
def jZ (h : Heap) (H : Hp) : Heap := PySem.W.hideAll h (yC h H)
theorem oQ (h : Heap) (H : Hp) : (jZ h H).objs.size = h.objs.size := PySem.W.hideAll_size _ _
theorem qh {h : Heap} {H : Hp} {b : Addr} {o : Obj} (e : h.get? b = some o) (n : H b = none) : (jZ h H).get? b = some o :=
 PySem.W.hideAll_get _ e fun hm => by
  have q : (H b).isSome = true := (BO.mp hm).2
  rw [n] at q; simp at q
theorem sd {h : Heap} {H : Hp} {b : Addr} {o : Obj} (e : (jZ h H).get? b = some o) : h.get? b = some o /\ H b = none := by
 have e' : h.get? b = some o := PySem.W.of_hideAll (yC h H) e
 refine ⟨e',?_⟩
 cases q : H b with
 | none => rfl
 | some x =>
  have hm : b ∈ yC h H := BO.mpr ⟨List.mem_range.mpr (Heap.lt_size e'),by simp [q]⟩
  have z : (jZ h H).get? b = none := PySem.W.hideAll_none (yC h H) hm
  rw [z] at e; cases e
structure Mod (K : A0) (mg : Str -> Option Value) (base : Heap) : Prop where
 kin : K.In base
 glob : base.Ns mainGlobals mg
 blt : ∃ mb,base.Ns builtinsNs mb /\ ∀ x : Str,x ≠ "__name__" -> mb x = bootBuiltins x
 nolimit : base.NoLimit
structure Cx where
 prog : Program
 w : World
 K : A0
 mg : Str -> Option Value
 base : Heap
 A : Around
 N : List Str
 s₀ : Shared
 H₀ : Hp
 env : Env
 outer : List Env
 stack : List Env
 ex : List Addr
 fn : Str -> Bool
 calm : Bool
 pn : List (Addr × Obj)
 xe : Value -> Shared -> Prop
def gS (l : List Env) : List Addr := l.filterMap (·.frame)
abbrev Cx.fs (X : Cx) : List Addr := gS X.outer
def wu (sc : Scope) (x : Str) : Prop := sc.names.lookup x = some .local ∨ sc.names.lookup x = some .cell ∨ sc.names.lookup x = some .free
def Loc (sc : Scope) (x : Str) : Prop := sc.names.lookup x = some .local ∨ sc.names.lookup x = some .cell
def Look (env : Env) (h : Heap) (m : Str -> Option Value) (x : Str) (u : Value) : Prop :=
 (env.kindOf x = some .local /\ m x = some u) ∨ ((env.kindOf x = some .cell ∨ env.kindOf x = some .free) /\ ∃ c,env.cells.lookup x = some c /\ h.IsCell c (some u))
structure Cx.Ok (X : Cx) : Prop where
 mod : Mod X.K X.mg X.base
 kind : X.env.scope.kind = .function
 glob : X.env.globals = mainGlobals
 blt : X.env.builtins = builtinsNs
 above : X.s₀.heap.objs.size <= X.env.locals
 inj : ∀ x y c,X.env.cells.lookup x = some c -> X.env.cells.lookup y = some c -> x = y
 has : ∀ x,(X.env.kindOf x = some .cell ∨ X.env.kindOf x = some .free) -> ∃ c,X.env.cells.lookup x = some c
 cab : ∀ x c,X.fn x = true -> X.env.cells.lookup x = some c -> X.s₀.heap.objs.size <= c
 hd : X.calm = true -> X.A.handled = none
 frames : X.A.frames = some X.stack
 stk : X.stack = X.outer ∨ (X.stack = X.env :: X.outer /\ X.env.frame = some X.env.locals)
 exf : ∀ b ∈ X.ex,b ≠ X.env.locals /\ ∀ x c,X.env.cells.lookup x = some c -> c ≠ b
 bs : ∀ b o,X.base.get? b = some o -> X.s₀.heap.get? b = some o /\ X.H₀ b = none
 bsz : X.base.objs.size <= X.s₀.heap.objs.size
 noex : ∀ b o,X.base.get? b = some o -> b ∉ X.ex
 exfs : ∀ b ∈ X.ex,b ∉ X.fs
 funs : X.s₀.heap.FunFrames X.base X.outer
 frf : ∀ b ∈ X.fs,X.H₀ b = none
structure av (X : Cx) (pins : List (Addr × Obj)) (σ : List (Option V)) (H : Hp) (s : Shared) : Prop where
 ok : X.Ok
 os : s.os = X.s₀.os
 bare : AllBare s.gens
 base : Un X.fs X.ex X.H₀ H X.s₀.heap s.heap
 loc : ∃ m,s.heap.Ns X.env.locals m /\ ∀ (i : Nat) (x : Str) (v : V),X.N[i]? = some x -> σ[i]? = some (some v) -> wu X.env.scope x -> ∃ u,RelV v u /\ Look X.env s.heap m x u
 cell : ∀ x c,X.env.cells.lookup x = some c -> ∃ v,s.heap.IsCell c v
 free : H X.env.locals = none
 freeC : ∀ x c,X.env.cells.lookup x = some c -> H c = none
 pin : ∀ p ∈ X.pn ++ pins,s.heap.get? p.1 = some p.2 /\ H p.1 = none /\ p.1 ≠ X.env.locals /\ p.1 ∉ X.fs /\ ∀ v,p.2.data ≠ .cell v
 hok : dQ X.prog X.w H s.heap
 len : σ.length = X.N.length
section
variable {X : Cx} {pins : List (Addr × Obj)} {σ : List (Option V)} {H H' : Hp} {s : Shared} {h' : Heap}
theorem Cx.Ok.nofr (ok : X.Ok) {b : Addr} {o : Obj} (e : X.base.get? b = some o) : b ∉ X.fs := fun hb => by
 have := (ok.funs.mem hb).1
 rw [e] at this; cases this
theorem av.bs (I : av X pins σ H s) : ∀ b o,X.base.get? b = some o -> s.heap.get? b = some o /\ H b = none := fun b o e =>
 ⟨I.base.keep b o (I.ok.bs b o e).1 (I.ok.bs b o e).2 (I.ok.nofr e) (I.ok.noex b o e),I.base.free b o (I.ok.bs b o e).1 (I.ok.bs b o e).2 (I.ok.noex b o e)⟩
theorem av.bk (I : av X pins σ H s) : ∀ b o,X.base.get? b = some o -> s.heap.get? b = some o := fun b o e => (I.bs b o e).1
theorem av.mod (I : av X pins σ H s) : Mod X.K X.mg X.base := I.ok.mod
theorem av.kIn (I : av X pins σ H s) : X.K.In s.heap := I.ok.mod.kin.keeps I.bk
theorem av.lt (I : av X pins σ H s) : X.env.locals < s.heap.objs.size := let ⟨_,hn,_⟩ := I.loc; hn.lt
theorem av.sz (I : av X pins σ H s) : X.s₀.heap.objs.size <= s.heap.objs.size := AR I.ok.above (Nat.le_of_lt I.lt)
theorem av.nofs (I : av X pins σ H s) {a : Addr} (h : s.heap.objs.size <= a) : a ∉ X.fs := fun hb => by
 obtain ⟨_,o,ho,_⟩ := I.ok.funs.mem hb
 exact absurd (AL (Heap.lt_size ho) (AR I.sz h)) (Bj _)
theorem av.cne (I : av X pins σ H s) : ∀ x c,X.env.cells.lookup x = some c -> c ≠ X.env.locals := fun x c e z => by
 obtain ⟨v,o,ho,hd⟩ := I.cell x c e
 obtain ⟨m,⟨o',es,ep,ho',hd',_⟩,_⟩ := I.loc
 rw [z,ho'] at ho; cases ho; rw [hd'] at hd; cases hd
theorem av.funs (I : av X pins σ H s) : s.heap.FunFrames X.base X.outer := by
 have all : ∀ (l : List Env),(∀ b ∈ gS l,b ∈ X.fs) -> X.s₀.heap.FunFrames X.base l -> s.heap.FunFrames X.base l := by
  intro l
  induction l with
  | nil => intro _ _; trivial
  | cons env r ih =>
   intro hs hl
   obtain ⟨hk,⟨L,o,hf,hn,ho,hd⟩,hr⟩ := hl
   have hL : L ∈ X.fs := hs L (by unfold gS; rw [Bh,hf]; exact BC)
   obtain ⟨sl,e⟩ := I.base.slot L o ho (I.ok.frf L hL) hL fun z => I.ok.exfs L z hL
   exact ⟨hk,⟨L,_,hf,hn,e,hd⟩,ih (fun b hb => hs b (by unfold gS; rw [Bh,hf]; exact AV _ hb)) hr⟩
 exact all X.outer (fun _ hb => hb) I.ok.funs
theorem av.stack (I : av X pins σ H s) : s.heap.FunFrames X.base X.stack := by
 rcases I.ok.stk with e | ⟨e,hf⟩
 ·rw [e]; exact I.funs
 ·rw [e]
  obtain ⟨m,hn,_⟩ := I.loc
  refine .cons (by rw [I.ok.kind]; decide) hf hn ?_ I.funs
  exact Heap.get?_none_of_le (AR I.ok.bsz I.ok.above)
theorem av.stkSub (I : av X pins σ H s) : ∀ b ∈ gS X.stack,b ∈ X.env.locals :: X.fs := fun b hb => by
 rcases I.ok.stk with e | ⟨e,hf⟩
 ·rw [e] at hb; exact AV _ hb
 ·rw [e] at hb
  unfold gS at hb
  rw [Bh,hf] at hb
  exact hb
theorem av.stkFree (I : av X pins σ H s) : ∀ b ∈ gS X.stack,H b = none := fun b hb => by
 rcases AB.mp (I.stkSub b hb) with e | hb
 ·rw [e]; exact I.free
 ·obtain ⟨_,o,ho,_⟩ := I.ok.funs.mem hb
  exact I.base.free b o ho (I.ok.frf b hb) fun z => I.ok.exfs b z hb
theorem av.step {g' : Array GenState} {t' : Nat} {d' : Drawn} {ch : List Addr} (I : av X pins σ H s)
  (hch : ∀ b ∈ ch,(b ∈ X.ex ∨ X.s₀.heap.objs.size <= b) /\ b ≠ X.env.locals /\ (∀ x c,X.env.cells.lookup x = some c -> c ≠ b) /\ ∀ p ∈ X.pn ++ pins,p.1 ≠ b)
  (keep : ∀ b o,b ≠ X.env.locals -> b ∉ X.fs -> b ∉ ch -> s.heap.get? b = some o -> H b = none -> h'.get? b = some o)
  (slot : ∀ b o,b ≠ X.env.locals -> b ∈ X.fs -> b ∉ ch -> s.heap.get? b = some o -> H b = none -> ∃ sl,h'.get? b = some { o with slots := sl }) (free : ∀ b o,b ∉ ch -> s.heap.get? b = some o -> H b = none -> H' b = none)
  (there : ∀ b o,b ∉ ch -> s.heap.get? b = some o -> ∃ o',h'.get? b = some o')
  (tups : ∀ b xs,H b = some (.tup xs) -> H' b = some (.tup xs)) (frzs : ∀ b o u,H b = some (.frz o u) -> H' b = some (.frz o u)) (tbls : ∀ b ps,H b = some (.tbl ps) -> ∃ more,H' b = some (.tbl (ps ++ more)))
  (ns : ∀ m,s.heap.Ns X.env.locals m -> h'.Ns X.env.locals m) (hok : dQ X.prog X.w H' h') (hg : AllBare g') :
  av X pins σ H' { s with heap := h',gens := g',drawn := d',toks := t' } := by
 have neL : ∀ b o,X.s₀.heap.get? b = some o -> b ≠ X.env.locals := fun b o e => AD (AL (Heap.lt_size e) I.ok.above)
 have neC : ∀ b o,X.s₀.heap.get? b = some o -> b ∉ X.ex -> b ∉ ch := fun b o e hx hb => by
  rcases (hch b hb).1 with z | z
  ·exact hx z
  ·exact absurd (AL (Heap.lt_size e) z) (Bj _)
 have cellK : ∀ x c,X.env.cells.lookup x = some c -> ∀ v,s.heap.IsCell c v -> h'.IsCell c v := fun x c e v ⟨o,ho,hd⟩ => by
  have nch : c ∉ ch := fun z => (hch c z).2.2.1 x c e rfl
  by_cases hc : c ∈ X.fs
  ·obtain ⟨sl,q⟩ := slot c o (I.cne x c e) hc nch ho (I.freeC x c e)
   exact ⟨_,q,hd⟩
  ·exact ⟨o,keep c o (I.cne x c e) hc nch ho (I.freeC x c e),hd⟩
 refine ⟨I.ok,I.os,hg,⟨fun b o e n hb hx => ?_,fun b o e n hb hx => ?_,fun b o e n hx => ?_,fun b o e hx => ?_,fun b xs e => tups b xs (I.base.tups b xs e),fun b o xs e => frzs b o xs (I.base.frzs b o xs e),fun b ps e => ?_⟩,?_,fun x c e => ?_,?_,fun x c e => ?_,fun p hp => ?_,hok,I.len⟩
 ·exact keep b o (neL b o e) hb (neC b o e hx) (I.base.keep b o e n hb hx) (I.base.free b o e n hx)
 ·obtain ⟨sl,e1⟩ := I.base.slot b o e n hb hx
  obtain ⟨sl',e2⟩ := slot b _ (neL b o e) hb (neC b o e hx) e1 (I.base.free b o e n hx)
  exact ⟨sl',e2⟩
 ·obtain ⟨o',e1⟩ := I.base.there b o e hx
  exact free b o' (neC b o e hx) e1 (I.base.free b o e n hx)
 ·obtain ⟨o',e1⟩ := I.base.there b o e hx
  exact there b o' (neC b o e hx) e1
 ·obtain ⟨m1,e1⟩ := I.base.tbls b ps e
  obtain ⟨m2,e2⟩ := tbls b _ e1
  exact ⟨m1 ++ m2,by rw [e2,Array.append_assoc]⟩
 ·obtain ⟨m,hn,hl⟩ := I.loc
  refine ⟨m,ns m hn,fun i x v e1 e2 e3 => ?_⟩
  obtain ⟨u,r,l⟩ := hl i x v e1 e2 e3
  refine ⟨u,r,?_⟩
  rcases l with l | ⟨k,c,e,z⟩
  ·exact .inl l
  ·exact .inr ⟨k,c,e,cellK x c e _ z⟩
 ·obtain ⟨v,z⟩ := I.cell x c e
  exact ⟨v,cellK x c e v z⟩
 ·obtain ⟨m,⟨o,_,_,ho,_⟩,_⟩ := I.loc
  exact free _ o (fun z => (hch _ z).2.1 rfl) ho I.free
 ·obtain ⟨v,o,ho,hd⟩ := I.cell x c e
  exact free c o (fun z => (hch c z).2.2.1 x c e rfl) ho (I.freeC x c e)
 ·obtain ⟨e,n,ne,nf,d⟩ := I.pin p hp
  have nch : p.1 ∉ ch := fun z => (hch p.1 z).2.2.2 p hp rfl
  exact ⟨keep p.1 p.2 ne nf nch e n,free p.1 p.2 nch e n,ne,nf,d⟩
theorem av.un {t' : Nat} (I : av X pins σ H s) (u : Un X.fs [] H H' s.heap h') (hok : dQ X.prog X.w H' h') : av X pins σ H' { s with heap := h',toks := t' } := by
 obtain ⟨m,⟨o,es,ep,ho,r⟩,_⟩ := id I.loc
 obtain ⟨sl,hL⟩ := u.any ho I.free (by simp)
 exact I.step (g' := s.gens) (d' := s.drawn) (ch := []) (fun _ z => nomatch z) (fun b o _ hb _ e n => u.keep b o e n hb (by simp)) (fun b o _ hb _ e n => u.slot b o e n hb (by simp)) (fun b o _ e n => u.free b o e n (by simp)) (fun b o _ e => u.there b o e (by simp)) u.tups u.frzs u.tbls (fun m' hm => by
  obtain ⟨o',es',ep',ho',r'⟩ := hm
  rw [ho] at ho'; cases ho'
  exact ⟨_,es',ep',hL,r'⟩) hok I.bare
theorem av.call {g' : Array GenState} {t' : Nat} {d' : Drawn} {ch : List Addr} (I : av X pins σ H s) (u : Un (gS X.stack) ch H H' s.heap h') (hok : dQ X.prog X.w H' h') (hg : AllBare g')
  (hch : ∀ b ∈ ch,(b ∈ X.ex ∨ X.s₀.heap.objs.size <= b) /\ b ≠ X.env.locals /\ (∀ x c,X.env.cells.lookup x = some c -> c ≠ b) /\ ∀ p ∈ X.pn ++ pins,p.1 ≠ b) :
  av X pins σ H' { s with heap := h',gens := g',drawn := d',toks := t' } := by
 obtain ⟨m,⟨o,es,ep,ho,r⟩,_⟩ := id I.loc
 obtain ⟨sl,hL⟩ := u.any ho I.free fun z => (hch _ z).2.1 rfl
 exact I.step (ch := ch) hch (fun b o hL hb hc e n => u.keep b o e n (fun z => (AB.mp (I.stkSub b z)).elim hL hb) hc) (fun b o _ _ hc e n => u.any e n hc) (fun b o hc e n => u.free b o e n hc) (fun b o hc e => u.there b o e hc) u.tups u.frzs u.tbls (fun m' hm => by
  obtain ⟨o',es',ep',ho',r'⟩ := hm
  rw [ho] at ho'; cases ho'
  exact ⟨_,es',ep',hL,r'⟩) hok hg
theorem av.turned {t' : Nat} {it : Addr} (I : av X pins σ H s) (k : ∀ b o,b ≠ it -> s.heap.get? b = some o -> h'.get? b = some o) (hn : H it = none) (hL : it ≠ X.env.locals)
  (h1 : it ∈ X.ex ∨ X.s₀.heap.objs.size <= it) (h2 : ∀ x c,X.env.cells.lookup x = some c -> c ≠ it) (h3 : ∀ p ∈ X.pn ++ pins,p.1 ≠ it) : av X pins σ H { s with heap := h',toks := t' } := by
 have nit : ∀ b u,H b = some u -> b ≠ it := fun b u e z => by rw [z,hn] at e; cases e
 refine I.step (g' := s.gens) (d' := s.drawn) (ch := [it]) (fun b hb => ?_) (fun b o _ _ hc e _ => k b o (fun z => hc (by simp [z])) e) (fun b o _ _ hc e _ => ⟨o.slots,k b o (fun z => hc (by simp [z])) e⟩) (fun _ _ _ _ n => n)
  (fun b o hc e => ⟨o,k b o (fun z => hc (by simp [z])) e⟩) (fun _ _ e => e) (fun _ _ _ e => e) (fun b ps e => ⟨#[],by rw [e]; simp⟩) (fun m hm => ?_) (fun b u e => ?_) I.bare
 ·have e : b = it := by simpa using hb
  subst e
  exact ⟨h1,hL,h2,h3⟩
 ·obtain ⟨o,es,ep,ho,r⟩ := hm
  exact ⟨o,es,ep,k _ o (Ne.symm hL) ho,r⟩
 ·refine (I.hok b u e).stay (fun c v hc q => k c v ?_ q) (fun _ q => q) fun _ _ q => q
  rcases hc with z | z
  ·rw [z]; exact nit b u e
  ·exact nit c _ z
theorem av.tok (I : av X pins σ H s) (t : Nat) : av X pins σ H { s with toks := t } := I.un (h' := s.heap) (t' := t) Un.refl I.hok
theorem av.kept {t' : Nat} (I : av X pins σ H s) (k : ∀ b u,s.heap.get? b = some u -> h'.get? b = some u) : av X pins σ H { s with heap := h',toks := t' } := I.un (Un.kept k) (I.hok.kept k)
theorem av.laid {a : Addr} {o : HO} {t' : Nat} (I : av X pins σ H s) (k : ∀ b u,s.heap.get? b = some u -> h'.get? b = some u) (hp : s.heap.objs.size <= a) (new : aV X.prog X.w (aq H a o) h' a o) :
  av X pins σ (aq H a o) { s with heap := h',toks := t' } := I.un (Un.laid k hp (I.hok.fresh hp)) (I.hok.laid k hp new)
theorem av.write {x e : Addr} {o : HO} {t' : Nat} (I : av X pins σ H s) (mu : wq (H x)) (he : e = x ∨ H e = some (.own x)) (k : ∀ b u,b ≠ e -> s.heap.get? b = some u -> h'.get? b = some u) (heo : ∃ u,h'.get? e = some u)
  (new : aV X.prog X.w (aq H x o) h' x o) : av X pins σ (aq H x o) { s with heap := h',toks := t' } := I.un (Un.write mu he k heo) (I.hok.write mu he k heo new)
theorem av.pins_of {pins' : List (Addr × Obj)} (I : av X pins σ H s) (h : ∀ p ∈ pins',s.heap.get? p.1 = some p.2 /\ H p.1 = none /\ p.1 ≠ X.env.locals /\ p.1 ∉ X.fs /\ ∀ v,p.2.data ≠ .cell v) : av X pins' σ H s :=
 ⟨I.ok,I.os,I.bare,I.base,I.loc,I.cell,I.free,I.freeC,fun p hp => (AM.mp hp).elim (fun z => I.pin p (Au _ z)) (h p),I.hok,I.len⟩
theorem ix {N : List Str} (hN : N.Nodup) {i j : Nat} {x : Str} (a : N[i]? = some x) (b : N[j]? = some x) : i = j := by
 obtain ⟨h1,e1⟩ := A1.mp a
 obtain ⟨h2,e2⟩ := A1.mp b
 exact (List.getElem_inj hN).mp (e1.trans e2.symm)
theorem jj {M : Model} {A : Around} {E : Value -> Shared -> Prop} {i : Nat} {x : Str} {v : V} {u : Value} {Q : Unit -> Shared -> Prop} (I : av X pins σ H s) (hN : X.N.Nodup) (hi : X.N[i]? = some x) (hx : Loc X.env.scope x) (r : RelV v u)
  (h : ∀ s',av X pins (σ.set i (some v)) H s' -> (∃ a,Heap.SameBut a s.heap s'.heap /\ (a = X.env.locals ∨ X.env.cells.lookup x = some a)) -> Q () s') (hf : X.fn x = true ∨ X.env.scope.names.lookup x = some .local := by first | exact .inl rfl | exact .inr rfl | assumption) : wpAny M A (storeName X.env x u) Q E s := by
 obtain ⟨m,hn,hl⟩ := id I.loc
 have hcls : (X.env.scope.kind == .class || (X.env.scope.kind == .module && X.env.locals != X.env.globals)) = false := by rw [I.ok.kind]; rfl
 have hiσ : i < σ.length := by rw [I.len]; exact (A1.mp hi).1
 have cne := I.cne
 have tracked : ∀ {a : Addr} {h' : Heap},(∃ o,s.heap.get? a = some o /\ H a = none) -> Heap.SameBut a s.heap h' -> dQ X.prog X.w H h' := fun {a h'} ha hs b ob e => by
  obtain ⟨_,_,hfree⟩ := ha
  refine (I.hok b ob e).stay (fun c w' hc q => (hs.2 c ?_).trans q) (fun _ q => q) fun _ _ q => q
  rintro rfl
  rcases hc with rfl | hc
  ·rw [hfree] at e; cases e
  ·rw [hfree] at hc; cases hc
 rcases hx with hk | hk
 ·refine wpAny_storeName_local hk hn (fun h' hn' hs => ?_) hcls
  obtain ⟨oL,_,_,hoL,_⟩ := id hn
  refine h _ ⟨I.ok,I.os,I.bare,⟨fun b o e n hb hx => ?_,fun b o e n hb hx => ?_,I.base.free,fun b o e hx => ?_,I.base.tups,I.base.frzs,I.base.tbls⟩,⟨_,hn',fun j y v' e1 e2 e3 => ?_⟩,fun y c e => ?_,I.free,I.freeC,fun p hp => ?_,tracked ⟨oL,hoL,I.free⟩ hs,by simpa using I.len⟩ ⟨_,hs,.inl rfl⟩
  ·exact (hs.2 b (AD (AL (Heap.lt_size e) I.ok.above))).trans (I.base.keep b o e n hb hx)
  ·obtain ⟨sl,e1⟩ := I.base.slot b o e n hb hx
   exact ⟨sl,(hs.2 b (AD (AL (Heap.lt_size e) I.ok.above))).trans e1⟩
  ·obtain ⟨o',e1⟩ := I.base.there b o e hx
   exact ⟨o',(hs.2 b (AD (AL (Heap.lt_size e) I.ok.above))).trans e1⟩
  ·by_cases hj : j = i
   ·subst hj
    rw [hi] at e1; cases e1
    rw [List.getElem?_set_self hiσ] at e2
    cases e2
    exact ⟨u,r,.inl ⟨hk,by simp⟩⟩
   ·rw [List.getElem?_set_ne (Ne.symm hj)] at e2
    obtain ⟨u',r',q⟩ := hl j y v' e1 e2 e3
    refine ⟨u',r',?_⟩
    rcases q with ⟨k,e⟩ | ⟨k,c,e,z⟩
    ·refine .inl ⟨k,?_⟩
     have : y ≠ x := fun e => hj (ix hN e1 (e ▸ hi))
     simp [this,e]
    ·exact .inr ⟨k,c,e,z.sameBut hs (cne y c e)⟩
  ·obtain ⟨w',z⟩ := I.cell y c e
   exact ⟨w',z.sameBut hs (cne y c e)⟩
  ·obtain ⟨e,n,ne,nf,d⟩ := I.pin p hp
   exact ⟨(hs.2 p.1 ne).trans e,n,ne,nf,d⟩
 ·have hfn : X.fn x = true := by
   rcases hf with z | z
   ·exact z
   ·rw [z] at hk; cases hk
  obtain ⟨c,hc⟩ := I.ok.has x (.inl hk)
  obtain ⟨w',z⟩ := I.cell x c hc
  refine wpAny_storeName_cell I.ok.kind hk hc z (fun h' hc' hs => ?_)
  obtain ⟨oc,hoc,hocd⟩ := id z
  refine h { s with heap := h' } ⟨I.ok,I.os,I.bare,⟨fun b o e n hb hx => ?_,fun b o e n hb hx => ?_,I.base.free,fun b o e hx => ?_,I.base.tups,I.base.frzs,I.base.tbls⟩,⟨m,hn.sameBut hs (Ne.symm (cne x c hc)),fun j y v' e1 e2 e3 => ?_⟩,fun y c' e => ?_,I.free,I.freeC,fun p hp => ?_,tracked ⟨oc,hoc,I.freeC x c hc⟩ hs,by simpa using I.len⟩ ⟨c,hs,.inr hc⟩
  ·exact (hs.2 b (AD (AL (Heap.lt_size e) (I.ok.cab x c hfn hc)))).trans (I.base.keep b o e n hb hx)
  ·obtain ⟨sl,e1⟩ := I.base.slot b o e n hb hx
   exact ⟨sl,(hs.2 b (AD (AL (Heap.lt_size e) (I.ok.cab x c hfn hc)))).trans e1⟩
  ·obtain ⟨o',e1⟩ := I.base.there b o e hx
   exact ⟨o',(hs.2 b (AD (AL (Heap.lt_size e) (I.ok.cab x c hfn hc)))).trans e1⟩
  ·by_cases hj : j = i
   ·subst hj
    rw [hi] at e1; cases e1
    rw [List.getElem?_set_self hiσ] at e2
    cases e2
    exact ⟨u,r,.inr ⟨.inl hk,c,hc,hc'⟩⟩
   ·rw [List.getElem?_set_ne (Ne.symm hj)] at e2
    obtain ⟨u',r',q⟩ := hl j y v' e1 e2 e3
    refine ⟨u',r',?_⟩
    rcases q with q | ⟨k,c',e,z'⟩
    ·exact .inl q
    ·refine .inr ⟨k,c',e,z'.sameBut hs ?_⟩
     rintro rfl
     exact hj (ix hN e1 (I.ok.inj _ _ _ e hc ▸ hi))
  ·by_cases hcc : c' = c
   ·subst hcc; exact ⟨_,hc'⟩
   ·obtain ⟨w2,z2⟩ := I.cell y c' e
    exact ⟨w2,z2.sameBut hs hcc⟩
  ·obtain ⟨e,n,ne,nf,d⟩ := I.pin p hp
   refine ⟨(hs.2 p.1 ?_).trans e,n,ne,nf,d⟩
   intro q
   rw [q,hoc] at e
   have q' : oc = p.2 := AN e
   exact d w' (by rw [<- q']; exact hocd)
theorem dR {M : Model} {A : Around} {E : Value -> Shared -> Prop} {i : Nat} {x : Str} {v : V} {u : Value} {Q : Unit -> Shared -> Prop} (I : av X pins σ H s) (hN : X.N.Nodup) (hi : X.N[i]? = some x) (hx : Loc X.env.scope x) (r : RelV v u)
  (h : ∀ s',av X pins (σ.set i (some v)) H s' -> Q () s') (hf : X.fn x = true ∨ X.env.scope.names.lookup x = some .local := by first | exact .inl rfl | exact .inr rfl | assumption) : wpAny M A (storeName X.env x u) Q E s :=
 jj I hN hi hx r (fun s' I' _ => h s' I') hf
theorem av.call' {s' : Shared} {ch : List Addr} (I : av X pins σ H s) (ho : s'.os = s.os) (u : Un (gS X.stack) ch H H' s.heap s'.heap) (hok : dQ X.prog X.w H' s'.heap) (hg : AllBare s'.gens)
  (hch : ∀ b ∈ ch,(b ∈ X.ex ∨ X.s₀.heap.objs.size <= b) /\ b ≠ X.env.locals /\ (∀ x c,X.env.cells.lookup x = some c -> c ≠ b) /\ ∀ p ∈ X.pn ++ pins,p.1 ≠ b) : av X pins σ H' s' := by
 obtain ⟨h',g',d',t',o'⟩ := s'
 have e : o' = s.os := ho
 subst e
 exact I.call (g' := g') (t' := t') (d' := d') u hok hg hch
end
abbrev XK := Value -> Option Addr -> Hp -> Prop
abbrev St := List (Option V)
abbrev VK := V -> Hp -> Prop
abbrev TE := St -> Hp -> VK -> Prop
abbrev TT := St -> Hp -> (Bool -> Hp -> Prop) -> Prop
abbrev TA := St -> Hp -> (List V -> Hp -> Prop) -> Prop
structure Ends where
 nx : St -> Hp -> Prop
 rt : VK
 bk : St -> Hp -> Prop := fun _ _ => False
 ct : St -> Hp -> Prop := fun _ _ => False
abbrev TS := Ends -> St -> Hp -> Prop
def EP (X : Cx) (pins : List (Addr × Obj)) (σ : St) (Q : VK) (u : Value) (s' : Shared) : Prop := ∃ v H',av X pins σ H' s' /\ RelV v u /\ Q v H'
def TP (X : Cx) (pins : List (Addr × Obj)) (σ : St) (Q : Bool -> Hp -> Prop) (b : Bool) (s' : Shared) : Prop := ∃ H',av X pins σ H' s' /\ Q b H'
def AP (X : Cx) (pins : List (Addr × Obj)) (σ : St) (Q : List V -> Hp -> Prop) (us : List Value) (s' : Shared) : Prop := ∃ vs H',av X pins σ H' s' /\ aM vs us /\ Q vs H'
def SP (X : Cx) (pins : List (Addr × Obj)) (D : Ends) (f : Flow) (s' : Shared) : Prop :=
 match f with
 | .next => ∃ σ' H',av X pins σ' H' s' /\ D.nx σ' H'
 | .brk => ∃ σ' H',av X pins σ' H' s' /\ D.bk σ' H'
 | .cont => ∃ σ' H',av X pins σ' H' s' /\ D.ct σ' H'
 | .ret u => ∃ v σ' H',av X pins σ' H' s' /\ RelV v u /\ D.rt v H'
def PE (X : Cx) (e : Expr) (t : TE) : Prop :=
 ∀ (pins : List (Addr × Obj)) (s : Shared) (σ : St) (H : Hp) (Q : VK),av X pins σ H s -> t σ H Q -> wpAny (model X.prog X.w) X.A (eval e X.env) (EP X pins σ Q) X.xe s
def PT (X : Cx) (e : Expr) (t : TT) : Prop :=
 ∀ (pins : List (Addr × Obj)) (s : Shared) (σ : St) (H : Hp) (Q : Bool -> Hp -> Prop),av X pins σ H s -> t σ H Q -> wpAny (model X.prog X.w) X.A (isTrue e X.env (eval e X.env)) (TP X pins σ Q) X.xe s
def PW (X : Cx) (e : Expr) (t : TT) : Prop :=
 ∀ (whole : Sem Value) (pins : List (Addr × Obj)) (s : Shared) (σ : St) (H : Hp) (Q : Bool -> Hp -> Prop),av X pins σ H s -> t σ H Q -> wpAny (model X.prog X.w) X.A (isTrue e X.env whole) (TP X pins σ Q) X.xe s
theorem PW.pt {X : Cx} {e : Expr} {t : TT} (h : PW X e t) : PT X e t := h _
def PA (X : Cx) (es : List Expr) (t : TA) : Prop :=
 ∀ (pos : Pos) (pins : List (Addr × Obj)) (s : Shared) (σ : St) (H : Hp) (Q : List V -> Hp -> Prop),av X pins σ H s -> t σ H Q -> wpAny (model X.prog X.w) X.A (spliced (backTo pos (starEach es X.env))) (AP X pins σ Q) X.xe s
def PS (X : Cx) (st : Stmt) (t : TS) : Prop :=
 ∀ (pins : List (Addr × Obj)) (s : Shared) (σ : St) (H : Hp) (D : Ends),av X pins σ H s -> t D σ H -> wpAny (model X.prog X.w) X.A (exec st X.env) (SP X pins D) X.xe s
def ja (X : Cx) (st : List Stmt) (t : TS) : Prop :=
 ∀ (pins : List (Addr × Obj)) (s : Shared) (σ : St) (H : Hp) (D : Ends),av X pins σ H s -> t D σ H -> wpAny (model X.prog X.w) X.A (execs st X.env) (SP X pins D) X.xe s
theorem bw {α : Type} {t : Sem α} {Q Q' : α -> Shared -> Prop} {M : Model} {A : Around} {E : Value -> Shared -> Prop} {s : Shared} (h : wpAny M A t Q E s) (hQ : ∀ a s,Q a s -> Q' a s) : wpAny M A t Q' E s := wpAny_mono h hQ fun _ _ x => x
section
variable {X : Cx}
def sg (i : Nat) : TE := fun σ H Q => ∃ v,σ[i]? = some (some v) /\ Q v H
def tC (v : V) : TE := fun _ H Q => Q v H
theorem uT {i : Nat} {x : Str} {pos : Pos} (hN : X.N[i]? = some x) (hv : wu X.env.scope x) (hd : (x == ("__debug__" : Str)) = false := by decide) (hcd : (x == ("__classdict__" : Str)) = false := by decide) : PE X (.Name x pos) (sg i) := by
 intro pins s σ H Q I h
 obtain ⟨v,e,h⟩ := h
 obtain ⟨m,hn,hl⟩ := I.loc
 obtain ⟨u,r,l⟩ := hl i x v hN e hv
 have fin : EP X pins σ Q u s := ⟨v,H,I,r,h⟩
 rcases l with ⟨hk,hm⟩ | ⟨hk,c,hc,hcell⟩
 ·exact wpAny_Name (wpAny_loadName_local I.ok.kind hk hn hm fin) hd
 ·rcases hk with hk | hk
  ·exact wpAny_Name (wpAny_loadName_cell I.ok.kind hk hc hcell fin) hd
  ·exact wpAny_Name (wpAny_loadName_free I.ok.kind hk hc hcell fin hcd) hd
theorem am {i j pos} : PE X (.Constant (.int i) j pos) (tC (.int i)) := fun _ _ _ H _ I h => wpAny_Constant_int ⟨.int i,H,I.tok _,⟨_,rfl⟩,h⟩
theorem bZ {b j pos} : PE X (.Constant (.bool b) j pos) (tC (.bl b)) := fun _ _ _ H _ I h => Constant_bool ⟨.bl b,H,I,rfl,h⟩
theorem cr {j pos} : PE X (.Constant .none j pos) (tC .non) := fun _ _ _ H _ I h => Constant_none ⟨.non,H,I,rfl,h⟩
theorem eO {x j pos} : PE X (.Constant (.str x) j pos) (tC (.str x)) := fun _ _ _ H _ I h => Calls.Constant_str ⟨.str x,H,I.tok _,⟨_,rfl⟩,h⟩
def Gl (X : Cx) (x : Str) : Prop := X.env.kindOf x = some .globalImplicit
theorem dG {E : Value -> Shared -> Prop} {pins : List (Addr × Obj)} {s : Shared} {σ : St} {H : Hp} {x : Str} {u : Value} {pos : Pos} {Q : Value -> Shared -> Prop} (I : av X pins σ H s) (hg : Gl X x) (hm : X.mg x = some u) (h : Q u s)
  (hd : (x == ("__debug__" : Str)) = false := by decide) : wpAny (model X.prog X.w) X.A (eval (.Name x pos) X.env) Q E s :=
 Calls.Name_function_global I.ok.kind hg (Calls.loadGlobal_global (by rw [I.ok.glob]; exact I.mod.glob.keeps I.bk) hm h) hd
theorem fE {E : Value -> Shared -> Prop} {pins : List (Addr × Obj)} {s : Shared} {σ : St} {H : Hp} {x : Str} {u : Value} {pos : Pos} {Q : Value -> Shared -> Prop} (I : av X pins σ H s) (hg : Gl X x) (hm : X.mg x = none) (hv : bootBuiltins x = some u) (h : Q u s)
  (hn : x ≠ "__name__" := by decide) (hd : (x == ("__debug__" : Str)) = false := by decide) : wpAny (model X.prog X.w) X.A (eval (.Name x pos) X.env) Q E s := by
 obtain ⟨mb,h1,h2⟩ := I.mod.blt
 exact Calls.Name_function_global I.ok.kind hg (Calls.loadGlobal_builtin (by rw [I.ok.glob]; exact I.mod.glob.keeps I.bk) hm (by rw [I.ok.blt]; exact h1.keeps I.bk) ((h2 x hn).trans hv) h) hd
theorem bO {x : Str} {v : V} {u : Value} {pos : Pos} (hg : Gl X x) (hm : X.mg x = some u) (r : RelV v u) (hd : (x == ("__debug__" : Str)) = false := by decide) : PE X (.Name x pos) (tC v) :=
 fun _ _ _ H _ I h => dG I hg hm ⟨v,H,I,r,h⟩ hd
theorem cf {x : Str} {v : V} {u : Value} {pos : Pos} (hg : Gl X x) (hm : X.mg x = none) (hv : bootBuiltins x = some u) (r : RelV v u) (hn : x ≠ "__name__" := by decide) (hd : (x == ("__debug__" : Str)) = false := by decide) : PE X (.Name x pos) (tC v) :=
 fun _ _ _ H _ I h => fE I hg hm hv ⟨v,H,I,r,h⟩ hn hd
variable {a b : Expr} {ta tb : TE} {pos : Pos}
def PC (X : Cx) (op : CmpOp) (a b : Expr) (t : TE) : Prop :=
 ∀ (pins : List (Addr × Obj)) (s : Shared) (σ : St) (H : Hp) (Q : VK),av X pins σ H s -> t σ H Q ->
  wpAny (model X.prog X.w) X.A (eval a X.env) (fun v s₁ => wpAny (model X.prog X.w) X.A (eval b X.env) (fun u s₂ => wpAny (model X.prog X.w) X.A (compareOp op v u) (EP X pins σ Q) X.xe s₂) X.xe s₁) X.xe s
def tB (t : TE) : TT := fun σ H Q => t σ H fun x H1 => ∃ c,x = .bl c /\ Q c H1
theorem dM {op : CmpOp} {t : TE} (h : PC X op a b t) (h1 : behindInMarks op b = false := by first | exact nobehind _ (by decide) (by decide) | rfl) : PT X (.Compare a [op] [b] pos) (tB t) := by
 intro pins s σ H Q I hw
 refine wpAny_isTrue_Compare1 (bw (h pins s σ H _ I hw) fun v s1 h1 => bw h1 fun u s2 h2 => bw h2 fun c s3 ⟨x,H1,I1,r1,q1⟩ => ?_) h1
 obtain ⟨d,rfl,q⟩ := q1
 cases r1
 exact wpAny_truthy_bool ⟨H1,I1,q⟩
theorem bG {e : Expr} {t : TE} (h : PE X e t) (he : ∀ whole,isTrue e X.env whole = (do let v <- whole; standAt e.pos; holding [v] (truthy v)) := by intro _; rfl) : PT X e (tB t) := by
 intro pins s σ H Q I hw
 refine isTrue_plain (bw (h pins s σ H _ I hw) fun v s1 ⟨x,H1,I1,r1,q1⟩ => ?_) (he _)
 obtain ⟨d,rfl,q⟩ := q1
 cases r1
 exact wpAny_truthy_bool ⟨H1,I1,q⟩
variable {tA tB' : TT} {rest : List Expr}
def yU (t u : TT) : TT := fun σ H Q => t σ H fun c H1 => if c = true then u σ H1 Q else Q false H1
def Ac (t u : TT) : TT := fun σ H Q => t σ H fun c H1 => if c = true then Q true H1 else u σ H1 Q
def yV (t : TT) : TT := fun σ H Q => t σ H fun c H1 => Q (!c) H1
theorem fO (ha : PT X a tA) : PW X (.BoolOp .And [a] pos) tA := by
 intro wh pins s σ H Q I h
 refine isTrue_and (bw (ha pins s σ H Q I h) fun c s1 e => ?_)
 cases c with
 | true => exact isTrue_and_nil e
 | false => exact e
theorem du (ha : PT X a tA) : PW X (.BoolOp .Or [a] pos) tA := by
 intro wh pins s σ H Q I h
 refine isTrue_or (bw (ha pins s σ H Q I h) fun c s1 e => ?_)
 cases c with
 | false => exact isTrue_or_nil e
 | true => exact e
theorem fF (ha : PT X a tA) (hb : PW X (.BoolOp .And (b :: rest) pos) tB') : PW X (.BoolOp .And (a :: b :: rest) pos) (yU tA tB') := by
 intro wh pins s σ H Q I h
 refine isTrue_and (bw (ha pins s σ H _ I h) fun c s1 ⟨H1,I1,q1⟩ => ?_)
 cases c with
 | true => exact hb wh pins s1 σ H1 Q I1 q1
 | false => exact ⟨H1,I1,q1⟩
theorem dv (ha : PT X a tA) (hb : PW X (.BoolOp .Or (b :: rest) pos) tB') : PW X (.BoolOp .Or (a :: b :: rest) pos) (Ac tA tB') := by
 intro wh pins s σ H Q I h
 refine isTrue_or (bw (ha pins s σ H _ I h) fun c s1 ⟨H1,I1,q1⟩ => ?_)
 cases c with
 | true => exact ⟨H1,I1,q1⟩
 | false => exact hb wh pins s1 σ H1 Q I1 q1
theorem cc (ha : PT X a tA) : PT X (.UnaryOp .Not a pos) (yV tA) := by
 intro pins s σ H Q I h
 exact isTrue_not (ha pins s σ H (fun c H1 => Q (!c) H1) I h)
def wv (ta tb : TE) : TE := fun σ H Q => ta σ H fun x H1 => ∃ c,x = .bl c /\ if c = true then tb σ H1 Q else Q (.bl false) H1
def wx (ta : TE) : TE := fun σ H Q => ta σ H fun x H1 => ∃ c,x = .bl c /\ Q (.bl (!c)) H1
theorem j0 {op} {t : TE} (h : PE X a t) : PE X (.BoolOp op [a] pos) t := fun pins s σ H Q I hw => BoolOp_one (h pins s σ H Q I hw)
theorem j3 (ha : PE X a ta) (hb : PE X (.BoolOp .And (b :: rest) pos) tb) : PE X (.BoolOp .And (a :: b :: rest) pos) (wv ta tb) := by
 intro pins s σ H Q I h
 refine BoolOp_and (bw (ha pins s σ H _ I h) fun v s1 ⟨x,H1,I1,r1,q1⟩ => ?_)
 obtain ⟨c,rfl,q1⟩ := q1
 cases r1
 refine wpAny_truthy_bool ?_
 cases c with
 | true => exact hb pins s1 σ H1 Q I1 q1
 | false => exact ⟨.bl false,H1,I1,rfl,q1⟩
theorem mi (ha : PE X a ta) : PE X (.UnaryOp .Not a pos) (wx ta) := by
 intro pins s σ H Q I h
 refine UnaryOp_ (bw (ha pins s σ H _ I h) fun v s1 ⟨x,H1,I1,r1,q1⟩ => ?_)
 obtain ⟨c,rfl,q1⟩ := q1
 cases r1
 exact not_of (wpAny_truthy_bool ⟨.bl (!c),H1,I1,rfl,q1⟩)
end
def bh (K : A0) (H : Hp) (a : Addr) (xs : List V) : Prop :=
 Rd H a (.lst xs) ∨
  ∃ (o : Obj) (its : Array Value) (n : Nat),K.lookup a = some o /\ o.cls = .type "list" /\ o.dict = none /\ o.data = .seq its n /\ its.size <= sizeLine /\ aM xs its.toList
def cu (K : A0) (H : Hp) (a : Addr) (xs : List V) : Prop :=
 Rd H a (.tup xs) ∨
  ∃ (o : Obj) (its : Array Value) (n : Nat),K.lookup a = some o /\ o.cls = .type "tuple" /\ o.data = .seq its n /\ its.size <= sizeLine /\ aM xs its.toList
def yW : Value -> Option V
 | .none => some .non
 | .bool b => some (.bl b)
 | .int i _ => some (.int i)
 | .str x _ => some (.str x)
 | .bytes b _ => some (.byt b)
 | .float b _ => some (.flt b)
 | .ref a => some (.ref a)
 | .type n => some (.ty n)
 | _ => none
theorem RelV.abs {x : V} {u : Value} (r : RelV x u) : yW u = some x := by
 cases x with
 | non => cases r; rfl
 | bl _ => cases r; rfl
 | int _ => obtain ⟨t,rfl⟩ := r; rfl
 | str _ => obtain ⟨t,rfl⟩ := r; rfl
 | byt _ => obtain ⟨t,rfl⟩ := r; rfl
 | flt _ => obtain ⟨t,rfl⟩ := r; rfl
 | ref _ => cases r; rfl
 | ty _ => cases r; rfl
theorem RelV.inj {x y : V} {u : Value} (r : RelV x u) (q : RelV y u) : x = y := AN (r.abs.symm.trans q.abs)
theorem aM.inj : ∀ {xs ys : List V} {us : List Value},aM xs us -> aM ys us -> xs = ys
 | _,_,_,.nil,.nil => rfl
 | _,_,_,.cons r t,.cons r' t' => by rw [r.inj r',aM.inj t t']
section
variable {X : Cx} {pins : List (Addr × Obj)} {σ : St} {H : Hp} {s : Shared} {a : Addr} {xs ys : List V}
theorem bh.of {K : A0} (h : H a = some (.lst xs)) : bh K H a xs := .inl (.inl h)
theorem cu.of {K : A0} (h : H a = some (.tup xs)) : cu K H a xs := .inl (.inl h)
theorem av.list (I : av X pins σ H s) (h : bh X.K H a xs) : ∃ its : List Value,aM xs its /\ PlainL s.heap a its.toArray /\ xs.length <= sizeLine := by
 rcases h with h | ⟨o,its,n,hk,hc,hd,hs,hz,r⟩
 ·obtain ⟨z,its,n,r,e⟩ := h.ok I.hok
  exact ⟨its,r,⟨_,n,e,rfl,rfl,rfl⟩,z⟩
 ·refine ⟨its.toList,r,⟨o,n,I.kIn a o hk,hc,hd,by simpa using hs⟩,?_⟩
  have e := r.length
  simp only [B9] at e
  omega
theorem av.tuple (I : av X pins σ H s) (h : cu X.K H a xs) : ∃ its : List Value,aM xs its /\ IsTup s.heap a its.toArray /\ xs.length <= sizeLine := by
 rcases h with h | ⟨o,its,n,hk,hc,hs,hz,r⟩
 ·obtain ⟨z,its,r,p⟩ := h.ok I.hok
  exact ⟨its,r,p,z⟩
 ·refine ⟨its.toList,r,⟨o,I.kIn a o hk,hc,n,by simpa using hs⟩,?_⟩
  have e := r.length
  simp only [B9] at e
  omega
theorem av.list_inj (I : av X pins σ H s) (h : bh X.K H a xs) (h' : bh X.K H a ys) : xs = ys := by
 obtain ⟨its,r,⟨o,n,e,_,_,d⟩,_⟩ := I.list h
 obtain ⟨its',r',⟨o',n',e',_,_,d'⟩,_⟩ := I.list h'
 rw [e] at e'; cases e'
 rw [d] at d'
 injection d' with d1 _
 have : its = its' := by simpa using congrArg Array.toList d1
 subst this
 exact r.inj r'
theorem av.tuple_inj (I : av X pins σ H s) (h : cu X.K H a xs) (h' : cu X.K H a ys) : xs = ys := by
 obtain ⟨its,r,⟨o,e,_,n,d⟩,_⟩ := I.tuple h
 obtain ⟨its',r',⟨o',e',_,n',d'⟩,_⟩ := I.tuple h'
 rw [e] at e'; cases e'
 rw [d] at d'
 injection d' with d1 _
 have : its = its' := by simpa using congrArg Array.toList d1
 subst this
 exact r.inj r'
end
abbrev Cx.wish (X : Cx) (E : Value -> Shared -> Prop) : Cx := { X with xe := E }
abbrev Cx.nox (X : Cx) : Cx := X.wish fun _ _ => False
theorem Cx.Ok.wish {X : Cx} (ok : X.Ok) (E : Value -> Shared -> Prop) : (X.wish E).Ok :=
 ⟨ok.mod,ok.kind,ok.glob,ok.blt,ok.above,ok.inj,ok.has,ok.cab,ok.hd,ok.frames,ok.stk,ok.exf,ok.bs,ok.bsz,ok.noex,ok.exfs,ok.funs,ok.frf⟩
theorem Cx.Ok.unwish {X : Cx} {E : Value -> Shared -> Prop} (ok : (X.wish E).Ok) : X.Ok :=
 ⟨ok.mod,ok.kind,ok.glob,ok.blt,ok.above,ok.inj,ok.has,ok.cab,ok.hd,ok.frames,ok.stk,ok.exf,ok.bs,ok.bsz,ok.noex,ok.exfs,ok.funs,ok.frf⟩
section
variable {X : Cx} {pins : List (Addr × Obj)} {σ : St} {H : Hp} {s : Shared} {E : Value -> Shared -> Prop}
theorem av.wish (I : av X pins σ H s) (E : Value -> Shared -> Prop) : av (X.wish E) pins σ H s := ⟨I.ok.wish E,I.os,I.bare,I.base,I.loc,I.cell,I.free,I.freeC,I.pin,I.hok,I.len⟩
theorem av.unwish (I : av (X.wish E) pins σ H s) : av X pins σ H s := ⟨I.ok.unwish,I.os,I.bare,I.base,I.loc,I.cell,I.free,I.freeC,I.pin,I.hok,I.len⟩
theorem SP.unwish {D : Ends} {f : Flow} {s' : Shared} (h : SP (X.wish E) pins D f s') : SP X pins D f s' := by
 cases f with
 | next => obtain ⟨σ',H',I,q⟩ := h; exact ⟨σ',H',I.unwish,q⟩
 | brk => obtain ⟨σ',H',I,q⟩ := h; exact ⟨σ',H',I.unwish,q⟩
 | cont => obtain ⟨σ',H',I,q⟩ := h; exact ⟨σ',H',I.unwish,q⟩
 | ret u => obtain ⟨v,σ',H',I,r,q⟩ := h; exact ⟨v,σ',H',I.unwish,r,q⟩
theorem ja.nox {st : List Stmt} {t : TS} (h : ja X.nox st t) : ja X st t := fun pins s σ H D I hw =>
 wpAny_mono (h pins s σ H D (I.wish _) hw) (fun _ _ q => q.unwish) fun _ _ z => False.elim z
end
section
variable {X : Cx} {st : Stmt} {rest : List Stmt} {t u : TS} {e : Expr} {te : TE} {pos : Pos}
def bE : TS := fun D σ H => D.nx σ H
def wA (t u : TS) : TS := fun D σ H => t { D with nx := u D } σ H
theorem aI : ja X [] bE := fun _ _ σ H _ I h => wpAny_execs_nil ⟨σ,H,I,h⟩
theorem af (h1 : PS X st t) (h2 : ja X rest u) : ja X (st :: rest) (wA t u) := by
 intro pins s σ H D I h
 refine wpAny_execs_cons (bw (h1 pins s σ H { D with nx := u D } I h) fun f s1 q => ?_)
 cases f with
 | next =>
  obtain ⟨σ',H',I',q⟩ := q
  exact h2 pins s1 σ' H' D I' q
 | ret v => exact q
 | brk => exact q
 | cont => exact q
theorem ak (h1 : PS X st t) : ja X [st] t := by
 intro pins s σ H D I h
 refine wpAny_execs_cons (bw (h1 pins s σ H D I h) fun f s1 q => ?_)
 cases f with
 | next => exact wpAny_execs_nil q
 | ret v => exact q
 | brk => exact q
 | cont => exact q
theorem av.quiet {pins : List (Addr × Obj)} {σ : St} {H : Hp} {s : Shared} (I : av X pins σ H s) : interactive X.env = false := by simp [interactive,I.ok.kind]
def wB (te : TE) : TS := fun D σ H => te σ H fun _ H1 => D.nx σ H1
theorem a8 (he : PE X e te) (hs : swapsWith e none pos.line X.env = pure false := by rfl) : PS X (.Expr e pos) (wB te) := by
 intro pins s σ H D I h
 exact wpAny_Expr_any (bw (he pins s σ H _ I h) fun v s1 ⟨x,H1,I1,r1,q1⟩ => ⟨σ,H1,I1,q1⟩) I.quiet hs
def yX (te : TE) : TS := fun D σ H => te σ H D.rt
theorem aH (he : PE X e te) : PS X (.Return (some e) pos) (yX te) := by
 intro pins s σ H D I h
 exact wpAny_Return_some (bw (he pins s σ H _ I h) fun v s1 ⟨x,H1,I1,r1,q1⟩ => ⟨x,σ,H1,I1,r1,q1⟩)
def yY (c : TT) (t u : TS) : TS := fun D σ H => c σ H fun b H1 => if b = true then t D σ H1 else u D σ H1
theorem aX {c : Expr} {a b : List Stmt} {tc : TT} (hc : PT X c tc) (ha : ja X a t) (hb : ja X b u) : PS X (.If c a b pos) (yY tc t u) := by
 intro pins s σ H D I h
 refine wpAny_If (bw (hc pins s σ H _ I h) fun d s1 ⟨H1,I1,q1⟩ => ?_)
 cases d with
 | true => exact ha pins s1 σ H1 D I1 q1
 | false => exact hb pins s1 σ H1 D I1 q1
def uU : TS := fun _ _ _ => False
theorem qi : PS X st uU := fun _ _ _ _ _ _ h => h.elim
end
abbrev TG := V -> St -> Hp -> (St -> Hp -> Prop) -> Prop
abbrev uV := List V -> St -> Hp -> (St -> Hp -> Prop) -> Prop
def PG (X : Cx) (target : Expr) (t : TG) : Prop :=
 ∀ (pins : List (Addr × Obj)) (s : Shared) (σ : St) (H : Hp) (v : V) (u : Value) (Q : St -> Hp -> Prop),av X pins σ H s -> RelV v u -> t v σ H Q ->
  wpAny (model X.prog X.w) X.A (assign target X.env u) (fun _ s' => ∃ σ' H',av X pins σ' H' s' /\ Q σ' H') X.xe s
def yD (X : Cx) (ts : List Expr) (t : uV) : Prop :=
 ∀ (pins : List (Addr × Obj)) (s : Shared) (σ : St) (H : Hp) (vs : List V) (us : List Value) (Q : St -> Hp -> Prop),av X pins σ H s -> aM vs us -> t vs σ H Q ->
  wpAny (model X.prog X.w) X.A (assignInOrder ((assignEach ts X.env).map (·.2)) us) (fun _ s' => ∃ σ' H',av X pins σ' H' s' /\ Q σ' H') X.xe s
abbrev yE := V -> V -> Hp -> VK -> Prop
def z5 (X : Cx) (op : Operator) (t : yE) : Prop :=
 ∀ (pins : List (Addr × Obj)) (s : Shared) (σ : St) (H : Hp) (x y : V) (v u : Value) (Q : VK),av X pins σ H s -> RelV x v -> RelV y u -> t x y H Q ->
  wpAny (model X.prog X.w) X.A (inplaceOp op v u) (EP X pins σ Q) X.xe s
section
variable {X : Cx} {pos : Pos}
def bC (i : Nat) : TG := fun v σ H Q => Q (σ.set i (some v)) H
theorem bA {i : Nat} {x : Str} (hN : X.N.Nodup) (hi : X.N[i]? = some x) (hx : Loc X.env.scope x) (hf : X.fn x = true ∨ X.env.scope.names.lookup x = some .local := by first | exact .inl rfl | exact .inr rfl | assumption) : PG X (.Name x pos) (bC i) := by
 intro pins s σ H v u Q I r h
 exact wpAny_assign_Name (dR I hN hi hx r (fun s' I' => ⟨_,H,I',h⟩) hf)
def yZ : uV := fun vs σ H Q => vs = [] /\ Q σ H
def wC (t : TG) (u : uV) : uV := fun vs σ H Q => ∃ v r,vs = v :: r /\ t v σ H fun σ' H' => u r σ' H' Q
theorem j4 : yD X [] yZ := by
 intro pins s σ H vs us Q I r h
 obtain ⟨e,h⟩ := h
 subst e
 cases r
 exact assignInOrder_nil ⟨σ,H,I,h⟩
theorem dS {e : Expr} {es : List Expr} {t : TG} {u : uV} (h1 : PG X e t) (h2 : yD X es u)
  (hs : (assignEach (e :: es) X.env).map (·.2) = assign e X.env :: (assignEach es X.env).map (·.2) := by rfl) : yD X (e :: es) (wC t u) := by
 intro pins s σ H vs us Q I r h
 obtain ⟨v,vr,e1,h⟩ := h
 subst e1
 cases r with
 | cons r rr =>
  rw [hs]
  refine assignInOrder_cons (bw (h1 pins s σ H _ _ _ I r h) fun _ s1 ⟨σ1,H1,I1,q1⟩ => ?_)
  exact h2 pins s1 σ1 H1 _ _ Q I1 rr q1
def y1 (K : A0) (n : Nat) (t : uV) : TG := fun v σ H Q => ∃ a xs,v = .ref a /\ cu K H a xs /\ xs.length = n /\ t xs σ H Q
theorem mj {es : List Expr} {k : Nat} {t : uV} {n : Nat} (hc : X.calm = true) (h : yD X es t)
  (hn : (assignEach es X.env).length = n := by rfl) (hst : (assignEach es X.env).findIdx? (·.1) = none := by rfl) : PG X (.Tuple es k pos) (y1 X.K n t) := by
 intro pins s σ H v u Q I r hw
 obtain ⟨a,xs,e1,hq,hl,hw⟩ := hw
 subst e1
 cases r
 obtain ⟨its,rv,ht,hz⟩ := I.tuple hq
 refine assign_Tuple_tuple (I.ok.hd hc) ht (by simp [hn,<- hl,rv.length]) hst fun h' hx => ?_
 have I1 : av X pins σ H { s with heap := h' } := I.kept (t' := s.toks) fun b o e => hx b o (AD (Heap.lt_size e)) e
 exact h pins _ σ H xs _ Q I1 (by simpa using rv) hw
def wD (te : TE) (g : TG) : TS := fun D σ H => te σ H fun x H1 => g x σ H1 D.nx
theorem au {i : Nat} {x : Str} {e : Expr} {te : TE} {pos' : Pos} (hN : X.N.Nodup) (hi : X.N[i]? = some x) (hx : Loc X.env.scope x) (he : PE X e te) (hs : swapsWith e (some (.Name x pos')) pos.line X.env = pure false := by rfl) (hf : X.fn x = true ∨ X.env.scope.names.lookup x = some .local := by first | exact .inl rfl | exact .inr rfl | assumption) :
  PS X (.Assign [.Name x pos'] e pos) (wD te (bC i)) := by
 intro pins s σ H D I h
 refine wpAny_Assign_Name (bw (he pins s σ H _ I h) fun v s1 ⟨y,H1,I1,r1,q1⟩ => ?_) hs
 exact dR I1 hN hi hx r1 (fun s2 I2 => ⟨_,H1,I2,q1⟩) hf
def y2 (i j : Nat) (ta : TA) : TS := fun D σ H => ta σ H fun vs H1 => ∃ v w,vs = [v,w] /\ D.nx ((σ.set i (some v)).set j (some w)) H1
theorem uW {i j : Nat} {x y : Str} {a b : Expr} {ta : TA} {px py pt : Pos} {kt k2 pt2} (hc : X.calm = true) (hN : X.N.Nodup) (hi : X.N[i]? = some x) (hj : X.N[j]? = some y) (hij : i ≠ j)
  (hx : X.env.scope.names.lookup x = some .local) (hy : X.env.scope.names.lookup y = some .local) (ha : PA X [a,b] ta)
  (hw : swappedStores [.Tuple [.Name x px,.Name y py] kt pt] (.Tuple [a,b] k2 pt2) X.env = pure (some [x,y]))
  (hs : swapsWithSole [.Tuple [.Name x px,.Name y py] kt pt] (.Tuple [a,b] k2 pt2) pos.line X.env = pure false := by rfl) :
  PS X (.Assign [.Tuple [.Name x px,.Name y py] kt pt] (.Tuple [a,b] k2 pt2) pos) (y2 i j ta) := by
 intro pins s σ H D I h
 rw [exec_Assign_arm]
 refine wpAny_bind (wpAny_standAt ?_)
 rw [hs]
 refine wpAny_bind (wpAny_pure ?_)
 rw [if_neg (by decide)]
 refine wpAny_bind (Tuple_ (bw (ha _ pins s σ H _ I h) fun us s1 ⟨vs,H1,I1,r1,q1⟩ => ?_))
 obtain ⟨v,w,e1,q1⟩ := q1
 subst e1
 obtain ⟨u1,u2,rfl,rv,rw'⟩ : ∃ u1 u2,us = [u1,u2] /\ RelV v u1 /\ RelV w u2 := by
  cases r1 with
  | cons p q =>
   cases q with
   | cons p' q' =>
    cases q'
    exact ⟨_,_,rfl,p,p'⟩
 refine wpAny_newObj_type ?_ (by show 2 <= sizeLine; decide)
 have I2 : av X pins σ H1 { s1 with heap := s1.heap.push { cls := .type "tuple",data := .seq [u1,u2].toArray } } := I1.kept (t' := s1.toks) fun b o e => Heap.get?_push_of_some _ e
 rw [hw]
 refine wpAny_bind (wpAny_pure ?_)
 show wpAny (model X.prog X.w) X.A (do rule "assign.swapped-stores"; let items <- unpackItems (.ref s1.heap.objs.size) 2 none; assignInOrder [fun v => bindName X.env y v,fun v => bindName X.env x v] items.reverse; pure Flow.next) _ _ _
 refine wpAny_bind (wpAny_rule (wpAny_bind (unpackItems_tuple (items := #[u1,u2]) (I.ok.hd hc) (IsTup.new s1.heap _) fun h' hx' => ?_)))
 have I3 := I2.kept (h' := h') (t' := s1.toks) fun b o e => hx' b o (AD (Heap.lt_size e)) e
 show wpAny _ _ (assignInOrder [fun v => bindName X.env y v,fun v => bindName X.env x v] [u2,u1] >>= fun _ => pure Flow.next) _ _ _
 refine wpAny_bind (assignInOrder_cons (wpAny_bindName (dR I3 hN hj (.inl hy) rw' (fun s2 I4 => ?_) (.inr hy))))
 refine assignInOrder_cons (wpAny_bindName (dR I4 hN hi (.inl hx) rv (fun s3 I5 => assignInOrder_nil (wpAny_pure ?_)) (.inr hx)))
 rw [List.set_comm _ _ (Ne.symm hij)] at I5
 exact ⟨_,H1,I5,q1⟩
def y3 (i : Nat) (te : TE) (ti : yE) : TS := fun D σ H => ∃ x,σ[i]? = some (some x) /\ te σ H fun y H1 => ti x y H1 fun z H2 => D.nx (σ.set i (some z)) H2
theorem uX {i : Nat} {x : Str} {e : Expr} {te : TE} {op : Operator} {ti : yE} {pos' : Pos} (hN : X.N.Nodup) (hi : X.N[i]? = some x) (hx : Loc X.env.scope x) (he : PE X e te) (ho : z5 X op ti) (hf : X.fn x = true ∨ X.env.scope.names.lookup x = some .local := by first | exact .inl rfl | exact .inr rfl | assumption) :
  PS X (.AugAssign (.Name x pos') op e pos) (y3 i te ti) := by
 intro pins s σ H D I h
 obtain ⟨v,e1,h⟩ := h
 obtain ⟨m,hn,hl⟩ := I.loc
 have vis : wu X.env.scope x := by rcases hx with k | k; exact .inl k; exact .inr (.inl k)
 obtain ⟨u,r,l⟩ := hl i x v hi e1 vis
 refine wpAny_AugAssign_Name ?_
 have go : wpAny (model X.prog X.w) X.A (eval e X.env) (fun w s₂ => wpAny (model X.prog X.w) X.A (inplaceOp op u w) (fun r s₃ => wpAny (model X.prog X.w) X.A (storeName X.env x r) (fun _ => SP X pins D .next) X.xe s₃) X.xe s₂) X.xe s := by
  refine bw (he pins s σ H _ I h) fun w s1 ⟨y,H1,I1,r1,q1⟩ => ?_
  refine bw (ho pins s1 σ H1 v y u w _ I1 r r1 q1) fun z s2 ⟨zv,H2,I2,r2,q2⟩ => ?_
  exact dR I2 hN hi hx r2 (fun s3 I3 => ⟨_,H2,I3,q2⟩) hf
 rcases l with ⟨hk,hm⟩ | ⟨hk,c,hc,hcell⟩
 ·exact wpAny_loadName_local I.ok.kind hk hn hm go
 ·rcases hk with hk | hk
  ·exact wpAny_loadName_cell I.ok.kind hk hc hcell go
  ·rcases hx with k | k
   ·have : X.env.scope.names.lookup x = some .free := hk
    rw [k] at this; cases this
   ·have : X.env.scope.names.lookup x = some .free := hk
    rw [k] at this; cases this
def Ad (f : Int -> Int -> Int) : yE := fun x y H Q => ∃ i j,x = .int i /\ y = .int j /\ Q (.int (f i j)) H
theorem uY : z5 X .Add (Ad fun i j => i + j) := by
 intro pins s σ H x y v u Q I r1 r2 h
 obtain ⟨i,j,e1,e2,q⟩ := h
 subst e1; subst e2
 obtain ⟨t,rfl⟩ := r1
 obtain ⟨t',rfl⟩ := r2
 exact iadd_int ⟨.int _,H,I.tok _,⟨_,rfl⟩,q⟩
end
section
variable {X : Cx} {pos : Pos}
def qj (c : TT) (tb : TS) : TS := fun D σ H => ∃ W : Nat -> St -> Hp -> Prop,(∃ m,W m σ H) /\ ∀ m σ H,W m σ H ->
 c σ H fun b H1 => if b = true then ∃ N : St -> Hp -> Prop,(∀ σ' H',N σ' H' -> ∃ m',m' < m /\ W m' σ' H') /\ tb { D with nx := N,ct := N,bk := D.nx } σ H1 else D.nx σ H1
theorem dU {c : Expr} {body : List Stmt} {tc : TT} {tb : TS} (hp : PassesOwn (model X.prog X.w) X.A X.env X.xe) (hc : PT X c tc) (hb : ja X body tb) : PS X (.While c body [] pos) (qj tc tb) := by
 intro pins s σ H D I h
 obtain ⟨W,⟨m0,w0⟩,turn⟩ := h
 refine wpAny_While (codeAny_whileLoop (fun n s' => ∃ σ' H',av X pins σ' H' s' /\ W n σ' H') ?_ m0 ⟨σ,H,I,w0⟩)
 rintro n s1 ⟨σ1,H1,I1,w1⟩
 refine wpAny_passesOwn hp (bw (hc pins s1 σ1 H1 _ I1 (turn n σ1 H1 w1)) fun b s2 ⟨H2,I2,q2⟩ => ?_)
 cases b with
 | true =>
  obtain ⟨N,hN,q2⟩ := q2
  rw [if_pos rfl]
  refine wpAny_passesOwn hp (bw (hb pins s2 σ1 H2 _ I2 q2) fun f s3 q3 => ?_)
  cases f with
  | next =>
   obtain ⟨σ3,H3,I3,n3⟩ := q3
   obtain ⟨m',hm,w3⟩ := hN σ3 H3 n3
   exact ⟨m',hm,σ3,H3,I3,w3⟩
  | cont =>
   obtain ⟨σ3,H3,I3,n3⟩ := q3
   obtain ⟨m',hm,w3⟩ := hN σ3 H3 n3
   exact ⟨m',hm,σ3,H3,I3,w3⟩
  | brk => exact q3
  | ret v => exact q3
 | false =>
  rw [if_neg AE]
  exact wpAny_execs_nil ⟨σ1,H2,I2,q2⟩
end
structure It where
 go : Nat -> Hp -> Prop
 yld : Nat -> Hp -> V -> Hp -> Prop
 stop : Nat -> Hp -> Prop
def fP (X : Cx) (pins : List (Addr × Obj)) (H : Hp) (b : Addr) : Prop :=
 H b = none /\ b ≠ X.env.locals /\ b ∉ X.fs /\ (b ∈ X.ex ∨ X.s₀.heap.objs.size <= b) /\ (∀ x c,X.env.cells.lookup x = some c -> c ≠ b) /\ ∀ p ∈ X.pn ++ pins,p.1 ≠ b
theorem av.fpOk {X : Cx} {pins : List (Addr × Obj)} {σ : St} {H H' : Hp} {s : Shared} {b : Addr} (I : av X pins σ H s) (hb : s.heap.objs.size <= b) (hn : H' b = none) : fP X pins H' b := by
 refine ⟨hn,Nat.ne_of_gt (AL I.lt hb),I.nofs hb,.inr (AR I.sz hb),fun x c e z => ?_,fun p hp z => ?_⟩
 ·obtain ⟨v,q⟩ := I.cell x c e
  exact absurd (AL q.lt (by rw [z]; exact hb)) (Bj _)
 ·exact absurd (AL (Heap.lt_size (I.pin p hp).1) (by rw [z]; exact hb)) (Bj _)
structure Turn (P : Program) (w : World) (K : A0) (tg : Expr) (J : It) (fp : List Addr) (it : Addr) (tn : Nat -> Heap -> Prop) : Prop where
 mem : it ∈ fp
 obj : ∀ i h,tn i h -> ∀ b ∈ fp,∃ o,h.get? b = some o /\ ∀ v,o.data ≠ .cell v
 keep : ∀ i h h',tn i h -> (∀ b ∈ fp,∀ o,h.get? b = some o -> h'.get? b = some o) -> tn i h'
 item : ∀ (X : Cx),X.prog = P -> X.w = w -> X.K = K -> X.calm = true -> ∀ (i : Nat) (pins : List (Addr × Obj)) (s : Shared) (σ : St) (H : Hp) (E : Value -> Shared -> Prop),av X pins σ H s -> (∀ b ∈ fp,fP X pins H b) -> tn i s.heap -> J.go i H ->
  wpAny (model P w) X.A (pyNext (.ref it)) (fun r s1 => ∃ u,r = some u /\
   wpAny (model P w) X.A (letOwnedTupleGo tg (.ref it) u) (fun _ s2 => ∃ x H',av X pins σ H' s2 /\ RelV x u /\ J.yld i H x H' /\ tn (i + 1) s2.heap /\ ∀ b ∈ fp,H' b = none) E s1) E s
 done : ∀ (X : Cx),X.prog = P -> X.w = w -> X.K = K -> X.calm = true -> ∀ (i : Nat) (pins : List (Addr × Obj)) (s : Shared) (σ : St) (H : Hp) (E : Value -> Shared -> Prop),av X pins σ H s -> (∀ b ∈ fp,fP X pins H b) -> tn i s.heap -> J.stop i H ->
  wpAny (model P w) X.A (pyNext (.ref it)) (fun r s1 => r = none /\ av X pins σ H s1) E s
 self : ∀ (A : Around) (i : Nat) (s : Shared) (Q : Value -> Shared -> Prop) (E : Value -> Shared -> Prop),tn i s.heap -> Q (.ref it) s -> wpAny (model P w) A (pyIter (.ref it)) Q E s
abbrev TI := St -> Hp -> (It -> Hp -> Prop) -> Prop
def y4 (X : Cx) (pins : List (Addr × Obj)) (σ : St) (tg : Expr) (R : It -> Hp -> Prop) (itv : Value) (s2 : Shared) : Prop :=
 ∃ (it : Addr) (fp : List Addr) (tn : Nat -> Heap -> Prop) (J : It) (H' : Hp),itv = .ref it /\ av X pins σ H' s2 /\ Turn X.prog X.w X.K tg J fp it tn /\ tn 0 s2.heap /\ (∀ b ∈ fp,fP X pins H' b) /\ R J H'
def PI (X : Cx) (tg iter : Expr) (wi : TI) : Prop :=
 ∀ (pins : List (Addr × Obj)) (s : Shared) (σ : St) (H : Hp) (R : It -> Hp -> Prop),av X pins σ H s -> wi σ H R ->
  wpAny (model X.prog X.w) X.A (eval iter X.env) (fun v s1 => wpAny (model X.prog X.w) X.A (pyIter v) (y4 X pins σ tg R) X.xe s1) X.xe s
theorem jm {M : Model} {A : Around} {E : Value -> Shared -> Prop} {s : Shared} {tg : Expr} {it : Addr} {u : Value} {o : Obj} {n : String} {vs : Array Value} {Q : Unit -> Shared -> Prop} (ho : s.heap.get? it = some o) (hc : o.cls = .type n) (hd : o.data = .fields vs)
    (hn : ["enumerate","zip","dict_itemiterator","dict_reverseitemiterator","odict_iterator","itertools.zip_longest","itertools.pairwise"].contains n = false) (hQ : Q () s) : wpAny M A (letOwnedTupleGo tg (.ref it) u) Q E s := by
  unfold letOwnedTupleGo
  cases tg <;> first
    | exact wpAny_pure hQ
    | (cases u <;> first
        | exact wpAny_pure hQ
        | (refine wpAny_bind (wpAny_load ho ?_)
           rw [hc,hd]
           show wpAny M A (if (["enumerate","zip","dict_itemiterator","dict_reverseitemiterator","odict_iterator","itertools.zip_longest","itertools.pairwise"].contains n && vs[0]? == some (rawInt _)) = true then _ else _) Q E s
           rw [if_neg (by intro h; rw [hn,Bool.false_and] at h; cases h)]
           exact wpAny_pure hQ))
def wg (K : A0) (a : Addr) : It :=
 ⟨fun i H => ∃ xs x,bh K H a xs /\ xs[i]? = some x,fun i H x H' => H' = H /\ ∀ xs,bh K H a xs -> xs[i]? = some x,fun i H => ∃ xs,bh K H a xs /\ xs.length <= i⟩
def y6 (K : A0) (a : Addr) : It :=
 ⟨fun i H => ∃ xs x,cu K H a xs /\ xs[i]? = some x,fun i H x H' => H' = H /\ ∀ xs,cu K H a xs -> xs[i]? = some x,fun i H => ∃ xs,cu K H a xs /\ xs.length <= i⟩
def wj (lo : Int) (n : Nat) : It := ⟨fun i _ => i < n,fun i H x H' => H' = H /\ x = .int (lo + i),fun i _ => n <= i⟩
theorem oR {P : Program} {w : World} {K : A0} {tg : Expr} (a it : Addr) : Turn P w K tg (wg K a) [it] it (fun i h => h.IsListIter it a i) where
 mem := by simp
 obj := fun i h st b hb => by
  have e : b = it := by simpa using hb
  subst e
  obtain ⟨o,e,c,d⟩ := st
  exact ⟨o,e,fun v z => by rw [d] at z; cases z⟩
 keep := fun i h h' st k => st.at fun o e => k it (by simp) o e
 item := by
  intro X hP hw hK hc i pins s σ H E I hf st hg
  subst hP hw hK
  obtain ⟨xs,x,hq,hx⟩ := hg
  obtain ⟨its,rv,p,hz⟩ := I.list hq
  obtain ⟨u,hu,ru⟩ := rv.get hx
  obtain ⟨f0,f1,f2,f3,f4,f5⟩ := hf it (by simp)
  refine wpAny_pyNext_list_item st p.isList (x := u) (by simpa using hu) fun h' st' sb => ?_
  have I1 : av X pins σ H { s with heap := h' } := I.turned (t' := s.toks) (fun b o hb e => (sb.2 b hb).trans e) f0 f1 f3 f4 f5
  obtain ⟨o,e,c,d⟩ := id st'
  exact ⟨u,rfl,jm (s := { s with heap := h' }) e c d (by decide) ⟨x,H,I1,ru,⟨rfl,fun ys hy => by rw [I.list_inj hy hq]; exact hx⟩,st',fun b hb => (hf b hb).1⟩⟩
 done := by
  intro X hP hw hK hc i pins s σ H E I hf st hg
  subst hP hw hK
  obtain ⟨xs,hq,hx⟩ := hg
  obtain ⟨its,rv,p,hz⟩ := I.list hq
  obtain ⟨f0,f1,f2,f3,f4,f5⟩ := hf it (by simp)
  have hl := rv.length
  exact wpAny_pyNext_list_end (I.ok.hd hc) st p.isList (by simp; omega) fun h' eb => ⟨rfl,I.turned (t' := s.toks) (fun b o hb e => eb b o hb e) f0 f1 f3 f4 f5⟩
 self := fun _ _ _ _ _ st h => wpAny_pyIter_listiter st h
theorem ml {P : Program} {w : World} {K : A0} {tg : Expr} (a it : Addr) : Turn P w K tg (y6 K a) [it] it (fun i h => h.IsTupleIter it a i) where
 mem := by simp
 obj := fun i h st b hb => by
  have e : b = it := by simpa using hb
  subst e
  obtain ⟨o,e,c,d⟩ := st
  exact ⟨o,e,fun v z => by rw [d] at z; cases z⟩
 keep := fun i h h' st k => st.at fun o e => k it (by simp) o e
 item := by
  intro X hP hw hK hc i pins s σ H E I hf st hg
  subst hP hw hK
  obtain ⟨xs,x,hq,hx⟩ := hg
  obtain ⟨its,rv,p,hz⟩ := I.tuple hq
  obtain ⟨u,hu,ru⟩ := rv.get hx
  obtain ⟨f0,f1,f2,f3,f4,f5⟩ := hf it (by simp)
  refine wpAny_pyNext_tuple_item st (show s.heap.IsTuple a its.toArray from p) (x := u) (by simpa using hu) fun h' st' sb => ?_
  have I1 : av X pins σ H { s with heap := h' } := I.turned (t' := s.toks) (fun b o hb e => (sb.2 b hb).trans e) f0 f1 f3 f4 f5
  obtain ⟨o,e,c,d⟩ := id st'
  exact ⟨u,rfl,jm (s := { s with heap := h' }) e c d (by decide) ⟨x,H,I1,ru,⟨rfl,fun ys hy => by rw [I.tuple_inj hy hq]; exact hx⟩,st',fun b hb => (hf b hb).1⟩⟩
 done := by
  intro X hP hw hK hc i pins s σ H E I hf st hg
  subst hP hw hK
  obtain ⟨xs,hq,hx⟩ := hg
  obtain ⟨its,rv,p,hz⟩ := I.tuple hq
  obtain ⟨f0,f1,f2,f3,f4,f5⟩ := hf it (by simp)
  have hl := rv.length
  exact wpAny_pyNext_tuple_end (I.ok.hd hc) st (show s.heap.IsTuple a its.toArray from p) (by simp; omega) fun h' eb => ⟨rfl,I.turned (t' := s.toks) (fun b o hb e => eb b o hb e) f0 f1 f3 f4 f5⟩
 self := fun _ _ _ _ _ st h => wpAny_pyIter_tupleiter st h
theorem mn {P : Program} {w : World} {K : A0} {tg : Expr} (it : Addr) (lo : Int) (n : Nat) : Turn P w K tg (wj lo n) [it] it (fun i h => IsRangeIter h it (lo + (i : Nat) * 1) ((n : Int) - (i : Nat)) 1) where
 mem := by simp
 obj := fun i h st b hb => by
  have e : b = it := by simpa using hb
  subst e
  exact ⟨_,st,fun v z => by
   have z' : Data.fields _ = Data.cell v := z
   cases z'⟩
 keep := fun i h h' st k => k it (by simp) _ st
 item := by
  intro X hP hw hK hc i pins s σ H E I hf st hg
  subst hP hw hK
  obtain ⟨f0,f1,f2,f3,f4,f5⟩ := hf it (by simp)
  have W := Walks.range (prog := X.prog) (w := X.w) (I.ok.hd hc) it lo 1 n
  refine W.item i s _ _ hg st fun v h' tk hv st' kk => ?_
  obtain ⟨t,rfl⟩ := hv
  have I1 : av X pins σ H { s with heap := h',toks := tk } := I.turned (fun b o hb e => kk b o (by simpa using hb) e) f0 f1 f3 f4 f5
  refine ⟨_,rfl,jm (s := { s with heap := h',toks := tk }) (n := "range_iterator") st' rfl rfl (by decide) ⟨.int (lo + i),H,I1,⟨t,?_⟩,⟨rfl,rfl⟩,st',fun b hb => (hf b hb).1⟩⟩
  rw [Int.mul_one]
 done := by
  intro X hP hw hK hc i pins s σ H E I hf st hg
  subst hP hw hK
  obtain ⟨f0,f1,f2,f3,f4,f5⟩ := hf it (by simp)
  exact wpAny_pyNext_range_end (I.ok.hd hc) st (by have : n <= i := hg; omega) fun h' eb => ⟨rfl,I.turned (t' := s.toks) (fun b o hb e => eb b o hb e) f0 f1 f3 f4 f5⟩
 self := fun _ _ _ _ _ st h => wpAny_pyIter_rangeiter st h
section
variable {X : Cx} {tg : Expr}
def wE (K : A0) (tl : TE) : TI := fun σ H R => tl σ H fun x H1 => ∃ a,x = .ref a /\ (∃ xs,bh K H1 a xs) /\ R (wg K a) H1
def y8 (K : A0) (tl : TE) : TI := fun σ H R => tl σ H fun x H1 => ∃ a,x = .ref a /\ (∃ xs,cu K H1 a xs) /\ R (y6 K a) H1
theorem eA {l : Expr} {tl : TE} (hl : PE X l tl) : PI X tg l (wE X.K tl) := by
 intro pins s σ H R I h
 refine bw (hl pins s σ H _ I h) fun v s1 ⟨x,H1,I1,r1,q1⟩ => ?_
 obtain ⟨a,e,⟨xs,hq⟩,q⟩ := q1
 subst e
 cases r1
 obtain ⟨its,rv,p,hz⟩ := I1.list hq
 refine wpAny_pyIter_list p.isList ?_
 refine ⟨s1.heap.objs.size,[s1.heap.objs.size],_,_,H1,rfl,I1.kept (t' := s1.toks) fun b o e => Heap.get?_push_of_some _ e,oR a _,⟨_,Heap.get?_push_size _ rfl,rfl,rfl⟩,fun b hb => ?_,q⟩
 have e : b = s1.heap.objs.size := by simpa using hb
 subst e
 exact I1.fpOk (A4 _) (I1.hok.fresh (A4 _))
theorem uZ {l : Expr} {tl : TE} (hl : PE X l tl) : PI X tg l (y8 X.K tl) := by
 intro pins s σ H R I h
 refine bw (hl pins s σ H _ I h) fun v s1 ⟨x,H1,I1,r1,q1⟩ => ?_
 obtain ⟨a,e,⟨xs,hq⟩,q⟩ := q1
 subst e
 cases r1
 obtain ⟨its,rv,p,hz⟩ := I1.tuple hq
 refine wpAny_pyIter_tuple (show s1.heap.IsTuple a its.toArray from p) ?_
 refine ⟨s1.heap.objs.size,[s1.heap.objs.size],_,_,H1,rfl,I1.kept (t' := s1.toks) fun b o e => Heap.get?_push_of_some _ e,ml a _,⟨_,Heap.get?_push_size _ rfl,rfl,rfl⟩,fun b hb => ?_,q⟩
 have e : b = s1.heap.objs.size := by simpa using hb
 subst e
 exact I1.fpOk (A4 _) (I1.hok.fresh (A4 _))
theorem qk {pins : List (Addr × Obj)} {σ : St} {H : Hp} {s : Shared} {R : It -> Hp -> Prop} {E : Value -> Shared -> Prop} {lo hi : Int} {t u v : Tok} {tk : Nat} (I : av X pins σ H s) (h1 : -(2 ^ 62) <= lo) (h2 : lo < 2 ^ 62) (h3 : -(2 ^ 62) <= hi) (h4 : hi < 2 ^ 62)
  (q : R (wj lo (hi - lo).toNat) H) : wpAny (model X.prog X.w) X.A (pyIter (.ref s.heap.objs.size)) (y4 X pins σ tg R) E { s with heap := s.heap.push { cls := .type "range",data := .fields #[.int lo t,.int hi u,.int 1 v] },toks := tk } := by
 refine wpAny_pyIter_range (IsRange.new ..) (small_one h1 h2 h3 h4) ?_
 have I1 : av X pins σ H { s with heap := s.heap.push { cls := .type "range",data := .fields #[.int lo t,.int hi u,.int 1 v] },toks := tk } := I.kept fun b o e => Heap.get?_push_of_some _ e
 refine ⟨(s.heap.push { cls := .type "range",data := .fields #[.int lo t,.int hi u,.int 1 v] }).objs.size,[(s.heap.push { cls := .type "range",data := .fields #[.int lo t,.int hi u,.int 1 v] }).objs.size],_,_,H,rfl,
  I1.kept (t' := tk) fun b o e => Heap.get?_push_of_some _ e,mn _ lo (hi - lo).toNat,?_,fun b hb => ?_,q⟩
 ·have e1 : lo + ((0 : Nat) : Int) * 1 = lo := by simp
  have e2 : (((hi - lo).toNat : Nat) : Int) - ((0 : Nat) : Int) = Builtin.Range.rangeSize lo hi 1 := by rw [rangeSize_one]; split <;> omega
  show IsRangeIter _ _ (lo + ((0 : Nat) : Int) * 1) ((((hi - lo).toNat : Nat) : Int) - ((0 : Nat) : Int)) 1
  rw [e1,e2]
  exact Heap.get?_push_size _ rfl
 ·have e : b = (s.heap.push { cls := .type "range",data := .fields #[.int lo t,.int hi u,.int 1 v] }).objs.size := by simpa using hb
  subst e
  exact I1.fpOk (A4 _) (I1.hok.fresh (A4 _))
def wF (ta : TA) : TI := fun σ H R => ta σ H fun vs H1 => ∃ j : Int,vs = [.int j] /\ -(2 ^ 62) <= j /\ j < 2 ^ 62 /\ R (wj 0 j.toNat) H1
theorem dW {a : Expr} {ta : TA} {p pos : Pos} (hg : Gl X "range") (hm : X.mg "range" = none) (ha : PA X [a] ta) (hs : starEach [a] X.env = [(false,eval a X.env)] := by rfl) : PI X tg (.Call (.Name "range" p) [a] [] pos) (wF ta) := by
 intro pins s σ H R I h
 refine Call_ (fE I hg hm boot_range (BF (bw (ha pos pins s σ H _ I h) fun us s1 ⟨vs,H1,I1,r1,q1⟩ => ?_) hs rfl))
 obtain ⟨j,e,q1,q2,q⟩ := q1
 subst e
 cases r1 with
 | cons r rr =>
  cases rr
  obtain ⟨t,rfl⟩ := r
  exact call_range_1 (qk I1 (by omega) (by omega) q1 q2 (by simpa using q))
def wG (wi : TI) (g : TG) (tb : TS) : TS := fun D σ H => wi σ H fun J H1 => ∃ W : Nat -> Nat -> St -> Hp -> Prop,(∃ m,W 0 m σ H1) /\ ∀ i m σ H,W i m σ H ->
 (J.stop i H /\ D.nx σ H) ∨ (J.go i H /\ ∃ N : St -> Hp -> Prop,(∀ σ' H',N σ' H' -> ∃ m',m' < m /\ W (i + 1) m' σ' H') /\ ∀ x H',J.yld i H x H' -> g x σ H' fun σ2 H2 => tb { D with nx := N,ct := N,bk := D.nx } σ2 H2)
def gw (fp : List Addr) (h : Heap) : List (Addr × Obj) := fp.filterMap fun b => (h.get? b).map fun o => (b,o)
theorem cM {fp : List Addr} {h : Heap} {b : Addr} {o : Obj} (hb : b ∈ fp) (e : h.get? b = some o) : (b,o) ∈ gw fp h := List.mem_filterMap.mpr ⟨b,hb,by rw [e]; rfl⟩
theorem oS {fp : List Addr} {h : Heap} {p : Addr × Obj} (hp : p ∈ gw fp h) : p.1 ∈ fp /\ h.get? p.1 = some p.2 := by
 obtain ⟨b,hb,e⟩ := List.mem_filterMap.mp hp
 cases q : h.get? b with
 | none => rw [q] at e; cases e
 | some o =>
  rw [q] at e
  have e' : (b,o) = p := AN e
  subst e'
  exact ⟨hb,q⟩
theorem av.pinned {pins : List (Addr × Obj)} {σ : St} {H : Hp} {s : Shared} {fp : List Addr} (I : av X pins σ H s) (hf : ∀ b ∈ fp,fP X pins H b) (ho : ∀ b ∈ fp,∃ o,s.heap.get? b = some o /\ ∀ v,o.data ≠ .cell v) : av X (pins ++ gw fp s.heap) σ H s :=
 I.pins_of fun p hp => (AM.mp hp).elim (fun z => I.pin p (AJ _ z)) fun z => by
  obtain ⟨hb,e⟩ := oS z
  obtain ⟨f0,f1,f2,_⟩ := hf p.1 hb
  obtain ⟨o,e',d⟩ := ho p.1 hb
  rw [e] at e'; cases e'
  exact ⟨e,f0,f1,f2,d⟩
theorem av.unpinned {pins pl : List (Addr × Obj)} {σ : St} {H : Hp} {s : Shared} (I : av X (pins ++ pl) σ H s) : av X pins σ H s := I.pins_of fun p hp => I.pin p (AJ _ (Au _ hp))
theorem cv {iter : Expr} {body : List Stmt} {wi : TI} {g : TG} {tb : TS} {pos : Pos} (hp : PassesOwn (model X.prog X.w) X.A X.env X.xe) (hc : X.calm = true) (hi : PI X tg iter wi) (hg : PG X tg g) (hb : ja X body tb)
  (hs : ∀ x,foldedSetIterable iter X.env x = pure x := by intro _; rfl) : PS X (.For tg iter body [] pos) (wG wi g tb) := by
 intro pins s σ H D I h
 refine wpAny_For (bw (hi pins s σ H _ I h) fun v s1 h1 => bw h1 fun itv s2 h2 => ?_) hs
 obtain ⟨it,fp,tn,J,H2,e,I2,T,st2,f2,W,⟨m0,w0⟩,turn⟩ := h2
 subst e
 have stat : ∀ {H' : Hp},(∀ b ∈ fp,H' b = none) -> ∀ b ∈ fp,fP X pins H' b := fun hn b hb => ⟨hn b hb,(f2 b hb).2⟩
 refine codeAny_forLoop_any (fun n s' => ∃ i σ' H',av X pins σ' H' s' /\ tn i s'.heap /\ (∀ b ∈ fp,H' b = none) /\ W i n σ' H') ?_ m0 ⟨0,σ,H2,I2,st2,fun b hb => (f2 b hb).1,w0⟩
 rintro n s3 ⟨i,σ3,H3,I3,st3,fr3,w3⟩
 rcases turn i n σ3 H3 w3 with ⟨stop,qn⟩ | ⟨go,N,hN,step⟩
 ·refine wpAny_passesOwn hp (bw (T.done X rfl rfl rfl hc i pins s3 σ3 H3 X.xe I3 (stat fr3) st3 stop) fun r s4 ⟨hr,I4⟩ => ?_)
  subst hr
  exact wpAny_execs_nil ⟨σ3,H3,I4,qn⟩
 ·refine wpAny_passesOwn hp (bw (T.item X rfl rfl rfl hc i pins s3 σ3 H3 X.xe I3 (stat fr3) st3 go) fun r s4 ⟨u,hr,h4⟩ => ?_)
  subst hr
  refine wpAny_passesOwn hp (bw h4 fun _ s5 ⟨x,H5,I5,r5,y5,st5,fr5⟩ => ?_)
  have I5' := I5.pinned (stat fr5) (T.obj _ _ st5)
  refine wpAny_passesOwn hp (bw (hg _ s5 σ3 H5 x u _ I5' r5 (step x H5 y5)) fun _ s6 ⟨σ6,H6,I6,q6⟩ => ?_)
  refine wpAny_passesOwn hp (bw (hb _ s6 σ6 H6 _ I6 q6) fun f s7 q7 => ?_)
  have again : ∀ {σ7 : St} {H7 : Hp},av X (pins ++ gw fp s5.heap) σ7 H7 s7 -> N σ7 H7 -> ∃ m,m < n /\ ∃ i σ' H',av X pins σ' H' s7 /\ tn i s7.heap /\ (∀ b ∈ fp,H' b = none) /\ W i m σ' H' := fun {σ7 H7} I7 n7 => by
   obtain ⟨m',hm,w7⟩ := hN σ7 H7 n7
   refine ⟨m',hm,i + 1,σ7,H7,I7.unpinned,T.keep _ _ _ st5 fun b hb o e => (I7.pin (b,o) (AJ _ (AJ _ (cM hb e)))).1,fun b hb => ?_,w7⟩
   obtain ⟨o,e,d⟩ := T.obj _ _ st5 b hb
   exact (I7.pin (b,o) (AJ _ (AJ _ (cM hb e)))).2.1
  cases f with
  | next => obtain ⟨σ7,H7,I7,n7⟩ := q7; exact again I7 n7
  | cont => obtain ⟨σ7,H7,I7,n7⟩ := q7; exact again I7 n7
  | brk => obtain ⟨σ7,H7,I7,q7⟩ := q7; exact ⟨σ7,H7,I7.unpinned,q7⟩
  | ret v => obtain ⟨x7,σ7,H7,I7,r7,q7⟩ := q7; exact ⟨x7,σ7,H7,I7.unpinned,r7,q7⟩
end
theorem dX {K : A0} {a : Addr} {xs : List V} {g : TG} {tb : TS} {D : Ends} {σ : St} {H : Hp} (Pv : Nat -> St -> Hp -> Prop) (h0 : Pv 0 σ H) (hl : ∀ i σ H,i <= xs.length -> Pv i σ H -> bh K H a xs)
  (hs : ∀ i x σ H,xs[i]? = some x -> Pv i σ H -> g x σ H fun σ2 H2 => tb { D with nx := Pv (i + 1),ct := Pv (i + 1),bk := D.nx } σ2 H2) (hd : ∀ σ H,Pv xs.length σ H -> D.nx σ H) :
  ∃ W : Nat -> Nat -> St -> Hp -> Prop,(∃ m,W 0 m σ H) /\ ∀ i m σ H,W i m σ H ->
   ((wg K a).stop i H /\ D.nx σ H) ∨ ((wg K a).go i H /\ ∃ N : St -> Hp -> Prop,(∀ σ' H',N σ' H' -> ∃ m',m' < m /\ W (i + 1) m' σ' H') /\ ∀ x H',(wg K a).yld i H x H' -> g x σ H' fun σ2 H2 => tb { D with nx := N,ct := N,bk := D.nx } σ2 H2) := by
 refine ⟨fun i m σ H => m = xs.length - i /\ i <= xs.length /\ Pv i σ H,⟨xs.length,by simp,AZ _,h0⟩,?_⟩
 rintro i m σ H ⟨rfl,hi,p⟩
 have q := hl i σ H hi p
 by_cases hlt : i < xs.length
 ·refine .inr ⟨⟨xs,xs[i],q,by simp [hlt]⟩,Pv (i + 1),fun σ' H' p' => ⟨xs.length - (i + 1),by omega,rfl,hlt,p'⟩,fun x H' y => ?_⟩
  obtain ⟨e,y⟩ := y
  subst e
  exact hs i x σ _ (y xs q) p
 ·have e : i = xs.length := by omega
  subst e
  exact .inl ⟨⟨xs,q,A4 _⟩,hd σ H p⟩
theorem dY {lo : Int} {n : Nat} {g : TG} {tb : TS} {D : Ends} {σ : St} {H : Hp} (Pv : Nat -> St -> Hp -> Prop) (h0 : Pv 0 σ H)
  (hs : ∀ i σ H,i < n -> Pv i σ H -> g (.int (lo + i)) σ H fun σ2 H2 => tb { D with nx := Pv (i + 1),ct := Pv (i + 1),bk := D.nx } σ2 H2) (hd : ∀ σ H,Pv n σ H -> D.nx σ H) :
  ∃ W : Nat -> Nat -> St -> Hp -> Prop,(∃ m,W 0 m σ H) /\ ∀ i m σ H,W i m σ H ->
   ((wj lo n).stop i H /\ D.nx σ H) ∨ ((wj lo n).go i H /\ ∃ N : St -> Hp -> Prop,(∀ σ' H',N σ' H' -> ∃ m',m' < m /\ W (i + 1) m' σ' H') /\ ∀ x H',(wj lo n).yld i H x H' -> g x σ H' fun σ2 H2 => tb { D with nx := N,ct := N,bk := D.nx } σ2 H2) := by
 refine ⟨fun i m σ H => m = n - i /\ i <= n /\ Pv i σ H,⟨n,by simp,AZ _,h0⟩,?_⟩
 rintro i m σ H ⟨rfl,hi,p⟩
 by_cases hlt : i < n
 ·refine .inr ⟨hlt,Pv (i + 1),fun σ' H' p' => ⟨n - (i + 1),by omega,rfl,hlt,p'⟩,fun x H' y => ?_⟩
  obtain ⟨e,y⟩ := y
  subst e y
  exact hs i σ _ hlt p
 ·have e : i = n := by omega
  subst e
  exact .inl ⟨A4 _,hd σ H p⟩
theorem dZ {c : TT} {tb : TS} {D : Ends} {σ : St} {H : Hp} (Pv : St -> Hp -> Prop) (μ : St -> Hp -> Nat) (h0 : Pv σ H)
  (hs : ∀ σ H,Pv σ H -> c σ H fun b H1 => if b = true then tb { D with nx := fun σ' H' => Pv σ' H' /\ μ σ' H' < μ σ H,ct := fun σ' H' => Pv σ' H' /\ μ σ' H' < μ σ H,bk := D.nx } σ H1 else D.nx σ H1)
  (mono : ∀ σ H Q Q',(∀ b H1,Q b H1 -> Q' b H1) -> c σ H Q -> c σ H Q') : qj c tb D σ H := by
 refine ⟨fun m σ H => m = μ σ H /\ Pv σ H,⟨_,rfl,h0⟩,?_⟩
 rintro m σ H ⟨rfl,p⟩
 refine mono σ H _ _ (fun b H1 q => ?_) (hs σ H p)
 cases b with
 | true => exact ⟨_,fun σ' H' ⟨p',l⟩ => ⟨_,l,rfl,p'⟩,q⟩
 | false => exact q
abbrev R2 := V -> V -> Hp -> VK -> Prop
def gq (X : Cx) (f : Value -> Value -> Sem Value) (r : R2) : Prop :=
 ∀ (pins : List (Addr × Obj)) (s : Shared) (σ : St) (H : Hp) (x y : V) (v u : Value) (Q : VK),av X pins σ H s -> RelV x v -> RelV y u -> r x y H Q ->
  wpAny (model X.prog X.w) X.A (f v u) (EP X pins σ Q) X.xe s
def y9 (X : Cx) (f : Value -> Sem Value) (r : V -> Hp -> VK -> Prop) : Prop :=
 ∀ (pins : List (Addr × Obj)) (s : Shared) (σ : St) (H : Hp) (x : V) (v : Value) (Q : VK),av X pins σ H s -> RelV x v -> r x H Q ->
  wpAny (model X.prog X.w) X.A (f v) (EP X pins σ Q) X.xe s
def cC (X : Cx) (f : Value) (r : List V -> Hp -> VK -> Prop) : Prop :=
 ∀ (pins : List (Addr × Obj)) (s : Shared) (σ : St) (H : Hp) (xs : List V) (us : List Value) (Q : VK),av X pins σ H s -> aM xs us -> r xs H Q ->
  wpAny (model X.prog X.w) X.A (call f us) (EP X pins σ Q) X.xe s
def yF (r : R2) (ta tb : TE) : TE := fun σ H Q => ta σ H fun x H1 => tb σ H1 fun y H2 => r x y H2 Q
def Ae (r : V -> Hp -> VK -> Prop) (ta : TE) : TE := fun σ H Q => ta σ H fun x H1 => r x H1 Q
def rI (C : Int -> Int -> Prop) (g : Int -> Int -> V) : R2 := fun x y H Q => ∃ i j,x = .int i /\ y = .int j /\ C i j /\ Q (g i j) H
def uA (g : Int -> Int -> V) : R2 := fun x y H Q => ∃ i j,x = .int i /\ y = .int j /\ Q (g i j) H
def rU (g : Int -> V) : V -> Hp -> VK -> Prop := fun x H Q => ∃ i,x = .int i /\ Q (g i) H
section
variable {X : Cx} {a b c : Expr} {ta tb tc : TE} {pos : Pos}
theorem u0 (ha : PE X a ta) (hb : PE X b tb) {pins : List (Addr × Obj)} {s : Shared} {σ : St} {H : Hp} {R : V -> V -> Hp -> Prop} (I : av X pins σ H s)
  (h : ta σ H fun x H1 => tb σ H1 fun y H2 => R x y H2) {Q : Value -> Shared -> Prop} {f : Value -> Value -> Sem Value}
  (hf : ∀ v u s2 x y H2,av X pins σ H2 s2 -> RelV x v -> RelV y u -> R x y H2 -> wpAny (model X.prog X.w) X.A (f v u) Q X.xe s2) :
  wpAny (model X.prog X.w) X.A (eval a X.env) (fun v s₁ => wpAny (model X.prog X.w) X.A (eval b X.env) (fun u s₂ => wpAny (model X.prog X.w) X.A (f v u) Q X.xe s₂) X.xe s₁) X.xe s := by
 refine bw (ha pins s σ H _ I h) fun v s1 ⟨x,H1,I1,r1,q1⟩ => ?_
 refine bw (hb pins s1 σ H1 _ I1 q1) fun u s2 ⟨y,H2,I2,r2,q2⟩ => ?_
 exact hf v u s2 x y H2 I2 r1 r2 q2
theorem aD {op : Operator} {r : R2} (ho : gq X (binaryOp op) r) (ha : PE X a ta) (hb : PE X b tb) : PE X (.BinOp a op b pos) (yF r ta tb) := by
 intro pins s σ H Q I h
 exact wpAny_BinOp (u0 ha hb I h fun v u s2 x y H2 I2 rx ry q => ho pins s2 σ H2 x y v u Q I2 rx ry q)
theorem k7 {op : UnaryOp} {r : V -> Hp -> VK -> Prop} (ho : y9 X (unaryOp op) r) (ha : PE X a ta) : PE X (.UnaryOp op a pos) (Ae r ta) := by
 intro pins s σ H Q I h
 exact UnaryOp_ (bw (ha pins s σ H _ I h) fun v s1 ⟨x,H1,I1,r1,q1⟩ => ho pins s1 σ H1 x v Q I1 r1 q1)
theorem zc {f : Value -> Value -> Sem Value} {C : Int -> Int -> Prop} {g : Int -> Int -> Int}
  (rule : ∀ (i j : Int) (t u : Tok) (s : Shared) (Q : Value -> Shared -> Prop) (E : Value -> Shared -> Prop),C i j -> Q (.int (g i j) s.toks) { s with toks := s.toks + 1 } -> wpAny (model X.prog X.w) X.A (f (.int i t) (.int j u)) Q E s) :
  gq X f (rI C fun i j => .int (g i j)) := by
 intro pins s σ H x y v u Q I rx ry h
 obtain ⟨i,j,rfl,rfl,hc,q⟩ := h
 obtain ⟨t,rfl⟩ := rx
 obtain ⟨t',rfl⟩ := ry
 exact rule i j t t' s _ _ hc ⟨.int (g i j),H,I.tok _,⟨_,rfl⟩,q⟩
theorem wH {f : Value -> Value -> Sem Value} {g : Int -> Int -> Int}
  (rule : ∀ (i j : Int) (t u : Tok) (s : Shared) (Q : Value -> Shared -> Prop) (E : Value -> Shared -> Prop),Q (.int (g i j) s.toks) { s with toks := s.toks + 1 } -> wpAny (model X.prog X.w) X.A (f (.int i t) (.int j u)) Q E s) :
  gq X f (uA fun i j => .int (g i j)) := by
 intro pins s σ H x y v u Q I rx ry h
 obtain ⟨i,j,rfl,rfl,q⟩ := h
 obtain ⟨t,rfl⟩ := rx
 obtain ⟨t',rfl⟩ := ry
 exact rule i j t t' s _ _ ⟨.int (g i j),H,I.tok _,⟨_,rfl⟩,q⟩
theorem si {f : Value -> Value -> Sem Value} {g : Int -> Int -> Bool}
  (rule : ∀ (i j : Int) (t u : Tok) (s : Shared) (Q : Value -> Shared -> Prop) (E : Value -> Shared -> Prop),Q (.bool (g i j)) s -> wpAny (model X.prog X.w) X.A (f (.int i t) (.int j u)) Q E s) :
  gq X f (uA fun i j => .bl (g i j)) := by
 intro pins s σ H x y v u Q I rx ry h
 obtain ⟨i,j,rfl,rfl,q⟩ := h
 obtain ⟨t,rfl⟩ := rx
 obtain ⟨t',rfl⟩ := ry
 exact rule i j t t' s _ _ ⟨.bl (g i j),H,I,rfl,q⟩
theorem dw : gq X (binaryOp .Add) (uA fun i j => .int (i + j)) := wH fun _ _ _ _ _ _ _ q => add_int q
theorem qm : gq X (binaryOp .Sub) (uA fun i j => .int (i - j)) := wH fun _ _ _ _ _ _ _ q => sub_int q
theorem bx : gq X (binaryOp .Mod) (rI (fun _ j => j ≠ 0) fun i j => .int (i.fmod j)) := zc fun _ _ _ _ _ _ _ hc q => mod_int' hc q
theorem Af {f : Value -> Sem Value} {g : Int -> Int}
  (rule : ∀ (i : Int) (t : Tok) (s : Shared) (Q : Value -> Shared -> Prop) (E : Value -> Shared -> Prop),Q (.int (g i) s.toks) { s with toks := s.toks + 1 } -> wpAny (model X.prog X.w) X.A (f (.int i t)) Q E s) :
  y9 X f (rU fun i => .int (g i)) := by
 intro pins s σ H x v Q I rx h
 obtain ⟨i,rfl,q⟩ := h
 obtain ⟨t,rfl⟩ := rx
 exact rule i t s _ _ ⟨.int (g i),H,I.tok _,⟨_,rfl⟩,q⟩
theorem iy : y9 X (unaryOp .USub) (rU fun i => .int (-i)) := Af fun _ _ _ _ _ q => neg_int q
end
def wI : V -> V -> Bool
 | .non,.non => true | .non,.int _ => true | .int _,.non => true | .non,.bl _ => true | .bl _,.non => true | .non,.str _ => true | .str _,.non => true
 | .int _,.int _ => true | .bl _,.bl _ => true | .str _,.str _ => true | .byt _,.byt _ => true
 | .int _,.str _ => true | .str _,.int _ => true | .bl _,.str _ => true | .str _,.bl _ => true
 | _,_ => false
def Ag : R2 := fun x y H Q => wI x y = true /\ Q (.bl (decide (x = y))) H
def Ah : R2 := fun x y H Q => wI x y = true /\ Q (.bl (!decide (x = y))) H
theorem nG {i j : Int} : decide (V.int i = V.int j) = (i == j) := by
 rw [BU]
 simp
theorem qo {i j : Bool} : decide (V.bl i = V.bl j) = (i == j) := by
 rw [BU]
 simp
theorem nH {i j : Str} : decide (V.str i = V.str j) = (i == j) := by
 rw [BU]
 simp
theorem nI {i j : Array UInt8} : decide (V.byt i = V.byt j) = (i.toList == j.toList) := by
 rw [BU]
 cases i
 cases j
 simp
section
variable {X : Cx} {a b c : Expr} {ta tb tc : TE} {pos : Pos}
theorem aY {pins : List (Addr × Obj)} {σ : St} {H : Hp} {s : Shared} {Q : VK} {k k' : Bool} (I : av X pins σ H s) (q : Q (.bl k) H) (e : k = k') : EP X pins σ Q (.bool k') s := by
 subst e
 exact ⟨.bl k,H,I,rfl,q⟩
theorem eP : gq X (compareOp .Eq) Ag := by
 intro pins s σ H x y v u Q I rx ry h
 obtain ⟨hs,q⟩ := h
 cases x with
 | non =>
  cases rx
  cases y with
  | non => cases ry; exact PySem.EqNone.eq_none_none (aY I q (by simp))
  | bl j => cases ry; exact PySem.EqNone.eq_none_bool (aY I q (by simp))
  | int j => obtain ⟨t',rfl⟩ := ry; exact PySem.EqNone.eq_none_int (aY I q (by simp))
  | str j => obtain ⟨t',rfl⟩ := ry; exact PySem.EqNone.eq_none_str (aY I q (by simp))
  | _ => exact absurd (show false = true from hs) AE
 | bl i =>
  cases rx
  cases y with
  | non => cases ry; exact PySem.EqNone.eq_bool_none (aY I q (by simp))
  | bl j => cases ry; exact eq_bool (aY I q qo)
  | str j => obtain ⟨t',rfl⟩ := ry; exact PySem.EqMixed.eq_bool_str (aY I q (by simp))
  | _ => exact absurd (show false = true from hs) AE
 | int i =>
  obtain ⟨t,rfl⟩ := rx
  cases y with
  | non => cases ry; exact PySem.EqNone.eq_int_none (aY I q (by simp))
  | int j => obtain ⟨t',rfl⟩ := ry; exact eq_int (aY I q nG)
  | str j => obtain ⟨t',rfl⟩ := ry; exact PySem.EqMixed.eq_int_str (aY I q (by simp))
  | _ => exact absurd (show false = true from hs) AE
 | str i =>
  obtain ⟨t,rfl⟩ := rx
  cases y with
  | non => cases ry; exact PySem.EqNone.eq_str_none (aY I q (by simp))
  | bl j => cases ry; exact PySem.EqMixed.eq_str_bool (aY I q (by simp))
  | int j => obtain ⟨t',rfl⟩ := ry; exact PySem.EqMixed.eq_str_int (aY I q (by simp))
  | str j => obtain ⟨t',rfl⟩ := ry; exact eq_str (aY I q nH)
  | _ => exact absurd (show false = true from hs) AE
 | byt i =>
  obtain ⟨t,rfl⟩ := rx
  cases y with
  | byt j => obtain ⟨t',rfl⟩ := ry; exact PySem.W.eq_bytes (aY I q nI)
  | _ => exact absurd (show false = true from hs) AE
 | _ => cases y <;> exact absurd (show false = true from hs) AE
theorem iz : gq X (compareOp .NotEq) Ah := by
 intro pins s σ H x y v u Q I rx ry h
 obtain ⟨hs,q⟩ := h
 cases x with
 | non =>
  cases rx
  cases y with
  | non => cases ry; exact PySem.EqNone.ne_none_none (aY I q (by simp))
  | bl j => cases ry; exact PySem.EqNone.ne_none_bool (aY I q (by simp))
  | int j => obtain ⟨t',rfl⟩ := ry; exact PySem.EqNone.ne_none_int (aY I q (by simp))
  | str j => obtain ⟨t',rfl⟩ := ry; exact PySem.EqNone.ne_none_str (aY I q (by simp))
  | _ => exact absurd (show false = true from hs) AE
 | bl i =>
  cases rx
  cases y with
  | non => cases ry; exact PySem.EqNone.ne_bool_none (aY I q (by simp))
  | bl j => cases ry; exact ne_bool (aY I q (congrArg not qo))
  | str j => obtain ⟨t',rfl⟩ := ry; exact PySem.EqMixed.ne_bool_str (aY I q (by simp))
  | _ => exact absurd (show false = true from hs) AE
 | int i =>
  obtain ⟨t,rfl⟩ := rx
  cases y with
  | non => cases ry; exact PySem.EqNone.ne_int_none (aY I q (by simp))
  | int j => obtain ⟨t',rfl⟩ := ry; exact ne_int (aY I q (congrArg not nG))
  | str j => obtain ⟨t',rfl⟩ := ry; exact PySem.EqMixed.ne_int_str (aY I q (by simp))
  | _ => exact absurd (show false = true from hs) AE
 | str i =>
  obtain ⟨t,rfl⟩ := rx
  cases y with
  | non => cases ry; exact PySem.EqNone.ne_str_none (aY I q (by simp))
  | bl j => cases ry; exact PySem.EqMixed.ne_str_bool (aY I q (by simp))
  | int j => obtain ⟨t',rfl⟩ := ry; exact PySem.EqMixed.ne_str_int (aY I q (by simp))
  | str j => obtain ⟨t',rfl⟩ := ry; exact ne_str (aY I q (congrArg not nH))
  | _ => exact absurd (show false = true from hs) AE
 | byt i =>
  obtain ⟨t,rfl⟩ := rx
  cases y with
  | byt j => obtain ⟨t',rfl⟩ := ry; exact PySem.W.ne_bytes (aY I q (congrArg not nI))
  | _ => exact absurd (show false = true from hs) AE
 | _ => cases y <;> exact absurd (show false = true from hs) AE
theorem jo : gq X (compareOp .Lt) (uA fun i j => .bl (decide (i < j))) := si fun _ _ _ _ _ _ _ q => lt_int q
theorem uB : gq X (compareOp .LtE) (uA fun i j => .bl (decide (i <= j))) := si fun _ _ _ _ _ _ _ q => le_int q
theorem k8 : gq X (compareOp .Gt) (uA fun i j => .bl (decide (j < i))) := si fun _ _ _ _ _ _ _ q => gt_int q
theorem wJ : gq X (compareOp .GtE) (uA fun i j => .bl (decide (j <= i))) := si fun _ _ _ _ _ _ _ q => ge_int q
theorem fG : gq X (compareOp .Is) (fun x y H Q => y = .non /\ Q (.bl (decide (x = .non))) H) := by
 intro pins s σ H x y v u Q I rx ry h
 obtain ⟨rfl,q⟩ := h
 cases ry
 refine is_none_gen (aY I q ?_)
 cases x <;> first
  | (cases rx; rfl)
  | (obtain ⟨t,rfl⟩ := rx; rfl)
theorem j5 : gq X (compareOp .IsNot) (fun x y H Q => y = .non /\ Q (.bl (!decide (x = .non))) H) := by
 intro pins s σ H x y v u Q I rx ry h
 obtain ⟨rfl,q⟩ := h
 cases ry
 refine isnot_none_gen (aY I q ?_)
 cases x <;> first
  | (cases rx; rfl)
  | (obtain ⟨t,rfl⟩ := rx; rfl)
theorem aG (b : Expr) {op : CmpOp} (h : op ≠ .In := by decide) (h2 : op ≠ .NotIn := by decide) : behindInMarks op b = false := by
 have e1 : (op == CmpOp.In) = false := by cases op <;> first | rfl | exact absurd rfl h
 have e2 : (op == CmpOp.NotIn) = false := by cases op <;> first | rfl | exact absurd rfl h2
 cases b <;> simp [behindInMarks,e1,e2]
theorem dH {op : CmpOp} {r : R2} (ho : gq X (compareOp op) r) (ha : PE X a ta) (hb : PE X b tb) (hm : behindInMarks op b = false) : PE X (.Compare a [op] [b] pos) (yF r ta tb) := by
 intro pins s σ H Q I h
 exact wpAny_Compare1 (u0 ha hb I h fun v u s2 x y H2 I2 rx ry q => ho pins s2 σ H2 x y v u Q I2 rx ry q) hm
def wK (t : TE) : TT := fun σ H Q => t σ H fun x H' => ∃ k,x = .bl k /\ Q k H'
theorem aB {op : CmpOp} {r : R2} (ho : gq X (compareOp op) r) (ha : PE X a ta) (hb : PE X b tb) (hm : behindInMarks op b = false) : PT X (.Compare a [op] [b] pos) (wK (yF r ta tb)) := by
 intro pins s σ H Q I h
 refine wpAny_isTrue_Compare1 (bw (ha pins s σ H _ I h) fun v s1 ⟨x,H1,I1,r1,q1⟩ => bw (hb pins s1 σ H1 _ I1 q1) fun u s2 ⟨y,H2,I2,r2,q2⟩ =>
  bw (ho pins s2 σ H2 x y v u _ I2 r1 r2 q2) fun c s3 ⟨z,H3,I3,r3,k,e,q3⟩ => ?_) hm
 subst e
 cases r3
 exact wpAny_truthy_bool ⟨H3,I3,q3⟩
theorem iA : (sizeLine : Nat) < 2 ^ 63 := by rw [sizeLine_eq]; decide
theorem cB : gq X (binaryOp .Add) (fun x y H Q => ∃ i j,x = .str i /\ y = .str j /\ i.length + j.length <= sizeLine /\ Q (.str (i ++ j)) H) := by
 intro pins s σ H x y v u Q I rx ry h
 obtain ⟨i,j,rfl,rfl,hz,q⟩ := h
 obtain ⟨t,rfl⟩ := rx
 obtain ⟨t',rfl⟩ := ry
 exact add_str (fun t' tk => ⟨.str (i ++ j),H,I.tok _,⟨_,rfl⟩,q⟩) hz
theorem vals1 {x : V} {us : List Value} (r : aM [x] us) : ∃ u,us = [u] /\ RelV x u := by
 cases r with
 | cons r1 r2 => cases r2; exact ⟨_,rfl,r1⟩
theorem vals2 {x y : V} {us : List Value} (r : aM [x,y] us) : ∃ u w',us = [u,w'] /\ RelV x u /\ RelV y w' := by
 cases r with
 | cons r1 r2 =>
  cases r2 with
  | cons r3 r4 => cases r4; exact ⟨_,_,rfl,r1,r3⟩
theorem iB : cC X (.builtin "abs") (fun xs H Q => ∃ i,xs = [.int i] /\ Q (.int (if i < 0 then -i else i)) H) := by
 intro pins s σ H xs us Q I r h
 obtain ⟨i,rfl,q⟩ := h
 obtain ⟨u,rfl,t,rfl⟩ := vals1 r
 exact call_abs_int fun u tk => ⟨.int (if i < 0 then -i else i),H,I.tok _,⟨_,rfl⟩,q⟩
theorem oU (hc : X.calm = true) : cC X (.builtin "max") (fun xs H Q => ∃ i j,xs = [.int i,.int j] /\ Q (.int (if j > i then j else i)) H) := by
 intro pins s σ H xs us Q I r h
 obtain ⟨i,j,rfl,q⟩ := h
 obtain ⟨u,w',rfl,⟨t,rfl⟩,⟨t',rfl⟩⟩ := vals2 r
 refine max_two_ints (I.ok.hd hc) fun h' tk k => ⟨_,H,I.kept k,?_,q⟩
 by_cases hj : j > i
 ·rw [if_pos hj,if_pos hj]; exact ⟨_,rfl⟩
 ·rw [if_neg hj,if_neg hj]; exact ⟨_,rfl⟩
theorem oV (hc : X.calm = true) : cC X (.builtin "min") (fun xs H Q => ∃ i j,xs = [.int i,.int j] /\ Q (.int (if j < i then j else i)) H) := by
 intro pins s σ H xs us Q I r h
 obtain ⟨i,j,rfl,q⟩ := h
 obtain ⟨u,w',rfl,⟨t,rfl⟩,⟨t',rfl⟩⟩ := vals2 r
 refine min_two_ints (I.ok.hd hc) fun h' tk k => ⟨_,H,I.kept k,?_,q⟩
 by_cases hj : j < i
 ·rw [if_pos hj,if_pos hj]; exact ⟨_,rfl⟩
 ·rw [if_neg hj,if_neg hj]; exact ⟨_,rfl⟩
end
structure mq (h : Heap) (x dx C : Addr) (mA : Str -> Option Value) : Prop where
 obj : h.get? x = some (BM C dx)
 ns : h.Ns1 dx mA
 ne : dx ≠ x
theorem jp {h : Heap} {dx : Addr} {mA : Str -> Option Value} (n : h.Ns1 dx mA) : ∃ od,h.get? dx = some od /\ ∀ name,PySem.W.lookIn name od = some (mA name) := by
 obtain ⟨o,es,ep,ho,hd,hk,_,hm⟩ := n
 refine ⟨o,ho,fun name => ?_⟩
 have e := hm name
 unfold nsFind findBy at e
 rw [<- Array.find?_toList] at e
 unfold PySem.W.lookIn
 rw [hd]
 dsimp only
 split
 ·rename_i y q
  rw [q] at e
  exact congrArg some e
 ·rename_i q
  rw [q] at e
  have a : es.toList.any (·.refKey) = false := by
   rw [List.any_eq_false]
   intro y hy
   obtain ⟨z,t,hkey⟩ := hk y (Array.mem_toList_iff.mp hy)
   simp [DictEntry.refKey,hkey]
  have a' : ¬ es.toList.any (·.refKey) = true := by rw [a]; exact AE
  rw [if_neg a']
  exact congrArg some e
theorem mq.look {h : Heap} {x dx C : Addr} {mA : Str -> Option Value} (I : mq h x dx C mA) : ∃ od,PySem.W.InstAt h x (BM C dx) C (some od) /\ ∀ name,PySem.W.lookIn name od = some (mA name) :=
 let ⟨od,ho,hl⟩ := jp I.ns
 ⟨od,⟨I.obj,rfl,rfl,ho⟩,hl⟩
section
variable {prog : Program} {w : World} {A : Around} {E : Value -> Shared -> Prop} {s : Shared} {K : A0} {x dx C f : Addr} {mA : Str -> Option Value} {name : Str} {v : Value}
theorem sj {expr : Bool} {Q : Value -> Shared -> Prop} (X : K.In s.heap) (I : mq s.heap x dx C mA) (hg : PySem.W.plainGet K C name = true) (hh : PySem.W.hasDictIn K C = true)
  (ha : AH K (.ref C) name = some none) (hv : mA name = some v) (hv' : PySem.W.handedIn v = true) (h : Q v { s with toks := s.toks + 1 }) :
  wpAny (model prog w) A (getAttr (.ref x) name expr) Q E s := by
 obtain ⟨od,J,hl⟩ := I.look
 exact PySem.W.get_value X J (PySem.W.plainGet_of hg).1 (PySem.W.findObj_own hh ha rfl (by rw [hl,hv])) hv' h
theorem qp {pl : Sem Bool} {Q : Value × List Value -> Shared -> Prop} (X : K.In s.heap) (I : mq s.heap x dx C mA) (hg : PySem.W.plainGet K C name = true)
  (hf : AH K (.ref C) name = some (some (.ref f))) (ht : PySem.W.isFn K (.ref f) = true) (hv : mA name = none) (h : Q (.ref f,[.ref x]) s) :
  wpAny (model prog w) A (getMethod (.ref x) name pl) Q E s := by
 obtain ⟨od,J,hl⟩ := I.look
 exact PySem.W.method_fn X J (PySem.W.plainGet_of hg).1 (PySem.W.plainGet_of hg).2 hf (beq_iff_eq.mp ht) (by show (PySem.W.lookIn name od).map (·.isSome) = some false; rw [hl,hv]; rfl) h
theorem sk {ns : List Str} {Q : Unit -> Shared -> Prop} (X : K.In s.heap) (I : mq s.heap x dx C mA)
  (hs : AH K (.ref C) "__setattr__" = some (some (.builtin "object.__setattr__"))) (hp : PySem.W.plainOver K C = true) (ht : PySem.W.takerIn K C name = some none) (hh : PySem.W.hasDictIn K C = true)
  (hw : PySem.Within mA ns) (hsz : ns.length <= sizeLine)
  (h : ∀ h',mq h' x dx C (fun y => if y = name then some v else mA y) -> Heap.SameBut dx s.heap h' -> Q () { s with heap := h',toks := s.toks + 2 }) :
  wpAny (model prog w) A (setAttr (.ref x) name v) Q E s := by
 obtain ⟨od,J,hl⟩ := I.look
 refine PySem.W.set_plain X J hs (PySem.W.osa_open (s := { s with toks := s.toks + 1 }) (r := none) X J hp ht fun b => ?_)
 obtain ⟨cd,hc,hd'⟩ := PySem.W.any_some hh
 have hx : s.heap.get? x = some ⟨.ref C,some dx,.plain,#[]⟩ := I.obj
 refine wpAny_bind (wpAny_pure (wpAny_bind (wpAny_bind (wpAny_loadPart hx (wpAny_bind (PySem.W.Looks.here (s := { s with toks := s.toks + 1 }) (PySem.W.looks_clsIn X hc) ?_))))))
 rw [hd']
 refine wpAny_pure (a := some dx) (wpAny_bind (wpAny_pure (wpAny_bind ?_)))
 refine wpAny_nsSet1 (s := { s with toks := s.toks + 1 }) I.ns fun h' hn2 hs2 => ?_
 obtain ⟨oD,esD,epD,hoD,hdD,hcD⟩ := hn2.count (PySem.Within.cons name v hw)
 refine wpAny_bind (wpAny_lookBehind hoD (by rw [hdD]; exact pastItsLine_dict (AR hcD (by rw [As]; omega))) ?_)
 exact wpAny_pure (h _ ⟨(hs2.2 _ (Ne.symm I.ne)).trans I.obj,hn2,I.ne⟩ hs2)
theorem qr {R : Result -> Shared -> Prop} {vs : List Value} {kw : List (Str × Value)} (X : K.In s.heap) (hm : PySem.W.makesIn K C = true)
  (hi : AH K (.ref C) "__init__" = some (some (.ref f))) (hf : PySem.W.typeIn K (.ref f) = some (.type "function"))
  (h : codeAny (model prog w) (A.under (.builtin "type.__call__" ⟨.ref C :: vs,kw⟩)) (.call (.ref f) ⟨.ref (s.heap.objs.size + 1) :: vs,kw⟩) (PySem.W.InitBack (s.heap.objs.size + 1) R)
   { s with heap := (s.heap.push AS).push (BM C s.heap.objs.size) }) :
  codeAny (model prog w) A (.call (.ref C) ⟨vs,kw⟩) R s := by
 obtain ⟨hh,g,d,t,os⟩ := s
 exact PySem.W.make_core (PySem.W.makes_of X hm) (PySem.W.looks_findIn X hi) (fun self => PySem.W.bind_fn X self hf) (.inl rfl) h
end
def aC (f : Str) (v : V) : List (Str × V) -> List (Str × V)
 | [] => [(f,v)]
 | (g,x) :: r => if g = f then (g,v) :: r else (g,x) :: aC f v r
theorem aK (f g : Str) (v : V) : ∀ fs : List (Str × V),(aC f v fs).lookup g = if g = f then some v else fs.lookup g
 | [] => by
  show BR g [(f,v)] = _
  by_cases h : g = f
  ·have hb : (g == f) = true := beq_iff_eq.mpr h
   simp only [BR,hb,if_pos h]
  ·have hb : (g == f) = false := beq_eq_false_iff_ne.mpr h
   simp only [BR,hb,if_neg h]
 | (k,x) :: r => by
  have ih := aK f g v r
  rw [show aC f v ((k,x) :: r) = (if k = f then (k,v) :: r else (k,x) :: aC f v r) from rfl]
  by_cases hk : k = f
  ·rw [if_pos hk]
   by_cases h : g = k
   ·have hb : (g == k) = true := beq_iff_eq.mpr h
    simp only [BR,hb,if_pos (h.trans hk)]
   ·have hb : (g == k) = false := beq_eq_false_iff_ne.mpr h
    simp only [BR,hb,if_neg (fun e : g = f => h (e.trans hk.symm))]
  ·rw [if_neg hk]
   by_cases h : g = k
   ·have hb : (g == k) = true := beq_iff_eq.mpr h
    simp only [BR,hb,if_neg (fun e : g = f => hk (h.symm.trans e))]
   ·have hb : (g == k) = false := beq_eq_false_iff_ne.mpr h
    simp only [BR,hb]
    exact ih
theorem gz (f : Str) (v : V) : ∀ fs : List (Str × V),f ∈ (aC f v fs).map (·.1) /\ ∀ g,g ∈ fs.map (·.1) -> g ∈ (aC f v fs).map (·.1)
 | [] => ⟨by simp [aC],fun g h => by simp at h⟩
 | (k,x) :: r => by
  obtain ⟨i1,i2⟩ := gz f v r
  rw [show aC f v ((k,x) :: r) = (if k = f then (k,v) :: r else (k,x) :: aC f v r) from rfl]
  by_cases hk : k = f
  ·rw [if_pos hk]
   subst hk
   exact ⟨by simp,fun g h => by simpa using h⟩
  ·rw [if_neg hk]
   refine ⟨?_,fun g h => ?_⟩
   ·rw [Ap]
    exact AV _ i1
   ·rw [Ap] at h ⊢
    rcases AB.mp h with e | e
    ·exact AB.mpr (.inl e)
    ·exact AV _ (i2 g e)
theorem cD (f : Str) (v : V) : ∀ fs : List (Str × V),(aC f v fs).length <= fs.length + 1
 | [] => by simp [aC]
 | (k,x) :: r => by
  have ih := cD f v r
  rw [show aC f v ((k,x) :: r) = (if k = f then (k,v) :: r else (k,x) :: aC f v r) from rfl]
  by_cases hk : k = f
  ·rw [if_pos hk,As,As]; omega
  ·rw [if_neg hk,As,As]; omega
theorem dE.some_of {v : V} {o : Option Value} (r : dE (some v) o) : ∃ u,o = some u /\ RelV v u := by
 cases o with
 | none => exact (show False from r).elim
 | some u => exact ⟨u,rfl,r⟩
theorem dE.none_of {o : Option Value} (r : dE none o) : o = none := by
 cases o with
 | none => rfl
 | some u => exact (show False from r).elim
theorem jq {v : V} {u : Value} (r : RelV v u) : PySem.W.handedIn u = true := by
 cases v with
 | non => cases (show u = Value.none from r); rfl
 | bl b => cases (show u = Value.bool b from r); rfl
 | int i => obtain ⟨t,e⟩ := (show ∃ t,u = Value.int i t from r); cases e; rfl
 | str x => obtain ⟨t,e⟩ := (show ∃ t,u = Value.str x t from r); cases e; rfl
 | byt b => obtain ⟨t,e⟩ := (show ∃ t,u = Value.bytes b t from r); cases e; rfl
 | flt b => obtain ⟨t,e⟩ := (show ∃ t,u = Value.float b t from r); cases e; rfl
 | ref a => cases (show u = Value.ref a from r); rfl
 | ty n => cases (show u = Value.type n from r); rfl
section
variable {P : Program} {w : World} {H H' : Hp} {h h' : Heap} {a C dx : Addr} {fs fs' : List (Str × V)}
theorem ig (hok : dQ P w H h) (e : H a = some (.ins C dx fs)) : ∃ mA,mq h a dx C mA /\ (∀ f,dE (fs.lookup f) (mA f)) /\ PySem.Within mA (fs.map (·.1)) /\ fs.length <= 1000 /\ H dx = some (.own a) := by
 obtain ⟨d,z,ne,ob,mA,n,r,q⟩ := (show aV P w H h a (.ins C dx fs) from hok a _ e)
 exact ⟨mA,⟨ob,n,ne⟩,r,q,z,d⟩
end
structure nJ (K : A0) (C : Addr) : Prop where
 pg : PySem.W.plainGet K C Str.empty = true
 hd : PySem.W.hasDictIn K C = true
 po : PySem.W.plainOver K C = true
 sa : AH K (.ref C) "__setattr__" = some (some (.builtin "object.__setattr__"))
theorem nJ.get {K : A0} {C : Addr} (c : nJ K C) (f : Str) : PySem.W.plainGet K C f = true := c.pg
def b5 (K : A0) (C : Addr) (f : Str) : Prop := AH K (.ref C) f = some none
theorem b5.taker {K : A0} {C : Addr} {f : Str} (n : b5 K C f) : PySem.W.takerIn K C f = some none := by
 unfold PySem.W.takerIn
 rw [show AH K (.ref C) f = some none from n]
 rfl
structure eB (K : A0) (C : Addr) (m : Str) (f : Addr) : Prop where
 at_ : AH K (.ref C) m = some (some (.ref f))
 fn : PySem.W.isFn K (.ref f) = true
 kp : Aw K (.ref f) = true
section
variable {X : Cx} {pins : List (Addr × Obj)} {σ : St} {H : Hp} {s : Shared} {a C dx : Addr} {fs : List (Str × V)} {f : Str} {v : V} {A : Around} {E : Value -> Shared -> Prop}
theorem mr {b : Bool} {Q : Value -> Shared -> Prop} (I : av X pins σ H s) (e : H a = some (.ins C dx fs)) (c : nJ X.K C) (n : b5 X.K C f) (l : fs.lookup f = some v)
  (h : ∀ u s',av X pins σ H s' -> RelV v u -> Q u s') : wpAny (model X.prog X.w) A (getAttr (.ref a) f b) Q E s := by
 obtain ⟨mA,O,r,_,_,_⟩ := ig I.hok e
 obtain ⟨u,hu,ru⟩ := dE.some_of (v := v) (o := mA f) (by rw [<- l]; exact r f)
 exact sj I.kIn O (c.get f) c.hd n hu (jq ru) (h u _ (I.tok _) ru)
theorem iC {m : Str} {g : Addr} {pl : Sem Bool} {Q : Value × List Value -> Shared -> Prop} (I : av X pins σ H s) (e : H a = some (.ins C dx fs)) (c : nJ X.K C) (k : eB X.K C m g) (l : fs.lookup m = none)
  (h : Q (.ref g,[.ref a]) s) : wpAny (model X.prog X.w) A (getMethod (.ref a) m pl) Q E s := by
 obtain ⟨mA,O,r,_,_,_⟩ := ig I.hok e
 have hn : mA m = none := dE.none_of (by rw [<- l]; exact r m)
 exact qp I.kIn O (c.get m) k.at_ k.fn hn h
theorem mt {y : V} {u : Value} {Q : Unit -> Shared -> Prop} (I : av X pins σ H s) (e : H a = some (.ins C dx fs)) (c : nJ X.K C) (n : b5 X.K C f) (hl : fs.length < 1000) (ry : RelV y u)
  (h : ∀ s',av X pins σ (aq H a (.ins C dx (aC f y fs))) s' -> Q () s') : wpAny (model X.prog X.w) A (setAttr (.ref a) f u) Q E s := by
 obtain ⟨mA,O,r,wi,_,ho⟩ := ig I.hok e
 have hz : (fs.map (·.1)).length <= sizeLine := by rw [A5,sizeLine_eq]; omega
 refine sk I.kIn O c.sa c.po n.taker c.hd wi hz fun h' O' sb => h _ ?_
 have hd : ∃ o,h'.get? dx = some o := let ⟨o,_,_,e',_⟩ := O'.ns; ⟨o,e'⟩
 refine I.write (x := a) (e := dx) (by rw [e]; exact True.intro) (.inr ho) (fun b q hb z => (sb.2 b hb).trans z) hd ?_
 refine ⟨by rw [ae O.ne]; exact ho,?_,O.ne,O'.obj,_,O'.ns,fun g => ?_,fun g hg => ?_⟩
 ·have := cD f y fs; omega
 ·show dE ((aC f y fs).lookup g) (if g = f then some u else mA g)
  rw [aK]
  by_cases q : g = f
  ·rw [if_pos q,if_pos q]; exact ry
  ·rw [if_neg q,if_neg q]; exact r g
 ·by_cases q : g = f
  ·rw [q]; exact (gz f y fs).1
  ·refine (gz f y fs).2 g (wi g fun z => hg ?_)
   show (if g = f then some u else mA g) = none
   rw [if_neg q]; exact z
theorem av.made (I : av X pins σ H s) : av X pins σ (aq (aq H s.heap.objs.size (.own (s.heap.objs.size + 1))) (s.heap.objs.size + 1) (.ins C s.heap.objs.size []))
  { s with heap := (s.heap.push AS).push (BM C s.heap.objs.size) } := by
 have e1 : (s.heap.push AS).get? s.heap.objs.size = some AS := Heap.get?_push_size s.heap rfl
 have e2 : ((s.heap.push AS).push (BM C s.heap.objs.size)).get? (s.heap.objs.size + 1) = some (BM C s.heap.objs.size) := by
  have := Heap.get?_push_size (s.heap.push AS) (o := BM C s.heap.objs.size) rfl
  rwa [Heap.size_push] at this
 have e3 : (s.heap.push AS).Ns s.heap.objs.size (fun _ => none) := ⟨AS,#[],_,e1,rfl,(fun e he => absurd he (by simp)),fun _ => rfl⟩
 have I1 := I.laid (a := s.heap.objs.size) (o := .own (s.heap.objs.size + 1)) (h' := s.heap.push AS) (t' := s.toks) (fun b u q => Heap.get?_push_of_some _ q) (A4 _) ⟨_,e1⟩
 refine I1.laid (a := s.heap.objs.size + 1) (o := .ins C s.heap.objs.size []) (t' := s.toks) (fun b u q => Heap.get?_push_of_some _ q) (Nat.le_of_eq (Heap.size_push _ _)) ?_
 have ne : s.heap.objs.size ≠ s.heap.objs.size + 1 := AD (Nat.lt_succ_self _)
 refine ⟨by rw [ae ne,ac],AZ _,ne,e2,fun _ => none,(Heap.Ns1.of_empty e3).at fun o q => Heap.get?_push_of_some _ q,fun _ => True.intro,fun y hy => absurd rfl hy⟩
theorem nK {prog : Program} {w : World} {env : Env} {e : Expr} {f : Str} {pos : Pos} {s : Shared} {Q : Value -> Shared -> Prop} (hb : attributeBase e f env (eval e env) = eval e env)
  (h : wpAny (model prog w) A (eval e env) (fun o s₁ => wpAny (model prog w) A (getAttr o f true) Q E s₁) E s) : wpAny (model prog w) A (eval (.Attribute e f pos) env) Q E s :=
 Attribute_any_ h (by rw [arm_eval_Attribute,hb])
end
def wL (K : A0) (ta : TE) (f : Str) : TE := fun σ H Q => ta σ H fun x H1 => ∃ a C dx fs v,x = .ref a /\ H1 a = some (.ins C dx fs) /\ nJ K C /\ b5 K C f /\ fs.lookup f = some v /\ Q v H1
def zd (K : A0) (ta tv : TE) (f : Str) : TS := fun D σ H => tv σ H fun y H1 => ta σ H1 fun x H2 => ∃ a C dx fs,x = .ref a /\ H2 a = some (.ins C dx fs) /\ nJ K C /\ b5 K C f /\ fs.length < 1000 /\
 D.nx σ (aq H2 a (.ins C dx (aC f y fs)))
section
variable {X : Cx} {o e value : Expr} {f : Str} {pos pos' tpos : Pos} {ta tv : TE}
theorem c8 (he : PE X e ta) (hb : attributeBase e f X.env (eval e X.env) = eval e X.env) : PE X (.Attribute e f pos) (wL X.K ta f) := by
 intro pins s σ H Q I h
 refine nK hb (bw (he pins s σ H _ I h) fun u s1 ⟨x,H1,I1,rx,a,C,dx,fs,v,ex,ea,c,n,l,q⟩ => ?_)
 subst ex
 obtain rfl : u = Value.ref a := rx
 exact mr I1 ea c n l fun u' s2 I2 ru => ⟨v,H1,I2,ru,q⟩
theorem j6 (ha : PE X o ta) (hv : PE X value tv) (hs : swapsWith value (some (.Attribute o f pos')) pos.line X.env = pure false) : PS X (.Assign [.Attribute o f pos'] value pos) (zd X.K ta tv f) := by
 intro pins s σ H D I h
 refine plainObj_wpAny_Assign_Attribute (bw (hv pins s σ H _ I h) fun u s1 ⟨y,H1,I1,ry,q⟩ => bw (ha pins s1 σ H1 _ I1 q) fun ov s2 ⟨x,H2,I2,rx,a,C,dx,fs,ex,ea,c,n,l,q2⟩ => ?_) hs
 subst ex
 obtain rfl : ov = Value.ref a := rx
 exact mt I2 ea c n l ry fun s3 I3 => ⟨σ,_,I3,q2⟩
end
section
variable {X : Cx} {pins : List (Addr × Obj)} {σ : St} {H : Hp} {s : Shared} {A : Around} {E : Value -> Shared -> Prop} {Q : Value -> Shared -> Prop} {c : Value} {b : Bool}
inductive eC (K : A0) (H : Hp) : V -> Value -> Prop where
 | non : eC K H .non (.type "NoneType")
 | bl (x : Bool) : eC K H (.bl x) (.type "bool")
 | int (i : Int) : eC K H (.int i) (.type "int")
 | str (x : Str) : eC K H (.str x) (.type "str")
 | flt (x : UInt64) : eC K H (.flt x) (.type "float")
 | lst {a : Addr} {xs : List V} (e : H a = some (.lst xs)) : eC K H (.ref a) (.type "list")
 | frz {a : Addr} {o : Obj} {xs : List V} (e : H a = some (.frz o (.lst xs))) : eC K H (.ref a) (.type "list")
 | tup {a : Addr} {xs : List V} (e : H a = some (.tup xs)) : eC K H (.ref a) (.type "tuple")
 | dK {a : Addr} {kvs : List (Key × V)} (e : H a = some (.dK kvs)) : eC K H (.ref a) (.type "dict")
 | dT {a : Addr} {kvs : List (List Key × V)} (e : H a = some (.dT kvs)) : eC K H (.ref a) (.type "dict")
 | ins {a C dx : Addr} {fs : List (Str × V)} (e : H a = some (.ins C dx fs)) (cl : nJ K C) (ha : AH K (.ref C) "__class__" = some (some (.builtin "object.__class__")))
   (hn : PySem.W.specialIn K (.builtin "object.__class__") "__get__" = some (some (.builtin "getset_descriptor.__get__"))) (htk : PySem.W.takesIn K (.builtin "object.__class__") = some true)
   (hm : PySem.W.mroIn K C (.type "object") = some true) : eC K H (.ref a) (.ref C)
theorem oW {x : V} {u t : Value} (I : av X pins σ H s) (rx : RelV x u) (ty : eC X.K H x t) (e : Av X.K t c = some b) (h : ∀ tk,Q (.bool b) { s with toks := tk }) :
  wpAny (model X.prog X.w) A (call (.builtin "isinstance") [u,c]) Q E s := by
 cases ty with
 | non => cases (show u = Value.none from rx); exact Ax PySem.W.kitx_none I.kIn True.intro e (fun z => nomatch z) h
 | bl y => cases (show u = Value.bool y from rx); exact Ax PySem.W.kitx_bool I.kIn True.intro e (fun z => nomatch z) h
 | int i => obtain ⟨t,q⟩ := (show ∃ t,u = Value.int i t from rx); cases q; exact Ax PySem.W.kitx_int I.kIn True.intro e (fun z => nomatch z) h
 | str y => obtain ⟨t,q⟩ := (show ∃ t,u = Value.str y t from rx); cases q; exact Ax PySem.W.kitx_str I.kIn True.intro e (fun z => nomatch z) h
 | flt y => obtain ⟨t,q⟩ := (show ∃ t,u = Value.float y t from rx); cases q; exact Ax PySem.W.kitx_float I.kIn True.intro e (fun z => nomatch z) h
 | @lst a xs ea =>
  cases (show u = Value.ref a from rx)
  obtain ⟨_,_,n,_,h1⟩ := (show aV X.prog X.w H s.heap a (.lst xs) from I.hok a _ ea)
  exact Ax PySem.W.kitx_list I.kIn ⟨_,h1,rfl⟩ e (fun z => nomatch z) h
 | @frz a ob xs ea =>
  cases (show u = Value.ref a from rx)
  obtain ⟨_,_,_,n,_,h1⟩ := (show aV X.prog X.w H s.heap a (.frz ob (.lst xs)) from I.hok a _ ea)
  exact Ax PySem.W.kitx_list I.kIn ⟨_,h1,rfl⟩ e (fun z => nomatch z) h
 | @tup a xs ea =>
  cases (show u = Value.ref a from rx)
  obtain ⟨_,_,_,p⟩ := (show aV X.prog X.w H s.heap a (.tup xs) from I.hok a _ ea)
  obtain ⟨o,h1,h2,_⟩ := p
  exact Ax PySem.W.kitx_tuple I.kIn ⟨o,h1,h2⟩ e (fun z => nomatch z) h
 | @dK a kvs ea =>
  cases (show u = Value.ref a from rx)
  obtain ⟨_,_,vs,_,p⟩ := (show aV X.prog X.w H s.heap a (.dK kvs) from I.hok a _ ea)
  obtain ⟨o,es,ep,h1,h2,_⟩ := p
  exact Ax PySem.W.kitx_dict I.kIn ⟨o,h1,h2.1⟩ e (fun z => nomatch z) h
 | @dT a kvs ea =>
  cases (show u = Value.ref a from rx)
  obtain ⟨_,_,xs,_,o,es,ep,h1,h2,_⟩ := (show aV X.prog X.w H s.heap a (.dT kvs) from I.hok a _ ea)
  exact Ax PySem.W.kitx_dict I.kIn ⟨o,h1,h2.1⟩ e (fun z => nomatch z) h
 | @ins a C dx fs ea cl ha hn htk hm =>
  cases (show u = Value.ref a from rx)
  obtain ⟨mA,O,_⟩ := ig I.hok ea
  obtain ⟨od,J,_⟩ := O.look
  exact Ax (PySem.W.kitx_own (cl.get _) cl.hd ha hn htk hm) I.kIn J e (fun z => nomatch z) h
end
structure bQ (k : Nat) (A : Around) : Prop where
 hd : A.handled = none
 dp : A.depth + 3 * k + 5 < recursionLimit
 un : A.units + 16 * k + 200 < cLine
theorem bQ.mono {j k : Nat} {A : Around} (r : bQ k A) (h : j <= k) : bQ j A := ⟨r.hd,by have := r.dp; omega,by have := r.un; omega⟩
theorem bQ.deeper {k : Nat} {A : Around} (r : bQ (k + 1) A) (env : Env) : bQ k (A.deeper env) :=
 ⟨r.hd,by have := r.dp; show A.depth + 1 + 3 * k + 5 < _; omega,by have := r.un; show A.units + 3 + 16 * k + 200 < _; omega⟩
theorem mw {A : Around} {C : Addr} {us : List Value} {kw : List (Str × Value)} : (A.under (.builtin "type.__call__" ⟨.ref C :: us,kw⟩)).depth = A.depth + 1 := by
 first | rfl | simp [Around.under,Code.weight,Code.isCreation,Code.isGuard,Code.isCaller,Code.frames,Code.isFrame,guardIds]
theorem mB {A : Around} {C : Addr} {us : List Value} {kw : List (Str × Value)} : (A.under (.builtin "type.__call__" ⟨.ref C :: us,kw⟩)).units = A.units + 1 := by
 first | rfl | simp [Around.under,Code.cUnits,Code.frames,Code.isFrame]
theorem bQ.make {k : Nat} {A : Around} (r : bQ (k + 1) A) (C : Addr) (us : List Value) (kw : List (Str × Value)) : bQ k (A.under (.builtin "type.__call__" ⟨.ref C :: us,kw⟩)) :=
 ⟨r.hd,by have := r.dp; rw [mw]; omega,by have := r.un; rw [mB]; omega⟩
theorem bQ.depth {k : Nat} {A : Around} (r : bQ k A) : A.depth < recursionLimit := by have := r.dp; omega
theorem bQ.units {k : Nat} {A : Around} (r : bQ k A) : A.units + 64 < cLine := by have := r.un; omega
theorem bQ.units0 {k : Nat} {A : Around} (r : bQ k A) : A.units < cLine := by have := r.un; omega
def u3 : TA := fun _ H Q => Q [] H
def wM (ta : TE) (tr : TA) : TA := fun σ H Q => ta σ H fun x H1 => tr σ H1 fun xs H2 => Q (x :: xs) H2
section
variable {X : Cx} {e : Expr} {es : List Expr} {te : TE} {t : TA} {pos : Pos}
theorem ag : PA X [] u3 := fun _ _ _ _ H Q I h => Calls.spliced_nil ⟨[],H,I,.nil,h⟩
theorem aa (ha : PE X e te) (hr : PA X es t) (hs : starEach (e :: es) X.env = (false,eval e X.env) :: starEach es X.env := by rfl) : PA X (e :: es) (wM te t) := by
 intro pos pins s σ H Q I h
 rw [hs]
 show wpAny _ _ (spliced ((false,eval e X.env) :: backTo pos (starEach es X.env))) _ _ s
 refine Calls.spliced_cons (bw (ha pins s σ H _ I h) fun u s1 ⟨x,H1,I1,r1,q1⟩ => ?_)
 exact bw (hr pos pins s1 σ H1 _ I1 q1) fun us s2 ⟨xs,H2,I2,r2,q2⟩ => ⟨x :: xs,H2,I2,.cons r1 r2,q2⟩
def ze (t : TA) : TE := fun σ H Q => t σ H fun xs H1 => xs.length <= sizeLine /\ ∀ p,H1 p = none -> Q (.ref p) (aq H1 p (.tup xs))
def zf (t : TA) : TE := fun σ H Q => t σ H fun xs H1 => xs.length <= sizeLine /\ ∀ p,H1 p = none -> Q (.ref p) (aq H1 p (.lst xs))
theorem cy {x1} (h : PA X es t) : PE X (.Tuple es x1 pos) (ze t) := by
 intro pins s σ H Q I hq
 refine wpAny_Tuple_spliced (bw (h pos pins s σ H _ I hq) fun us s1 ⟨xs,H1,I1,r,z,q⟩ => ⟨by rw [<- r.length]; exact z,?_⟩)
 have hf : H1 s1.heap.objs.size = none := I1.hok.fresh (A4 _)
 refine ⟨.ref s1.heap.objs.size,aq H1 s1.heap.objs.size (.tup xs),I1.laid (t' := s1.toks) (fun b u e => Heap.get?_push_of_some _ e) (A4 _) ?_,rfl,q _ hf⟩
 exact ⟨z,us,r,⟨_,Heap.get?_push_size _ rfl,rfl,_,rfl⟩⟩
theorem bH (h : PA X es t) : PE X (.List es pos) (zf t) := by
 intro pins s σ H Q I hq
 refine wpAny_List_spliced (bw (h pos pins s σ H _ I hq) fun us s1 ⟨xs,H1,I1,r,z,q⟩ => ⟨by rw [<- r.length]; exact z,?_⟩)
 have hf : H1 s1.heap.objs.size = none := I1.hok.fresh (A4 _)
 refine ⟨.ref s1.heap.objs.size,aq H1 s1.heap.objs.size (.lst xs),I1.laid (t' := s1.toks) (fun b u e => Heap.get?_push_of_some _ e) (A4 _) ?_,rfl,q _ hf⟩
 exact ⟨z,us,0,r,Heap.get?_push_size _ rfl⟩
end
abbrev Sp := List V -> Hp -> VK -> XK -> Prop
abbrev nL := List Env -> Hp -> Shared -> XK -> Value -> Shared -> Prop
structure jc (P : Program) (w : World) (K : A0) (mg : Str -> Option Value) (base : Heap) (A : Around) (outer : List Env) (s : Shared) (H : Hp) : Prop where
 frames : A.frames = some outer
 mod : Mod K mg base
 bs : ∀ b o,base.get? b = some o -> s.heap.get? b = some o /\ H b = none
 bsz : base.objs.size <= s.heap.objs.size
 funs : s.heap.FunFrames base outer
 frf : ∀ b ∈ gS outer,H b = none
 hok : dQ P w H s.heap
 bare : AllBare s.gens
def CE (outer : List Env) (P : Program) (w : World) (H : Hp) (s : Shared) (Q : VK) (u : Value) (s' : Shared) : Prop :=
 ∃ v H',s'.os = s.os /\ AllBare s'.gens /\ Un (gS outer) [] H H' s.heap s'.heap /\ dQ P w H' s'.heap /\ RelV v u /\ Q v H'
def CR (CX : nL) (outer : List Env) (P : Program) (w : World) (H : Hp) (s : Shared) (Q : VK) (E : XK) (r : Result) (s' : Shared) : Prop :=
 match r with
 | .ok (.ret u) => CE outer P w H s Q u s'
 | .ok _ => False
 | .error e => CX outer H s E e s'
structure bg (P : Program) (w : World) (K : A0) (mg : Str -> Option Value) (base : Heap) (CX : nL) (k : Nat) (f : Addr) (fd : FuncData) (ps : List Str) (sp : Sp) : Prop where
 len : ∀ vs H Q E,sp vs H Q E -> vs.length = ps.length
 run : ∀ (A : Around) (outer : List Env) (s : Shared) (H : Hp) (args : Args) (us : List Value) (vs : List V) (Q : VK) (E : XK),bQ k A -> jc P w K mg base A outer s H -> BindsTo s fd args (ps.zip us) -> aM vs us -> sp vs H Q E ->
  codeAny (model P w) A (.call (.ref f) args) (CR CX outer P w H s Q E) s
theorem jc.make {P : Program} {w : World} {K : A0} {mg : Str -> Option Value} {base : Heap} {A : Around} {outer : List Env} {s : Shared} {H : Hp} (e : jc P w K mg base A outer s H) (C : Addr) (us : List Value) (kw : List (Str × Value)) :
  jc P w K mg base (A.under (.builtin "type.__call__" ⟨.ref C :: us,kw⟩)) outer s H := ⟨by first | exact e.frames | (simpa [Around.under,Code.envs,Code.isFrame,pushEnvs] using e.frames),e.mod,e.bs,e.bsz,e.funs,e.frf,e.hok,e.bare⟩
section
variable {X : Cx} {pins : List (Addr × Obj)} {σ : St} {H : Hp} {s s' : Shared}
theorem av.env0 (I : av X pins σ H s) : jc X.prog X.w X.K X.mg X.base X.A X.stack s H :=
 ⟨I.ok.frames,I.ok.mod,I.bs,AR I.ok.bsz I.sz,I.stack,I.stkFree,I.hok,I.bare⟩
theorem av.after {Q : VK} {u : Value} (I : av X pins σ H s) (h : CE X.stack X.prog X.w H s Q u s') : EP X pins σ Q u s' := by
 obtain ⟨v,H',os,bare,un,hok,r,q⟩ := h
 obtain ⟨hh,g,d,t,os'⟩ := s'
 obtain rfl : os' = s.os := os
 exact ⟨v,H',I.call (h' := hh) (g' := g) (d' := d) (t' := t) (ch := []) un hok bare (fun b z => absurd z (by simp)),r,q⟩
end
def k9 (sp : Sp) (dvs : List V) (E : XK) (t : TA) : TE := fun σ H Q => t σ H fun vs H1 => sp (vs ++ dvs) H1 Q E
def uC (C : Addr) (sp : Sp) (dvs : List V) (E : XK) (t : TA) : TE := fun σ H Q => t σ H fun vs H1 => ∀ x dx,H1 x = none -> H1 dx = none -> dx ≠ x ->
 sp (.ref x :: (vs ++ dvs)) (aq (aq H1 dx (.own x)) x (.ins C dx [])) (fun v H2 => v = .non /\ Q (.ref x) H2) E
def Binds (K : A0) (fd : FuncData) (ps : List Str) (ds : List Value) : Prop :=
 ∀ (s : Shared) (us : List Value),K.In s.heap -> (us ++ ds).length = ps.length -> BindsTo s fd ⟨us,[]⟩ (ps.zip (us ++ ds))
theorem Binds.all {K : A0} {fd : FuncData} {ps : List Str} (h : ∀ us : List Value,us.length = ps.length -> bindArgs fd ⟨us,[]⟩ = pure (ps.zip us)) : Binds K fd ps [] := fun s us _ hl => by
 rw [List.append_nil] at hl ⊢
 exact .of_eq (h us hl)
def iD (CX : nL) (X : Cx) (E : XK) : Prop := ∀ (pins : List (Addr × Obj)) (σ : St) (H : Hp) (s : Shared) (e : Value) (s' : Shared),av X pins σ H s -> CX X.stack H s E e s' -> X.xe e s'
section
variable {X : Cx} {CX : nL} {k : Nat} {f C : Addr} {fd : FuncData} {ps : List Str} {sp : Sp} {dvs : List V} {ds : List Value} {E : XK} {x m : Str} {p pos apos : Pos} {e o : Expr} {es : List Expr} {ta : TE} {t : TA}
theorem qt {pins : List (Addr × Obj)} {σ : St} {H : Hp} {s : Shared} {Q : VK} {us : List Value} {vs : List V} (F : bg X.prog X.w X.K X.mg X.base CX k f fd ps sp) (hr : bQ k X.A) (hb : Binds X.K fd ps ds) (hd : aM dvs ds) (hx : iD CX X E)
  (I : av X pins σ H s) (r : aM vs us) (h : sp (vs ++ dvs) H Q E) : wpAny (model X.prog X.w) X.A (call (.ref f) us) (EP X pins σ Q) X.xe s := by
 have r2 : aM (vs ++ dvs) (us ++ ds) := r.append hd
 have hl : (us ++ ds).length = ps.length := by rw [<- r2.length]; exact F.len _ _ _ _ h
 refine wpAny_call (codeAny_mono (F.run X.A X.stack s H ⟨us,[]⟩ (us ++ ds) (vs ++ dvs) Q E hr I.env0 (hb s us I.kIn hl) r2 h) fun r s' hq => ?_)
 cases r with
 | error e => exact hx pins σ H s e s' I hq
 | ok fl =>
  cases fl with
  | ret u => exact I.after hq
  | next => exact False.elim hq
  | brk => exact False.elim hq
  | cont => exact False.elim hq
theorem nM (F : bg X.prog X.w X.K X.mg X.base CX k f fd ps sp) (hr : bQ k X.A) (hg : Gl X x) (hm : X.mg x = some (.ref f)) (hk : Aw X.K (.ref f) = true) (hb : Binds X.K fd ps ds) (hd : aM dvs ds) (hx : iD CX X E)
  (ha : PA X (e :: es) t) (hdb : (x == ("__debug__" : Str)) = false := by decide) (he : starEach (e :: es) X.env = (false,eval e X.env) :: starEach es X.env := by rfl) (hpl : (backTo pos (starEach es X.env)).any (·.1) = false := by rfl) :
  PE X (.Call (.Name x p) (e :: es) [] pos) (k9 sp dvs E t) := by
 intro pins s σ H Q I h
 refine wpAny_Call_Name_kw (dG I hg hm ?_ hdb)
 refine BQ (h₀ := X.base) I.ok.mod.kin hk (bw (ha pos pins s σ H _ I h) fun us s1 ⟨vs,H1,I1,r,q⟩ => ⟨I1.kIn,?_⟩) he hpl
 exact qt F hr hb hd hx I1 r q
structure Mk (K : A0) (C f : Addr) : Prop where
 makes : PySem.W.makesIn K C = true
 init : AH K (.ref C) "__init__" = some (some (.ref f))
 fn : PySem.W.isFn K (.ref f) = true
 kp : Aw K (.ref C) = true
theorem qu {pins : List (Addr × Obj)} {σ : St} {H : Hp} {s : Shared} {Q : VK} {us : List Value} {vs : List V} (M : Mk X.K C f) (F : bg X.prog X.w X.K X.mg X.base CX k f fd ps sp) (hr : bQ (k + 1) X.A) (hb : Binds X.K fd ps ds) (hd : aM dvs ds)
  (hx : iD CX X E) (I : av X pins σ H s) (r : aM vs us)
  (h : ∀ x dx,H x = none -> H dx = none -> dx ≠ x -> sp (.ref x :: (vs ++ dvs)) (aq (aq H dx (.own x)) x (.ins C dx [])) (fun v H2 => v = .non /\ Q (.ref x) H2) E) :
  wpAny (model X.prog X.w) X.A (call (.ref C) us) (EP X pins σ Q) X.xe s := by
 have hq := h (s.heap.objs.size + 1) s.heap.objs.size (I.hok.fresh (Nat.le_succ _)) (I.hok.fresh (A4 _)) (AD (Nat.lt_succ_self _))
 have I2 := av.made (C := C) I
 have r2 : aM (V.ref (s.heap.objs.size + 1) :: (vs ++ dvs)) (Value.ref (s.heap.objs.size + 1) :: (us ++ ds)) := .cons rfl (r.append hd)
 have hl : (Value.ref (s.heap.objs.size + 1) :: us ++ ds).length = ps.length := by
  have e := r2.length
  rw [F.len _ _ _ _ hq] at e
  exact e.symm
 refine wpAny_call (qr (f := f) I.kIn M.makes M.init (beq_iff_eq.mp M.fn) (codeAny_mono (F.run _ X.stack _ _ ⟨Value.ref (s.heap.objs.size + 1) :: us,[]⟩ (Value.ref (s.heap.objs.size + 1) :: (us ++ ds)) _ _ E (hr.make C us [])
  (I2.env0.make C us []) (hb _ (Value.ref (s.heap.objs.size + 1) :: us) I2.kIn hl) r2 hq) fun r s' hq' => ?_))
 cases r with
 | error e => exact hx pins σ _ _ e s' I2 hq'
 | ok fl =>
  cases fl with
  | ret u =>
   obtain ⟨v,H',I3,rv,ev,q3⟩ := I2.after hq'
   subst ev
   exact ⟨rv,⟨V.ref (s.heap.objs.size + 1),H',I3,rfl,q3⟩⟩
  | next => exact False.elim hq'
  | brk => exact False.elim hq'
  | cont => exact False.elim hq'
theorem qw (M : Mk X.K C f) (F : bg X.prog X.w X.K X.mg X.base CX k f fd ps sp) (hr : bQ (k + 1) X.A) (hg : Gl X x) (hm : X.mg x = some (.ref C)) (hb : Binds X.K fd ps ds) (hd : aM dvs ds) (hx : iD CX X E)
  (hdb : (x == ("__debug__" : Str)) = false := by decide) : PE X (.Call (.Name x p) [] [] pos) (uC C sp dvs E u3) := by
 intro pins s σ H Q I h
 refine wpAny_Call_Name_kw (dG I hg hm ?_ hdb)
 exact PySem.W.callWith_K0 I.kIn M.kp (qu (us := []) M F hr hb hd hx I .nil h)
end
section
variable {X : Cx} {CX : nL} {k : Nat} {f C : Addr} {fd : FuncData} {ps ks : List Str} {sp : Sp} {E : XK} {x m : Str} {p pos apos kpos : Pos} {e o : Expr} {es : List Expr} {kws : List Keyword} {te ta : TE} {t tk : TA} {nm : Option Str}
variable {g : List Value -> List Value -> List Value} {gV : List V -> List V -> List V}
end
structure aA (N P : List Str) (sc : Scope) : Prop where
 kind : sc.kind = .function
 co : sc.isCoroutine = false
 gen : sc.isGenerator = false
 nd : N.Nodup
 pre : N.take P.length = P
 par : ∀ x ∈ P,sc.names.lookup x = some .local ∨ sc.names.lookup x = some .cell
 nofree : ∀ y ∈ sc.names,y.2 ≠ .free
theorem jr {kindOf : Str -> Option NameKind} {x : Str} : ∀ {binds : List (Str × Value)} {m : Str -> Option Value},(∀ v,(x,v) ∉ binds) -> bindL kindOf binds m x = m x
 | [],_,_ => rfl
 | (n,v) :: r,m,h => by
  unfold bindL
  rw [jr fun w hw => h w (AV _ hw)]
  split
  ·have : x ≠ n := by rintro rfl; exact h v BC
   simp [this]
  ·rfl
theorem jt {kindOf : Str -> Option NameKind} {x : Str} : ∀ {binds : List (Str × Value)} {m : Str -> Option Value},(∀ v,(x,v) ∉ binds) -> bindC kindOf binds m x = m x
 | [],_,_ => rfl
 | (n,v) :: r,m,h => by
  unfold bindC
  rw [jt fun w hw => h w (AV _ hw)]
  split
  ·rfl
  ·have : x ≠ n := by rintro rfl; exact h v BC
   simp [this]
theorem ju {kindOf : Str -> Option NameKind} {x : Str} {v : Value} : ∀ {P : List Str} {vs : List Value} {i : Nat} {m : Str -> Option Value},P.Nodup -> P[i]? = some x -> vs[i]? = some v -> kindOf x = some .local ->
  bindL kindOf (P.zip vs) m x = some v
 | [],_,_,_,_,h,_,_ => by simp at h
 | _ :: _,[],_,_,_,_,h,_ => by simp at h
 | p :: P,w :: vs,0,m,nd,h1,h2,hk => by
  simp at h1 h2; subst h1; subst h2
  show bindL kindOf ((p,w) :: P.zip vs) m p = _
  unfold bindL
  rw [jr fun v hv => (AQ.mp nd).1 (List.of_mem_zip hv).1,if_pos hk]
  simp
 | p :: P,w :: vs,i + 1,m,nd,h1,h2,hk => by
  show bindL kindOf ((p,w) :: P.zip vs) m x = _
  unfold bindL
  exact ju (i := i) (AQ.mp nd).2 (by simpa using h1) (by simpa using h2) hk
theorem jv {kindOf : Str -> Option NameKind} {x : Str} {v : Value} : ∀ {P : List Str} {vs : List Value} {i : Nat} {m : Str -> Option Value},P.Nodup -> P[i]? = some x -> vs[i]? = some v -> kindOf x ≠ some .local ->
  bindC kindOf (P.zip vs) m x = some v
 | [],_,_,_,_,h,_,_ => by simp at h
 | _ :: _,[],_,_,_,_,h,_ => by simp at h
 | p :: P,w :: vs,0,m,nd,h1,h2,hk => by
  simp at h1 h2; subst h1; subst h2
  show bindC kindOf ((p,w) :: P.zip vs) m p = _
  unfold bindC
  rw [jt fun v hv => (AQ.mp nd).1 (List.of_mem_zip hv).1,if_neg hk]
  simp
 | p :: P,w :: vs,i + 1,m,nd,h1,h2,hk => by
  show bindC kindOf ((p,w) :: P.zip vs) m x = _
  unfold bindC
  exact jv (i := i) (AQ.mp nd).2 (by simpa using h1) (by simpa using h2) hk
def start (N : List Str) (vs : List V) : St := vs.map some ++ List.replicate (N.length - vs.length) none
def gF (CX : nL) (P : Program) (w : World) (K : A0) (mg : Str -> Option Value) (base : Heap) (N : List Str) (qual : Str) (scope : Scope) (f : Addr) (cd : Value) (A : Around) (outer : List Env) (s : Shared) (H : Hp) (E : XK) : Cx where
 prog := P
 w := w
 K := K
 mg := mg
 base := base
 A := A.deeper (envOfC qual scope s.heap.objs.size f cd)
 N := N
 s₀ := s
 H₀ := H
 env := envOfC qual scope s.heap.objs.size f cd
 outer := outer
 stack := envOfC qual scope s.heap.objs.size f cd :: outer
 ex := []
 calm := true
 fn := fun _ => true
 pn := []
 xe := fun e s' => wpAny (model P w) (A.deeper (envOfC qual scope s.heap.objs.size f cd)) (leaving (envOfC qual scope s.heap.objs.size f cd) e) (fun _ s'' => CX outer H s E e s'') (fun e' s'' => CX outer H s E e' s'') s'
theorem lh {sc : Scope} {n : Nat} {x : Str} (h : sc.names.lookup x = some .cell) : ∃ c,(cellsFrom n sc.names []).lookup x = some c := by
 have q := PySem.W.cellsFrom_some sc.names n [] (.inl h)
 exact B5.mp q
theorem jw {CX : nL} {P : Program} {w : World} {K : A0} {mg : Str -> Option Value} {base : Heap} {N ps : List Str} {qual : Str} {scope : Scope} {f : Addr} {cd : Value} {A : Around} {outer : List Env} {s s1 : Shared} {H : Hp} {E : XK} {us : List Value} {vs : List V}
  (S : aA N ps scope) (hd : A.handled = none) (e0 : jc P w K mg base A outer s H) (hl : vs.length = ps.length) (r : aM vs us)
  (x : InCallC s s.heap.objs.size (bindL (envOfC qual scope s.heap.objs.size f cd).kindOf (ps.zip us) fun _ => none) (cellsFrom (s.heap.objs.size + 1) scope.names []) (bindC (envOfC qual scope s.heap.objs.size f cd).kindOf (ps.zip us) fun _ => none) s1) :
  av (gF CX P w K mg base N qual scope f cd A outer s H E) [] (start N vs) H s1 := by
 have hpl : ps.length <= N.length := by have := congrArg List.length S.pre; rw [BJ] at this; omega
 obtain ⟨h1,tk,rfl,hk⟩ := x.done
 have noA : ∀ b : Addr,b ∉ (gF CX P w K mg base N qual scope f cd A outer s H E).ex := fun b z => absurd (show b ∈ ([] : List Addr) from z) (by simp)
 refine ⟨⟨e0.mod,S.kind,rfl,rfl,A4 _,fun y z c h1 h2 => ?_,fun y hy => ?_,fun y c _ h => ?_,fun _ => hd,Around.frames_deeper e0.frames,.inr ⟨rfl,rfl⟩,fun b z => absurd z (noA b),e0.bs,e0.bsz,fun b _ _ => noA b,fun b z => absurd z (noA b),e0.funs,e0.frf⟩,
  rfl,e0.bare,Un.kept hk,⟨_,x.toInCall.ns,fun i y v h1 h2 h3 => ?_⟩,fun y c h => ⟨_,x.cell y c h⟩,e0.hok.fresh (A4 _),fun y c h => ?_,fun p hp => absurd (show p ∈ ([] : List (Addr × Obj)) from hp) (by simp),e0.hok.kept hk,?_⟩
 ·exact name_of_addr x.apart (B2 h1) (B2 h2)
 ·have hy : scope.names.lookup y = some .cell ∨ scope.names.lookup y = some .free := hy
  rcases hy with hy | hy
  ·exact lh hy
  ·exact absurd rfl (S.nofree _ (B2 hy))
 ·exact Nat.le_of_lt (x.above y c (B2 h))
 ·have hi : i < vs.length := by
   unfold start at h2
   by_cases hi : i < vs.length
   ·exact hi
   ·rw [AT (by simpa using hi)] at h2
    rw [List.getElem?_replicate] at h2
    split at h2 <;> cases h2
  have ha : vs[i]? = some v := by
   unfold start at h2
   rw [AA (by simpa using hi),AK] at h2
   cases e : vs[i]? with
   | none => rw [e] at h2; cases h2
   | some a => rw [e] at h2; cases h2; rfl
  obtain ⟨u,hu,rv⟩ := r.get ha
  have hp : ps[i]? = some y := by
   rw [<- S.pre,List.getElem?_take_of_lt (by omega)]; exact h1
  have ndP : ps.Nodup := by rw [<- S.pre]; exact S.nd.sublist (List.take_sublist _ _)
  refine ⟨u,rv,?_⟩
  rcases S.par y (A8 hp) with k | k
  ·exact .inl ⟨k,ju ndP hp hu k⟩
  ·obtain ⟨c,e⟩ := lh (n := s.heap.objs.size + 1) k
   refine .inr ⟨.inl k,c,e,?_⟩
   have q := x.cell y c e
   rw [jv ndP hp hu (by show scope.names.lookup y ≠ _; rw [k]; decide)] at q
   exact q
 ·exact e0.hok.fresh (Nat.le_of_lt (x.above y c (B2 h)))
 ·unfold start
  show _ = N.length
  rw [A7,A5,List.length_replicate]
  omega
theorem uD {CX : nL} {P : Program} {w : World} {K : A0} {mg : Str -> Option Value} {base : Heap} {k : Nat} {f : Addr} {name qual : Str} {params : Arguments} {body : List Stmt} {scope : Scope} {dV kV doc pm cdv ct oc : Value} {an od : Option Addr}
  {osl : Array (Option Value)} {N ps : List Str} {sp : Sp} (lk : K.lookup f = some ⟨oc,od,.func (Ay name qual params body scope dV kV doc pm an cdv ct),osl⟩) (hcd : BI K cdv qual = true) (S : aA N ps scope)
  (len : ∀ vs H Q E,sp vs H Q E -> vs.length = ps.length)
  (hbody : ∀ (A : Around) (outer : List Env) (s : Shared) (H : Hp) (vs : List V) (Q : VK) (E : XK),bQ k (A.deeper (envOfC qual scope s.heap.objs.size f cdv)) -> sp vs H Q E ->
   ∃ t,ja (gF CX P w K mg base N qual scope f cdv A outer s H E) body t /\ t { nx := fun _ H' => Q .non H',rt := Q } (start N vs) H) :
  bg P w K mg base CX (k + 1) f (Ay name qual params body scope dV kV doc pm an cdv ct) ps sp := by
 refine ⟨len,fun A outer s H args us vs Q E hr e0 hb r hsp => ?_⟩
 have hl := len _ _ _ _ hsp
 have KX : K.In s.heap := e0.mod.kin.keeps fun b o e => (e0.bs b o e).1
 have lim : s.heap.NoLimit := e0.mod.nolimit.keeps fun b o e => (e0.bs b o e).1
 have hkind : ∀ y ∈ ps.zip us,scope.names.lookup y.1 = some .local ∨ (scope.names.lookup y.1 = some .cell /\ ((cellsFrom (s.heap.objs.size + 1) scope.names []).lookup y.1).isSome = true) := fun ⟨n,v⟩ hy => by
  rcases S.par n (List.of_mem_zip hy).1 with q | q
  ·exact .inl q
  ·exact .inr ⟨q,PySem.W.cellsFrom_some _ _ _ (.inl q)⟩
 refine codeAny_call_function hr.depth (KX _ _ lk) rfl S.co S.gen rfl (PySem.W.codeRec_of KX hcd) (hb _ _ _ _ ?_)
 refine wpAny_newFunctionEnv_cells S.kind hkind fun env he s1 x => ?_
 subst he
 refine ⟨lim.keeps x.toInCall.keep,codeAny_func ?_⟩
 obtain ⟨t,ht,hq⟩ := hbody A outer s H vs Q E (hr.deeper _) hsp
 have I : av (gF CX P w K mg base N qual scope f cdv A outer s H E) [] (start N vs) H s1 := jw S hr.hd e0 hl r x
 refine wpAny_mono (ht [] s1 (start N vs) H _ I hq) (fun fl s' hs => ?_) fun e s' hs => hs
 have fin : ∀ {σ' : St} {H' : Hp} {v : V} {u : Value},av (gF CX P w K mg base N qual scope f cdv A outer s H E) [] σ' H' s' -> RelV v u -> Q v H' -> CE outer P w H s Q u s' :=
  fun {σ' H' v u} J rv q => ⟨v,H',J.os,J.bare,J.base,J.hok,rv,q⟩
 cases fl with
 | ret u =>
  obtain ⟨v,σ',H',J,rv,q⟩ := hs
  exact fin J rv q
 | next =>
  obtain ⟨σ',H',J,q⟩ := hs
  exact fin (v := V.non) (u := Value.none) J rfl q
 | brk =>
  obtain ⟨_,_,_,q⟩ := hs
  exact False.elim q
 | cont =>
  obtain ⟨_,_,_,q⟩ := hs
  exact False.elim q
section
variable {X : Cx} {x : Str} {p pos : Pos} {e : Expr} {es : List Expr} {t : TA} {id T : String} {r : List V -> Hp -> VK -> Prop}
def z7 (r : List V -> Hp -> VK -> Prop) (t : TA) : TE := fun σ H Q => t σ H fun vs H1 => r vs H1 Q
theorem ar (hc : cC X (.builtin id) r) (hg : Gl X x) (hm : X.mg x = none) (hv : bootBuiltins x = some (.builtin id)) (ha : PA X (e :: es) t) (hn : x ≠ "__name__" := by decide) (hdb : (x == ("__debug__" : Str)) = false := by decide)
  (he : starEach (e :: es) X.env = (false,eval e X.env) :: starEach es X.env := by rfl) (hpl : (backTo pos (starEach es X.env)).any (·.1) = false := by rfl) : PE X (.Call (.Name x p) (e :: es) [] pos) (z7 r t) := by
 intro pins s σ H Q I h
 refine wpAny_Call_Name_kw (fE I hg hm hv ?_ hn hdb)
 exact PyProof.Rows.callWith_builtin1 (bw (ha pos pins s σ H _ I h) fun us s1 ⟨vs,H1,I1,r1,q1⟩ => hc pins s1 σ H1 vs us Q I1 r1 q1) he hpl
theorem oX (hc : cC X (.type T) r) (hg : Gl X x) (hm : X.mg x = none) (hv : bootBuiltins x = some (.type T)) (ha : PA X (e :: es) t) (hn : x ≠ "__name__" := by decide) (hdb : (x == ("__debug__" : Str)) = false := by decide)
  (he : starEach (e :: es) X.env = (false,eval e X.env) :: starEach es X.env := by rfl) (hpl : (backTo pos (starEach es X.env)).any (·.1) = false := by rfl) : PE X (.Call (.Name x p) (e :: es) [] pos) (z7 r t) := by
 intro pins s σ H Q I h
 refine wpAny_Call_Name_kw (fE I hg hm hv ?_ hn hdb)
 exact BF (bw (ha pos pins s σ H _ I h) fun us s1 ⟨vs,H1,I1,r1,q1⟩ => hc pins s1 σ H1 vs us Q I1 r1 q1) he hpl
end
end L2
namespace HT
open PySem PyProof.Rows
section
open PySem.SeqAt
open PySem.AutoSeq1 (wpAny_loadPart')
open PySem.MeetsSeq PySem.MeetsSeq2 PySem.MeetsSeq3
end
section
variable {prog : Program} {w : World} {A : Around} {E : Value -> Shared -> Prop} {s : Shared}
def dN (n d : Nat) : Option Int -> Nat
 | none => d
 | some v => if v < 0 then (v + (n : Int)).toNat else min v.toNat n
end
end HT
namespace L2
open PySem PySem.Spec PyProof.Rows
abbrev TO := St -> Hp -> (Option Int -> Hp -> Prop) -> Prop
def PO (X : Cx) (e : Option Expr) (t : TO) : Prop :=
 ∀ (pins : List (Addr × Obj)) (s : Shared) (σ : St) (H : Hp) (Q : Option Int -> Hp -> Prop),av X pins σ H s -> t σ H Q ->
  wpAny (model X.prog X.w) X.A (evalPart e X.env) (fun u s' => ∃ o H',av X pins σ H' s' /\ IsPart u o /\ Q o H') X.xe s
def sq : TO := fun _ H Q => Q none H
def wN (t : TE) : TO := fun σ H Q => t σ H fun x H1 => ∃ i,x = .int i /\ Q (some i) H1
section
variable {X : Cx} {e : Expr} {te : TE} {lo hi : Option Expr} {tl th : TO} {pos p2 : Pos}
theorem dI : PO X none sq := by
 intro pins s σ H Q I h
 rw [evalPart_none]
 exact wpAny_pure ⟨none,H,I,.none,h⟩
theorem cR (h : PE X e te) : PO X (some e) (wN te) := by
 intro pins s σ H Q I hw
 rw [evalPart_some]
 refine bw (h pins s σ H _ I hw) fun u s1 ⟨x,H1,I1,r1,q1⟩ => ?_
 obtain ⟨i,rfl,q⟩ := q1
 obtain ⟨t,rfl⟩ := r1
 exact ⟨some i,H1,I1,.int i t,q⟩
def zh (X : Cx) (r : V -> Option Int -> Option Int -> Hp -> VK -> Prop) : Prop :=
 ∀ (pins : List (Addr × Obj)) (s : Shared) (σ : St) (H : Hp) (x : V) (v vl vu : Value) (lo hi : Option Int) (sl : Addr) (Q : VK),av X pins σ H s -> RelV x v -> s.heap.IsSliceOf sl vl vu .none -> IsPart vl lo -> IsPart vu hi -> r x lo hi H Q ->
  ∃ T id,typeLookup (.type T) "__getitem__" = pure (some (.builtin id)) /\ s.TypeIs v T /\ wpAny (model X.prog X.w) X.A (getItem v (.ref sl)) (EP X pins σ Q) X.xe s
def Ai (r : V -> Option Int -> Option Int -> Hp -> VK -> Prop) (te : TE) (tl th : TO) : TE := fun σ H Q => te σ H fun x H1 => tl σ H1 fun l H2 => th σ H2 fun u H3 => r x l u H3 Q
theorem cH {r : V -> Option Int -> Option Int -> Hp -> VK -> Prop} (hr : zh X r) (he : PE X e te) (hl : PO X lo tl) (hu : PO X hi th) : PE X (.Subscript e (.Slice lo hi none p2) pos) (Ai r te tl th) := by
 intro pins s σ H Q I h
 refine Subscript_ (bw (he pins s σ H _ I h) fun v s1 ⟨x,H1,I1,r1,q1⟩ => ?_)
 refine wpAny_Slice (bw (hl pins s1 σ H1 _ I1 q1) fun vl s2 ⟨l,H2,I2,pl,q2⟩ => bw (hu pins s2 σ H2 _ I2 q2) fun vu s3 ⟨u,H3,I3,pu,q3⟩ => ?_)
 rw [evalPart_none]
 refine wpAny_pure ?_
 have I4 : av X pins σ H3 { s3 with heap := s3.heap.push { cls := .type "slice",data := .fields #[vl,vu,.none] } } := I3.kept (t' := s3.toks) fun b ob q => Heap.get?_push_of_some _ q
 obtain ⟨T,id,hT,ht,hg⟩ := hr pins { s3 with heap := s3.heap.push { cls := .type "slice",data := .fields #[vl,vu,.none] } } σ H3 x v vl vu l u s3.heap.objs.size Q I4 r1 (Heap.IsSliceOf.new ..) pl pu q3
 show wpAny (model X.prog X.w) X.A (subscriptTail e (.Slice lo hi none p2) v (.ref s3.heap.objs.size)) (EP X pins σ Q) X.xe { s3 with heap := s3.heap.push { cls := .type "slice",data := .fields #[vl,vu,.none] } }
 exact tail_any (ops := [.ref s3.heap.objs.size,v]) ht hT hg (by with_unfolding_all rfl)
def lj (xs : List V) (lo hi : Option Int) : List V := (xs.drop (HT.dN xs.length 0 lo)).take (HT.dN xs.length xs.length hi - HT.dN xs.length 0 lo)
theorem gT (xs : List V) (lo hi : Option Int) : (lj xs lo hi).length <= xs.length := by
 unfold lj
 rw [BJ,Bf]
 omega
end
def uE (n : Nat) (i : Int) : Option Nat := if 0 <= i then (if i < n then some i.toNat else none) else if -(n : Int) <= i then some (i + n).toNat else none
def fo {α : Type} (xs : List α) (i : Int) : Option α := (uE xs.length i).bind fun j => xs[j]?
theorem sr {n : Nat} {i : Int} {j : Nat} (h : uE n i = some j) : seqIndex? i n = some j /\ j < n /\ -(n : Int) <= i /\ i < n := by
 unfold uE at h
 by_cases h0 : 0 <= i
 ·rw [if_pos h0] at h
  by_cases h1 : i < n
  ·rw [if_pos h1] at h
   have e : i.toNat = j := AN h
   exact ⟨by rw [seqIndex_of h0 h1,e],by omega,by omega,h1⟩
  ·rw [if_neg h1] at h; cases h
 ·rw [if_neg h0] at h
  by_cases h1 : -(n : Int) <= i
  ·rw [if_pos h1] at h
   have e : (i + n).toNat = j := AN h
   exact ⟨by rw [seqIndex_neg (by omega) h1,e],by omega,h1,by omega⟩
  ·rw [if_neg h1] at h; cases h
theorem j7 {α : Type} {xs : List α} {i : Int} {v : α} (h : fo xs i = some v) : ∃ j,seqIndex? i xs.length = some j /\ xs[j]? = some v /\ j < xs.length /\ -(xs.length : Int) <= i /\ i < xs.length := by
 unfold fo at h
 cases e : uE xs.length i with
 | none => rw [e] at h; cases h
 | some j =>
  rw [e] at h
  obtain ⟨h1,h2,h3,h4⟩ := sr e
  exact ⟨j,h1,h,h2,h3,h4⟩
theorem bV {α : Type} {xs : List α} {j : Nat} {v : α} (h : xs[j]? = some v) : fo xs (j : Int) = some v := by
 have hj : j < xs.length := (A1.mp h).1
 have e : uE xs.length (j : Int) = some j := by
  unfold uE
  rw [if_pos (by omega),if_pos (by omega)]; simp
 unfold fo; rw [e]; exact h
theorem lq {α : Type} (xs : List α) (v : α) : fo (xs ++ [v]) (-1) = some v := by
 have hl : (xs ++ [v]).length = xs.length + 1 := by simp
 have e : uE (xs ++ [v]).length (-1) = some xs.length := by
  unfold uE
  rw [hl,if_neg (by decide),if_pos (by omega)]
  congr 1
  omega
 unfold fo
 rw [e]
 show (xs ++ [v])[xs.length]? = some v
 simp
def ss (b : Expr) : Prop := ∀ o i,subscripted b false o i = operate [o,i] (getItem o i)
def yG (X : Cx) (r : R2) : Prop :=
 ∀ (value slice : Expr) (pins : List (Addr × Obj)) (s : Shared) (σ : St) (H : Hp) (x y : V) (v u : Value) (Q : VK),av X pins σ H s -> RelV x v -> RelV y u -> r x y H Q ->
  subscripted slice false v u = operate [v,u] (getItem v u) -> wpAny (model X.prog X.w) X.A (subscriptTail value slice v u) (EP X pins σ Q) X.xe s
def zi (X : Cx) (id : String) (r : V -> List V -> Hp -> VK -> Prop) : Prop :=
 ∀ (pins : List (Addr × Obj)) (s : Shared) (σ : St) (H : Hp) (x : V) (xs : List V) (v : Value) (us : List Value) (Q : VK),av X pins σ H s -> RelV x v -> aM xs us -> r x xs H Q ->
  wpAny (model X.prog X.w) X.A (call (.builtin id) (v :: us)) (EP X pins σ Q) X.xe s
section
variable {X : Cx} {a b : Expr} {ta tb : TE} {pos : Pos}
theorem aR {r : R2} (hr : yG X r) (ha : PE X a ta) (hb : PE X b tb) (hs : ss b) : PE X (.Subscript a b pos) (yF r ta tb) := by
 intro pins s σ H Q I h
 exact Subscript_ (u0 ha hb I h fun v u s2 x y H2 I2 rx ry q => hr a b pins s2 σ H2 x y v u Q I2 rx ry q (hs _ _))
def zj (K : A0) : R2 := fun x y H Q => ∃ p xs i v,x = .ref p /\ y = .int i /\ bh K H p xs /\ fo xs i = some v /\ Q v H
def zk (K : A0) : R2 := fun x y H Q => ∃ p xs i v,x = .ref p /\ y = .int i /\ cu K H p xs /\ fo xs i = some v /\ Q v H
def zm : R2 := fun x y H Q => ∃ z i c,x = .str z /\ y = .int i /\ z.length <= sizeLine /\ fo z.cps.toList i = some c /\ Q (.str ⟨#[c]⟩) H
theorem aW : yG X (zj X.K) := by
 intro value slice pins s σ H x y v u Q I rx ry h hs
 obtain ⟨p,xs,i,z,rfl,rfl,hq,he,q⟩ := h
 cases rx
 obtain ⟨t,rfl⟩ := ry
 obtain ⟨its,r,pl,hz⟩ := I.list hq
 obtain ⟨j,h1,h2,h3,h4,h5⟩ := j7 he
 obtain ⟨w,ew,rw'⟩ := r.get h2
 have hl := r.length
 have hn := iA
 have fin : EP X pins σ Q w s := ⟨z,H,I,rw',q⟩
 by_cases h0 : 0 <= i
 ·have hj : i.toNat = j := by
   rw [seqIndex_of h0 h5] at h1
   exact AN h1
  exact item_listR pl.isList h0 (by omega) (by rw [hj]; simpa using ew) fin hs
 ·have hj : (i + (its.toArray.size : Int)).toNat = j := by
   rw [seqIndex_neg (by omega) h4] at h1
   rw [AG,<- hl]
   exact AN h1
  exact subscriptTail_builtinR (x := w) pl.isList.typeIs slot_list_getitem.lookup
   (wpAny_getItem_list_neg (Q := fun r s' => r = w /\ EP X pins σ Q r s') pl.isList (by omega) (by rw [AG] <;> omega) (by omega) (by rw [hj]; simpa using ew) ⟨rfl,fin⟩) hs
theorem bX : yG X (zk X.K) := by
 intro value slice pins s σ H x y v u Q I rx ry h hs
 obtain ⟨p,xs,i,z,rfl,rfl,hq,he,q⟩ := h
 cases rx
 obtain ⟨t,rfl⟩ := ry
 obtain ⟨its,r,pl,hz⟩ := I.tuple hq
 obtain ⟨j,h1,h2,h3,h4,h5⟩ := j7 he
 obtain ⟨w,ew,rw'⟩ := r.get h2
 have hl := r.length
 have hn := iA
 have fin : EP X pins σ Q w s := ⟨z,H,I,rw',q⟩
 exact subscriptTail_builtinR (x := w) pl.typeIs slot_tuple_getitem.lookup
  (getItem_tuple (j := j) (Q := fun r s' => r = w /\ EP X pins σ Q r s') pl (by omega) (by omega) (by rw [AG,<- hl]; exact h1) (by simpa using ew) ⟨rfl,fin⟩) hs
theorem mC : yG X zm := by
 intro value slice pins s σ H x y v u Q I rx ry h hs
 obtain ⟨z,i,c,rfl,rfl,hz,he,q⟩ := h
 obtain ⟨t,rfl⟩ := rx
 obtain ⟨t',rfl⟩ := ry
 obtain ⟨j,h1,h2,h3,h4,h5⟩ := j7 he
 have hl : z.cps.toList.length = z.length := by simp [Str.length]
 rw [hl] at h1 h4 h5
 have hn := iA
 exact tail_any (typeIs_str s z t) slot_str_getitem.lookup (getItem_str (c := c) (by
  have e1 : decide (i < -(2 ^ 63 : Int)) = false := decide_eq_false (by omega)
  have e2 : decide (i ≥ 2 ^ 63) = false := decide_eq_false (by omega)
  rw [e1,e2,Bool.or_false]) (by rw [h1]; simpa using h2) ⟨.str ⟨#[c]⟩,H,I.tok _,⟨_,rfl⟩,q⟩) hs
theorem j8 (lo hi : Option Int) (n : Nat) : (sliceBounds lo hi none n).1 = ((HT.dN n 0 lo : Nat) : Int) /\ (sliceBounds lo hi none n).2.1 = ((HT.dN n n hi : Nat) : Int) /\ (sliceBounds lo hi none n).2.2 = 1 := by
 refine ⟨?_,?_,rfl⟩
 ·cases lo with
  | none => simp [sliceBounds,HT.dN]
  | some i =>
   simp only [sliceBounds,HT.dN,Option.getD_none,show (1 : Int) > 0 by decide,if_true]
   by_cases h : i < 0
   ·simp only [h,if_true] <;> omega
   ·simp only [h,if_false] <;> omega
 ·cases hi with
  | none => simp [sliceBounds,HT.dN]
  | some i =>
   simp only [sliceBounds,HT.dN,Option.getD_none,show (1 : Int) > 0 by decide,if_true]
   by_cases h : i < 0
   ·simp only [h,if_true] <;> omega
   ·simp only [h,if_false] <;> omega
theorem jd (its : List Value) (lo hi : Option Int) : slicePick its.toArray lo hi none = ((its.drop (HT.dN its.length 0 lo)).take (HT.dN its.length its.length hi - HT.dN its.length 0 lo)).toArray := by
 obtain ⟨h1,h2,h3⟩ := j8 lo hi its.toArray.size
 unfold slicePick
 rw [h1,h2,h3]
 simp only [sliceRange_one,pick_run,AG] <;> rfl
def zq (K : A0) : V -> Option Int -> Option Int -> Hp -> VK -> Prop := fun x lo hi H Q => ∃ a xs,x = .ref a /\ bh K H a xs /\ ∀ p,H p = none -> Q (.ref p) (aq H p (.lst (lj xs lo hi)))
theorem nN : zh X (zq X.K) := by
 intro pins s σ H x v vl vu lo hi sl Q I rx hs pl pu h
 obtain ⟨a,xs,rfl,hx,q⟩ := h
 cases rx
 obtain ⟨its,r,ht,hz⟩ := I.list hx
 have hlen := r.length
 refine ⟨"list",_,slot_list_getitem.lookup,ht.isList.typeIs,?_⟩
 refine wpAny_getItem_list_slice ht.isList hs pl pu .none (by simp) ?_ (by rw [AG] <;> omega)
 rw [jd,<- hlen]
 refine ⟨.ref s.heap.objs.size,_,I.laid (t' := s.toks) (o := .lst (lj xs lo hi)) (fun b ob q => Heap.get?_push_of_some _ q) (A4 _) ?_,rfl,q _ (I.hok.fresh (A4 _))⟩
 exact ⟨AR (gT xs lo hi) hz,_,0,(r.drop (HT.dN xs.length 0 lo)).take (HT.dN xs.length xs.length hi - HT.dN xs.length 0 lo),Heap.get?_push_size _ rfl⟩
def fQ : V -> Bool
 | .non => true
 | .bl _ => true
 | .int _ => true
 | .str _ => true
 | _ => false
def su : V -> V -> Bool
 | .non,.non => true
 | .bl a,.bl b => a == b
 | .bl a,.int b => (if a then 1 else 0) == b
 | .int a,.bl b => a == (if b then 1 else 0)
 | .int a,.int b => a == b
 | .str a,.str b => a == b
 | _,_ => false
theorem u4 {A : Around} {s : Shared} {y x : V} {u v : Value} (ry : RelV y u) (rx : RelV x v) (fy : fQ y = true) (fx : fQ x = true) : SeqAt.EqAt A s u v (su y x) := by
 cases y with
 | non =>
  cases ry
  cases x with
  | non => cases rx; exact SeqAt.EqAt.same _
  | bl b => cases rx; exact SeqAt.EqAt.none_bool b
  | int b => obtain ⟨t,rfl⟩ := rx; exact SeqAt.EqAt.none_int b t
  | str b => obtain ⟨t,rfl⟩ := rx; exact SeqAt.EqAt.none_str b t
  | _ => exact absurd (show false = true from fx) AE
 | bl a =>
  cases ry
  cases x with
  | non => cases rx; exact SeqAt.EqAt.bool_none a
  | bl b => cases rx; exact SeqAt.EqAt.bool_bool a b
  | int b => obtain ⟨t,rfl⟩ := rx; exact SeqAt.EqAt.bool_int a b t
  | str b => obtain ⟨t,rfl⟩ := rx; exact SeqAt.EqAt.bool_str a b t
  | _ => exact absurd (show false = true from fx) AE
 | int a =>
  obtain ⟨t',rfl⟩ := ry
  cases x with
  | non => cases rx; exact SeqAt.EqAt.int_none a t'
  | bl b => cases rx; exact SeqAt.EqAt.int_bool a t' b
  | int b => obtain ⟨t,rfl⟩ := rx; exact SeqAt.EqAt.int_int a t' b t
  | str b => obtain ⟨t,rfl⟩ := rx; exact SeqAt.EqAt.int_str a t' b t
  | _ => exact absurd (show false = true from fx) AE
 | str a =>
  obtain ⟨t',rfl⟩ := ry
  cases x with
  | non => cases rx; exact SeqAt.EqAt.str_none a t'
  | bl b => cases rx; exact SeqAt.EqAt.str_bool a t' b
  | int b => obtain ⟨t,rfl⟩ := rx; exact SeqAt.EqAt.str_int a t' b t
  | str b => obtain ⟨t,rfl⟩ := rx; exact SeqAt.EqAt.str_str a t' b t
  | _ => exact absurd (show false = true from fx) AE
 | _ => exact absurd (show false = true from fy) AE
def sv (x : V) (u : Value) : Bool := match u with
 | .none => su .non x
 | .bool b => su (.bl b) x
 | .int i _ => su (.int i) x
 | .str z _ => su (.str z) x
 | _ => false
theorem qx {x y : V} {u : Value} (r : RelV y u) (f : fQ y = true) : sv x u = su y x := by
 cases y with
 | non => cases r; rfl
 | bl b => cases r; rfl
 | int i => obtain ⟨t,rfl⟩ := r; rfl
 | str z => obtain ⟨t,rfl⟩ := r; rfl
 | _ => exact absurd (show false = true from f) AE
theorem j9 {x : V} : ∀ {xs : List V} {us : List Value},aM xs us -> xs.all fQ = true -> us.any (sv x) = xs.any fun y => su y x
 | _,_,.nil,_ => rfl
 | y :: xs,u :: us,.cons r t,f => by
  rw [List.all_cons,Bool.and_eq_true] at f
  rw [List.any_cons,List.any_cons,qx r f.1,j9 t f.2]
theorem iE {A : Around} {s : Shared} {x : V} {v : Value} (rx : RelV x v) (fx : fQ x = true) : ∀ {xs : List V} {us : List Value},aM xs us -> xs.all fQ = true -> ∀ u ∈ us,SeqAt.EqAt A s u v (sv x u)
 | _,_,.nil,_ => fun u hu => by cases hu
 | y :: xs,u :: us,.cons r t,f => fun u' hu => by
  rw [List.all_cons,Bool.and_eq_true] at f
  rcases AB.mp hu with rfl | hu
  ·rw [qx r f.1]; exact u4 r rx f.1 fx
  ·exact iE rx fx t f.2 u' hu
def wO (x : V) (xs : List V) : Bool := xs.any fun y => su y x
def z8 (K : A0) (neg : Bool) : R2 := fun x y H Q => ∃ p xs,y = .ref p /\ (bh K H p xs ∨ cu K H p xs) /\ fQ x = true /\ xs.all fQ = true /\ Q (.bl (if neg then !wO x xs else wO x xs)) H
theorem oY : gq X (compareOp .In) (z8 X.K false) := by
 intro pins s σ H x y v u Q I rx ry h
 obtain ⟨p,xs,rfl,hq,fx,fs,q⟩ := h
 cases ry
 rcases hq with hq | hq
 ·obtain ⟨its,r,pl,hz⟩ := I.list hq
  refine SeqAt.in_listAt (sv x) pl.isList (fun w hw => iE rx fx r fs w (by simpa using hw)) ⟨.bl _,H,I,rfl,?_⟩
  rw [show its.toArray.any (sv x) = its.any (sv x) by simp,j9 r fs]
  exact q
 ·obtain ⟨its,r,pl,hz⟩ := I.tuple hq
  refine SeqAt.in_tupleAt (sv x) pl (fun w hw => iE rx fx r fs w (by simpa using hw)) ⟨.bl _,H,I,rfl,?_⟩
  rw [show its.toArray.any (sv x) = its.any (sv x) by simp,j9 r fs]
  exact q
theorem kb : gq X (compareOp .NotIn) (fun x y H Q => ∃ i j,x = .str i /\ y = .str j /\ Q (.bl (!(!(Builtin.Str.occurrences j i 0 j.length 1).isEmpty))) H) := by
 intro pins s σ H x y v u Q I rx ry h
 obtain ⟨i,j,rfl,rfl,q⟩ := h
 obtain ⟨t,rfl⟩ := rx
 obtain ⟨t',rfl⟩ := ry
 exact notIn_str ⟨.bl _,H,I,rfl,q⟩
theorem aN : cC X (.builtin "len") (fun xs H Q => ∃ p ys,xs = [.ref p] /\ (bh X.K H p ys ∨ cu X.K H p ys) /\ Q (.int ys.length) H) := by
 intro pins s σ H xs us Q I r h
 obtain ⟨p,ys,rfl,hq,q⟩ := h
 obtain ⟨u,rfl,rx⟩ := vals1 r
 cases rx
 have hn := iA
 rcases hq with hq | hq
 ·obtain ⟨its,r',pl,hz⟩ := I.list hq
  have hlen := r'.length
  exact Calls.call_len_list pl.isList (by simp only [AG] <;> omega) ⟨.int ys.length,H,I.tok _,⟨s.toks + 1,by rw [AG,hlen]⟩,q⟩
 ·obtain ⟨its,r',pl,hz⟩ := I.tuple hq
  have hlen := r'.length
  exact len_tuple pl (by simp only [AG] <;> omega) ⟨.int ys.length,H,I.tok _,⟨s.toks + 1,by rw [AG,hlen]⟩,q⟩
theorem fR : cC X (.builtin "len") (fun xs H Q => ∃ z,xs = [.str z] /\ z.length <= sizeLine /\ Q (.int z.length) H) := by
 intro pins s σ H xs us Q I r h
 obtain ⟨z,rfl,hz,q⟩ := h
 obtain ⟨u,rfl,t,rfl⟩ := vals1 r
 have hn := iA
 exact len_str (by omega) ⟨.int z.length,H,I.tok _,⟨_,rfl⟩,q⟩
def zr (K : A0) (T : String) (x : V) (H : Hp) : Prop := match x with
 | .str _ => T = "str"
 | .int _ => T = "int"
 | .ref p => (T = "list" /\ ∃ xs,bh K H p xs) ∨ (T = "tuple" /\ ∃ o,K.lookup p = some o /\ o.cls = .type "tuple" /\ o.dict = none) ∨
   (T = "dict" /\ ((∃ kvs,H p = some (.dK kvs)) ∨ ∃ kvs,H p = some (.dT kvs))) ∨ (T = "set" /\ ∃ S n,H p = some (.set S n))
 | _ => False
theorem qy {pins : List (Addr × Obj)} {σ : St} {H : Hp} {s : Shared} {T : String} {x : V} {v : Value} (I : av X pins σ H s) (r : RelV x v) (ty : zr X.K T x H) :
  s.TypeIs v T /\ ∀ a,v = .ref a -> ∃ ob,s.heap.get? a = some ob /\ ob.dict = none := by
 cases x with
 | str z =>
  obtain ⟨t,rfl⟩ := r
  cases (show T = "str" from ty)
  exact ⟨typeIs_str s z t,fun _ e => nomatch e⟩
 | int i =>
  obtain ⟨t,rfl⟩ := r
  cases (show T = "int" from ty)
  exact ⟨typeIs_int s i t,fun _ e => nomatch e⟩
 | ref p =>
  cases r
  rcases ty with ⟨rfl,xs,hq⟩ | ⟨rfl,o,hk,hc,hd⟩ | ⟨rfl,hk⟩ | ⟨rfl,S,n,hk⟩
  ·obtain ⟨its,_,pl,_⟩ := I.list hq
   refine ⟨pl.isList.typeIs,fun a e => ?_⟩
   cases e
   obtain ⟨o,n,e,c,hd,_⟩ := pl
   exact ⟨o,e,hd⟩
  ·refine ⟨⟨o,I.kIn p o hk,hc⟩,fun a e => ?_⟩
   cases e
   exact ⟨o,I.kIn _ o hk,hd⟩
  ·have z : ∃ o,s.heap.get? p = some o /\ o.ExactDict := by
    rcases hk with ⟨kvs,hk⟩ | ⟨kvs,hk⟩
    ·obtain ⟨_,_,_,_,o,_,_,e,ex,_⟩ := I.hok p _ hk
     exact ⟨o,e,ex⟩
    ·obtain ⟨_,_,_,_,o,_,_,e,ex,_⟩ := I.hok p _ hk
     exact ⟨o,e,ex⟩
   obtain ⟨o,e,ex⟩ := z
   refine ⟨⟨o,e,ex.1⟩,fun a e2 => ?_⟩
   cases e2
   exact ⟨o,e,ex.2.1⟩
  ·obtain ⟨o,_,_,_,e,ex,_⟩ := I.hok p _ hk
   refine ⟨⟨o,e,ex.1⟩,fun a e2 => ?_⟩
   cases e2
   exact ⟨o,e,ex.2.1⟩
 | _ => exact False.elim ty
def zt (K : A0) (T : String) (r : V -> List V -> Hp -> VK -> Prop) (to : TE) : TE := fun σ H Q => to σ H fun x H1 => zr K T x H1 /\ r x [] H1 Q
def Aj (K : A0) (T : String) (r : V -> List V -> Hp -> VK -> Prop) (to : TE) (t : TA) : TE := fun σ H Q => to σ H fun x H1 => zr K T x H1 /\ t σ H1 fun xs H2 => r x xs H2 Q
variable {o e : Expr} {es : List Expr} {to : TE} {t : TA} {name : Str} {apos cpos : Pos} {T id : String} {r : V -> List V -> Hp -> VK -> Prop}
theorem u5 (pa : PlainAttrs T) (slot : Slot T name id) (hty : typeOf (.builtin id) = pure (.type "method_descriptor")) (hm : zi X id r) (ho : PE X o to)
  (hbase : attributeBase o name X.env (eval o X.env) = eval o X.env := by rfl) (hline : (apos.endLine == cpos.line) = true := by rfl) : PE X (.Call (.Attribute o name apos) [] [] cpos) (zt X.K T r to) := by
 intro pins s σ H Q I h
 refine wpAny_Call_method0_late hbase hline (bw (ho pins s σ H _ I h) fun v s1 ⟨x,H1,I1,r1,ty,q1⟩ => ?_)
 obtain ⟨h1,h2⟩ := qy I1 r1 ty
 exact ⟨T,id,pa,slot,hty,h1,h2,Calls.callWith_builtin rfl (PySem.evalArgs_none (hm pins s1 σ H1 x [] v [] Q I1 r1 .nil q1))⟩
theorem fS (pa : PlainAttrs T) (slot : Slot T name id) (hty : typeOf (.builtin id) = pure (.type "method_descriptor")) (hm : zi X id r) (ho : PE X o to) (ha : PA X (e :: es) t)
  (hbase : attributeBase o name X.env (eval o X.env) = eval o X.env := by rfl)
  (hfew : ((backTo cpos (starEach (e :: es) X.env)).all (fun x => !x.1) && (backToKw cpos (keywordEach [] X.env)).all (fun x => x.1.isSome)
   && decide ((e :: es).length + ([] : List Keyword).length + (if ([] : List Keyword).isEmpty then 0 else 1) < 30)) = true := by rfl)
  (hline : (apos.endLine == cpos.line) = true := by rfl) (hs : starEach (e :: es) X.env = (false,eval e X.env) :: starEach es X.env := by rfl) (hplain : (backTo cpos (starEach es X.env)).any (·.1) = false := by rfl) :
  PE X (.Call (.Attribute o name apos) (e :: es) [] cpos) (Aj X.K T r to t) := by
 intro pins s σ H Q I h
 refine wpAny_Call_method_late hbase hfew hline rfl (bw (ho pins s σ H _ I h) fun v s1 ⟨x,H1,I1,r1,ty,q1⟩ => ?_)
 obtain ⟨h1,h2⟩ := qy I1 r1 ty
 refine ⟨T,id,pa,slot,hty,h1,h2,?_⟩
 have hA := ha cpos pins s1 σ H1 _ I1 q1
 rw [hs] at hA ⊢
 refine Calls.callWith_builtin (by show (false || (backTo cpos (starEach es X.env)).any (·.1)) = false; rw [hplain] <;> rfl) (Calls.evalArgs_plain ?_)
 exact bw hA fun us s2 ⟨vs,H2,I2,r2,q2⟩ => hm pins s2 σ H2 x vs v us Q I2 r1 r2 q2
end
def z9 (X : Cx) (id : String) (r : V -> List V -> Hp -> VK -> Prop) : Prop :=
 ∀ (pins : List (Addr × Obj)) (s : Shared) (σ : St) (H : Hp) (x : V) (xs : List V) (v : Value) (us : List Value) (Q : VK),av X pins σ H s -> RelV x v -> aM xs us -> r x xs H Q ->
  wpAny (model X.prog X.w) X.A (call (.builtin id) (v :: us)) (EP X pins σ Q) X.xe s
theorem aM.one : ∀ {x : V} {us : List Value},aM [x] us -> ∃ u,us = [u] /\ RelV x u
 | _,_,.cons r .nil => ⟨_,rfl,r⟩
theorem aM.zero : ∀ {us : List Value},aM [] us -> us = []
 | _,.nil => rfl
theorem aM.dropLast {xs : List V} {us : List Value} (h : aM xs us) : aM xs.dropLast us.dropLast := by
 induction h with
 | nil => exact .nil
 | cons r t ih =>
  cases t with
  | nil => exact .nil
  | cons q t' => exact .cons r ih
theorem mD {α : Type} (l : List α) : l.eraseIdx (l.length - 1) = l.dropLast := by
 induction l with
 | nil => rfl
 | cons a r ih =>
  cases r with
  | nil => rfl
  | cons b r =>
   have e : (a :: b :: r).length - 1 = ((b :: r).length - 1) + 1 := by
    have h1 : (a :: b :: r).length = r.length + 2 := rfl
    have h2 : (b :: r).length = r.length + 1 := rfl
    omega
   rw [e,List.eraseIdx_cons_succ,ih]
   all_goals rfl
section
variable {X : Cx} {pins : List (Addr × Obj)} {σ : St} {H : Hp} {s : Shared} {l b : Addr} {xs ys zs : List V}
theorem av.lset {its its' : List Value} {n : Nat} {f : Array Value -> Array Value} {t' : Nat} (I : av X pins σ H s) (hH : H l = some (.lst xs))
  (e : s.heap.get? l = some { cls := .type "list",data := .seq its.toArray n }) (hf : f its.toArray = its'.toArray) (hv : aM ys its') (hz : ys.length <= sizeLine) :
  av X pins σ (aq H l (.lst ys)) { s with heap := s.heap.update l (Obj.mapSeq f),toks := t' } := by
 have q := PySem.IsL.update e f
 rw [hf] at q
 refine I.write (x := l) (e := l) (by rw [hH]; exact trivial) (.inl rfl) (fun b' u hb hu => (Heap.get?_update_other s.heap (Obj.mapSeq f) (Ne.symm hb)).trans hu) ⟨_,q⟩ ?_
 exact ⟨hz,its',_,hv,q⟩
theorem av.lnew {its : List Value} {t' : Nat} (I : av X pins σ H s) (hv : aM ys its) (hz : ys.length <= sizeLine) :
  av X pins σ (aq H s.heap.objs.size (.lst ys)) { s with heap := s.heap.push { cls := .type "list",data := .seq its.toArray },toks := t' } :=
 I.laid (fun _ _ q => Heap.get?_push_of_some _ q) (A4 _) ⟨hz,its,0,hv,Heap.get?_push_size _ rfl⟩
theorem av.fresh (I : av X pins σ H s) : H s.heap.objs.size = none := I.hok.fresh (A4 _)
theorem av.lstM (I : av X pins σ H s) (hH : H l = some (.lst xs)) : xs.length <= sizeLine /\ ∃ (its : List Value) (n : Nat),aM xs its /\ xs.length = its.length /\ s.heap.get? l = some { cls := .type "list",data := .seq its.toArray n } := by
 obtain ⟨z,its,n,r,e⟩ := I.hok l _ hH
 exact ⟨z,its,n,r,r.length,e⟩
end
section
variable {X : Cx}
def sw : V -> List V -> Hp -> VK -> Prop := fun x vs H Q => ∃ l xs y,x = .ref l /\ vs = [y] /\ H l = some (.lst xs) /\ xs.length < sizeLine /\ Q .non (aq H l (.lst (xs ++ [y])))
theorem cg : z9 X "list.append" sw := by
 intro pins s σ H x vs v us Q I rx rv h
 obtain ⟨l,xs,y,rfl,rfl,hH,hz,q⟩ := h
 cases rx
 obtain ⟨u,rfl,ru⟩ := rv.one
 obtain ⟨z,its,n,r,hl,e⟩ := I.lstM hH
 refine call_meets F.slot_list_append ⟨_,e,rfl⟩ F.entry_list_append (F.args_list_append_2 _ _) (PySem.list_append l its.toArray n u (by rw [AG]; omega)) ⟨e,?_⟩
 refine ⟨.non,_,I.lset (its' := its ++ [u]) hH e (by simp) (r.append (.cons ru .nil)) ?_,rfl,q⟩
 rw [A7,AF]
 omega
def zu : V -> List V -> Hp -> VK -> Prop := fun x vs H Q => ∃ l xs y,x = .ref l /\ vs = [] /\ H l = some (.lst xs) /\ xs[xs.length - 1]? = some y /\ Q y (aq H l (.lst xs.dropLast))
theorem u7 : z9 X "list.pop" zu := by
 intro pins s σ H x vs v us Q I rx rv h
 obtain ⟨l,xs,y,rfl,rfl,hH,hy,q⟩ := h
 cases rx
 have hus := rv.zero
 subst hus
 obtain ⟨z,its,n,r,hl,e⟩ := I.lstM hH
 obtain ⟨u,hu,ru⟩ := r.get hy
 have hy' : its.toArray[its.toArray.size - 1]? = some u := by
  show its.toArray[its.length - 1]? = some u
  rw [<- BA,<- hl]
  exact hu
 refine call_meets F.slot_list_pop ⟨_,e,rfl⟩ F.entry_list_pop (F.args_list_pop_1 _) (MeetsSeq.list_pop_last l its.toArray n u hy' (by rw [AG]; omega)) ⟨e,?_⟩
 refine ⟨y,_,I.lset (its' := its.dropLast) hH e ?_ r.dropLast ?_,ru,q⟩
 ·show its.toArray.eraseIdxIfInBounds (its.toArray.size - 1) = its.dropLast.toArray
  rw [AG,List.eraseIdxIfInBounds_toArray,mD]
 ·rw [List.length_dropLast]
  omega
def zw : R2 := fun x y H Q => ∃ l b xs zs,x = .ref l /\ y = .ref b /\ H l = some (.lst xs) /\ H b = some (.lst zs) /\ xs.length + zs.length <= sizeLine /\ ∀ p,H p = none -> Q (.ref p) (aq H p (.lst (xs ++ zs)))
theorem mE : gq X (binaryOp .Add) zw := by
 intro pins s σ H x y v u Q I rx ry h
 obtain ⟨l,b,xs,zs,rfl,rfl,hH,hB,hz,q⟩ := h
 cases rx
 cases ry
 obtain ⟨z,its,n,r,hl,e⟩ := I.lstM hH
 obtain ⟨z2,its2,n2,r2,hl2,e2⟩ := I.lstM hB
 refine PySem.P.add_list e e2 ?_ (by rw [AG,AG]; omega)
 have ea : its.toArray ++ its2.toArray = (its ++ its2).toArray := by simp
 rw [ea]
 exact ⟨.ref _,_,I.lnew (t' := s.toks) (r.append r2) (by rw [A7]; omega),rfl,q _ I.fresh⟩
end
section
variable {prog : Program} {w : World} {A : Around} {E : Value -> Shared -> Prop} {s : Shared}
end
section
variable {X : Cx}
end
section
variable {κ : Type} [DecidableEq κ]
def aE (kvs : List (κ × V)) (k : κ) : Option V := (kvs.find? fun kv => decide (kv.1 = k)).map (·.2)
def putK (kvs : List (κ × V)) (k : κ) (v : V) : List (κ × V) :=
 if (kvs.any fun kv => decide (kv.1 = k)) = true then kvs.map (fun kv => if kv.1 = k then (kv.1,v) else kv) else kvs ++ [(k,v)]
def gU (kvs : List (κ × V)) (k : κ) : List (κ × V) := kvs.filter fun kv => decide (kv.1 ≠ k)
theorem bj {p : κ × V} {r : List (κ × V)} {k : κ} (e : p.1 = k) : aE (p :: r) k = some p.2 := by simp [aE,Bl,e]
theorem bu {p : κ × V} {r : List (κ × V)} {k : κ} (e : ¬ p.1 = k) : aE (p :: r) k = aE r k := by simp [aE,Bl,e]
theorem d5 (k : κ) : ∀ kvs : List (κ × V),(kvs.any fun kv => decide (kv.1 = k)) = (aE kvs k).isSome
 | [] => rfl
 | p :: r => by
  rw [List.any_cons]
  by_cases e : p.1 = k
  ·simp only [bj e,decide_eq_true e,Bool.true_or,Option.isSome_some]
  ·rw [bu e,decide_eq_false e,Bool.false_or]; exact d5 k r
theorem lu (k j : κ) (y : V) : ∀ kvs : List (κ × V),aE (kvs.map fun kv => if kv.1 = k then (kv.1,y) else kv) j = (aE kvs j).map fun x => if j = k then y else x
 | [] => rfl
 | p :: r => by
  have ih := lu k j y r
  rw [Ap]
  by_cases h : p.1 = k
  ·rw [if_pos h]
   by_cases e : p.1 = j
   ·rw [bj (p := (p.1,y)) e,bj e,Bi,if_pos (e.symm.trans h)]
   ·rw [bu (p := (p.1,y)) e,bu e,ih]
  ·rw [if_neg h]
   by_cases e : p.1 = j
   ·rw [bj (p := p) e,bj e,Bi,if_neg (fun z => h (e.trans z))]
   ·rw [bu (p := p) e,bu e,ih]
theorem jx (k j : κ) (y : V) : ∀ kvs : List (κ × V),aE kvs k = none -> aE (kvs ++ [(k,y)]) j = if j = k then some y else aE kvs j
 | [],_ => by
  by_cases e : k = j
  ·rw [if_pos e.symm]; exact bj (p := (k,y)) e
  ·rw [if_neg (fun z => e z.symm)]; exact bu (p := (k,y)) e
 | p :: r,hn => by
  rw [List.cons_append]
  have hk : ¬ p.1 = k := fun z => by rw [bj z] at hn; cases hn
  rw [bu hk] at hn
  have ih := jx k j y r hn
  by_cases e : p.1 = j
  ·rw [bj e,bj e,if_neg (fun z => hk (e.trans z))]
  ·rw [bu e,bu e,ih]
theorem fT (kvs : List (κ × V)) (k j : κ) (y : V) : aE (putK kvs k y) j = if j = k then some y else aE kvs j := by
 unfold putK
 by_cases a : (kvs.any fun kv => decide (kv.1 = k)) = true
 ·rw [if_pos a,lu]
  rw [d5] at a
  by_cases e : j = k
  ·obtain ⟨x,hx⟩ := B5.mp a
   rw [if_pos e,e,hx,Bi,if_pos rfl]
  ·rw [if_neg e]
   cases aE kvs j with
   | none => rfl
   | some x => rw [Bi,if_neg e]
 ·rw [if_neg a]
  refine jx k j y kvs ?_
  rw [d5] at a
  cases q : aE kvs k with
  | none => rfl
  | some x => rw [q] at a; exact (a rfl).elim
theorem cV (kvs : List (κ × V)) (k : κ) (v : V) : (putK kvs k v).length <= kvs.length + 1 := by
 unfold putK
 split
 ·rw [A5]; omega
 ·rw [A7,As,Bk]; omega
theorem eQ {kvs : List (κ × V)} {k : κ} (v : V) (h : aE kvs k = none) : putK kvs k v = kvs ++ [(k,v)] := by
 unfold putK
 rw [d5,h]
 exact if_neg (by decide)
theorem dE.isSome_eq {o : Option V} {u : Option Value} (r : dE o u) : o.isSome = u.isSome := by
 cases o with
 | none => cases u with
  | none => rfl
  | some _ => exact (show False from r).elim
 | some _ => cases u with
  | none => exact (show False from r).elim
  | some _ => rfl
theorem dE.getD {o : Option V} {u : Option Value} {d : V} {d' : Value} (r : dE o u) (rd : RelV d d') : RelV (o.getD d) (u.getD d') := by
 cases o with
 | none => cases u with
  | none => exact rd
  | some _ => exact (show False from r).elim
 | some _ => cases u with
  | none => exact (show False from r).elim
  | some _ => exact r
theorem KV.val {kvs : List (κ × V)} {vs : List (κ × Value)} (r : KV kvs vs) (k : κ) : dE (aE kvs k) (valueAt vs k) := by
 unfold KV at r
 induction r with
 | nil => exact True.intro
 | @cons p q ps qs h t ih =>
  obtain ⟨h1,h2⟩ := h
  by_cases e : p.1 = k
  ·have e' : q.1 = k := h1.symm.trans e
   have b : valueAt (q :: qs) k = some q.2 := by simp [valueAt,Bl,e']
   rw [bj e,b]; exact h2
  ·have e' : ¬ q.1 = k := fun z => e (h1.trans z)
   have b : valueAt (q :: qs) k = valueAt qs k := by simp [valueAt,Bl,e']
   rw [bu e,b]; exact ih
theorem KV.any {kvs : List (κ × V)} {vs : List (κ × Value)} (r : KV kvs vs) (k : κ) : (kvs.any fun kv => decide (kv.1 = k)) = vs.any fun kv => decide (kv.1 = k) := by
 unfold KV at r
 induction r with
 | nil => rfl
 | cons h t ih => rw [List.any_cons,List.any_cons,ih,h.1]
theorem KV.repl {kvs : List (κ × V)} {vs : List (κ × Value)} (r : KV kvs vs) (k : κ) {y : V} {u : Value} (ry : RelV y u) :
  KV (kvs.map fun kv => if kv.1 = k then (kv.1,y) else kv) (vs.map fun kv => if kv.1 = k then (kv.1,u) else kv) := by
 unfold KV at r ⊢
 induction r with
 | nil => exact .nil
 | @cons p q ps qs h t ih =>
  rw [Ap,Ap]
  refine .cons ?_ ih
  obtain ⟨h1,h2⟩ := h
  by_cases e : p.1 = k
  ·rw [if_pos e,if_pos (h1.symm.trans e)]; exact ⟨h1,ry⟩
  ·rw [if_neg e,if_neg (fun z => e (h1.trans z))]; exact ⟨h1,h2⟩
theorem KV.put {kvs : List (κ × V)} {vs : List (κ × Value)} (r : KV kvs vs) (k : κ) {y : V} {u : Value} (ry : RelV y u) : KV (putK kvs k y) (stored vs k u) := by
 unfold putK stored
 rw [r.any k]
 by_cases e : (vs.any fun kv => decide (kv.1 = k)) = true
 ·rw [if_pos e,if_pos e]; exact r.repl k ry
 ·rw [if_neg e,if_neg e]; exact Paired.snoc r ⟨rfl,ry⟩
theorem KV.drop {kvs : List (κ × V)} {vs : List (κ × Value)} (r : KV kvs vs) (k : κ) : KV (gU kvs k) (without vs k) := by
 unfold KV at r ⊢
 unfold gU without
 induction r with
 | nil => exact .nil
 | @cons p q ps qs h t ih =>
  obtain ⟨h1,h2⟩ := h
  rw [BK,BK]
  by_cases e : p.1 = k
  ·have a : ¬ decide (p.1 ≠ k) = true := by simp [e]
   have b : ¬ decide (q.1 ≠ k) = true := by simp [h1.symm.trans e]
   rw [if_neg a,if_neg b]; exact ih
  ·have e' : ¬ q.1 = k := fun z => e (h1.trans z)
   have a : decide (p.1 ≠ k) = true := by simp [e]
   have b : decide (q.1 ≠ k) = true := by simp [e']
   rw [if_pos a,if_pos b]; exact .cons ⟨h1,h2⟩ ih
theorem KV.length {kvs : List (κ × V)} {vs : List (κ × Value)} (r : KV kvs vs) : kvs.length = vs.length := Paired.length r
theorem qA (kvs : List (κ × V)) (k : κ) : (gU kvs k).length <= kvs.length := BV _ _
end
theorem eT {P : Program} {w : World} {k : Key} {u : Value} (r : RelV (kV k) u) : (aU P w).is k u = true := by
 cases k with
 | inl i => obtain ⟨t,e⟩ := (show ∃ t,u = Value.int i t from r); subst e; exact kY P w i t
 | inr x => obtain ⟨t,e⟩ := (show ∃ t,u = Value.str x t from r); subst e; exact kZ P w x t
theorem jy {P : Program} {w : World} : ∀ {ks : List Key} {us : List Value},aM (ks.map kV) us -> ItemsAre (aU P w) ks us
 | [],_,r => by rw [List.map_nil] at r; cases r; exact .nil
 | k :: ks,_,r => by
  rw [Ap] at r
  cases r with
  | cons h t => exact .cons (eT h) (jy t)
abbrev KT (H : Hp) : List (List Key × V) -> List (List Key × Addr × Value) -> Prop := Paired fun p q => p.1 = q.1 /\ H q.2.1 = some (.tup (p.1.map kV)) /\ RelV p.2 q.2.2
theorem KT.val {H : Hp} {kvs : List (List Key × V)} {xs : List (List Key × Addr × Value)} (r : KT H kvs xs) (k : List Key) : dE (aE kvs k) ((atKey xs k).map (·.2)) := by
 induction r with
 | nil => exact True.intro
 | @cons p q ps qs h t ih =>
  obtain ⟨h1,_,h2⟩ := h
  by_cases e : p.1 = k
  ·have e' : q.1 = k := h1.symm.trans e
   have b : atKey (q :: qs) k = some q.2 := by simp [atKey,Bl,e']
   rw [bj e,b]; exact h2
  ·have e' : ¬ q.1 = k := fun z => e (h1.trans z)
   have b : atKey (q :: qs) k = atKey qs k := by simp [atKey,Bl,e']
   rw [bu e,b]; exact ih
theorem KT.repl {H : Hp} {kvs : List (List Key × V)} {xs : List (List Key × Addr × Value)} (r : KT H kvs xs) (k : List Key) {y : V} {u : Value} (ry : RelV y u) :
  KT H (kvs.map fun kv => if kv.1 = k then (kv.1,y) else kv) (xs.map (putAt k u)) := by
 induction r with
 | nil => exact .nil
 | @cons p q ps qs h t ih =>
  rw [Ap,Ap]
  refine .cons ?_ ih
  obtain ⟨h1,h2,h3⟩ := h
  unfold putAt
  by_cases e : p.1 = k
  ·rw [if_pos e,if_pos (h1.symm.trans e)]; exact ⟨h1,h2,ry⟩
  ·rw [if_neg e,if_neg (fun z => e (h1.trans z))]; exact ⟨h1,h2,h3⟩
theorem KT.put {H : Hp} {kvs : List (List Key × V)} {xs : List (List Key × Addr × Value)} (r : KT H kvs xs) (k : List Key) {b : Addr} {y : V} {u : Value} (hb : H b = some (.tup (k.map kV))) (ry : RelV y u) :
  KT H (putK kvs k y) (storedH xs k b u) := by
 have e : (kvs.any fun kv => decide (kv.1 = k)) = (atKey xs k).isSome := by
  rw [d5,(r.val k).isSome_eq,Option.isSome_map]
 unfold putK storedH
 rw [e]
 by_cases q : (atKey xs k).isSome = true
 ·rw [if_pos q,if_pos q]; exact r.repl k ry
 ·rw [if_neg q,if_neg q]; exact Paired.snoc r ⟨rfl,hb,ry⟩
theorem KT.keeps {H H' : Hp} {kvs : List (List Key × V)} {xs : List (List Key × Addr × Value)} (r : KT H kvs xs) (ht : ∀ b ys,H b = some (.tup ys) -> H' b = some (.tup ys)) : KT H' kvs xs :=
 Paired.mapP r fun _ _ z => ⟨z.1,ht _ _ z.2.1,z.2.2⟩
section
variable {P : Program} {w : World} {H : Hp} {h : Heap} {a : Addr}
theorem uF {u : HO} (ok : dQ P w H h) (e : Rd H a u) : aV P w H h a u := e.ok ok
theorem fU {kvs : List (Key × V)} (ok : dQ P w H h) (e : Rd H a (.dK kvs)) : kvs.length <= sizeLine /\ (a == sysModules) = false /\ ∃ vs,KV kvs vs /\ h.DictOf (aU P w) a vs :=
 show aV P w H h a (.dK kvs) from uF ok e
theorem iF {kvs : List (Key × V)} (ok : dQ P w H h) (e : H a = some (.dK kvs)) : kvs.length <= sizeLine /\ (a == sysModules) = false /\ ∃ vs,KV kvs vs /\ h.DictOf (aU P w) a vs := fU ok (.inl e)
theorem fH {ks : List Key} (ok : dQ P w H h) (e : H a = some (.tup (ks.map kV))) : (tupleKind (aU P w)).is h ks a := by
 obtain ⟨_,its,r,o,h1,h2,n,h3⟩ := (show aV P w H h a (.tup (ks.map kV)) from ok a _ e)
 exact ⟨o,its.toArray,n,h1,h2,h3,by simpa using jy r⟩
theorem gW {kvs : List (List Key × V)} (ok : dQ P w H h) (e : Rd H a (.dT kvs)) : kvs.length <= sizeLine /\ (a == sysModules) = false /\
  ∃ xs,KT H kvs xs /\ h.DictOfH (tupleKind (aU P w)) a xs := by
 obtain ⟨z,y,xs,r,o,es,ep,h1,h2,h3,h4,h5⟩ := (show aV P w H h a (.dT kvs) from uF ok e)
 refine ⟨z,y,xs,r,o,es,ep,h1,h2,h3,h4,fun x hx => ?_,h5⟩
 have all : ∀ {l : List (List Key × V)} {m : List (List Key × Addr × Value)},KT H l m -> ∀ x ∈ m,(tupleKind (aU P w)).is h x.1 x.2.1 := by
  intro l m q
  induction q with
  | nil => intro x hx; exact nomatch hx
  | @cons p q ps qs hq t ih =>
   intro x hx
   rcases AB.mp hx with e | hx
   ·subst e
    exact fH ok (by rw [<- hq.1]; exact hq.2.1)
   ·exact ih x hx
 exact all r x hx
theorem wP {kvs : List (List Key × V)} (ok : dQ P w H h) (e : H a = some (.dT kvs)) : kvs.length <= sizeLine /\ (a == sysModules) = false /\
  ∃ xs,KT H kvs xs /\ h.DictOfH (tupleKind (aU P w)) a xs := gW ok (.inl e)
end
def b7 (H : Hp) (a : Addr) (y : V) (r : Option V) : Prop :=
 (∃ kvs k,Rd H a (.dK kvs) /\ y = kV k /\ r = aE kvs k) ∨ ∃ kvs k b,Rd H a (.dT kvs) /\ y = .ref b /\ H b = some (.tup (k.map kV)) /\ r = aE kvs k
def dO (H : Hp) (a : Addr) (y v : V) (H' : Hp) : Prop :=
 (∃ kvs k,H a = some (.dK kvs) /\ y = kV k /\ kvs.length < sizeLine /\ H' = aq H a (.dK (putK kvs k v))) ∨
 ∃ kvs k b,H a = some (.dT kvs) /\ y = .ref b /\ H b = some (.tup (k.map kV)) /\ kvs.length < sizeLine /\ H' = aq H a (.dT (putK kvs k v))
theorem b7.k {H : Hp} {a : Addr} {kvs : List (Key × V)} {k : Key} (e : H a = some (.dK kvs)) : b7 H a (kV k) (aE kvs k) := .inl ⟨kvs,k,.inl e,rfl,rfl⟩
theorem b7.t {H : Hp} {a b : Addr} {kvs : List (List Key × V)} {k : List Key} (e : H a = some (.dT kvs)) (eb : H b = some (.tup (k.map kV))) : b7 H a (.ref b) (aE kvs k) := .inr ⟨kvs,k,b,.inl e,rfl,eb,rfl⟩
theorem dO.k {H : Hp} {a : Addr} {kvs : List (Key × V)} {k : Key} {v : V} (e : H a = some (.dK kvs)) (hl : kvs.length < sizeLine) : dO H a (kV k) v (aq H a (.dK (putK kvs k v))) := .inl ⟨kvs,k,e,rfl,hl,rfl⟩
theorem dO.t {H : Hp} {a b : Addr} {kvs : List (List Key × V)} {k : List Key} {v : V} (e : H a = some (.dT kvs)) (eb : H b = some (.tup (k.map kV))) (hl : kvs.length < sizeLine) :
  dO H a (.ref b) v (aq H a (.dT (putK kvs k v))) := .inr ⟨kvs,k,b,e,rfl,eb,hl,rfl⟩
section
variable {X : Cx} {pins : List (Addr × Obj)} {σ : St} {H : Hp} {s : Shared} {a : Addr} {y v : V} {u r : Value} {o : Option V} {A : Around} {E : Value -> Shared -> Prop}
theorem av.big (I : av X pins σ H s) : sysModules < s.heap.objs.size := by
 have h : mainGlobals < s.heap.objs.size := (I.mod.glob.keeps I.bk).lt
 exact Nat.lt_trans (by decide) h
theorem oZ {Q : Value -> Shared -> Prop} (hu : A.units + 1 < cLine) (I : av X pins σ H s) (g : b7 H a y (some v)) (ry : RelV y u) (h : ∀ w' s',av X pins σ H s' -> RelV v w' -> Q w' s') :
  wpAny (model X.prog X.w) A (getItem (.ref a) u) Q E s := by
 rcases g with ⟨kvs,k,e,ey,l⟩ | ⟨kvs,k,b,e,ey,eb,l⟩
 ·subst ey
  obtain ⟨z,hd,vs,rel,dd⟩ := fU I.hok e
  obtain ⟨w',hw,rw'⟩ := dE.some_of (v := v) (o := valueAt vs k) (by rw [l]; exact rel.val k)
  exact wpAny_getItem_of (eT ry) dd.mapOf hw (h w' _ (I.tok _) rw')
 ·subst ey
  cases (show u = Value.ref b from ry)
  obtain ⟨z,hd,xs,rel,dd⟩ := gW I.hok e
  obtain ⟨w',hw,rw'⟩ := dE.some_of (v := v) (o := (atKey xs k).map (·.2)) (by rw [l]; exact rel.val k)
  obtain ⟨p,hp,hp2⟩ := B1.mp hw
  refine wpAny_getItem_heap (tupleKind_room_in1 hu) (fH I.hok eb) dd hp ?_
  rw [hp2]
  exact h w' _ (I.tok _) rw'
theorem zx {Q : Value -> Shared -> Prop} (hu : A.units + 1 < cLine) (I : av X pins σ H s) (g : b7 H a y o) (ry : RelV y u) (h : ∀ s',av X pins σ H s' -> Q (.bool o.isSome) s') :
  wpAny (model X.prog X.w) A (compareOp .In u (.ref a)) Q E s := by
 rcases g with ⟨kvs,k,e,ey,l⟩ | ⟨kvs,k,b,e,ey,eb,l⟩
 ·subst ey
  obtain ⟨z,hd,vs,rel,dd⟩ := fU I.hok e
  refine wpAny_in_of (eT ry) hd dd.mapOf ?_
  rw [<- (rel.val k).isSome_eq,<- l]
  exact h _ (I.tok _)
 ·subst ey
  cases (show u = Value.ref b from ry)
  obtain ⟨z,hd,xs,rel,dd⟩ := gW I.hok e
  refine wpAny_in_heap (tupleKind_room_in1 hu) (fH I.hok eb) hd dd ?_
  have q := (rel.val k).isSome_eq
  rw [Option.isSome_map] at q
  rw [<- q,<- l]
  exact h _ (I.tok _)
theorem sx {Q : Value -> Shared -> Prop} (hu : A.units + 1 < cLine) (I : av X pins σ H s) (g : b7 H a y o) (ry : RelV y u) (h : ∀ s',av X pins σ H s' -> Q (.bool (!o.isSome)) s') :
  wpAny (model X.prog X.w) A (compareOp .NotIn u (.ref a)) Q E s := by
 rcases g with ⟨kvs,k,e,ey,l⟩ | ⟨kvs,k,b,e,ey,eb,l⟩
 ·subst ey
  obtain ⟨z,hd,vs,rel,dd⟩ := fU I.hok e
  refine wpAny_notIn_of (eT ry) hd dd.mapOf ?_
  rw [<- (rel.val k).isSome_eq,<- l]
  exact h _ (I.tok _)
 ·subst ey
  cases (show u = Value.ref b from ry)
  obtain ⟨z,hd,xs,rel,dd⟩ := gW I.hok e
  refine wpAny_notIn_heap (tupleKind_room_in1 hu) (fH I.hok eb) hd dd ?_
  have q := (rel.val k).isSome_eq
  rw [Option.isSome_map] at q
  rw [<- q,<- l]
  exact h _ (I.tok _)
theorem fV {h' : Heap} {t' : Nat} {ob : HO} (I : av X pins σ H s) (mu : wq (H a)) (hs : Heap.SameBut a s.heap h') (he : ∃ q,h'.get? a = some q) (new : aV X.prog X.w (aq H a ob) h' a ob) :
  av X pins σ (aq H a ob) { s with heap := h',toks := t' } :=
 I.write (x := a) (e := a) mu (.inl rfl) (fun b q hb z => (hs.2 b hb).trans z) he new
theorem kc {P : Program} {w : World} {H' : Hp} {h' : Heap} {kvs : List (Key × V)} {vs : List (Key × Value)} (z : kvs.length <= sizeLine) (hd : (a == sysModules) = false) (rel : KV kvs vs) (dd : h'.DictOf (aU P w) a vs) :
  aV P w H' h' a (.dK kvs) := ⟨z,hd,vs,rel,dd⟩
theorem pe {H' : Hp} {Q : Unit -> Shared -> Prop} (hu : A.units + 1 < cLine) (I : av X pins σ H s) (g : dO H a y v H') (ry : RelV y u) (rv : RelV v r) (h : ∀ s',av X pins σ H' s' -> Q () s') :
  wpAny (model X.prog X.w) A (setItem (.ref a) u r) Q E s := by
 rcases g with ⟨kvs,k,e,ey,l,eH⟩ | ⟨kvs,k,b,e,ey,eb,l,eH⟩
 ·subst ey eH
  obtain ⟨z,hd,vs,rel,dd⟩ := iF I.hok e
  have hz : vs.length <= sizeLine := by rw [<- rel.length]; exact z
  have hl : (putK kvs k v).length <= sizeLine := by have := cV kvs k v; omega
  refine wpAny_setItem_pairs (hsz := hz) (eT ry) dd fun h' dd' hs => h _ ?_
  have he : ∃ q,h'.get? a = some q := let ⟨q,_,_,hq,_⟩ := dd'; ⟨q,hq⟩
  exact fV I (by rw [e]; exact True.intro) hs he (kc hl hd (rel.put k rv) dd')
 ·subst ey eH
  cases (show u = Value.ref b from ry)
  obtain ⟨z,hd,xs,rel,dd⟩ := wP I.hok e
  have hz : xs.length <= sizeLine := by rw [<- Paired.length rel]; exact z
  have hl : (putK kvs k v).length <= sizeLine := by have := cV kvs k v; omega
  refine wpAny_setItem_heap (hsz := hz) (tupleKind_room_in1 hu) (fH I.hok eb) dd fun h' dd' hs => h _ ?_
  obtain ⟨q,es,ep,hq,h2,h3,h4,_,h5⟩ := dd'
  refine fV I (by rw [e]; exact True.intro) hs ⟨q,hq⟩ ⟨hl,hd,_,(rel.put k eb rv).keeps fun c ys ec => ?_,q,es,ep,hq,h2,h3,h4,h5⟩
  rw [ae (b9 ec e (fun z => nomatch z))]
  exact ec
end
section
variable {X : Cx} {pins : List (Addr × Obj)} {σ : St} {H : Hp} {s : Shared} {a : Addr} {kvs : List (Key × V)} {k : Key} {u : Value} {A : Around} {E : Value -> Shared -> Prop}
theorem uG {v : V} {more : List Value} {Q : Value -> Shared -> Prop} (I : av X pins σ H s) (e : H a = some (.dK kvs)) (ry : RelV (kV k) u) (l : aE kvs k = some v) (hm : more = [] ∨ ∃ x,more = [x])
  (h : ∀ w' s',av X pins σ (aq H a (.dK (gU kvs k))) s' -> RelV v w' -> Q w' s') : wpAny (model X.prog X.w) A (call (.builtin "dict.pop") (.ref a :: u :: more)) Q E s := by
 obtain ⟨z,hd,vs,rel,dd⟩ := iF I.hok e
 obtain ⟨w',hw,rw'⟩ := dE.some_of (v := v) (o := valueAt vs k) (by rw [<- l]; exact rel.val k)
 have hp : (keyPart u).isSome = true := by
  cases k with
  | inl i => obtain ⟨t,q⟩ := (show ∃ t,u = Value.int i t from ry); subst q; rfl
  | inr x => obtain ⟨t,q⟩ := (show ∃ t,u = Value.str x t from ry); subst q; rfl
 have ha : argsOk "dict.pop" ⟨.ref a :: u :: more,[]⟩ := by
  rcases hm with q | ⟨x,q⟩
  ·subst q; exact PySem.F.args_dict_pop_2 _ _
  ·subst q; exact PySem.F.args_dict_pop_3 _ _ _
 refine call_meetsIn PySem.F.slot_dict_pop dd.typeIs PySem.F.entry_dict_pop ha (meets_dict_pop_there (aU X.prog X.w) a (eT ry) more hm hp)
  ⟨vs,w',dd,by rw [<- rel.length]; exact z,hw,fun h' dd' hs => h w' _ ?_ rw'⟩
 have he : ∃ q,h'.get? a = some q := let ⟨q,_,_,hq,_⟩ := dd'; ⟨q,hq⟩
 exact fV I (by rw [e]; exact True.intro) hs he (kc (AR (qA kvs k) z) hd (rel.drop k) dd')
theorem u8 {r : Value} {Q : Value -> Shared -> Prop} (I : av X pins σ H s) (e : H a = some (.dK kvs)) (ry : RelV (kV k) u) (l : aE kvs k = none) (h : ∀ s',av X pins σ H s' -> Q r s') :
  wpAny (model X.prog X.w) A (call (.builtin "dict.pop") [.ref a,u,r]) Q E s := by
 obtain ⟨z,hd,vs,rel,dd⟩ := iF I.hok e
 have hn : valueAt vs k = none := dE.none_of (by rw [<- l]; exact rel.val k)
 have hp : (keyPart u).isSome = true := by
  cases k with
  | inl i => obtain ⟨t,q⟩ := (show ∃ t,u = Value.int i t from ry); subst q; rfl
  | inr x => obtain ⟨t,q⟩ := (show ∃ t,u = Value.str x t from ry); subst q; rfl
 exact call_meetsIn PySem.F.slot_dict_pop dd.typeIs PySem.F.entry_dict_pop (PySem.F.args_dict_pop_3 _ _ _) (meets_dict_pop_default (aU X.prog X.w) a (eT ry) hd hp r) ⟨vs,dd,hn,h _ (I.tok _)⟩
theorem wQ {Q : Value -> Shared -> Prop} (I : av X pins σ H s) (e : Rd H a (.dK kvs)) (h : ∀ t s',av X pins σ H s' -> Q (.int kvs.length t) s') : wpAny (model X.prog X.w) A (call (.builtin "len") [.ref a]) Q E s := by
 obtain ⟨z,hd,vs,rel,dd⟩ := fU I.hok e
 refine call_len_dict hd dd (by rw [<- rel.length]; rw [sizeLine_eq] at z; omega) ?_
 rw [<- rel.length]
 exact h _ _ (I.tok _)
end
def wR (i : Expr) : Prop := ∀ ov iv,subscripted i false ov iv = operate [ov,iv] (getItem ov iv)
theorem sy {prog : Program} {w : World} {A : Around} {E : Value -> Shared -> Prop} {s : Shared} {env : Env} {value slice : Expr} {pos : Pos} {T id : String} {Q : Value -> Shared -> Prop}
  (hl : typeLookup (.type T) "__getitem__" = pure (some (.builtin id))) (hs : wR slice)
  (h : wpAny (model prog w) A (eval value env) (fun o s₁ => wpAny (model prog w) A (eval slice env) (fun i s₂ => s₂.TypeIs o T /\ wpAny (model prog w) A (getItem o i) Q E s₂) E s₁) E s) :
  wpAny (model prog w) A (eval (.Subscript value slice pos) env) Q E s := by
 refine Subscript_ (wpAny_mono h (fun o s₁ h₁ => wpAny_mono h₁ (fun i s₂ h₂ => ?_) fun _ _ x => x) fun _ _ x => x)
 obtain ⟨hT,h₂⟩ := h₂
 unfold subscriptTail
 refine wpAny_bind ?_
 rw [getitemInPython_of_ne hT.not_modules]
 refine wpAny_bind (wpAny_specialOf hT hl ?_)
 have fin : wpAny (model prog w) A (subscripted slice false o i) (fun r s₃ => wpAny (model prog w) A (letTemporaryGo value o r >>= fun _ => pure r) Q E s₃) E s₂ := by
  rw [hs o i]
  exact wpAny_operating (wpAny_mono h₂ (fun r s₃ h₃ => wpAny_bind (wpAny_letTemporaryGo (wpAny_pure h₃))) fun _ _ x => x)
 first
  | exact wpAny_pure (wpAny_bind fin)
  | exact wpAny_bind (wpAny_pure (wpAny_bind fin))
  | exact wpAny_bind fin
theorem lv {X : Cx} {pins : List (Addr × Obj)} {σ : St} {H : Hp} {s : Shared} {a : Addr} {y : V} {o : Option V} (I : av X pins σ H s) (g : b7 H a y o) : s.TypeIs (.ref a) "dict" := by
 rcases g with ⟨kvs,k,e,_,_⟩ | ⟨kvs,k,b,e,_,_,_⟩
 ·obtain ⟨_,_,vs,_,dd⟩ := fU I.hok e
  exact dd.typeIs
 ·obtain ⟨_,_,xs,_,dd⟩ := gW I.hok e
  exact dd.typeIs
def wS (td ty : TE) : TE := fun σ H Q => td σ H fun x H1 => ty σ H1 fun y H2 => ∃ a v,x = .ref a /\ b7 H2 a y (some v) /\ Q v H2
def zy (ty td : TE) : TE := fun σ H Q => ty σ H fun y H1 => td σ H1 fun x H2 => ∃ a o,x = .ref a /\ b7 H2 a y o /\ Q (.bl o.isSome) H2
def sA (ty td : TE) : TE := fun σ H Q => ty σ H fun y H1 => td σ H1 fun x H2 => ∃ a o,x = .ref a /\ b7 H2 a y o /\ Q (.bl (!o.isSome)) H2
def wT (td ty tv : TE) : TS := fun D σ H => tv σ H fun v H1 => td σ H1 fun x H2 => ty σ H2 fun y H3 => ∃ a H4,x = .ref a /\ dO H3 a y v H4 /\ D.nx σ H4
section
variable {X : Cx} {o i e value : Expr} {pos pos' tpos : Pos} {td ty tv : TE}
theorem eZ (hu : X.A.units + 1 < cLine) (ho : PE X o td) (hi : PE X i ty) (hs : wR i) : PE X (.Subscript o i pos) (wS td ty) := by
 intro pins s σ H Q I h
 refine sy PySem.F.slot_dict_getitem.lookup hs (bw (ho pins s σ H _ I h) fun u s1 ⟨x,H1,I1,rx,q1⟩ => bw (hi pins s1 σ H1 _ I1 q1) fun iv s2 ⟨y,H2,I2,ry,a,v,ex,g,q2⟩ => ?_)
 subst ex
 obtain rfl : u = Value.ref a := rx
 exact ⟨lv I2 g,oZ hu I2 g ry fun w' s3 I3 rw' => ⟨v,H2,I3,rw',q2⟩⟩
theorem kg (hu : X.A.units + 1 < cLine) (hi : PE X i ty) (ho : PE X o td) : PC X .In i o (zy ty td) := by
 intro pins s σ H Q I h
 refine bw (hi pins s σ H _ I h) fun iv s1 ⟨y,H1,I1,ry,q1⟩ => bw (ho pins s1 σ H1 _ I1 q1) fun u s2 ⟨x,H2,I2,rx,a,ov,ex,g,q2⟩ => ?_
 subst ex
 obtain rfl : u = Value.ref a := rx
 exact zx hu I2 g ry fun s3 I3 => ⟨.bl ov.isSome,H2,I3,rfl,q2⟩
theorem dq (hu : X.A.units + 1 < cLine) (hi : PE X i ty) (ho : PE X o td) : PC X .NotIn i o (sA ty td) := by
 intro pins s σ H Q I h
 refine bw (hi pins s σ H _ I h) fun iv s1 ⟨y,H1,I1,ry,q1⟩ => bw (ho pins s1 σ H1 _ I1 q1) fun u s2 ⟨x,H2,I2,rx,a,ov,ex,g,q2⟩ => ?_
 subst ex
 obtain rfl : u = Value.ref a := rx
 exact sx hu I2 g ry fun s3 I3 => ⟨.bl (!ov.isSome),H2,I3,rfl,q2⟩
theorem cJ (hu : X.A.units + 1 < cLine) (ho : PE X o td) (hi : PE X i ty) (hv : PE X value tv) (hs : swapsWith value (some (.Subscript o i pos')) pos.line X.env = pure false) :
  PS X (.Assign [.Subscript o i pos'] value pos) (wT td ty tv) := by
 intro pins s σ H D I h
 refine wpAny_Assign_Subscript (bw (hv pins s σ H _ I h) fun r s1 ⟨v,H1,I1,rv,q1⟩ => bw (ho pins s1 σ H1 _ I1 q1) fun u s2 ⟨x,H2,I2,rx,q2⟩ => bw (hi pins s2 σ H2 _ I2 q2) fun iv s3 ⟨y,H3,I3,ry,a,H4,ex,g,q3⟩ => ?_) hs
 subst ex
 obtain rfl : u = Value.ref a := rx
 exact pe hu I3 g ry rv fun s4 I4 => ⟨σ,H4,I4,q3⟩
end
theorem lx {P : Program} {w : World} {H : Hp} (h : Heap) (hb : sysModules < h.objs.size) : aV P w H (h.push { cls := .type "dict",data := .dict #[] }) h.objs.size (.dK []) :=
 ⟨AZ _,beq_eq_false_iff_ne.mpr (Ne.symm (AD hb)),[],.nil,Heap.DictOf.new h⟩
theorem qB {P : Program} {w : World} {H : Hp} (h : Heap) (hb : sysModules < h.objs.size) : aV P w H (h.push { cls := .type "dict",data := .dict #[] }) h.objs.size (.dT []) :=
 ⟨AZ _,beq_eq_false_iff_ne.mpr (Ne.symm (AD hb)),[],.nil,_,#[],0,Heap.get?_push_size _ rfl,⟨rfl,rfl,rfl⟩,rfl,rfl,List.nodup_nil⟩
def u9 : TE := fun _ H Q => ∀ p,H p = none -> Q (.ref p) (aq H p (.dK []))
def va : TE := fun _ H Q => ∀ p,H p = none -> Q (.ref p) (aq H p (.dT []))
section
variable {X : Cx} {pos : Pos}
theorem cA : PE X (.Dict [] [] pos) u9 := fun pins s σ H Q I h =>
 wpAny_Dict_empty ⟨.ref s.heap.objs.size,_,I.laid (a := s.heap.objs.size) (o := .dK []) (t' := s.toks) (fun _ _ q => Heap.get?_push_of_some _ q) (A4 _) (lx s.heap I.big),rfl,h _ (I.hok.fresh (A4 _))⟩
theorem ly : PE X (.Dict [] [] pos) va := fun pins s σ H Q I h =>
 wpAny_Dict_empty ⟨.ref s.heap.objs.size,_,I.laid (a := s.heap.objs.size) (o := .dT []) (t' := s.toks) (fun _ _ q => Heap.get?_push_of_some _ q) (A4 _) (qB s.heap I.big),rfl,h _ (I.hok.fresh (A4 _))⟩
end
def mF : List (TE × TE) -> St -> Hp -> (List (V × V) -> Hp -> Prop) -> Prop
 | [],_,H,Q => Q [] H
 | (tk,tv) :: r,σ,H,Q => tk σ H fun x H1 => tv σ H1 fun y H2 => mF r σ H2 fun ps H3 => Q ((x,y) :: ps) H3
abbrev VV : List (V × V) -> List (Value × Value) -> Prop := Paired fun p q => RelV p.1 q.1 /\ RelV p.2 q.2
def yH (X : Cx) (pos : Pos) (keys : List (Option Expr)) (values : List Expr) (trs : List (TE × TE)) : Prop :=
 ∀ (pins : List (Addr × Obj)) (s : Shared) (σ : St) (H : Hp) (Q : List (V × V) -> Hp -> Prop),av X pins σ H s -> mF trs σ H Q ->
  wpAny (model X.prog X.w) X.A (evalPairs (pairTrees keys values X.env pos)) (fun vs s' => ∃ ps H',av X pins σ H' s' /\ VV ps vs /\ Q ps H') X.xe s
theorem ik {X : Cx} {pos : Pos} : yH X pos [] [] [] := fun pins s σ H Q I h => pairTrees_nil_walk ⟨[],H,I,.nil,h⟩
theorem fW {X : Cx} {pos : Pos} {k v : Expr} {ks : List (Option Expr)} {vs : List Expr} {tk tv : TE} {trs : List (TE × TE)} (hk : PE X k tk) (hv : PE X v tv) (hr : yH X pos ks vs trs) :
  yH X pos (some k :: ks) (v :: vs) ((tk,tv) :: trs) := fun pins s σ H Q I h =>
 pairTrees_cons_walk (bw (hk pins s σ H _ I h) fun u s1 ⟨x,H1,I1,rx,q1⟩ => bw (hv pins s1 σ H1 _ I1 q1) fun w2 s2 ⟨y,H2,I2,ry,q2⟩ =>
  bw (hr pins s2 σ H2 _ I2 q2) fun ws s3 ⟨ps,H3,I3,rel,q3⟩ => ⟨(x,y) :: ps,H3,I3,.cons ⟨rx,ry⟩ rel,q3⟩)
def b8 (kvs more : List (Key × V)) : List (Key × V) := more.foldl (fun acc kv => putK acc kv.1 kv.2) kvs
theorem KV.merge : ∀ {more : List (Key × V)} {rs : List (Key × Value)} {kvs : List (Key × V)} {vs : List (Key × Value)},KV more rs -> KV kvs vs -> KV (b8 kvs more) (merged vs rs) := by
 intro more rs kvs vs r
 unfold KV at r
 induction r generalizing kvs vs with
 | nil => intro q; exact q
 | @cons p q ps qs h t ih =>
  intro r0
  have e : KV (putK kvs p.1 p.2) (stored vs q.1 q.2) := by
   have := r0.put p.1 h.2
   rw [<- h.1]; exact this
  exact ih e
theorem fA : ∀ (more kvs : List (Key × V)),(b8 kvs more).length <= kvs.length + more.length
 | [],kvs => by show kvs.length <= kvs.length + 0; omega
 | p :: r,kvs => by
  have h1 := fA r (putK kvs p.1 p.2)
  have h2 := cV kvs p.1 p.2
  show (b8 (putK kvs p.1 p.2) r).length <= _
  rw [As]; omega
theorem iG {P : Program} {w : World} : ∀ {kvs : List (Key × V)} {ws : List (Value × Value)},VV (kvs.map fun kv => (kV kv.1,kv.2)) ws -> ∃ rs,Carries (aU P w) ws rs /\ KV kvs rs
 | [],_,r => by rw [List.map_nil] at r; cases r; exact ⟨[],True.intro,.nil⟩
 | p :: kvs,_,r => by
  rw [Ap] at r
  cases r with
  | @cons a b as bs h t =>
   obtain ⟨rs,c,q⟩ := iG (P := P) (w := w) t
   obtain ⟨b1,b2⟩ := b
   exact ⟨(p.1,b2) :: rs,⟨eT h.1,rfl,c⟩,.cons ⟨rfl,h.2⟩ q⟩
def wU (trs : List (TE × TE)) : TE := fun σ H Q => ∀ p,H p = none -> mF trs σ (aq H p (.dK [])) fun ps H2 => H2 p = some (.dK []) /\ ∃ kvs : List (Key × V),ps = kvs.map (fun kv => (kV kv.1,kv.2)) /\ kvs.length <= 15 /\ Q (.ref p) (aq H2 p (.dK (b8 [] kvs)))
theorem im {X : Cx} {pos : Pos} {keys : List (Option Expr)} {values : List Expr} {trs : List (TE × TE)} (h : yH X pos keys values trs) (hall : keys.all (·.isSome) = true) (hl : keys.length = values.length) (h0 : keys ≠ [])
  (h15 : keys.length <= 15) : PE X (.Dict keys values pos) (wU trs) := by
 intro pins s σ H Q I q
 have hn := I.hok.fresh (A4 s.heap.objs.size)
 have I1 := I.laid (a := s.heap.objs.size) (o := .dK []) (h' := s.heap.push { cls := .type "dict",data := .dict #[] }) (t' := s.toks) (fun _ _ q => Heap.get?_push_of_some _ q) (A4 _) (lx s.heap I.big)
 refine wpAny_Dict_walk (knd := aU X.prog X.w) hall hl h0 h15 (bw (h pins _ σ _ _ I1 (q _ hn)) fun ws s2 ⟨ps,H2,I2,rel,e,kvs,ep,lk,q2⟩ => ?_)
 subst ep
 obtain ⟨rs,c,rk⟩ := iG (P := X.prog) (w := X.w) rel
 obtain ⟨z,hd,vs0,r0,dd⟩ := iF I2.hok e
 cases r0
 refine ⟨rs,c,dd,fun h' dd' hs => ⟨.ref s.heap.objs.size,_,?_,rfl,q2⟩⟩
 have hz : (b8 [] kvs).length <= sizeLine := by
  have h1 := fA kvs []
  rw [Bk] at h1
  rw [sizeLine_eq]; omega
 have he : ∃ q,h'.get? s.heap.objs.size = some q := let ⟨q,_,_,hq,_⟩ := dd'; ⟨q,hq⟩
 exact fV I2 (by rw [e]; exact True.intro) hs he (kc hz hd (rk.merge .nil) dd')
structure M1 (X : Cx) (o : Expr) (m : Str) (apos : Pos) (e : Expr) (cpos : Pos) : Prop where
 base : attributeBase o m X.env (eval o X.env) = eval o X.env
 few : ((backTo cpos (starEach [e] X.env)).all (fun x => !x.1) && (backToKw cpos (keywordEach [] X.env)).all (fun x => x.1.isSome)
  && decide (([e] : List Expr).length + ([] : List Keyword).length + (if ([] : List Keyword).isEmpty then 0 else 1) < 30)) = true
 line : (apos.endLine == cpos.line) = true
 trees : backTo cpos (starEach [e] X.env) = [(false,eval e X.env)]
structure M2 (X : Cx) (o : Expr) (m : Str) (apos : Pos) (e f : Expr) (cpos : Pos) : Prop where
 base : attributeBase o m X.env (eval o X.env) = eval o X.env
 few : ((backTo cpos (starEach [e,f] X.env)).all (fun x => !x.1) && (backToKw cpos (keywordEach [] X.env)).all (fun x => x.1.isSome)
  && decide (([e,f] : List Expr).length + ([] : List Keyword).length + (if ([] : List Keyword).isEmpty then 0 else 1) < 30)) = true
 line : (apos.endLine == cpos.line) = true
 trees : backTo cpos (starEach [e,f] X.env) = [(false,eval e X.env),(false,eval f X.env)]
def wV (H : Hp) (a : Addr) : Prop := (∃ kvs,Rd H a (.dK kvs)) ∨ ∃ kvs,Rd H a (.dT kvs)
theorem kh {X : Cx} {pins : List (Addr × Obj)} {σ : St} {H : Hp} {s : Shared} {a : Addr} (I : av X pins σ H s) (d : wV H a) :
  s.TypeIs (.ref a) "dict" /\ (∀ b,Value.ref a = .ref b -> ∃ ob,s.heap.get? b = some ob /\ ob.dict = none) /\ (a == sysModules) = false := by
 rcases d with ⟨kvs,e⟩ | ⟨kvs,e⟩
 ·obtain ⟨_,hd,vs,_,dd⟩ := fU I.hok e
  refine ⟨dd.typeIs,fun b q => ?_,hd⟩
  cases q
  obtain ⟨ob,_,_,h1,h2,_⟩ := dd
  exact ⟨ob,h1,h2.2.1⟩
 ·obtain ⟨_,hd,xs,_,dd⟩ := gW I.hok e
  refine ⟨dd.typeIs,fun b q => ?_,hd⟩
  cases q
  obtain ⟨ob,_,_,h1,h2,_⟩ := dd
  exact ⟨ob,h1,h2.2.1⟩
section
variable {X : Cx} {pins : List (Addr × Obj)} {σ : St} {H : Hp} {s : Shared} {a : Addr} {y d : V} {u r : Value} {o : Option V} {A : Around} {E : Value -> Shared -> Prop}
theorem vc {Q : Value -> Shared -> Prop} (hu : A.units + 1 < cLine) (I : av X pins σ H s) (g : b7 H a y o) (ry : RelV y u) (h : ∀ w' s',av X pins σ H s' -> RelV (o.getD .non) w' -> Q w' s') :
  wpAny (model X.prog X.w) A (call (.builtin "dict.get") [.ref a,u]) Q E s := by
 rcases g with ⟨kvs,k,e,ey,l⟩ | ⟨kvs,k,b,e,ey,eb,l⟩
 ·subst ey
  obtain ⟨z,hd,vs,rel,dd⟩ := fU I.hok e
  refine call_meetsIn BL dd.typeIs PySem.F.entry_dict_get (PySem.F.args_dict_get_2 _ _) (meets_dict_get (aU X.prog X.w) a (eT ry) hd) ⟨_,dd.mapOf,h _ _ (I.tok _) ?_⟩
  rw [l]
  exact (rel.val k).getD rfl
 ·subst ey
  cases (show u = Value.ref b from ry)
  obtain ⟨z,hd,xs,rel,dd⟩ := gW I.hok e
  refine call_meetsIn BL dd.typeIs PySem.F.entry_dict_get (PySem.F.args_dict_get_2 _ _) (meetsH_dict_get (tupleKind (aU X.prog X.w)) a b hd) ⟨tupleKind_room_in1 hu,k,xs,fH I.hok eb,dd,h _ _ (I.tok _) ?_⟩
  rw [l]
  exact (rel.val k).getD rfl
theorem vd {Q : Value -> Shared -> Prop} (hu : A.units + 1 < cLine) (I : av X pins σ H s) (g : b7 H a y o) (ry : RelV y u) (rd : RelV d r) (h : ∀ w' s',av X pins σ H s' -> RelV (o.getD d) w' -> Q w' s') :
  wpAny (model X.prog X.w) A (call (.builtin "dict.get") [.ref a,u,r]) Q E s := by
 rcases g with ⟨kvs,k,e,ey,l⟩ | ⟨kvs,k,b,e,ey,eb,l⟩
 ·subst ey
  obtain ⟨z,hd,vs,rel,dd⟩ := fU I.hok e
  refine call_meetsIn BL dd.typeIs PySem.F.entry_dict_get (PySem.F.args_dict_get_3 _ _ _) (meets_dict_get_default (aU X.prog X.w) a (eT ry) hd r) ⟨_,dd.mapOf,h _ _ (I.tok _) ?_⟩
  rw [l]
  exact (rel.val k).getD rd
 ·subst ey
  cases (show u = Value.ref b from ry)
  obtain ⟨z,hd,xs,rel,dd⟩ := gW I.hok e
  refine call_meetsIn BL dd.typeIs PySem.F.entry_dict_get (PySem.F.args_dict_get_3 _ _ _) (meetsH_dict_get_default (tupleKind (aU X.prog X.w)) a b hd r) ⟨tupleKind_room_in1 hu,k,xs,fH I.hok eb,dd,h _ _ (I.tok _) ?_⟩
  rw [l]
  exact (rel.val k).getD rd
end
def ve (td ty : TE) : TE := fun σ H Q => td σ H fun x H1 => ∃ a,x = .ref a /\ wV H1 a /\ ty σ H1 fun y H2 => ∃ o,b7 H2 a y o /\ Q (o.getD .non) H2
def vf (td ty tx : TE) : TE := fun σ H Q => td σ H fun x H1 => ∃ a,x = .ref a /\ wV H1 a /\ ty σ H1 fun y H2 => tx σ H2 fun z H3 => ∃ o,b7 H3 a y o /\ Q (o.getD z) H3
def vg (td ty : TE) : TE := fun σ H Q => td σ H fun x H1 => ∃ a,x = .ref a /\ wV H1 a /\ ty σ H1 fun y H2 => ∃ kvs k v,H2 a = some (.dK kvs) /\ y = kV k /\ aE kvs k = some v /\ Q v (aq H2 a (.dK (gU kvs k)))
def vh (td ty tx : TE) : TE := fun σ H Q => td σ H fun x H1 => ∃ a,x = .ref a /\ wV H1 a /\ ty σ H1 fun y H2 => tx σ H2 fun z H3 => ∃ kvs k,H3 a = some (.dK kvs) /\ y = kV k /\
 (∀ v,aE kvs k = some v -> Q v (aq H3 a (.dK (gU kvs k)))) /\ (aE kvs k = none -> Q z H3)
section
variable {X : Cx} {o e f : Expr} {apos cpos : Pos} {td ty tx : TE}
theorem qC (hu : X.A.units + 1 < cLine) (ho : PE X o td) (he : PE X e ty) (m : M1 X o "get" apos e cpos) : PE X (.Call (.Attribute o "get" apos) [e] [] cpos) (ve td ty) := by
 intro pins s σ H Q I h
 refine wpAny_Call_method m.base m.few m.line BE BL PySem.F.type_dict_get (bw (ho pins s σ H _ I h) fun u s1 ⟨x,H1,I1,rx,a,ex,d,q1⟩ => ?_)
 subst ex
 obtain rfl : u = Value.ref a := rx
 obtain ⟨t1,t2,_⟩ := kh I1 d
 refine ⟨t1,t2,?_⟩
 rw [m.trees]
 refine Calls.callWith_builtin rfl (Calls.evalArgs_plain (Calls.spliced_cons (bw (he pins s1 σ H1 _ I1 q1) fun iv s2 ⟨y,H2,I2,ry,ov,g,q2⟩ => Calls.spliced_nil ?_)))
 exact vc hu I2 g ry fun w' s3 I3 rw' => ⟨_,H2,I3,rw',q2⟩
theorem iH (hu : X.A.units + 1 < cLine) (ho : PE X o td) (he : PE X e ty) (hf : PE X f tx) (m : M2 X o "get" apos e f cpos) : PE X (.Call (.Attribute o "get" apos) [e,f] [] cpos) (vf td ty tx) := by
 intro pins s σ H Q I h
 refine wpAny_Call_method m.base m.few m.line BE BL PySem.F.type_dict_get (bw (ho pins s σ H _ I h) fun u s1 ⟨x,H1,I1,rx,a,ex,d,q1⟩ => ?_)
 subst ex
 obtain rfl : u = Value.ref a := rx
 obtain ⟨t1,t2,_⟩ := kh I1 d
 refine ⟨t1,t2,?_⟩
 rw [m.trees]
 refine Calls.callWith_builtin rfl (Calls.evalArgs_plain (Calls.spliced_cons (bw (he pins s1 σ H1 _ I1 q1) fun iv s2 ⟨y,H2,I2,ry,q2⟩ =>
  Calls.spliced_cons (bw (hf pins s2 σ H2 _ I2 q2) fun fv s3 ⟨z,H3,I3,rz,ov,g,q3⟩ => Calls.spliced_nil ?_))))
 exact vd hu I3 g ry rz fun w' s4 I4 rw' => ⟨_,H3,I4,rw',q3⟩
theorem qE (ho : PE X o td) (he : PE X e ty) (m : M1 X o "pop" apos e cpos) : PE X (.Call (.Attribute o "pop" apos) [e] [] cpos) (vg td ty) := by
 intro pins s σ H Q I h
 refine wpAny_Call_method m.base m.few m.line BE PySem.F.slot_dict_pop PySem.F.type_dict_pop (bw (ho pins s σ H _ I h) fun u s1 ⟨x,H1,I1,rx,a,ex,d,q1⟩ => ?_)
 subst ex
 obtain rfl : u = Value.ref a := rx
 obtain ⟨t1,t2,_⟩ := kh I1 d
 refine ⟨t1,t2,?_⟩
 rw [m.trees]
 refine Calls.callWith_builtin rfl (Calls.evalArgs_plain (Calls.spliced_cons (bw (he pins s1 σ H1 _ I1 q1) fun iv s2 ⟨y,H2,I2,ry,kvs,k,v,ea,ey,l,q2⟩ => Calls.spliced_nil ?_)))
 subst ey
 exact uG I2 ea ry l (.inl rfl) fun w' s3 I3 rw' => ⟨v,_,I3,rw',q2⟩
theorem lA (ho : PE X o td) (he : PE X e ty) (hf : PE X f tx) (m : M2 X o "pop" apos e f cpos) : PE X (.Call (.Attribute o "pop" apos) [e,f] [] cpos) (vh td ty tx) := by
 intro pins s σ H Q I h
 refine wpAny_Call_method m.base m.few m.line BE PySem.F.slot_dict_pop PySem.F.type_dict_pop (bw (ho pins s σ H _ I h) fun u s1 ⟨x,H1,I1,rx,a,ex,d,q1⟩ => ?_)
 subst ex
 obtain rfl : u = Value.ref a := rx
 obtain ⟨t1,t2,_⟩ := kh I1 d
 refine ⟨t1,t2,?_⟩
 rw [m.trees]
 refine Calls.callWith_builtin rfl (Calls.evalArgs_plain (Calls.spliced_cons (bw (he pins s1 σ H1 _ I1 q1) fun iv s2 ⟨y,H2,I2,ry,q2⟩ =>
  Calls.spliced_cons (bw (hf pins s2 σ H2 _ I2 q2) fun fv s3 ⟨z,H3,I3,rz,kvs,k,ea,ey,q3,q4⟩ => Calls.spliced_nil ?_))))
 subst ey
 cases l : aE kvs k with
 | some v => exact uG I3 ea ry l (.inr ⟨fv,rfl⟩) fun w' s4 I4 rw' => ⟨v,_,I4,rw',q3 v l⟩
 | none => exact u8 I3 ea ry l fun s4 I4 => ⟨z,H3,I4,rz,q4 l⟩
end
section
variable {X : Cx} {pins : List (Addr × Obj)} {σ : St} {H : Hp} {s : Shared} {a : Addr} {kvs : List (Key × V)} {A : Around} {E : Value -> Shared -> Prop}
end
section
variable {X : Cx} {pins : List (Addr × Obj)} {σ : St} {H : Hp} {s : Shared} {a : Addr} {y : V} {u : Value} {A : Around} {E : Value -> Shared -> Prop}
end
end L2
namespace Att
open PySem PySem.W PySem.Calls PyProof.Rows
theorem hZ {P : Params} {h : Heap} : ∀ (ns : List Int) (vs : List Value),WellAll P h vs (ns.map WData.int) -> IntsAre vs ns := by
 intro ns
 induction ns with
 | nil =>
  intro vs w
  rw [List.map_nil] at w
  cases w
  exact .nil
 | cons n ns ih =>
  intro vs w
  rw [Ap] at w
  cases w with
  | cons a b =>
   cases a
   exact .cons _ _ (ih _ b)
theorem pf {l : OpenLaw} {n : Nat} (hn : l.most = some n) {P : Params} {h : Heap} {args : List WData} {vals : List Value}
  (hpre : l.row.toRowW.claim.pre args = true) (hwl : WellAll P h vals args) :
  ∃ a vs ns,vals = [Value.ref a] /\ args = [WData.list (ns.map WData.int)] /\ h.get? a = some { cls := .type "list",data := .seq vs.toArray } /\ IntsAre vs ns /\ ns.length <= n := by
 have hsh : WShape.hasAll [] args [.list .int] = true := (pre_splitW hpre).1
 have hc : l.pre.holds [] { args := args } = true := (pre_splitW hpre).2
 obtain ⟨d,r,rfl,h1,h2⟩ := hasAllW_cons hsh
 obtain rfl := hasAllW_nil h2
 obtain ⟨xs,rfl,h3⟩ := hasW_list h1
 obtain ⟨ns,rfl⟩ := items_int h3
 have hlen : ns.length <= n := by
  unfold OpenLaw.pre at hc
  have h4 : (WTm.not (.lt (.lit (.int (n : Int))) (.len (.arg 0)))).holds [] { args := [.list (ns.map .int)] } = true := by
   have h4 := (holds_andW hc).1
   rw [hn] at h4
   exact h4
  have h5 := condW_of h4 (w_not (w_lt w_lit (w_len_list (w_arg rfl))))
  rw [A5] at h5
  refine Nat.le_of_not_lt fun q => ?_
  have q' : (n : Int) < ((ns.length : Nat) : Int) := by omega
  first
   | (rw [decide_eq_true q'] at h5; exact absurd h5 (by decide))
   | (simp at h5; omega)
 cases hwl with
 | cons w1 w2 =>
  cases w2
  cases w1 with
  | list ho hall => exact ⟨_,_,ns,rfl,rfl,ho,hZ ns _ hall,hlen⟩
theorem ph (l : OpenLaw) (args : List WData) : l.row.toRowW.claim.post args (.bool true) args = true :=
 postW_of (r := l.row.toRowW) (X := (true == true))
  (show WShape.has [] (.bool true) .bool = true by first | rfl | decide | simp [WShape.has,WShape.arms,WShape.armsAll])
  (show (WTm.eq .res (.lit (.bool true))).value [] { args := args,res := some (.bool true),after := args } = some (.bool (true == true)) from w_eq_bool (w_res rfl) w_lit) rfl
theorem lB {l : OpenLaw} {n : Nat} {q : Program} {loose : List Str} {XP : (Str -> Option Value) -> Heap -> Prop} {YP : World -> Heap -> Prop} {d : DefRec}
  (hn : l.most = some n) (hdf : d.params.defaults = [])
  (call : ∀ (w : World) (s₀ s₁ : Shared) (mg mb : Str -> Option Value) (fa : Addr) (o : Obj) (pm cd doc : Value) (a : Addr) (vs : List Value) (ns : List Int),
   Ground q loose [] XP w s₀ mg mb s₁.heap -> YP w s₁.heap ->
   s₁.heap.get? fa = some o -> o.data = .func (docDef d.name d.params d.body d.scope pm cd doc) -> s₁.heap.CodeRec cd d.name -> mg d.name = some (.ref fa) ->
   s₁.heap.get? a = some { cls := .type "list",data := .seq vs.toArray } -> IntsAre vs ns -> ns.length <= n -> s₁.gens = #[] ->
   codeAny (model l.prog w) callerA (.call (.ref fa) ⟨[.ref a],[]⟩) (fun r s' => r = .ok (.ret (.bool true)) /\ OldK s₁.heap s'.heap /\ s'.os = s₁.os /\ AllBare s'.gens) s₁) :
  WalkO q loose XP YP l.row.toRowW d [] (fun f vs => PySem.call f vs) := by
 intro w s₀ s₁ mg mb G Y fa o pm cd doc dV kV ho hd hcd hD hmg hg args vals as hpre hlay hrd hwl hlo
 obtain rfl : dV = .none := Dflts.none hD hdf
 obtain rfl : kV = .none := Dflts.noKw hD
 obtain ⟨a,vs,ns,rfl,rfl,hobj,hints,hlen⟩ := pf hn hpre hwl
 refine enter_call (codeAny_mono (call w s₀ s₁ mg mb fa o pm cd doc a vs ns G Y ho (fd_plain hd) hcd hmg hobj hints hlen hg) fun r s' hq => ?_)
 obtain ⟨rfl,h2,h3,h4⟩ := hq
 exact ⟨.inl ⟨.bool true,.bool true,[],rfl,fun _ => rfl,.bool true,ph l _,fun _ => ⟨List.Pairwise.nil,fun _ hm => (nomatch hm)⟩⟩,h2,h3,h4⟩
section
variable {prog : Program} {w : World} {A : Around} {E : Value -> Shared -> Prop} {s : Shared} {K : Frag}
end
end Att
namespace L2
open PySem PySem.Spec PyProof.Rows
theorem jz : ∀ {vs : List Value} {ns : List Int},IntsAre vs ns -> aM (ns.map V.int) vs
 | _,_,.nil => .nil
 | _,_,.cons n t h => .cons ⟨t,rfl⟩ (jz h)
def vk (H : Hp) : Prop := ∀ b,H b = none ∨ ∃ o xs,H b = some (.frz o (.lst xs))
theorem qF {P : Program} {w : World} {K : A0} {mg mb : Str -> Option Value} {CX : nL} {k : Nat} {fa a : Addr} {fd : FuncData} {x : Str} {sp : Sp} {s₁ : Shared} {vs : List Value} {ns : List Int}
  (KX : K.In s₁.heap) (hns : s₁.heap.Ns mainGlobals mg) (hb : s₁.heap.Ns builtinsNs mb) (hbb : ∀ x : Str,x ≠ "__name__" -> mb x = bootBuiltins x) (hlim : s₁.heap.NoLimit) (hg : s₁.gens = #[])
  (ha : s₁.heap.get? a = some { cls := .type "list",data := .seq vs.toArray }) (hi : IntsAre vs ns) (hl : ns.length <= sizeLine) (hr : bQ k callerA)
  (F : ∀ base : Heap,K.In base -> base.Ns mainGlobals mg -> bg P w K mg base CX k fa fd [x] sp) (hbind : ∀ (s : Shared) (u : Value),BindsTo s fd ⟨[u],[]⟩ [(x,u)])
  (hsp : ∀ H : Hp,vk H -> bh K H a (ns.map V.int) -> sp [.ref a] H (fun v _ => v = .bl true) fun _ _ _ => False)
  (hCX : ∀ H e s',CX [] H s₁ (fun _ _ _ => False) e s' -> False) :
  codeAny (model P w) callerA (.call (.ref fa) ⟨[.ref a],[]⟩) (fun r s' => r = .ok (.ret (.bool true)) /\ OldK s₁.heap s'.heap /\ s'.os = s₁.os /\ AllBare s'.gens) s₁ := by
 have rv := jz hi
 have lenV := hi.length
 have core : ∀ H : Hp,vk H -> bh K H a (ns.map V.int) -> dQ P w H s₁.heap -> (∀ b,H b ≠ none -> b = a) -> (H a ≠ none -> K.lookup a = none) ->
   codeAny (model P w) callerA (.call (.ref fa) ⟨[.ref a],[]⟩) (fun r s' => r = .ok (.ret (.bool true)) /\ OldK s₁.heap s'.heap /\ s'.os = s₁.os /\ AllBare s'.gens) s₁ := by
  intro H hO hS hok hA hK
  have base_of : ∀ {b : Addr} {o : Obj},s₁.heap.get? b = some o -> H b = none -> (jZ s₁.heap H).get? b = some o := fun e n => qh e n
  have noA : ∀ {b : Addr} {o : Obj} {es : Array DictEntry} {ep : Nat},s₁.heap.get? b = some o -> o.data = .dict es ep -> H b = none := fun {b o es ep} e d => by
   cases q : H b with
   | none => rfl
   | some u =>
    have e' : b = a := hA b (by rw [q]; simp)
    subst e'
    rw [ha] at e; cases e
    have d' : Data.seq vs.toArray _ = Data.dict es ep := d
    cases d'
  have nsK : ∀ {b : Addr} {m : Str -> Option Value},s₁.heap.Ns b m -> (jZ s₁.heap H).Ns b m := fun {b m} ⟨o,es,ep,e,d,r⟩ => ⟨o,es,ep,base_of e (noA e d),d,r⟩
  have hKb : K.In (jZ s₁.heap H) := fun b o e => base_of (KX b o e) (by
   cases q : H b with
   | none => rfl
   | some u =>
    have e' : b = a := hA b (by rw [q]; simp)
    subst e'
    rw [hK (by rw [q]; simp)] at e; cases e)
  have hM : Mod K mg (jZ s₁.heap H) := ⟨hKb,nsK hns,⟨mb,nsK hb,hbb⟩,let ⟨mc,h1,h2⟩ := hlim; ⟨mc,nsK h1,h2⟩⟩
  have e0 : jc P w K mg (jZ s₁.heap H) callerA [] s₁ H := ⟨rfl,hM,fun b o e => sd e,Nat.le_of_eq (oQ _ _),trivial,fun b hb => absurd (show b ∈ ([] : List Addr) from hb) (by simp),hok,.of_eq hg⟩
  refine codeAny_mono ((F _ hKb (nsK hns)).run callerA [] s₁ H ⟨[.ref a],[]⟩ [.ref a] [.ref a] _ _ hr e0 (hbind s₁ (.ref a)) (.cons rfl .nil) (hsp H hO hS)) fun r s' h => ?_
  cases r with
  | error e => exact (hCX H e s' h).elim
  | ok fl =>
   cases fl with
   | next => exact False.elim h
   | brk => exact False.elim h
   | cont => exact False.elim h
   | ret u =>
    obtain ⟨v,H',os,bare,un,hok',r',q⟩ := h
    have q' : v = .bl true := q
    subst q'
    obtain rfl : u = Value.bool true := r'
    refine ⟨rfl,OldK.of_keep fun b o e => ?_,os,bare⟩
    cases q : H b with
    | none => exact un.keep b o e q (by intro z; exact absurd (show b ∈ ([] : List Addr) from z) (by simp)) (by simp)
    | some u =>
     rcases hO b with z | ⟨ob,xs,z⟩
     ·rw [q] at z; cases z
     ·have z2 := un.frzs b ob _ z
      obtain ⟨e1,_⟩ := hok b _ z
      obtain ⟨e2,_⟩ := hok' b _ z2
      rw [e] at e1; cases e1
      exact e2
 cases hk : K.lookup a with
 | some o =>
  have e := KX a o hk
  rw [ha] at e
  cases e
  refine core (fun _ => none) (fun _ => .inl rfl) (.inr ⟨_,vs.toArray,_,hk,rfl,rfl,rfl,by rw [AG,lenV]; exact hl,by simpa using rv⟩) (fun b u z => by have z' : (none : Option HO) = some u := z; cases z') (fun b z => absurd rfl z) fun z => absurd rfl z
 | none =>
  refine core (fun b => if b = a then some (.frz { cls := .type "list",data := .seq vs.toArray } (.lst (ns.map V.int))) else none) (fun b => ?_) (.inl (.inr ⟨{ cls := .type "list",data := .seq vs.toArray },if_pos rfl⟩)) (fun b u z => ?_) (fun b z => ?_) fun _ => hk
  ·by_cases hb : b = a
   ·exact .inr ⟨_,_,if_pos hb⟩
   ·exact .inl (if_neg hb)
  ·by_cases hb : b = a
   ·have z' := (if_pos hb).symm.trans z
    cases z'
    subst hb
    exact ⟨ha,by rw [A5]; exact hl,vs,_,rv,ha⟩
   ·have z' := (if_neg hb).symm.trans z
    cases z'
  ·by_cases hb : b = a
   ·exact hb
   ·exact absurd (if_neg hb) z
theorem sB {l : PySem.W.OpenLaw} {n k : Nat} {q : Program} {loose : List Str} {XP : (Str -> Option Value) -> Heap -> Prop} {YP : World -> Heap -> Prop} {d : DefRec} {K : Params -> A0} {CX : World -> nL} {sp : World -> Sp} {x : Str}
  (hn : l.most = some n) (hn2 : n <= sizeLine) (hdf : d.params.defaults = []) (hr : bQ k callerA)
  (hY : ∀ (w : World) (h : Heap),YP w h -> (K w.params).In h)
  (F : ∀ (w : World) (mg : Str -> Option Value) (fa : Addr) (h : Heap),(K w.params).In h -> h.Ns mainGlobals mg -> mg d.name = some (.ref fa) ->
   ∃ fd : FuncData,(∀ (s : Shared) (u : Value),BindsTo s fd ⟨[u],[]⟩ [(x,u)]) /\
    ∀ base : Heap,(K w.params).In base -> base.Ns mainGlobals mg -> bg l.prog w (K w.params) mg base (CX w) k fa fd [x] (sp w))
  (hsp : ∀ (w : World) (H : Hp) (a : Addr) (ns : List Int),ns.length <= n -> vk H -> bh (K w.params) H a (ns.map V.int) -> sp w [.ref a] H (fun v _ => v = .bl true) fun _ _ _ => False)
  (hCX : ∀ (w : World) (H : Hp) (s : Shared) (e : Value) (s' : Shared),CX w [] H s (fun _ _ _ => False) e s' -> False) :
  PySem.W.WalkO q loose XP YP l.row.toRowW d [] (fun f vs => PySem.call f vs) := by
 refine Att.lB hn hdf fun w s₀ s₁ mg mb fa o pm cd doc a vs ns G Y ho hd hcd hmg hobj hints hlen hg => ?_
 have KX := hY w _ Y
 obtain ⟨fd,hb,hF⟩ := F w mg fa _ KX G.T.g hmg
 exact qF KX G.T.g G.T.b G.T.builtins G.T.nolimit hg hobj hints (AR hlen hn2) hr hF hb (fun H hO hS => hsp w H a ns hlen hO hS) fun H e s' => hCX w H s₁ e s'
def cT (s : Stmt) : Arguments := match s with
 | .FunctionDef _ a _ _ _ _ _ _ _ _ => a
 | _ => { posonlyargs := [],args := [],vararg := none,kwonlyargs := [],kw_defaults := [],kwarg := none,defaults := [] }
def cq (s : Stmt) : List Stmt := match s with
 | .FunctionDef _ _ b _ _ _ _ _ _ _ => b
 | _ => []
def ap (s : Stmt) : Scope := match s with
 | .FunctionDef _ _ _ _ _ _ sc _ _ _ => sc
 | _ => { kind := .function,names := [],isGenerator := false,isCoroutine := false }
abbrev a9 : nL := fun _ _ _ _ _ _ => False
abbrev E0 : XK := fun _ _ _ => False
theorem nO {X : Cx} : iD a9 X E0 := fun _ _ _ _ _ _ _ h => h.elim
section
variable {P : Program} {w : World} {K : A0} {mg : Str -> Option Value} {base : Heap}
end
theorem bL {A : Around} {k : Nat} (hr : bQ k A) : A.units + 1 < cLine := Nat.lt_of_le_of_lt (Nat.add_le_add_left (by decide : 1 <= 64) _) hr.units
section
variable {X : Cx}
theorem pv (i : Nat) {x : Str} {pos : Pos} (hN : X.N[i]? = some x := by rfl) (hv : wu X.env.scope x := by first | exact Or.inl rfl | exact Or.inr (Or.inl rfl) | exact Or.inr (Or.inr rfl)) (hd : (x == ("__debug__" : Str)) = false := by decide)
  (hcd : (x == ("__classdict__" : Str)) = false := by decide) : PE X (.Name x pos) (sg i) := uT hN hv hd hcd
end
theorem bS {A B : Prop} (h : B) : if false = true then A else B := by
 rw [if_neg AE]
 exact h
theorem de {A B : Prop} (h : A) : if true = true then A else B := by
 rw [if_pos rfl]
 exact h
def ay (H H' : Hp) : Prop := ∀ b o,H b = some o -> H' b = some o
theorem ay.refl (H : Hp) : ay H H := fun _ _ h => h
theorem ay.trans {H H1 H2 : Hp} (a : ay H H1) (b : ay H1 H2) : ay H H2 := fun c o h => b c o (a c o h)
theorem ay.free {H H' : Hp} (e : ay H H') {l : Addr} (h : H' l = Option.none) : H l = Option.none := by
 cases q : H l with
 | none => rfl
 | some o =>
  rw [e l o q] at h
  cases h
theorem ay.seq {K : A0} {H H' : Hp} {a : Addr} {xs : List V} (e : ay H H') (h : bh K H a xs) : bh K H' a xs := by
 rcases h with (h | ⟨o,h⟩) | h
 ·exact .inl (.inl (e _ _ h))
 ·exact .inl (.inr ⟨o,e _ _ h⟩)
 ·exact .inr h
section
variable {X : Cx}
theorem cU : gq X (binaryOp .Mult) (rI (fun i j => IntMulOk i j) fun i j => .int (i * j)) := zc fun _ _ _ _ _ _ _ hc q => mul_int q hc
theorem bM : gq X (binaryOp .FloorDiv) (rI (fun i j => j ≠ 0 /\ Builtin.divisionGoesByPylong i j = false) fun i j => .int (i.fdiv j)) := zc fun _ _ _ _ _ _ _ hc q => floordiv_int hc.1 q (.inl hc.2)
theorem lC : cC X (.builtin "isinstance") (fun xs H Q => ∃ i,xs = [.int i,.ty "int"] /\ Q (.bl true) H) := by
 intro pins s σ H xs us Q I r h
 obtain ⟨i,rfl,q⟩ := h
 obtain ⟨u,w',rfl,⟨t,rfl⟩,e2⟩ := vals2 r
 cases e2
 exact PySem.call_isinstance (PySem.isinstance_true (Tx := "int") PySem.F.isi_meta_int PySem.F.isi_self_int) ⟨rfl,⟨.bl true,H,I,rfl,q⟩⟩
theorem ki : cC X (.builtin "isinstance") (fun xs H Q => ∃ i,xs = [.int i,.ty "bool"] /\ Q (.bl false) H) := by
 intro pins s σ H xs us Q I r h
 obtain ⟨i,rfl,q⟩ := h
 obtain ⟨u,w',rfl,⟨t,rfl⟩,e2⟩ := vals2 r
 cases e2
 exact PySem.call_isinstance (PySem.isinstance_false_int (T := "bool") (by decide) PySem.F.isi_meta_bool PySem.F.sub_int_bool) ⟨.bl false,H,I.tok _,rfl,q⟩
theorem lD : cC X (.builtin "isinstance") (fun xs H Q => ∃ i,xs = [.bl i,.ty "bool"] /\ Q (.bl true) H) := by
 intro pins s σ H xs us Q I r h
 obtain ⟨i,rfl,q⟩ := h
 obtain ⟨u,w',rfl,e1,e2⟩ := vals2 r
 cases e1
 cases e2
 exact PySem.call_isinstance (PySem.isinstance_true (Tx := "bool") PySem.F.isi_meta_bool PySem.F.isi_self_bool) ⟨rfl,⟨.bl true,H,I,rfl,q⟩⟩
theorem lE : cC X (.builtin "isinstance") (fun xs H Q => ∃ a ys,xs = [.ref a,.ty "tuple"] /\ cu X.K H a ys /\ Q (.bl true) H) := by
 intro pins s σ H xs us Q I r h
 obtain ⟨a,ys,rfl,hs,q⟩ := h
 obtain ⟨u,w',rfl,e1,e2⟩ := vals2 r
 cases e1
 cases e2
 obtain ⟨its,_,p1,_⟩ := I.tuple hs
 exact PySem.call_isinstance (PySem.isinstance_true (Tx := "tuple") PySem.F.isi_meta_tuple PySem.F.isi_self_tuple) ⟨p1.typeIs,⟨.bl true,H,I,rfl,q⟩⟩
end
end L2
namespace Sw
open PySem
def Bd (n : Nat) (x : Int) : Prop := x.natAbs < 2 ^ n
theorem Bd.mono {m n : Nat} {x : Int} (h : Bd m x) (e : m <= n) : Bd n x := AL h (Nat.pow_le_pow_right (by decide) e)
theorem Bd.of_le {n : Nat} {x y : Int} (h : Bd n y) (e : x.natAbs <= y.natAbs) : Bd n x := Nat.lt_of_le_of_lt e h
theorem Bd.mul {m n : Nat} {x y : Int} (h : Bd m x) (g : Bd n y) : Bd (m + n) (x * y) := by
 unfold Bd at *
 rw [Int.natAbs_mul,Nat.pow_add]
 exact Nat.mul_lt_mul_of_lt_of_le h (Nat.le_of_lt g) (Nat.lt_of_le_of_lt (AZ _) g)
theorem Bd.add {k : Nat} {x y : Int} (h : Bd k x) (g : Bd k y) : Bd (k + 1) (x + y) := by
 unfold Bd at *
 rw [Nat.pow_succ]
 generalize 2 ^ k = p at h g ⊢
 omega
theorem Bd.ok {m n : Nat} {x y : Int} (h : Bd m x) (g : Bd n y) (e : m + n <= 134217728 := by decide) : IntMulOk x y :=
 IntMulOk.of_le (intBits_le_iff.mpr h) (intBits_le_iff.mpr g) e
theorem Bd.div {n : Nat} {x y : Int} (h : Bd n y) (y0 : y ≠ 0) (e : n <= 9000 := by decide) : Builtin.divisionGoesByPylong x y = false := by
 refine PyProof.noPylong_of_log2 ((Nat.log2_lt (by omega)).mpr ?_)
 exact AL h (Nat.pow_le_pow_right (by decide) e)
theorem Bd.one : Bd 1 1 := by unfold Bd; decide
def bI (a b : Int) : Int := ((Int.gcd a b : Nat) : Int)
theorem sC (a b : Int) : 0 <= bI a b := Int.natCast_nonneg _
theorem mG (a b : Int) : bI (-a) b = bI a b := by unfold bI; rw [Int.neg_gcd]
theorem mH (a b : Int) : bI a (-b) = bI a b := by unfold bI; rw [Int.gcd_neg]
theorem jA {g l : Int} (hl : 0 < l) : bI l (g.fmod l) = bI g l := by
 unfold bI
 have e : g.fmod l = g - (g.fdiv l) * l := by rw [Int.fmod_def,Int.mul_comm]
 rw [e,Int.gcd_comm l,Int.gcd_sub_mul_right_left]
def qG (i : Int) : Int := if i < 0 then -i else i
theorem nP (i : Int) : 0 <= qG i := by unfold qG; split <;> omega
theorem qH (a b : Int) : bI (qG a) (qG b) = bI a b := by
 unfold qG
 split <;> split <;> simp only [mG,mH]
theorem jB {g : Int} (h : 0 <= g) : bI g 0 = g := by
 unfold bI; rw [Int.gcd_zero_right]; omega
theorem fX {a b : Int} (h : bI a b = 0) : a = 0 /\ b = 0 := by
 unfold bI at h
 exact Int.gcd_eq_zero_iff.mp (by omega)
theorem iI (a b : Int) : bI a b ∣ a := Int.gcd_dvd_left ..
theorem fJ (a b : Int) : bI a b ∣ b := Int.gcd_dvd_right ..
structure Fr (p q a b : Int) : Prop where
 pos : 0 < q
 low : bI p q = 1
 same : p * b = a * q
 bt : p.natAbs <= a.natAbs
 bb : q.natAbs <= b.natAbs
structure qI (p q : Int) : Prop where
 pos : 0 < q
 low : bI p q = 1
theorem Fr.to {p q a b : Int} (h : Fr p q a b) : qI p q := ⟨h.pos,h.low⟩
theorem gX {p q k : Int} (h : bI p q = 1) (d : q ∣ p * k) : q ∣ k := by
 have c : Int.gcd q p = 1 := by unfold bI at h; rw [Int.gcd_comm]; omega
 have d' : q.natAbs ∣ p.natAbs * k.natAbs := by rw [<- Int.natAbs_mul]; exact Int.natAbs_dvd_natAbs.mpr d
 exact Int.natAbs_dvd_natAbs.mp (Nat.Coprime.dvd_of_dvd_mul_left (show Nat.Coprime q.natAbs p.natAbs from c) d')
theorem mI {p q p' q' : Int} (h : qI p q) (h' : qI p' q') (e : p * q' = p' * q) : p = p' /\ q = q' := by
 have d1 : q ∣ q' := gX h.low (by rw [e]; exact Int.dvd_mul_left ..)
 have d2 : q' ∣ q := gX h'.low (by rw [<- e]; exact Int.dvd_mul_left ..)
 have eq : q = q' := by
  have n1 := Int.le_of_dvd h'.pos d1
  have n2 := Int.le_of_dvd h.pos d2
  omega
 subst eq
 exact ⟨Int.eq_of_mul_eq_mul_right (by have := h.pos; omega) e,rfl⟩
def jb (a b : Int) : Int := if b < 0 then -bI a b else bI a b
theorem mJ {a b : Int} (h : b ≠ 0) : jb a b ≠ 0 := by
 have g : bI a b ≠ 0 := fun z => h (fX z).2
 unfold jb; split <;> omega
theorem uH {a b : Int} (h : b ≠ 0) : Fr (a.fdiv (jb a b)) (b.fdiv (jb a b)) a b := by
 have g : bI a b ≠ 0 := fun z => h (fX z).2
 have p : 0 < bI a b := by have := sC a b; omega
 have c0 := mJ (a := a) h
 have da : jb a b ∣ a := by
  unfold jb; split
  ·exact Int.neg_dvd.mpr (iI a b)
  ·exact iI a b
 have db : jb a b ∣ b := by
  unfold jb; split
  ·exact Int.neg_dvd.mpr (fJ a b)
  ·exact fJ a b
 obtain ⟨x,hx⟩ := da
 obtain ⟨y,hy⟩ := db
 have ex : a.fdiv (jb a b) = x := by
  conv => lhs; arg 1; rw [hx]
  exact Int.mul_fdiv_cancel_left x c0
 have ey : b.fdiv (jb a b) = y := by
  conv => lhs; arg 1; rw [hy]
  exact Int.mul_fdiv_cancel_left y c0
 rw [ex,ey]
 have yp : 0 < y := by
  have e := hy
  unfold jb at e
  rcases (by omega : y < 0 ∨ y = 0 ∨ 0 < y) with q | q | q
  ·exfalso
   split at e
   ·rename_i hb
    have := Int.mul_neg_of_pos_of_neg p q
    rw [Int.neg_mul] at e
    omega
   ·have := Int.mul_neg_of_pos_of_neg p q
    omega
  ·rw [q] at hy; omega
  ·exact q
 have lowx : bI x y = 1 := by
  have m : bI (jb a b * x) (jb a b * y) = bI a b * bI x y := by
   show ((Int.gcd _ _ : Nat) : Int) = _ * ((Int.gcd x y : Nat) : Int)
   rw [Int.gcd_mul_left,Int.natCast_mul]
   congr 1
   unfold jb; split <;> omega
  rw [<- hx,<- hy] at m
  exact Int.eq_one_of_mul_eq_self_right g m.symm
 refine ⟨yp,lowx,?_,?_,?_⟩
 ·conv => lhs; rw [hy]
  conv => rhs; rw [hx]
  rw [<- Int.mul_assoc,Int.mul_comm x]
 ·have : a.natAbs = (jb a b).natAbs * x.natAbs := by conv => lhs; rw [hx]; rw [Int.natAbs_mul]
  rw [this]
  exact Nat.le_mul_of_pos_left _ (by omega)
 ·have : b.natAbs = (jb a b).natAbs * y.natAbs := by conv => lhs; rw [hy]; rw [Int.natAbs_mul]
  rw [this]
  exact Nat.le_mul_of_pos_left _ (by omega)
end Sw
namespace L2
open PySem
inductive wW (K : A0) (H : Hp) : V -> String -> Bool -> Prop where
 | ii (i : Int) : wW K H (.int i) "int" true
 | ib (i : Int) : wW K H (.int i) "bool" false
 | bb (b : Bool) : wW K H (.bl b) "bool" true
 | tt (a : Addr) (ys : List V) (h : cu K H a ys) : wW K H (.ref a) "tuple" true
theorem lG {X : Cx} : cC X (.builtin "isinstance") (fun xs H Q => ∃ x T b,xs = [x,.ty T] /\ wW X.K H x T b /\ Q (.bl b) H) := by
 intro pins s σ H xs us Q I r h
 obtain ⟨x,T,b,rfl,i,q⟩ := h
 cases i with
 | ii i => exact lC pins s σ H _ us Q I r ⟨i,rfl,q⟩
 | ib i => exact ki pins s σ H _ us Q I r ⟨i,rfl,q⟩
 | bb i => exact lD pins s σ H _ us Q I r ⟨i,rfl,q⟩
 | tt a ys h => exact lE pins s σ H _ us Q I r ⟨a,ys,rfl,h,q⟩
end L2
namespace Sw
open PySem L2
theorem dT {p A B : Prop} [Decidable p] (h : p) (a : A) : if decide p = true then A else B := by rw [if_pos (decide_eq_true h)]; exact a
theorem dF {p A B : Prop} [Decidable p] (h : ¬ p) (b : B) : if decide p = true then A else B := by rw [if_neg (by simp [h])]; exact b
theorem d2 {p A B : Prop} [Decidable p] (h1 : p -> A) (h2 : ¬ p -> B) : if decide p = true then A else B := by
 by_cases h : p
 ·exact dT h (h1 h)
 ·exact dF h (h2 h)
theorem nT {p A B : Prop} [Decidable p] (h : ¬ p) (a : A) : if (!decide p) = true then A else B := by rw [if_pos (by simp [h])]; exact a
theorem nF {p A B : Prop} [Decidable p] (h : p) (b : B) : if (!decide p) = true then A else B := by rw [if_neg (by simp [h])]; exact b
theorem vi {a b : Int} (h : a = b) : V.int a = V.int b := by rw [h]
theorem vj {a b : Int} (h : V.int a = V.int b) : a = b := by cases h; rfl
theorem wk {a b : Int} {A B : Prop} (h1 : a = b -> A) (h2 : a ≠ b -> B) : if decide (V.int a = V.int b) = true then A else B := d2 (fun h => h1 (vj h)) fun h => h2 fun e => h (vi e)
theorem yI {a b : Int} {A B : Prop} (h1 : a ≠ b -> A) (h2 : a = b -> B) : if (!decide (V.int a = V.int b)) = true then A else B := by
 by_cases h : a = b
 ·exact nF (vi h) (h2 h)
 ·exact nT (fun e => h (vj e)) (h1 h)
theorem Ak {a b : Int} {A B : Prop} (h : a = b) (x : A) : if decide (V.int a = V.int b) = true then A else B := dT (vi h) x
theorem sD {a b : Int} {A B : Prop} (h : a ≠ b) (x : B) : if decide (V.int a = V.int b) = true then A else B := dF (fun e => h (vj e)) x
theorem Al {a b : Int} {A B : Prop} (h : a ≠ b) (x : A) : if (!decide (V.int a = V.int b)) = true then A else B := nT (fun e => h (vj e)) x
theorem wX {a b : Int} {A B : Prop} (h : a = b) (x : B) : if (!decide (V.int a = V.int b)) = true then A else B := nF (vi h) x
section
variable {X : Cx} {k j : Nat} {x : Str} {ps : List Str} {sp : Sp} {p pos : Pos} {e : Expr} {es : List Expr} {t : TA}
end
def nQ : Sp := fun vs H Q _ => ∃ a b : Int,vs = [.int a,.int b] /\ Q (.int (bI a b)) H
def mK (K : A0) : Sp := fun vs H Q _ => ∃ (a : Addr) (ns : List Int) (k : Int),vs = [.ref a,.int k] /\ bh K H a (ns.map V.int) /\ 0 <= k /\ ∀ v : Int,Q (.int v) H
def kj : Sp := fun vs H Q _ => ∃ v : Int,vs = [.int v] /\ Q (.bl true) H
def nR (K : A0) : Sp := fun vs H Q _ => ∃ (a : Addr) (ns : List Int),vs = [.ref a] /\ bh K H a (ns.map V.int) /\ ns.length <= 63 /\ ∀ H',Q (.bl true) H'
theorem sE {ns : List Int} {k : Int} (h0 : 0 <= k) (h : k < (((ns.map V.int).length : Nat) : Int)) : ∃ v : Int,fo (ns.map V.int) k = some (.int v) := by
 rw [A5] at h
 have hk : k.toNat < ns.length := by omega
 have ek : k = ((k.toNat : Nat) : Int) := by omega
 have q : fo (ns.map V.int) ((k.toNat : Nat) : Int) = some (.int ns[k.toNat]) := bV (by rw [AK,A2 hk] <;> rfl)
 rw [<- ek] at q
 exact ⟨_,q⟩
theorem cut {t u : TS} {D : Ends} {σ : L2.St} {H : Hp} (I : L2.St -> Hp -> Prop) (h1 : ∀ N : L2.St -> Hp -> Prop,(∀ σ H,I σ H -> N σ H) -> t { D with nx := N } σ H) (h2 : ∀ σ H,I σ H -> u D σ H) : wA t u D σ H := h1 _ h2
theorem wY {K : A0} {H H' : Hp} {a : Addr} {xs : List V} (e : ay H H') (h : cu K H a xs) : cu K H' a xs := by
 rcases h with (h | ⟨o,h⟩) | h
 ·exact .inl (.inl (e _ _ h))
 ·exact .inl (.inr ⟨o,e _ _ h⟩)
 ·exact .inr h
theorem aj {H : Hp} {p : Addr} (h : H p = none) (o : HO) : ay H (aq H p o) := fun b u q => by rw [ae (aQ q h)]; exact q
theorem sG {a b : Int} (h : 0 < b) : jb a b = bI a b := by unfold jb; rw [if_neg (by omega)]
theorem qJ {n : Nat} {a b : Int} (b0 : b ≠ 0) (h : Bd n b) : Bd n (jb a b) := by
 have d : bI a b ∣ b := fJ a b
 have k := Nat.le_of_dvd (by omega) (Int.natAbs_dvd_natAbs.mpr d)
 refine h.of_le ?_
 unfold jb
 split <;> omega
def Pair (H : Hp) (Q : VK) (p q : Int) : Prop := ∀ (t : Addr) (H' : Hp),ay H H' -> H' t = some (.tup [.int p,.int q]) -> Q (.ref t) H'
def nS : Sp := fun vs H Q _ => ∃ a b : Int,vs = [.int a,.int b] /\ 0 < b /\ Bd 8500 b /\ ∀ p q : Int,Fr p q a b -> Pair H Q p q
def sH : Sp := fun vs H Q _ => ∃ a b : Int,vs = [.int a,.int b] /\ b ≠ 0 /\ Bd 8500 b /\ ∀ p q : Int,Fr p q a b -> Pair H Q p q
structure fq (K : A0) (n : Nat) (H : Hp) (t : Addr) (p q : Int) : Prop where
 at_ : cu K H t [.int p,.int q]
 pos : 0 < q
 bp : Bd n p
 bq : Bd n q
theorem fq.same {K : A0} {n : Nat} {H H' : Hp} {t : Addr} {p q : Int} (h : fq K n H t p q) (e : ay H H') : fq K n H' t p q := ⟨wY e h.at_,h.pos,h.bp,h.bq⟩
theorem fq.mono {K : A0} {m n : Nat} {H : Hp} {t : Addr} {p q : Int} (h : fq K m H t p q) (e : m <= n) : fq K n H t p q := ⟨h.at_,h.pos,h.bp.mono e,h.bq.mono e⟩
structure bK (K : A0) (x qual : Str) (st : Stmt) (dV : Value) (f : Addr) (fd : FuncData) : Prop where
 ex : ∃ (oc : Value) (od : Option Addr) (kV doc pm : Value) (an : Option Addr) (cdv ct : Value) (osl : Array (Option Value)),
  fd = Ay x qual (cT st) (cq st) (ap st) dV kV doc pm an cdv ct /\ K.lookup f = some ⟨oc,od,.func fd,osl⟩ /\ BI K cdv qual = true
 kp : Aw K (.ref f) = true
section
variable {P : Program} {w : World} {K : A0} {mg : Str -> Option Value} {base : Heap}
theorem bK.ok {x qual : Str} {st : Stmt} {dV : Value} {f : Addr} {fd : FuncData} {N ps : List Str} {k : Nat} {sp : Sp} (F : bK K x qual st dV f fd) (S : aA N ps (ap st)) (len : ∀ vs H Q E,sp vs H Q E -> vs.length = ps.length)
  (hbody : ∀ (cdv : Value) (A : Around) (outer : List Env) (s : Shared) (H : Hp) (vs : List V) (Q : VK) (E : XK),bQ k (A.deeper (PyProof.Rows.envOfC qual (ap st) s.heap.objs.size f cdv)) -> sp vs H Q E ->
   ∃ t,ja (gF a9 P w K mg base N qual (ap st) f cdv A outer s H E).nox (cq st) t /\ t { nx := fun _ H' => Q .non H',rt := Q } (start N vs) H) : bg P w K mg base a9 (k + 1) f fd ps sp := by
 obtain ⟨oc,od,kV,doc,pm,an,cdv,ct,osl,rfl,lk,hcd⟩ := F.ex
 refine uD lk hcd S len fun A outer s H vs Q E hr hsp => ?_
 obtain ⟨t,h,q⟩ := hbody cdv A outer s H vs Q E hr hsp
 exact ⟨t,h.nox,q⟩
theorem bK.binds {x qual : Str} {st : Stmt} {T : Addr} {f : Addr} {fd : FuncData} {ps : List Str} {o : Obj} {items : Array Value} {n : Nat} {ds : List Value} (F : bK K x qual st (.ref T) f fd) (ho : K.lookup T = some o) (hs : o.data = .seq items n)
  (h : ∀ (kV doc pm : Value) (an : Option Addr) (cdv ct : Value) (us : List Value),(us ++ ds).length = ps.length -> ∃ k : Option (Array Value) -> Sem (List (Str × Value)),bindArgs (Ay x qual (cT st) (cq st) (ap st) (.ref T) kV doc pm an cdv ct) ⟨us,[]⟩ = seqItems? (.ref T) >>= k /\ k (some items) = pure (ps.zip (us ++ ds))) : Binds K fd ps ds := by
 obtain ⟨oc,od,kV,doc,pm,an,cdv,ct,osl,rfl,lk,hcd⟩ := F.ex
 intro s us KX hl
 obtain ⟨k,h1,h2⟩ := h kV doc pm an cdv ct us hl
 exact PySem.W.binds_K KX rfl ho hs h1 h2
theorem bK.binds0 {x qual : Str} {st : Stmt} {dV : Value} {f : Addr} {fd : FuncData} {ps : List Str} (F : bK K x qual st dV f fd)
  (h : ∀ (kV doc pm : Value) (an : Option Addr) (cdv ct : Value) (us : List Value),us.length = ps.length -> bindArgs (Ay x qual (cT st) (cq st) (ap st) dV kV doc pm an cdv ct) ⟨us,[]⟩ = pure (ps.zip us)) : Binds K fd ps [] := by
 obtain ⟨oc,od,kV,doc,pm,an,cdv,ct,osl,rfl,lk,hcd⟩ := F.ex
 exact .all (h kV doc pm an cdv ct)
theorem aJ {x qual : Str} {st : Stmt} {f : Addr} {oc dV : Value} {od an : Option Addr} {osl : Array (Option Value)} {kV doc pm cdv ct : Value} (l : K.lookup f = some ⟨oc,od,.func (Ay x qual (cT st) (cq st) (ap st) dV kV doc pm an cdv ct),osl⟩)
  (c : BI K cdv qual = true) (k : Aw K (.ref f) = true) : bK K x qual st dV f (Ay x qual (cT st) (cq st) (ap st) dV kV doc pm an cdv ct) := ⟨⟨oc,od,kV,doc,pm,an,cdv,ct,osl,rfl,l,c⟩,k⟩
end
section
variable {X : Cx} {k j : Nat} {x : Str} {ps : List Str} {sp : Sp} {p pos : Pos} {e : Expr} {es : List Expr} {t : TA} {dvs : List V}
end
def mL (K : A0) : Sp := fun vs H Q _ => ∃ (t t' : Addr) (p q p' q' : Int),vs = [.ref t,.ref t'] /\ fq K 4000 H t p q /\ fq K 4000 H t' p' q' /\ ∀ r s : Int,Fr r s (p * p') (q * q') -> Pair H Q r s
theorem qK {x y k : Int} (h : x * k = y * k) (k0 : k ≠ 0) : x = y := Int.eq_of_mul_eq_mul_right k0 h
theorem vm {x y : Int} (h : 0 < x) (g : 0 < y) : x * y ≠ 0 := by have := Int.mul_pos h g; omega
end Sw
namespace XH
open PySem
structure Mv (fs ch : List Addr) (h h' : Heap) : Prop where
 keep : ∀ b o,b ∉ fs -> b ∉ ch -> h.get? b = some o -> h'.get? b = some o
 slot : ∀ b o,b ∈ fs -> b ∉ ch -> h.get? b = some o -> ∃ sl,h'.get? b = some { o with slots := sl }
 there : ∀ b o,h.get? b = some o -> ∃ o',h'.get? b = some o'
theorem Mv.refl (fs ch : List Addr) (h : Heap) : Mv fs ch h h := ⟨fun _ _ _ _ q => q,fun _ o _ _ q => ⟨o.slots,q⟩,fun _ o q => ⟨o,q⟩⟩
theorem Mv.trans {fs c1 c2 ch : List Addr} {h h1 h2 : Heap} (x : Mv fs c1 h h1) (y : Mv fs c2 h1 h2) (k1 : ∀ b,b ∈ c1 -> b ∈ ch) (k2 : ∀ b,b ∈ c2 -> b ∈ ch) : Mv fs ch h h2 where
 keep := fun b o hf hc q => y.keep b o hf (fun z => hc (k2 b z)) (x.keep b o hf (fun z => hc (k1 b z)) q)
 slot := fun b o hf hc q => by
  obtain ⟨sl,q1⟩ := x.slot b o hf (fun z => hc (k1 b z)) q
  obtain ⟨sl2,q2⟩ := y.slot b _ hf (fun z => hc (k2 b z)) q1
  exact ⟨sl2,q2⟩
 there := fun b o q => by
  obtain ⟨o1,q1⟩ := x.there b o q
  exact y.there b o1 q1
inductive uI where
 | new
 | fl (v : Value)
def uI.Is (F : Addr -> Prop) (h : Heap) (e : Addr) (vs : Array Value) : uI -> Prop
 | .new => vs[1]? = some .none
 | .fl v => ∃ T oT ts,vs[1]? = some (.ref T) /\ F T /\ T ≠ e /\ h.get? T = some oT /\ oT.data = .fields ts /\ ts[3]? = some v
def Fz (vs : Array Value) : Prop := 1 < vs.size /\ vs[2]? = some .none
theorem Fz.set {vs : Array Value} (h : Fz vs) (v : Value) : Fz (vs.setIfInBounds 1 v) := ⟨by simpa using h.1,by rw [Array.getElem?_setIfInBounds]; simp [h.2]⟩
structure XO (F : Addr -> Prop) (h : Heap) (e : Addr) (cls : Value) (dx : Option Addr) (st : uI) : Prop where
 ex : ∃ oe vs,h.get? e = some oe /\ oe.cls = cls /\ oe.dict = dx /\ oe.data = .fields vs /\ Fz vs /\ st.Is F h e vs
 fr : F e
theorem XO.mono {F G : Addr -> Prop} {h : Heap} {e : Addr} {cls : Value} {dx : Option Addr} {st : uI} (x : XO F h e cls dx st) (k : ∀ b,F b -> G b) : XO G h e cls dx st := by
 obtain ⟨⟨oe,vs,a,b,c,d,f,g⟩,fr⟩ := x
 refine ⟨⟨oe,vs,a,b,c,d,f,?_⟩,k _ fr⟩
 cases st with
 | new => exact g
 | fl v =>
  obtain ⟨T,oT,ts,g1,g2,g3⟩ := g
  exact ⟨T,oT,ts,g1,k _ g2,g3⟩
theorem jC (o : Obj) (f : Array Value -> Array Value) : (o.mapFields f).dict = o.dict := by
 obtain ⟨c,d,dt,sl⟩ := o
 cases dt <;> rfl
section
variable {M : Model} {A : Around} {E : Value -> Shared -> Prop} {s : Shared}
theorem lH {base : Heap} {env : Env} {outer : List Env} {L e : Addr} {oe : Obj} {vs : Array Value} {head : Value} {had : Bool} {Q : Unit -> Shared -> Prop}
  (hfr : A.frames = some (env :: outer)) (hl : s.heap.FunFrames base (env :: outer)) (hf : env.frame = some L) (he : s.heap.get? e = some oe) (hd : oe.data = .fields vs) (hsz : 1 < vs.size)
  (h : ∀ h' T,Mv ((env :: outer).filterMap (·.frame)) [e] s.heap h' -> s.heap.get? T = none -> T ≠ e -> h'.get? e = some (oe.mapFields (·.setIfInBounds 1 (.ref T))) ->
   (∃ oT ts,h'.get? T = some oT /\ oT.data = .fields ts /\ ts[3]? = some (rawInt L)) -> Q () { s with heap := h' }) :
  wpAny M A (do let a <- frameOf env; let pl <- entryPlaceOf L had; let b <- EntryCells.newEntry head a .none (rawInt L) .none pl; setField (.ref e) 1 b) Q E s := by
 have hne : e ∉ (env :: outer).filterMap (·.frame) := by
  intro hm
  obtain ⟨_,o,ho,hnf⟩ := hl.mem hm
  rw [he] at ho
  cases ho
  exact hnf vs hd
 apply wpAny_bind
 apply wpAny_frameOf_fun hfr hl hf
 intro h1 hs
 apply wpAny_bind
 apply wpAny_entryPlaceOf
 intro pl hpl
 unfold EntryCells.newEntry newFields
 apply wpAny_bind
 refine wpAny_newObj_type ?_ (hpl.sizeOk5 ..)
 have e1 : h1.get? e = some oe := (hs.2.1 e hne).trans he
 generalize hob : ({ cls := .type "traceback",dict := none,data := .fields ([head,.ref L,.none,rawInt L,.none] ++ (if pl.isEmpty then List.replicate 6 Value.none else pl)).toArray } : Obj) = ob
 have e2 := Heap.get?_push_of_some (h := h1) ob e1
 refine wpAny_setField e2 hd hsz ?_
 have hTe : h1.objs.size ≠ e := Nat.ne_of_gt (Heap.lt_size e1)
 have d3 := Obj.data_mapFields hd (·.setIfInBounds 1 (Value.ref h1.objs.size))
 have e3 := Heap.get?_update_self (Obj.mapFields (·.setIfInBounds 1 (Value.ref h1.objs.size))) e2 (Obj.isFreed_of_fields d3)
 have kp : ∀ b o,b ≠ e -> h1.get? b = some o -> ((h1.push ob).update e (Obj.mapFields (·.setIfInBounds 1 (Value.ref h1.objs.size)))).get? b = some o := by
  intro b o hb q
  rw [Heap.get?_update_other _ _ (Ne.symm hb)]
  exact Heap.get?_push_of_some _ q
 have t3 : ((h1.push ob).update e (Obj.mapFields (·.setIfInBounds 1 (Value.ref h1.objs.size)))).get? h1.objs.size = some ob := by
  rw [Heap.get?_update_other _ _ (Ne.symm hTe)]
  exact Heap.get?_push_size h1 (by rw [<- hob]; rfl)
 refine h _ h1.objs.size ⟨?_,?_,?_⟩ ?_ hTe e3 ?_
 ·intro b o hb hc q
  exact kp b o (fun z => hc (by rw [z]; exact A3.mpr rfl)) ((hs.2.1 b hb).trans q)
 ·intro b o hb hc q
  obtain ⟨sl,q1⟩ := hs.2.2 b o q
  exact ⟨sl,kp b _ (fun z => hc (by rw [z]; exact A3.mpr rfl)) q1⟩
 ·intro b o q
  by_cases hb : b = e
  ·subst hb
   exact ⟨_,e3⟩
  ·obtain ⟨sl,q1⟩ := hs.2.2 b o q
   exact ⟨_,kp b _ hb q1⟩
 ·exact Heap.get?_none_of_le (by rw [hs.1]; exact A4 _)
 ·subst hob
  refine ⟨_,_,t3,rfl,?_⟩
  rcases hpl with rfl | ⟨_,_,_,_,_,_,_,rfl⟩ <;> simp
theorem pA {F : Addr -> Prop} {e : Addr} {cls v : Value} {dx fl : Option Addr} {Q : Unit -> Shared -> Prop} (x : XO F s.heap e cls dx (.fl v))
  (h : ∀ h' T,F T -> Mv [] [T] s.heap h' -> XO F h' e cls dx (.fl (fl.elim .none fun f => rawInt f)) -> Q () { s with heap := h' }) : wpAny M A (setFlight (.ref e) fl) Q E s := by
 obtain ⟨⟨oe,vs,he,hc,hdx,hd,hsz,T,oT,ts,h1,hF,hTe,hT,hdT,h3⟩,fr⟩ := x
 have z3 : 3 < ts.size := (Array.getElem?_eq_some_iff.mp h3).1
 have oth : ∀ b,b ≠ T -> (s.heap.update T (Obj.mapFields (·.setIfInBounds 3 (fl.elim Value.none fun f => rawInt f)))).get? b = s.heap.get? b := fun b hb => Heap.get?_update_other _ _ (Ne.symm hb)
 have t4 := Heap.get?_update_self (Obj.mapFields (·.setIfInBounds 3 (fl.elim Value.none fun f => rawInt f))) hT (Obj.isFreed_of_fields (Obj.data_mapFields hdT _))
 unfold setFlight
 apply wpAny_bind
 apply wpAny_field he hd h1
 rw [if_pos (by simp)]
 apply wpAny_setField hT hdT z3
 refine h _ T hF ⟨?_,fun b o hb => absurd hb (by simp),?_⟩ ⟨⟨oe,vs,(oth e (Ne.symm hTe)).trans he,hc,hdx,hd,hsz,T,_,_,h1,hF,hTe,t4,Obj.data_mapFields hdT _,by simp [z3]⟩,fr⟩
 ·intro b o _ hb q
  exact (oth b (fun z => hb (by rw [z]; exact A3.mpr rfl))).trans q
 ·intro b o q
  by_cases hb : b = T
  ·subst hb
   exact ⟨_,t4⟩
  ·exact ⟨o,(oth b hb).trans q⟩
theorem sI {F : Addr -> Prop} {base : Heap} {env : Env} {outer : List Env} {L e : Addr} {cls : Value} {dx : Option Addr} {st : uI} {Q : Unit -> Shared -> Prop}
  (hfr : A.frames = some (env :: outer)) (hl : s.heap.FunFrames base (env :: outer)) (hf : env.frame = some L) (x : XO F s.heap e cls dx st)
  (h : ∀ h' ch,(∀ b ∈ ch,F b) -> Mv ((env :: outer).filterMap (·.frame)) ch s.heap h' -> XO (fun b => F b ∨ s.heap.get? b = none) h' e cls dx (.fl (rawInt L)) -> Q () { s with heap := h' }) : wpAny M A (noteFrame (.ref e) env) Q E s := by
 obtain ⟨⟨oe,vs,he,hc,hdx,hd,hsz,hst⟩,fr⟩ := x
 unfold noteFrame
 simp only [hf]
 cases st with
 | new =>
  apply wpAny_bind
  apply wpAny_field he hd hst
  rw [if_neg (by decide)]
  refine lH hfr hl hf he hd hsz.1 fun h' T mv tn tne he' ⟨oT,ts,hT,hdT,h3⟩ => ?_
  refine h h' [e] (fun b hb => by rw [A3.mp hb]; exact fr) mv ⟨⟨_,_,he',?_,?_,Obj.data_mapFields hd _,hsz.set _,T,oT,ts,by simp [hsz.1],.inr tn,tne,hT,hdT,h3⟩,.inl fr⟩
  ·rw [Obj.cls_mapFields]; exact hc
  ·rw [jC]; exact hdx
 | fl v =>
  obtain ⟨T,oT,ts,h1,hF,hTe,hT,hdT,h3⟩ := hst
  have z3 : 3 < ts.size := (Array.getElem?_eq_some_iff.mp h3).1
  apply wpAny_bind
  apply wpAny_field he hd h1
  rw [if_pos (by simp)]
  apply wpAny_bind
  apply wpAny_field hT hdT h3
  by_cases hv : (v == rawInt L) = true
  ·rw [if_pos hv]
   have ev : v = rawInt L := beq_iff_eq.mp hv
   subst ev
   refine wpAny_pure (h s.heap [] (fun b hb => absurd hb (by simp)) (.refl ..) ⟨⟨oe,vs,he,hc,hdx,hd,hsz,T,oT,ts,h1,.inl hF,hTe,hT,hdT,h3⟩,.inl fr⟩)
  ·rw [if_neg hv]
   apply wpAny_bind
   apply wpAny_setField hT hdT z3
   have oth : ∀ b,b ≠ T -> (s.heap.update T (Obj.mapFields (·.setIfInBounds 3 Value.none))).get? b = s.heap.get? b := fun b hb => Heap.get?_update_other _ _ (Ne.symm hb)
   have t4 := Heap.get?_update_self (Obj.mapFields (·.setIfInBounds 3 Value.none)) hT (Obj.isFreed_of_fields (Obj.data_mapFields hdT _))
   have nrec : ∀ b o,s.heap.get? b = some o -> (∀ vs,o.data ≠ .fields vs) -> b ≠ T := by
    intro b o hb hn z
    rw [z,hT] at hb
    cases hb
    exact hn ts hdT
   have mv1 : Mv ((env :: outer).filterMap (·.frame)) [T] s.heap (s.heap.update T (Obj.mapFields (·.setIfInBounds 3 Value.none))) := by
    refine ⟨fun b o _ hb q => (oth b (fun z => hb (by rw [z]; exact A3.mpr rfl))).trans q,fun b o _ hb q => ⟨o.slots,(oth b (fun z => hb (by rw [z]; exact A3.mpr rfl))).trans q⟩,fun b o q => ?_⟩
    by_cases hb : b = T
    ·subst hb
     exact ⟨_,t4⟩
    ·exact ⟨o,(oth b hb).trans q⟩
   refine lH (s := { s with heap := s.heap.update T (Obj.mapFields (·.setIfInBounds 3 Value.none)) }) hfr (hl.of_keeps fun b o hb hn => ⟨o,(oth b (nrec b o hb hn)).trans hb,rfl⟩) hf ((oth e (Ne.symm hTe)).trans he) hd hsz.1 fun h' T2 mv tn tne he' ⟨oT2,ts2,hT2,hdT2,h32⟩ => ?_
   refine h h' [T,e] ?_ (mv1.trans mv (fun b hb => by simp at hb; simp [hb]) (fun b hb => by simp at hb; simp [hb])) ⟨⟨_,_,he',?_,?_,Obj.data_mapFields hd _,hsz.set _,T2,oT2,ts2,by simp [hsz.1],.inr ?_,tne,hT2,hdT2,h32⟩,.inl fr⟩
   ·intro b hb
    simp at hb
    rcases hb with rfl | rfl
    ·exact hF
    ·exact fr
   ·rw [Obj.cls_mapFields]; exact hc
   ·rw [jC]; exact hdx
   ·cases q : s.heap.get? T2 with
    | none => rfl
    | some o =>
     obtain ⟨o',q'⟩ := mv1.there T2 o q
     rw [q'] at tn
     cases tn
end
end XH
namespace L2
open PySem PySem.Spec PyProof.Rows XH
structure eU (P : Program) (w : World) (outer : List Env) (H : Hp) (s : Shared) (a : Addr) (H' : Hp) (cls : Value) (dx : Option Addr) (st : uI) (s' : Shared) : Prop where
 os : s'.os = s.os
 bare : AllBare s'.gens
 un : Un (gS outer) [] H H' s.heap s'.heap
 hok : dQ P w H' s'.heap
 xo : XO (fun b => s.heap.get? b = none /\ H' b = none) s'.heap a cls dx st
def dz (P : Program) (w : World) : nL := fun outer H s E e s' => ∃ a H' cls dx st,e = .ref a /\ eU P w outer H s a H' cls dx st s' /\ E cls dx H'
section
variable {P : Program} {w : World} {H H' : Hp} {h h' h0 : Heap} {fs ch : List Addr} {a : Addr} {o : HO}
theorem aV.there (x : aV P w H h a o) : ∃ u,h.get? a = some u := by
 cases o with
 | lst xs => obtain ⟨_,_,_,_,e⟩ := x; exact ⟨_,e⟩
 | tup xs => obtain ⟨_,_,_,_,e,_⟩ := x; exact ⟨_,e⟩
 | dK kvs => obtain ⟨_,_,_,_,_,_,_,e,_⟩ := x; exact ⟨_,e⟩
 | dT kvs => obtain ⟨_,_,_,_,_,_,_,e,_⟩ := x; exact ⟨_,e⟩
 | set S n => obtain ⟨_,_,_,_,e,_⟩ := x; exact ⟨_,e⟩
 | ins C dx fs => obtain ⟨_,_,_,e,_⟩ := x; exact ⟨_,e⟩
 | own y => exact x
 | xd fs => obtain ⟨_,⟨_,_,_,e,_⟩,_⟩ := x; exact ⟨_,e⟩
 | rng lo hi => obtain ⟨_,_,_,e⟩ := x; exact ⟨_,e⟩
 | frz ob u => obtain ⟨e,_⟩ := x; exact ⟨_,e⟩
 | tbl ps => exact ⟨_,show h.get? a = some _ from x⟩
 | met f y => exact ⟨_,show h.get? a = some _ from x⟩
 | ext φ => obtain ⟨_,⟨_,e⟩,_⟩ := x; exact ⟨_,e⟩
theorem dQ.none_of (k : dQ P w H h) (q : h.get? a = none) : H a = none := by
 cases r : H a with
 | none => rfl
 | some o =>
  obtain ⟨u,e⟩ := (k a o r).there
  rw [q] at e
  cases e
theorem uJ (u : Un fs [] H H' h0 h) (m : Mv fs ch h h') (hc : ∀ b ∈ ch,h0.get? b = none) : Un fs [] H H' h0 h' where
 keep := fun b o q n hb hx => m.keep b o hb (fun z => by rw [hc b z] at q; cases q) (u.keep b o q n hb hx)
 slot := fun b o q n hb hx => by
  obtain ⟨sl,q1⟩ := u.slot b o q n hb hx
  obtain ⟨sl2,q2⟩ := m.slot b _ hb (fun z => by rw [hc b z] at q; cases q) q1
  exact ⟨sl2,q2⟩
 free := u.free
 there := fun b o q hx => by
  obtain ⟨o1,q1⟩ := u.there b o q hx
  exact m.there b o1 q1
 tups := u.tups
 frzs := u.frzs
 tbls := u.tbls
theorem qL (k : dQ P w H h) (m : Mv fs ch h h') (hc : ∀ b ∈ ch,H b = none) (hf : ∀ b ∈ fs,H b = none) : dQ P w H h' := fun a o e =>
 (k a o e).stay (fun b u hb q => by
  have t : H b ≠ none := by
   rcases hb with z | z
   ·rw [z,e]; exact fun y => nomatch y
   ·rw [z]; exact fun y => nomatch y
  exact m.keep b u (fun z => t (hf b z)) (fun z => t (hc b z)) q) (fun _ q => q) fun _ _ q => q
theorem _root_.XH.Mv.wider (m : Mv [] ch h h') : Mv fs ch h h' := ⟨fun b o _ hc q => m.keep b o (by simp) hc q,fun b o _ hc q => ⟨o.slots,m.keep b o (by simp) hc q⟩,m.there⟩
theorem nU {base : Heap} (u : Un fs [] H H' h h') : ∀ {l : List Env},h.FunFrames base l -> (∀ b ∈ gS l,b ∈ fs /\ H b = none) -> h'.FunFrames base l
 | [],_,_ => trivial
 | env :: r,⟨hk,⟨L,o,hf,hn,ho,hd⟩,hr⟩,hs => by
  have hL : L ∈ gS (env :: r) := by unfold gS; rw [Bh,hf]; exact BC
  obtain ⟨sl,e⟩ := u.slot L o ho (hs L hL).2 (hs L hL).1 (by simp)
  exact ⟨hk,⟨L,_,hf,hn,e,hd⟩,nU u hr fun b hb => hs b (by unfold gS; rw [Bh,hf]; exact AV _ hb)⟩
end
section
variable {P : Program} {w : World} {H H' : Hp} {s s' : Shared} {a L : Addr} {cls v : Value} {dx : Option Addr} {st : uI} {env : Env} {outer : List Env} {base : Heap} {M : Model} {A : Around} {Z : Value -> Shared -> Prop} {Q : Unit -> Shared -> Prop}
theorem eU.frees (c : eU P w outer H s a H' cls dx st s') (hl : s.heap.FunFrames base outer) (hH : ∀ b ∈ gS outer,H b = none) : ∀ b ∈ gS outer,H' b = none := fun b hb => by
 obtain ⟨_,o,ho,_⟩ := hl.mem hb
 exact c.un.free b o ho (hH b hb) (by simp)
theorem eU.note (c : eU P w (env :: outer) H s a H' cls dx st s') (hfr : A.frames = some (env :: outer)) (hf : env.frame = some L) (hl : s.heap.FunFrames base (env :: outer)) (hH : ∀ b ∈ gS (env :: outer),H b = none)
  (h : ∀ s'',eU P w (env :: outer) H s a H' cls dx (.fl (rawInt L)) s'' -> Q () s'') : wpAny M A (noteFrame (.ref a) env) Q Z s' := by
 refine sI hfr (nU c.un hl fun b hb => ⟨hb,hH b hb⟩) hf c.xo fun h' ch hch mv x => h _ ?_
 refine ⟨c.os,c.bare,uJ c.un mv fun b hb => (hch b hb).1,qL c.hok mv (fun b hb => (hch b hb).2) (c.frees hl hH),x.mono ?_⟩
 rintro b (q | q)
 ·exact q
 ·refine ⟨?_,c.hok.none_of q⟩
  cases r : s.heap.get? b with
  | none => rfl
  | some o =>
   obtain ⟨o',r'⟩ := c.un.there b o r (by simp)
   rw [r'] at q
   cases q
theorem eU.flight {fl : Option Addr} (c : eU P w outer H s a H' cls dx (.fl v) s') (hl : s.heap.FunFrames base outer) (hH : ∀ b ∈ gS outer,H b = none)
  (h : ∀ s'',eU P w outer H s a H' cls dx (.fl (fl.elim .none fun f => rawInt f)) s'' -> Q () s'') : wpAny M A (setFlight (.ref a) fl) Q Z s' := by
 refine pA c.xo fun h' T hT mv x => h _ ⟨c.os,c.bare,uJ c.un mv.wider fun b hb => ?_,qL c.hok (mv.wider (fs := gS outer)) (fun b hb => ?_) (c.frees hl hH),x⟩
 ·rw [A3.mp hb]; exact hT.1
 ·rw [A3.mp hb]; exact hT.2
end
def XS (X : Cx) (E : St -> XK) : Value -> Shared -> Prop := fun e s' => ∃ σ H0 s0,av X [] σ H0 s0 /\ dz X.prog X.w X.stack H0 s0 (E σ) e s'
def fB (X : Cx) (E : St -> XK) : Prop := ∀ (pins : List (Addr × Obj)) (σ : St) (H : Hp) (s : Shared) (e : Value) (s' : Shared),av X pins σ H s -> dz X.prog X.w X.stack H s (E σ) e s' -> X.xe e s'
theorem cW {X : Cx} {E : St -> XK} : fB (X.wish (XS X E)) E := fun pins σ H s e s' I c => ⟨σ,H,s,I.unwish.pins_of (fun p hp => absurd hp (by simp)),c⟩
def mM (sp : Sp) (dvs : List V) (E : St -> XK) (t : TA) : TE := fun σ H Q => t σ H fun vs H1 => sp (vs ++ dvs) H1 Q (E σ)
section
variable {X : Cx} {k : Nat} {f C : Addr} {fd : FuncData} {ps : List Str} {sp : Sp} {dvs : List V} {ds : List Value} {E : St -> XK} {x m : Str} {p pos apos : Pos} {e o : Expr} {es : List Expr} {ta : TE} {t : TA}
theorem nV {pins : List (Addr × Obj)} {σ : St} {H : Hp} {s : Shared} {Q : VK} {us : List Value} {vs : List V} (F : bg X.prog X.w X.K X.mg X.base (dz X.prog X.w) k f fd ps sp) (hr : bQ k X.A) (hb : Binds X.K fd ps ds) (hd : aM dvs ds) (hx : fB X E)
  (I : av X pins σ H s) (r : aM vs us) (h : sp (vs ++ dvs) H Q (E σ)) : wpAny (model X.prog X.w) X.A (call (.ref f) us) (EP X pins σ Q) X.xe s := by
 have r2 : aM (vs ++ dvs) (us ++ ds) := r.append hd
 have hl : (us ++ ds).length = ps.length := by rw [<- r2.length]; exact F.len _ _ _ _ h
 refine wpAny_call (codeAny_mono (F.run X.A X.stack s H ⟨us,[]⟩ (us ++ ds) (vs ++ dvs) Q (E σ) hr I.env0 (hb s us I.kIn hl) r2 h) fun r s' hq => ?_)
 cases r with
 | error e => exact hx pins σ H s e s' I hq
 | ok fl =>
  cases fl with
  | ret u => exact I.after hq
  | next => exact False.elim hq
  | brk => exact False.elim hq
  | cont => exact False.elim hq
theorem lJ (F : bg X.prog X.w X.K X.mg X.base (dz X.prog X.w) k f fd ps sp) (hr : bQ k X.A) (hg : Gl X x) (hm : X.mg x = some (.ref f)) (hk : Aw X.K (.ref f) = true) (hb : Binds X.K fd ps ds) (hd : aM dvs ds) (hx : fB X E)
  (ha : PA X (e :: es) t) (hdb : (x == ("__debug__" : Str)) = false := by decide) (he : starEach (e :: es) X.env = (false,eval e X.env) :: starEach es X.env := by rfl) (hpl : (backTo pos (starEach es X.env)).any (·.1) = false := by rfl) :
  PE X (.Call (.Name x p) (e :: es) [] pos) (mM sp dvs E t) := by
 intro pins s σ H Q I h
 refine wpAny_Call_Name_kw (dG I hg hm ?_ hdb)
 refine BQ (h₀ := X.base) I.ok.mod.kin hk (bw (ha pos pins s σ H _ I h) fun us s1 ⟨vs,H1,I1,r,q⟩ => ⟨I1.kIn,?_⟩) he hpl
 exact nV F hr hb hd hx I1 r q
end
theorem ja.toX {X : Cx} {E' : Value -> Shared -> Prop} {st : List Stmt} {t : TS} (h : ja (X.wish E') st t) (k : ∀ e s,E' e s -> X.xe e s) : ja X st t := fun pins s σ H D I hw =>
 wpAny_mono (h pins s σ H D (I.wish _) hw) (fun _ _ q => q.unwish) fun e s z => k e s z
section
variable {P : Program} {w : World} {K : A0} {mg : Str -> Option Value} {base : Heap}
theorem qM {N : List Str} {qual : Str} {scope : Scope} {f : Addr} {cd : Value} {A : Around} {outer : List Env} {s : Shared} {H : Hp} {E : XK} {e : Value} {s' : Shared}
  (h : XS (gF (dz P w) P w K mg base N qual scope f cd A outer s H E) (fun _ => E) e s') : (gF (dz P w) P w K mg base N qual scope f cd A outer s H E).xe e s' := by
 obtain ⟨σ,H0,s0,I,a,H',cls,dx,st,rfl,c,hE⟩ := h
 show wpAny (model P w) (A.deeper (envOfC qual scope s.heap.objs.size f cd)) (leaving (envOfC qual scope s.heap.objs.size f cd) (.ref a)) (fun _ s'' => dz P w outer H s E (.ref a) s'') (fun e' s'' => dz P w outer H s E e' s'') s'
 unfold leaving
 apply wpAny_bind
 refine c.note (L := s.heap.objs.size) I.ok.frames rfl I.stack I.stkFree fun s1 c1 => ?_
 refine c1.flight I.stack I.stkFree fun s2 c2 => ?_
 have J := I.call' c2.os c2.un c2.hok c2.bare (fun b z => absurd z (by simp))
 refine ⟨a,H',cls,dx,_,rfl,⟨J.os,c2.bare,J.base,c2.hok,c2.xo.mono fun b q => ⟨?_,q.2⟩⟩,hE⟩
 cases r : s.heap.get? b with
 | none => rfl
 | some o =>
  obtain ⟨o',r'⟩ := I.base.there b o r (fun z => absurd (show b ∈ ([] : List Addr) from z) (by simp))
  rw [q.1] at r'
  cases r'
theorem vo {k : Nat} {f : Addr} {name qual : Str} {params : Arguments} {body : List Stmt} {scope : Scope} {dV kV doc pm cdv ct oc : Value} {an od : Option Addr}
  {osl : Array (Option Value)} {N ps : List Str} {sp : Sp} (lk : K.lookup f = some ⟨oc,od,.func (Ay name qual params body scope dV kV doc pm an cdv ct),osl⟩) (hcd : BI K cdv qual = true) (S : aA N ps scope)
  (len : ∀ vs H Q E,sp vs H Q E -> vs.length = ps.length)
  (hbody : ∀ (A : Around) (outer : List Env) (s : Shared) (H : Hp) (vs : List V) (Q : VK) (E : XK),bQ k (A.deeper (envOfC qual scope s.heap.objs.size f cdv)) -> sp vs H Q E ->
   ∃ t,ja ((gF (dz P w) P w K mg base N qual scope f cdv A outer s H E).wish (XS (gF (dz P w) P w K mg base N qual scope f cdv A outer s H E) fun _ => E)) body t /\ t { nx := fun _ H' => Q .non H',rt := Q } (start N vs) H) :
  bg P w K mg base (dz P w) (k + 1) f (Ay name qual params body scope dV kV doc pm an cdv ct) ps sp := by
 refine uD lk hcd S len fun A outer s H vs Q E hr hsp => ?_
 obtain ⟨t,h,q⟩ := hbody A outer s H vs Q E hr hsp
 exact ⟨t,h.toX fun e s' z => qM z,q⟩
theorem bg.noraise {k : Nat} {f : Addr} {fd : FuncData} {ps : List Str} {sp sp0 : Sp} (F : bg P w K mg base (dz P w) k f fd ps sp) (h : ∀ vs H Q E,sp0 vs H Q E -> sp vs H Q E0) : bg P w K mg base a9 k f fd ps sp0 :=
 ⟨fun vs H Q E q => F.len vs H Q E0 (h _ _ _ _ q),fun A outer s H args us vs Q E hr he hb hv hs => codeAny_mono (F.run A outer s H args us vs Q E0 hr he hb hv (h _ _ _ _ hs)) fun r s' hq => by
  cases r with
  | error e => obtain ⟨_,_,_,_,_,_,_,z⟩ := hq; exact z.elim
  | ok fl => cases fl <;> exact hq⟩
end
abbrev Cx.tried (X : Cx) (pins : List (Addr × Obj)) : Cx := { X with pn := X.pn ++ pins }
abbrev Cx.suite (X : Cx) (pins : List (Addr × Obj)) (a : Addr) : Cx := { X with A := X.A.mark (some (.ref a)),calm := false,pn := X.pn ++ pins,xe := fun _ _ => False }
def cL (n : Bool) (a : Addr) (cls : Value) (dx : Option Addr) : HO := .ext fun h => ∃ ox vs,h.get? a = some ox /\ ox.cls = cls /\ ox.dict = dx /\ ox.data = .fields vs /\ vs[2]? = some .none /\ (n = true -> 1 < vs.size /\ vs[1]? = some .none)
abbrev qO := cL false
theorem km {P : Program} {w : World} {H : Hp} {h : Heap} {n : Bool} {a : Addr} {cls : Value} {dx : Option Addr} {ox : Obj} {vs : Array Value} (h1 : h.get? a = some ox) (h2 : ox.cls = cls) (h3 : ox.dict = dx) (h4 : ox.data = .fields vs) (h6 : vs[2]? = some .none) (h5 : n = true -> 1 < vs.size /\ vs[1]? = some .none) : aV P w H h a (cL n a cls dx) :=
 ⟨⟨ox,vs,h1,h2,h3,h4,h6,h5⟩,⟨ox,h1⟩,fun _ _ ⟨oy,ws,q,r⟩ kp => ⟨oy,ws,kp _ q,r⟩⟩
abbrev TH := Ends -> St -> Value -> Option Addr -> Hp -> Addr -> Prop
def PH (X : Cx) (hs : List ExceptHandler) (th : TH) : Prop :=
 ∀ (pins : List (Addr × Obj)) (σ : St) (H0 : Hp) (s0 : Shared) (D : Ends) (a : Addr) (H' : Hp) (cls v : Value) (dx : Option Addr) (s' : Shared),av X pins σ H0 s0 -> eU X.prog X.w X.stack H0 s0 a H' cls dx (.fl v) s' -> th D σ cls dx H' a ->
  wpAny (model X.prog X.w) X.A (handleBy (.ref a) X.env hs) (SP X pins D) X.xe s'
section
variable {X : Cx} {pins : List (Addr × Obj)} {σ : St} {H H' : Hp} {s s' : Shared}
theorem av.tried (I : av X pins σ H s) : av (X.tried pins) [] σ H s :=
 ⟨⟨I.ok.mod,I.ok.kind,I.ok.glob,I.ok.blt,I.ok.above,I.ok.inj,I.ok.has,I.ok.cab,I.ok.hd,I.ok.frames,I.ok.stk,I.ok.exf,I.ok.bs,I.ok.bsz,I.ok.noex,I.ok.exfs,I.ok.funs,I.ok.frf⟩,
  I.os,I.bare,I.base,I.loc,I.cell,I.free,I.freeC,fun p hp => I.pin p (by simpa using hp),I.hok,I.len⟩
theorem av.untried (I : av (X.tried pins) [] σ H s) : av X pins σ H s :=
 ⟨⟨I.ok.mod,I.ok.kind,I.ok.glob,I.ok.blt,I.ok.above,I.ok.inj,I.ok.has,I.ok.cab,I.ok.hd,I.ok.frames,I.ok.stk,I.ok.exf,I.ok.bs,I.ok.bsz,I.ok.noex,I.ok.exfs,I.ok.funs,I.ok.frf⟩,
  I.os,I.bare,I.base,I.loc,I.cell,I.free,I.freeC,fun p hp => I.pin p (by simpa using hp),I.hok,I.len⟩
theorem av.insuite (I : av X pins σ H s) (a : Addr) : av (X.suite pins a) [] σ H s :=
 ⟨⟨I.ok.mod,I.ok.kind,I.ok.glob,I.ok.blt,I.ok.above,I.ok.inj,I.ok.has,I.ok.cab,fun z => (Bool.noConfusion z),I.ok.frames,I.ok.stk,I.ok.exf,I.ok.bs,I.ok.bsz,I.ok.noex,I.ok.exfs,I.ok.funs,I.ok.frf⟩,
  I.os,I.bare,I.base,I.loc,I.cell,I.free,I.freeC,fun p hp => I.pin p (by simpa using hp),I.hok,I.len⟩
theorem av.outsuite {a : Addr} (ok : X.Ok) (I : av (X.suite pins a) [] σ H s) : av X pins σ H s :=
 ⟨ok,I.os,I.bare,I.base,I.loc,I.cell,I.free,I.freeC,fun p hp => I.pin p (by simpa using hp),I.hok,I.len⟩
theorem av.unbound {n : Str} {i : Nat} {h' : Heap} {m : Str -> Option Value} {v : Option Value} {t' : Nat} (I : av X pins σ H s) (hi : X.N[i]? = some n) (hN : X.N.Nodup)
  (hm : ∀ (j : Nat) (x : Str) (v : V),X.N[j]? = some x -> σ[j]? = some (some v) -> wu X.env.scope x -> ∃ u,RelV v u /\ Look X.env s.heap m x u)
  (hn : h'.Ns X.env.locals (fun x => if x = n then v else m x)) (hs : Heap.SameBut X.env.locals s.heap h') : av X pins (σ.set i none) H { s with heap := h',toks := t' } := by
 obtain ⟨m0,hn0,_⟩ := id I.loc
 obtain ⟨oL,_,_,hoL,_⟩ := id hn0
 have cne := I.cne
 have low : ∀ b o,X.s₀.heap.get? b = some o -> b ≠ X.env.locals := fun b o e => AD (AL (Heap.lt_size e) I.ok.above)
 refine ⟨I.ok,I.os,I.bare,⟨fun b o e n hb hx => ?_,fun b o e n hb hx => ?_,I.base.free,fun b o e hx => ?_,I.base.tups,I.base.frzs,I.base.tbls⟩,⟨_,hn,fun j y v' e1 e2 e3 => ?_⟩,fun y c e => ?_,I.free,I.freeC,fun p hp => ?_,fun b ob e => ?_,by simpa using I.len⟩
 ·exact (hs.2 b (low b o e)).trans (I.base.keep b o e n hb hx)
 ·obtain ⟨sl,e1⟩ := I.base.slot b o e n hb hx
  exact ⟨sl,(hs.2 b (low b o e)).trans e1⟩
 ·obtain ⟨o',e1⟩ := I.base.there b o e hx
  exact ⟨o',(hs.2 b (low b o e)).trans e1⟩
 ·by_cases hj : j = i
  ·subst hj
   rw [List.getElem?_set] at e2
   simp at e2
  ·rw [List.getElem?_set_ne (Ne.symm hj)] at e2
   obtain ⟨u',r',q⟩ := hm j y v' e1 e2 e3
   refine ⟨u',r',?_⟩
   rcases q with ⟨k,e⟩ | ⟨k,c,e,z⟩
   ·refine .inl ⟨k,?_⟩
    have : y ≠ n := fun e => hj (ix hN e1 (e ▸ hi))
    simp [this,e]
   ·exact .inr ⟨k,c,e,z.sameBut hs (cne y c e)⟩
 ·obtain ⟨w',z⟩ := I.cell y c e
  exact ⟨w',z.sameBut hs (cne y c e)⟩
 ·obtain ⟨e,n,ne,nf,d⟩ := I.pin p hp
  exact ⟨(hs.2 p.1 ne).trans e,n,ne,nf,d⟩
 ·refine (I.hok b ob e).stay (fun c w' hc q => (hs.2 c ?_).trans q) (fun _ q => q) fun _ _ q => q
  rintro rfl
  rcases hc with rfl | hc
  ·rw [I.free] at e; cases e
  ·rw [I.free] at hc; cases hc
theorem iJ {fs : List Addr} {h0 h : Heap} {a : Addr} {o : HO} (u : Un fs [] H H' h0 h) (n0 : h0.get? a = none) (na : H' a = none) : Un fs [] H (aq H' a o) h0 h where
 keep := u.keep
 slot := u.slot
 free := fun b ob q n hx => by
  have : b ≠ a := fun z => by rw [z,n0] at q; cases q
  rw [ae this]
  exact u.free b ob q n hx
 there := u.there
 tups := fun b xs e => by
  have q := u.tups b xs e
  rw [ae (aQ q na)]
  exact q
 frzs := fun b o' w' e => by
  have q := u.frzs b o' w' e
  rw [ae (aQ q na)]
  exact q
 tbls := fun b ps e => by
  obtain ⟨mo,q⟩ := u.tbls b ps e
  exact ⟨mo,by rw [ae (aQ q na)]; exact q⟩
theorem jD {P : Program} {w : World} {h : Heap} {a : Addr} {o : HO} (k : dQ P w H h) (na : H a = none) (new : aV P w (aq H a o) h a o) : dQ P w (aq H a o) h := fun b u e => by
 by_cases hb : b = a
 ·subst hb; rw [ac] at e; cases e; exact new
 ·rw [ae hb] at e
  exact (k b u e).stay (fun c v _ q => q) (fun c q => by rw [ae (aQ q na)]; exact q) fun c xs q => by rw [ae (aQ q na)]; exact q
theorem eU.caughtN {a : Addr} {cls : Value} {dx : Option Addr} (I : av X pins σ H s) (c : eU X.prog X.w X.stack H s a H' cls dx .new s') : av X pins σ (aq H' a (cL true a cls dx)) s' := by
 obtain ⟨⟨oe,vs,he,hc,hd,hda,hz,hn⟩,n0,na⟩ := c.xo
 refine I.call' c.os (iJ c.un n0 na) (jD c.hok na (km he hc hd hda hz.2 fun _ => ⟨hz.1,hn⟩)) c.bare fun b z => absurd z (by simp)
theorem eU.caught {a : Addr} {cls : Value} {dx : Option Addr} {st : uI} (I : av X pins σ H s) (c : eU X.prog X.w X.stack H s a H' cls dx st s') : av X pins σ (aq H' a (qO a cls dx)) s' := by
 obtain ⟨⟨oe,vs,he,hc,hd,hda,hz,_⟩,n0,na⟩ := c.xo
 refine I.call' c.os (iJ c.un n0 na) (jD c.hok na (km he hc hd hda hz.2 fun z => nomatch z)) c.bare fun b z => absurd z (by simp)
end
section
variable {X : Cx} {body : List Stmt} {h₀ : ExceptHandler} {hs : List ExceptHandler} {pos : Pos} {th : TH}
def zz (tb : (St -> XK) -> TS) (th : TH) : TS := fun D σ H => tb (fun σ' cls dx H' => ∀ a,H' a = none -> th D σ' cls dx H' a) D σ H
theorem SP.untried {pins : List (Addr × Obj)} {E : Value -> Shared -> Prop} {D : Ends} {f : Flow} {s' : Shared} (h : SP ((X.tried pins).wish E) [] D f s') : SP X pins D f s' := by
 cases f with
 | next => obtain ⟨σ',H',I,q⟩ := h; exact ⟨σ',H',I.unwish.untried,q⟩
 | brk => obtain ⟨σ',H',I,q⟩ := h; exact ⟨σ',H',I.unwish.untried,q⟩
 | cont => obtain ⟨σ',H',I,q⟩ := h; exact ⟨σ',H',I.unwish.untried,q⟩
 | ret u => obtain ⟨v,σ',H',I,r,q⟩ := h; exact ⟨v,σ',H',I.unwish.untried,r,q⟩
theorem vq {tb : (St -> XK) -> TS} (hstk : X.stack = X.env :: X.outer) (hfm : X.env.frame = some X.env.locals)
  (hb : ∀ (pins : List (Addr × Obj)) (E : St -> XK),ja ((X.tried pins).wish (XS (X.tried pins) E)) body (tb E)) (hh : PH X (h₀ :: hs) th) : PS X (.Try body (h₀ :: hs) [] [] pos) (zz tb th) := by
 intro pins s σ H D I h
 refine wpAny_Try_except ?_
 refine wpAny_mono (hb pins _ [] s σ H D (I.tried.wish _) h) (fun f s1 q => ?_) fun e s1 hx => ?_
 ·have q := q.untried
  cases f with
  | next => exact wpAny_execs_nil q
  | brk => exact q
  | cont => exact q
  | ret u => exact q
 ·obtain ⟨σ',H0,s0,I0,a,H',cls,dx,st,rfl,c,hE⟩ := hx
  have c' : eU X.prog X.w (X.env :: X.outer) H0 s0 a H' cls dx st s1 := hstk ▸ c
  have J := I0.untried
  have fr : X.A.frames = some (X.env :: X.outer) := by rw [<- hstk]; exact J.ok.frames
  have st1 : s0.heap.FunFrames X.base (X.env :: X.outer) := by rw [<- hstk]; exact J.stack
  have sf : ∀ b ∈ gS (X.env :: X.outer),H0 b = none := by rw [<- hstk]; exact J.stkFree
  refine c'.note fr hfm st1 sf fun s2 c2 => ?_
  refine c2.flight st1 sf fun s3 c3 => ?_
  exact hh pins σ' H0 s0 D a H' cls _ dx s3 J (hstk ▸ c3) (hE a c3.xo.fr.2)
theorem vt : PH X [] (fun _ _ _ _ _ _ => False) := fun _ _ _ _ _ _ _ _ _ _ _ _ _ h => h.elim
end
structure XT (K : A0) (C : Addr) : Prop where
 ty : PySem.W.typeIn K (.ref C) = some (.type "type")
 cl : (PySem.W.clsIn K C).isSome = true
 ex : PySem.W.subIn K (.ref C) (.type "BaseException") = some true
theorem fY {K : A0} {M : Model} {h : Heap} {C : Addr} (X : K.In h) (e : (PySem.W.clsIn K C).isSome = true) : PySem.W.Looks M h (isType (.ref C)) true := by
 unfold PySem.W.clsIn at e
 split at e
 ·rename_i ho
  intro A' Q' E' s' k q
  unfold isType loadHead
  exact wpAny_bind (wpAny_loadPart (k _ _ (X _ _ ho)) (wpAny_pure q))
 ·cases e
structure XG (K : A0) (C : Addr) : Prop where
 ga : AH K (.ref C) "__getattribute__" = some (some (.builtin "BaseException.__getattribute__"))
 gt : AH K (.ref C) "__getattr__" = some none
 be : PySem.W.mroIn K C (.type "BaseException") = some true
section
variable {prog : Program} {w : World} {A : Around} {E : Value -> Shared -> Prop} {K : A0} {h : Heap} {g : Array GenState} {d : Drawn} {t : Nat} {os : OsState} {x C : Addr} {ox : Obj} {od : Option Obj} {name : Str}
open PySem.W in
theorem pB {nameV : Value} {Q : Unit -> Shared -> Prop} (X : K.In h) (I : InstAt h x ox C od) (G : XG K C) (hq : Q () ⟨h,g,d,t,os⟩) :
  wpAny (model prog w) A (checkBuiltinCall "BaseException.__getattribute__" ⟨[.ref x,nameV],[]⟩) Q E ⟨h,g,d,t,os⟩ := by
 have hk : builtinKind "BaseException.__getattribute__" = some .slot := by decide +kernel
 have hs : splitId "BaseException.__getattribute__" = some ("BaseException","__getattribute__") := by decide +kernel
 have l0 := I.type (M := model prog w)
 have l1 := looks_mroIn (M := model prog w) X G.be
 have ha := F.args_bexc_ga (.ref x) nameV
 have l2 : Looks (model prog w) h (isInstance (.ref x) (.type "BaseException")) true := l0.andThen l1
 simp only [checkBuiltinCall,hk,hs]
 refine wpAny_bind ?_
 unfold isInstance
 have hx := I.at_
 have hc := I.cls
 repeat (first | (with_reducible refine wpAny_loadPart_at hx ?_; rw [hc]) | with_reducible refine l1.at ?_ | wp_step)
 exact hq
open PySem.W in
theorem ie {tk : Tok} {v : Value} {Q : Fin -> Shared -> Prop} (X : K.In h) (I : InstAt h x ox C od) (hf : findObj K C od name = some (.value v)) (hq : Q (.done (.ret v)) ⟨h,g,d,t,os⟩) :
  wpAny (model prog w) A (Builtin.«object.__getattribute__» ⟨[.ref x,.str name tk],[]⟩) Q E ⟨h,g,d,t,os⟩ := by
 have l0 := I.type (M := model prog w)
 have l1 := looks_find (M := model prog w) X I hf
 unfold Builtin.«object.__getattribute__»
 refine wpAny_bind (wpAny_pure (wpAny_bind (wpAny_pure (wpAny_bind (l0.at (wpAny_bind (l1.at ?_)))))))
 exact wpAny_pure hq
open PySem.W in
theorem iK {tk : Tok} {gv a : Value} {Q : Fin -> Shared -> Prop} (X : K.In h) (I : InstAt h x ox C od) (hf : findObj K C od name = some (.bind gv a))
  (hq : wpAny (model prog w) A (call gv [a,.ref x,.ref C]) (fun v s' => Q (.done (.ret v)) s') E ⟨h,g,d,t,os⟩) :
  wpAny (model prog w) A (Builtin.«object.__getattribute__» ⟨[.ref x,.str name tk],[]⟩) Q E ⟨h,g,d,t,os⟩ := by
 have l0 := I.type (M := model prog w)
 have l1 := looks_find (M := model prog w) X I hf
 unfold Builtin.«object.__getattribute__»
 refine wpAny_bind (wpAny_pure (wpAny_bind (wpAny_pure (wpAny_bind (l0.at (wpAny_bind (l1.at ?_)))))))
 show wpAny _ _ (holding [a] (call gv [a,.ref x,.ref C]) >>= ret) _ _ _
 exact wpAny_bind (wpAny_holding (wpAny_mono hq (fun v s' z => wpAny_pure z) fun _ _ z => z))
open PySem.W in
theorem qP {tk : Tok} {fill expr : Bool} {Q : Value -> Shared -> Prop} (X : K.In h) (I : InstAt h x ox C od) (G : XG K C)
  (hq : ∀ A' : Around,wpAny (model prog w) A' (Builtin.«object.__getattribute__» ⟨[.ref x,.str name tk],[]⟩) (fun fin s' => match fin with | .done (.ret v) => wpAny (model prog w) A (handedOut v) Q E s' | _ => False) (fun _ _ => False) ⟨h,g,d,t,os⟩) :
  wpAny (model prog w) A (getAttrBy (.ref x) (.str name tk) fill expr) Q E ⟨h,g,d,t,os⟩ := by
 have l0 := I.type (M := model prog w)
 have l1 := looks_findIn (M := model prog w) X G.ga
 have l2 := looks_findIn (M := model prog w) X G.gt
 have fb := F.attrBase_ValueError
 have f3 := fb.ga.bind (.ref x)
 unfold getAttrBy
 refine wpAny_holding (wpAny_bind (l0.at (wpAny_bind (l1.at ?_))))
 have hx2 : (Value.builtin "BaseException.__getattribute__" == Value.builtin "object.__getattribute__") = false := by decide +kernel
 simp only [hx2,Bool.and_false,Bool.false_eq_true,if_false]
 unfold getAttrByItsOwn hookBefore
 refine wpAny_bind ?_
 rw [if_pos (show onTheHeap (.ref C) = true from rfl)]
 refine l2.at ?_
 refine wpAny_bind (wpAny_attempt (wpAny_holding ?_))
 unfold callGetattribute
 rw [if_neg (by cases expr <;> exact AE)]
 unfold boundAndCalled
 refine wpAny_bind (wpAny_of_eq f3 ?_)
 refine wpAny_call (codeAny_call_builtin fb.ga.plain F.entry_bexc_ga (pB X I G (wpAny_mono (hq _) (fun fin s' z => ?_) fun _ _ z => z.elim)))
 rcases fin with (_ | _ | _ | _) | _ <;> first | exact z.elim | exact z
end
section
variable {prog : Program} {w : World} {A : Around} {E : Value -> Shared -> Prop} {K : A0}
theorem mO {h : Heap} {g : Array GenState} {d : Drawn} {t : Nat} {os : OsState} {e C C' : Addr} {oe : Obj} {b : Bool} {Q : Bool -> Shared -> Prop} (KX : K.In h) (he : h.get? e = some oe) (hc : oe.cls = .ref C) (T : XT K C')
  (hsub : PySem.W.subIn K (.ref C) (.ref C') = some b) (hq : Q b ⟨h,g,d,t,os⟩) : wpAny (model prog w) A (excMatches (.ref e) (.ref C')) Q E ⟨h,g,d,t,os⟩ := by
 have l1 := PySem.W.looks_typeIn (M := model prog w) KX T.ty
 have l2 := PySem.W.looks_subIn (M := model prog w) KX T.ex
 have l3 := PySem.W.looks_subIn (M := model prog w) KX hsub
 have l4 := fY (M := model prog w) KX T.cl
 have l5 : PySem.W.Looks (model prog w) h (isInstance (.ref C') (.type "tuple")) false := l1.andThen (PySem.W.Looks.of_pure tc_notTuple)
 have l6 : PySem.W.Looks (model prog w) h (isExcClass (.ref C')) true := by
  unfold isExcClass
  refine l4.andThen ?_
  exact l2
 unfold excMatches
 repeat (first | with_reducible refine wpAny_bind (l5.at ?_) | with_reducible refine wpAny_bind (l6.at ?_) | with_reducible refine wpAny_bind (l3.at ?_) | (with_reducible refine wpAny_loadPart_at he ?_; rw [hc]) | wp_step)
 cases b <;> (wp_walk; exact hq)
end
def wZ (i : Nat) (D : Ends) : Ends := { nx := fun σ H => D.nx (σ.set i none) H,rt := D.rt,bk := fun σ H => D.bk (σ.set i none) H,ct := fun σ H => D.ct (σ.set i none) H }
section
variable {X : Cx} {x n : Str} {np pos : Pos} {b0 : Stmt} {suite : List Stmt} {rest : List ExceptHandler} {i : Nat} {C' : Addr} {t : TS} {th : TH}
theorem sJ {pins : List (Addr × Obj)} {a : Addr} {D : Ends} {f : Flow} {s : Shared} {M : Model} {A : Around} {E : Value -> Shared -> Prop} (ok : X.Ok) (hN : X.N.Nodup) (hi : X.N[i]? = some n) (hloc : X.env.scope.names.lookup n = some .local)
  (q : SP (X.suite pins a) [] (wZ i D) f s) : wpAny M A (do bindName X.env n .none; unbindBehindTheSuite X.env n pos) (fun _ s' => SP X pins D f s') E s := by
 have hcls : (X.env.scope.kind == .class || (X.env.scope.kind == .module && X.env.locals != X.env.globals)) = false := by rw [ok.kind]; rfl
 cases f with
 | next =>
  obtain ⟨σ,H,I,q⟩ := q
  have J := I.outsuite ok
  obtain ⟨m,hn,hl⟩ := id J.loc
  exact wpAny_nameGoes_keeps hloc hn hcls fun h' v hn' hs => ⟨_,H,J.unbound hi hN hl hn' hs,q⟩
 | brk =>
  obtain ⟨σ,H,I,q⟩ := q
  have J := I.outsuite ok
  obtain ⟨m,hn,hl⟩ := id J.loc
  exact wpAny_nameGoes_keeps hloc hn hcls fun h' v hn' hs => ⟨_,H,J.unbound hi hN hl hn' hs,q⟩
 | cont =>
  obtain ⟨σ,H,I,q⟩ := q
  have J := I.outsuite ok
  obtain ⟨m,hn,hl⟩ := id J.loc
  exact wpAny_nameGoes_keeps hloc hn hcls fun h' v hn' hs => ⟨_,H,J.unbound hi hN hl hn' hs,q⟩
 | ret u =>
  obtain ⟨v,σ,H,I,r,q⟩ := q
  have J := I.outsuite ok
  obtain ⟨m,hn,hl⟩ := id J.loc
  exact wpAny_nameGoes_keeps hloc hn hcls fun h' v' hn' hs => ⟨v,_,H,J.unbound hi hN hl hn' hs,r,q⟩
theorem qQ {E : St -> XK} (hstk : X.stack = X.env :: X.outer) (hfm : X.env.frame = some X.env.locals) : PassesOwn (model X.prog X.w) X.A X.env (XS X E) := by
 intro e s1 hx
 obtain ⟨σ',H0,s0,J,a,H',cls,dx,st,rfl,c,hE⟩ := hx
 have c' : eU X.prog X.w (X.env :: X.outer) H0 s0 a H' cls dx st s1 := hstk ▸ c
 have fr : X.A.frames = some (X.env :: X.outer) := by rw [<- hstk]; exact J.ok.frames
 have st1 : s0.heap.FunFrames X.base (X.env :: X.outer) := by rw [<- hstk]; exact J.stack
 have sf : ∀ b ∈ gS (X.env :: X.outer),H0 b = none := by rw [<- hstk]; exact J.stkFree
 unfold notedBy
 refine c'.note fr hfm st1 sf fun s2 c2 => ?_
 unfold cameBackBy
 obtain ⟨oe,vs,he,_,_,hd,_,T,_,_,h1,_⟩ := c2.xo.ex
 apply wpAny_bind
 apply wpAny_field he hd h1
 rw [if_neg (by simp)]
 refine c2.flight st1 sf fun s3 c3 => ?_
 exact ⟨σ',H0,s0,J,a,H',cls,dx,_,rfl,hstk ▸ c3,hE⟩
end
def p9 : List Value := [.type "ValueError",.type "Exception",.type "BaseException",.type "object"]
theorem vv {K : A0} {h : Heap} {C : Addr} {bmB : List Value} {nw : String} (X : K.In h) (q : BN K C bmB nw = true) :
  ∃ bm N nm qn bs hdct sn sub ab col dd k0 k1 k2 k3 k5 mN,h.get? C = some (excClassObj nm qn C N bs bm hdct sn sub ab col dd k0 k1 k2 k3 k5 nw) /\ h.Ns N mN /\ mN "__init__" = none /\ OwnTail h bmB bm := by
 unfold BN at q
 split at q
 ·rename_i dd cd sl ho
  split at q
  ·rename_i C' bm k0 k1 k2 k3 n k5 hm hs
   simp only [Bool.and_eq_true,beq_iff_eq,Bool.not_eq_true'] at q
   obtain ⟨⟨⟨⟨⟨e1,e2⟩,hdel⟩,ht⟩,hok⟩,hni⟩ := q
   subst e1 e2
   obtain ⟨nm,bs,mro,ns,qn,hd,sn,sub,ab,col,del⟩ := cd
   dsimp only at hm hdel hok hni
   subst hm hdel
   obtain ⟨l⟩ := sl
   have hl : l = [k0,k1,k2,k3,some (.builtin n),k5] := hs
   subst hl
   exact ⟨bm,ns,nm,qn,bs,hd,sn,sub,ab,col,dd,k0,k1,k2,k3,k5,_,X _ _ ho,.of_isNs (PySem.W.isNs_of_in X hok),PySem.W.nsMap_none_of_in X hok hni,PySem.W.tail_of_in X ht⟩
  ·cases q
 ·cases q
def vx (C : Addr) (E : St -> XK) (t : TA) : TS := fun _ σ H => t σ H fun vs H1 => vs.length <= sizeLine /\ E σ (.ref C) none H1
section
variable {X : Cx} {x : Str} {np cpos pos : Pos} {e₀ : Expr} {rest : List Expr} {C : Addr} {t : TA} {E : St -> XK}
theorem nW {pins : List (Addr × Obj)} {σ : St} {H : Hp} {s : Shared} {h' : Heap} {e : Addr} {us : List Value} (I : av X pins σ H s) (mk : Heap.MadeExcOf s.heap h' e (.ref C) us) : eU X.prog X.w X.stack H s e H (.ref C) none .new { s with heap := h' } := by
 obtain ⟨t,ht,_,_⟩ := mk.there
 exact ⟨rfl,I.bare,Un.kept mk.keeps,I.hok.kept mk.keeps,⟨⟨_,_,ht,rfl,rfl,rfl,⟨by show 1 < 6; decide,rfl⟩,rfl⟩,mk.new,I.hok.none_of mk.new⟩⟩
theorem d7 (q : BN X.K C p9 "ValueError.__new__" = true) (hg : Gl X x) (hm : X.mg x = some (.ref C)) (hc : X.calm = true) (hp : fB X E) (ha : PA X (e₀ :: rest) t) (hd : (x == ("__debug__" : Str)) = false := by decide)
  (he : starEach (e₀ :: rest) X.env = (false,eval e₀ X.env) :: starEach rest X.env := by rfl) (hpl : (backTo cpos (starEach rest X.env)).any (·.1) = false := by rfl) :
  PS X (.Raise (some (.Call (.Name x np) (e₀ :: rest) [] cpos)) none pos) (vx C E t) := by
 intro pins s σ H D I h
 obtain ⟨bm,N,nm,qn,bs,hdct,sn,sub,ab,col,dd,k0,k1,k2,k3,k5,mN,hC,hN,hni,TL⟩ := vv I.ok.mod.kin q
 have F := PySem.F.excBase_ValueError
 have W := ha cpos pins s σ H _ I h
 refine wpAny_Raise_call_subT (C := C) (nm := nm) (q := qn) (N := N) (bs := bs) (bm := bm) (hdct := hdct) (sn := sn) (sub := sub) (ab := ab) (col := col) (dd := dd) (k0 := k0) (k1 := k1) (k2 := k2) (k3 := k3) (k5 := k5) (mN := mN)
  F (TL.hasType F.hasBase) (I.ok.hd hc) (by rw [he]; exact hpl) hni (dG I hg hm ⟨rfl,?_⟩ hd)
 rw [he] at W ⊢
 refine Calls.evalArgs_plain (bw W fun us s2 ⟨vs,H1,I1,r,hl,z⟩ => ⟨rfl,by rw [<- r.length]; exact hl,I1.bk _ _ hC,hN.keeps I1.bk,TL.keeps I1.bk,fun h' e mk => ?_⟩)
 exact hp pins σ H1 s2 _ _ I1 ⟨e,H1,.ref C,none,.new,rfl,nW I1 mk,z⟩
end
structure XI (K : A0) (C : Addr) : Prop where
 gg : XG K C
 cl : (PySem.W.clsIn K C).isSome = true
 at_ : AH K (.ref C) "__class__" = some (some (.builtin "object.__class__"))
 gt : PySem.W.specialIn K (.builtin "object.__class__") "__get__" = some (some (.builtin "getset_descriptor.__get__"))
 tk : PySem.W.takesIn K (.builtin "object.__class__") = some true
 ob : PySem.W.mroIn K C (.type "object") = some true
theorem findObj_cls {K : A0} {C : Addr} {od : Option Obj} (x : XI K C) : PySem.W.findObj K C od "__class__" = some (.bind (.builtin "getset_descriptor.__get__") (.builtin "object.__class__")) := by
 obtain ⟨cd,hc⟩ := B5.mp x.cl
 unfold PySem.W.findObj
 rw [hc,Option.bind_some,x.at_,Option.bind_some]
 simp [x.gt,x.tk]
theorem iL {K : A0} {a C : Addr} (x : XI K C) : PySem.W.KitX K (.ref a) (.ref C) (fun h => ∃ ox od,PySem.W.InstAt h a ox C od) where
 ty := fun _ _ _ ⟨_,_,I⟩ => I.type
 it := fun _ _ X _ => fY X x.cl
 ne := fun h tp dd its n sl X htp => by
  refine Bool.eq_false_iff.mpr fun q => ?_
  have e : C = tp := Value.ref.inj (beq_iff_eq.mp q)
  subst e
  have c := x.cl
  unfold PySem.W.clsIn at c
  split at c
  ·rename_i ho
   have z := (X _ _ ho).symm.trans htp
   cases z
  ·cases c
 ca := fun {_ _ _ _ _ s} X I k => by
  obtain ⟨ox,od,I⟩ := I
  obtain ⟨hh,g,d,t,os⟩ := s
  unfold getAttr? getAttrBy?
  refine wpAny_bind (wpAny_mkText (wpAny_bind (wpAny_attempt (qP (h := hh) X I x.gg fun A' => iK X I (findObj_cls x) ?_))))
  exact wpAny_call (PySem.W.class_get (s := ⟨hh,g,d,t + 1,os⟩) (ox := ox) (od := od) X I x.ob (PySem.W.handed_on rfl (wpAny_pure k)))
def nX (H : Hp) (dx : Option Addr) : Prop := match dx with
 | none => True
 | some d => ∃ fs,H d = some (.xd fs)
theorem ko {X : Cx} {pins : List (Addr × Obj)} {σ : St} {H : Hp} {s : Shared} {a C : Addr} {n : Bool} {dx : Option Addr} (I : av X pins σ H s) (e : H a = some (cL n a (.ref C) dx)) (d : nX H dx) : ∃ ox od,PySem.W.InstAt s.heap a ox C od := by
 obtain ⟨⟨ox,vs,h1,h2,h3,h4,_⟩,_⟩ := (show aV X.prog X.w H s.heap a (cL n a (.ref C) dx) from I.hok a _ e)
 have nc : PySem.W.notCls ox = true := by unfold PySem.W.notCls; rw [h4]
 cases dx with
 | none => exact ⟨ox,none,h1,h2,nc,by rw [h3]; trivial⟩
 | some d' =>
  obtain ⟨fs,hd⟩ := d
  obtain ⟨mA,⟨o,es,ep,e',_⟩,_⟩ := (show aV X.prog X.w H s.heap d' (.xd fs) from I.hok d' _ hd)
  exact ⟨ox,some o,h1,h2,nc,by rw [h3]; exact e'⟩
inductive zA (K : A0) (C : Addr) : V -> Bool -> Prop where
 | own {D : Addr} {b : Bool} (h : Av K (.ref C) (.ref D) = some b) : zA K C (.ref D) b
 | ty {T : String} {b : Bool} (h : Av K (.ref C) (.type T) = some b) : zA K C (.ty T) b
theorem pC {X : Cx} {K : A0} (hK : X.K = K) : cC X (.builtin "isinstance") (fun xs H Q => ∃ a C dx c b,xs = [.ref a,c] /\ (∃ n,H a = some (cL n a (.ref C) dx)) /\ nX H dx /\ XI K C /\ zA K C c b /\ Q (.bl b) H) := by
 subst hK
 intro pins s σ H xs us Q I r h
 obtain ⟨a,C,dx,c,b,rfl,⟨n,e⟩,d,xi,xs,q⟩ := h
 obtain ⟨u,w',rfl,e1,e2⟩ := vals2 r
 cases e1
 cases xs with
 | own h =>
  cases e2
  exact Ax (iL xi) I.kIn (ko I e d) h (fun z => nomatch z) fun tk => ⟨.bl b,H,I.tok tk,rfl,q⟩
 | ty h =>
  cases e2
  exact Ax (iL xi) I.kIn (ko I e d) h (fun z => nomatch z) fun tk => ⟨.bl b,H,I.tok tk,rfl,q⟩
abbrev Cx.block (X : Cx) (scope : Scope) (cl : List (Str × Addr)) (C : Addr) (N : List Str) (own : Str) (fp : List Addr) (s : Shared) (H : Hp) : Cx :=
 { X with env := compEnvC scope cl C X.env,N := N,s₀ := s,H₀ := H,outer := X.stack,stack := X.stack,ex := fp,fn := fun y => y == own,pn := [],xe := fun _ _ => False }
structure kr (X : Cx) (scope : Scope) (cl : List (Str × Addr)) (own : Str) (ys : List Str) (js : List Nat) : Prop where
 clos : closureFor scope X.env = pure cl
 nocell : (scope.names.all fun p => !(p.2 == .cell)) = true
 kind : scope.kind = .function
 loc : (scope.names.all fun p => !(p.2 == .local) || scope.names.lookup p.1 == some .local) = true
 ownL : scope.names.lookup own = some .local
 sub : ∀ p ∈ cl,X.env.cells.lookup p.1 = some p.2
 has : ((relabel scope X.env).names.all fun p => !(p.2 == .cell || p.2 == .free) || (cl.lookup p.1).isSome) = true
 noown : cl.lookup own = none
 nd : (own :: ys).Nodup
 at_ : ∀ (i : Nat) (y : Str),ys[i]? = some y -> ∃ j : Nat,js[i]? = some j /\ X.N[j]? = some y /\ (X.env.scope.names.lookup y = some .cell ∨ X.env.scope.names.lookup y = some .free) /\ ((relabel scope X.env).names.lookup y = some .cell ∨ (relabel scope X.env).names.lookup y = some .free)
 len : js.length = ys.length
def bP (js : List Nat) (σ : St) : St := js.map fun j => (σ[j]?).getD none
theorem lookup_all {α : Type} {f : Str × α -> Bool} {x : Str} {a : α} : ∀ {l : List (Str × α)},l.all f = true -> l.lookup x = some a -> f (x,a) = true := by
 intro l h e
 exact BP.mp h _ (B2 e)
section
variable {prog : Program} {w : World} {A : Around} {R : Result -> Shared -> Prop} {s : Shared}
end
section
variable {X : Cx} {scope : Scope} {cl : List (Str × Addr)} {own : Str} {ys : List Str} {js : List Nat} {fp : List Addr} {pins : List (Addr × Obj)} {σ : St} {H : Hp} {s s4 : Shared}
theorem gY {h1 : Heap} (ok : kr X scope cl own ys js) (I : av X pins σ H s) (hf : ∀ b ∈ fp,fP X pins H b) (hlt : ∀ b ∈ fp,b < s.heap.objs.size) (hns : h1.Ns s.heap.objs.size (fun _ => none))
  (hk : ∀ b o,s.heap.get? b = some o -> h1.get? b = some o) (tk : Nat) :
  av (X.block scope cl s.heap.objs.size (own :: ys) own fp s H) [] (none :: bP js σ) H { s with heap := h1,toks := tk } := by
 have sub : ∀ y c,cl.lookup y = some c -> X.env.cells.lookup y = some c := fun y c e => ok.sub (y,c) (B2 e)
 refine ⟨⟨I.ok.mod,ok.kind,I.ok.glob,I.ok.blt,A4 _,fun x y c e1 e2 => I.ok.inj x y c (sub x c e1) (sub y c e2),fun x hx => ?_,fun x c e1 e2 => ?_,I.ok.hd,I.ok.frames,.inl rfl,fun b hb => ⟨AD (hlt b hb),fun x c e => (hf b hb).2.2.2.2.1 x c (sub x c e)⟩,
  I.bs,AR I.ok.bsz I.sz,fun b o e hb => ?_,fun b hb z => ?_,I.stack,I.stkFree⟩,rfl,I.bare,Un.kept hk,⟨_,hns,fun i y v e1 e2 e3 => ?_⟩,fun y c e => ?_,I.hok.fresh (A4 _),fun y c e => I.freeC y c (sub y c e),fun p hp => absurd (show p ∈ ([] : List (Addr × Obj)) from hp) (by simp),I.hok.kept hk,?_⟩
 ·have hx' : (relabel scope X.env).names.lookup x = some .cell ∨ (relabel scope X.env).names.lookup x = some .free := hx
  rcases hx' with z | z
  ·have q := lookup_all ok.has z
   simp only [beq_self_eq_true,Bool.true_or,Bool.not_true,Bool.false_or] at q
   exact B5.mp q
  ·have q := lookup_all ok.has z
   simp only [beq_self_eq_true,Bool.or_true,Bool.not_true,Bool.false_or] at q
   exact B5.mp q
 ·have e1' : (x == own) = true := e1
  have e : x = own := beq_iff_eq.mp e1'
  have e2' : cl.lookup x = some c := e2
  rw [e,ok.noown] at e2'
  cases e2'
 ·rcases (hf b hb).2.2.2.1 with z | z
  ·exact I.ok.noex b o e z
  ·exact absurd (AL (Heap.lt_size (I.ok.bs b o e).1) z) (Bj _)
 ·rcases AB.mp (I.stkSub b z) with q | q
  ·exact (hf b hb).2.1 q
  ·exact (hf b hb).2.2.1 q
 ·cases i with
  | zero => cases e2
  | succ i =>
   have e1' : ys[i]? = some y := e1
   obtain ⟨j,hj,hN,hX,hc⟩ := ok.at_ i y e1'
   have e2' : (bP js σ)[i]? = some (some v) := e2
   unfold bP at e2'
   rw [AK,hj] at e2'
   have hs : σ[j]? = some (some v) := by
    cases q : σ[j]? with
    | none => rw [Bi,q] at e2'; cases e2'
    | some o => rw [Bi,q] at e2'; exact e2'
   obtain ⟨m,hn,hl⟩ := I.loc
   obtain ⟨u,r,l⟩ := hl j y v hN hs (hX.elim (fun z => .inr (.inl z)) fun z => .inr (.inr z))
   refine ⟨u,r,.inr ⟨hc,?_⟩⟩
   rcases l with ⟨k,_⟩ | ⟨k,c,hcl,hcell⟩
   ·have k' : X.env.scope.names.lookup y = some .local := k
    rcases hX with z | z <;> (rw [z] at k'; cases k')
   ·have ex : ∃ c',cl.lookup y = some c' := by
     rcases hc with z | z
     ·have q := lookup_all ok.has z
      simp only [beq_self_eq_true,Bool.true_or,Bool.not_true,Bool.false_or] at q
      exact B5.mp q
     ·have q := lookup_all ok.has z
      simp only [beq_self_eq_true,Bool.or_true,Bool.not_true,Bool.false_or] at q
      exact B5.mp q
    obtain ⟨c',hc'⟩ := ex
    have e := sub y c' hc'
    rw [hcl] at e
    cases e
    obtain ⟨oc,hoc,hd⟩ := hcell
    exact ⟨c,hc',oc,hk _ _ hoc,hd⟩
 ·obtain ⟨v,oc,hoc,hd⟩ := I.cell y c (sub y c e)
  exact ⟨v,oc,hk _ _ hoc,hd⟩
 ·show (none :: bP js σ).length = (own :: ys).length
  simp [bP,ok.len]
theorem jE {H' : Hp} {h' : Heap} {σ' : St} (I : av X pins σ H s) (hf : ∀ b ∈ fp,fP X pins H b) (J : av (X.block scope cl s.heap.objs.size (own :: ys) own fp s H) [] σ' H' s4) (hs : Heap.SameBut s.heap.objs.size s4.heap h') :
  av X pins σ H' { s4 with heap := h' } := by
 have low : ∀ b o,s.heap.get? b = some o -> b ≠ s.heap.objs.size := fun b o e => AD (Heap.lt_size e)
 have B := J.base
 have u : Un (gS X.stack) fp H H' s.heap h' := {
  keep := fun b o q n hb hx => (hs.2 b (low b o q)).trans (B.keep b o q n hb hx)
  slot := fun b o q n hb hx => by
   obtain ⟨sl,e⟩ := B.slot b o q n hb hx
   exact ⟨sl,(hs.2 b (low b o q)).trans e⟩
  free := B.free
  there := fun b o q hx => by
   obtain ⟨o',e⟩ := B.there b o q hx
   exact ⟨o',(hs.2 b (low b o q)).trans e⟩
  tups := B.tups
  frzs := B.frzs
  tbls := B.tbls }
 have hn : H' s.heap.objs.size = none := J.free
 have hk : dQ X.prog X.w H' h' := fun a o e => (J.hok a o e).stay (fun b v hb q => (hs.2 b (by
  intro z
  rcases hb with z' | z'
  ·rw [<- z',z,hn] at e; cases e
  ·rw [z,hn] at z'; cases z')).trans q) (fun _ q => q) fun _ _ q => q
 exact I.call' (s' := { s4 with heap := h' }) (ch := fp) J.os u hk J.bare fun b hb => ⟨(hf b hb).2.2.2.1,(hf b hb).2.1,(hf b hb).2.2.2.2.1,(hf b hb).2.2.2.2.2⟩
end
section
variable {X : Cx} {scope : Scope} {cl : List (Str × Addr)} {own : Str} {ys : List Str} {js : List Nat} {elt iter : Expr} {px pos : Pos} {wi : TI} {te : TE}
end
open PySem.Builtin PySem.Builtin.ObjectAttr
structure XA (K : A0) (C S : Addr) : Prop where
 sa : AH K (.ref C) "__setattr__" = some (some (.builtin "object.__setattr__"))
 mro : (PySem.W.clsIn K C).map (·.mro) = some (.ref C :: .ref S :: p9)
 dct : PySem.W.hasDictIn K C = true
 ob : PySem.W.mroIn K C (.type "object") = some true
theorem qT (self : Value) (C S : Addr) : refuseLoop self "__setattr__" (.ref C :: .ref S :: p9) = pure () := by
 rw [refuseLoop_ref,refuseLoop_ref]
 kernel_rfl
section
variable {prog : Program} {w : World} {A : Around} {E : Value -> Shared -> Prop} {s : Shared} {K : A0} {x C S : Addr} {ox : Obj} {od : Option Obj} {name : Str} {v : Value}
open PySem.W in
theorem sK {R : Result -> Shared -> Prop} {tk : Tok} (X : K.In s.heap) (I : InstAt s.heap x ox C od) (N : XA K C S) (hn : findIn K (.ref C) name = some none)
  (h : wpAny (model prog w) A.in1 (storeInOwnDict (.ref x) (.ref C) (.str name tk) name v false) (fun fin s' => match fin with | .done f => R (.ok f) s' | .again c' => c'.quiet = true /\ codeAny (model prog w) A c' R s') (fun e s' => R (.error e) s') s) :
  codeAny (model prog w) A (.call (.builtin "object.__setattr__") ⟨[.ref x,.str name tk,v],[]⟩) R s := by
 have so := PySem.F.store_object
 obtain ⟨cd,hc,hm⟩ := B1.mp N.mro
 have sub : Looks (model prog w) s.heap (isInstance (.ref x) (.type "object")) true := I.type.andThen (looks_mroIn X N.ob)
 have lm : Looks (model prog w) s.heap (mroOf (.ref C)) cd.mro := (looks_clsIn X hc).andThen .now
 have ck : ∀ {A' : Around} {Q' : Unit -> Shared -> Prop} {E' : Value -> Shared -> Prop},Q' () s -> wpAny (model prog w) A' (checkBuiltinCall "object.__setattr__" ⟨[.ref x,.str name tk,v],[]⟩) Q' E' s := fun {A' Q' E'} q =>
  check_slot (M := model prog w) (A := A') (E := E') (s := s) (i := "object.__setattr__") (owner := "object") (n := "__setattr__") (self := .ref x) (rest := [.str name tk,v]) (kw := []) (Q := Q') so.kind so.split sub (so.args (.ref x) (.str name tk) v) q
 refine codeAny_call_builtin so.slot.plain so.entry (ck ?_)
 rw [osa_eq,refuse_eq]
 refine wpAny_bind (wpAny_bind (I.type.here ?_))
 refine wpAny_bind (lm.here ?_)
 rw [hm,qT]
 refine wpAny_pure (wpAny_bind ?_)
 refine I.type.here (wpAny_bind ?_)
 refine (looks_findIn X hn).here (wpAny_bind (wpAny_pure ?_))
 exact h
open PySem.W in
theorem sM {vs : Array Value} {Q : Unit -> Shared -> Prop} (X : K.In s.heap) (he : s.heap.get? x = some ox) (hc : ox.cls = .ref C) (hdx : ox.dict = none) (hda : ox.data = .fields vs) (N : XA K C S) (hn : findIn K (.ref C) name = some none)
  (h : ∀ h',(∀ b o,b ≠ x -> s.heap.get? b = some o -> h'.get? b = some o) -> h'.get? x = some { ox with dict := some s.heap.objs.size } -> h'.Ns1 s.heap.objs.size (fun y => if y = name then some v else none) ->
   Q () { s with heap := h',toks := s.toks + 2 }) : wpAny (model prog w) A (setAttr (.ref x) name v) Q E s := by
 have I : InstAt s.heap x ox C none := ⟨he,hc,by unfold notCls; rw [hda],by rw [hdx]; trivial⟩
 apply set_plain X I N.sa
 have I2 : InstAt ({ s with toks := s.toks + 1 } : Shared).heap x ox C none := I
 apply sK (s := { s with toks := s.toks + 1 }) X I2 N hn
 obtain ⟨cd,hcd,hd⟩ := any_some N.dct
 obtain ⟨oc,odi,oda,osl⟩ := ox
 dsimp only at hc hdx hda
 subst hc hdx hda
 refine wpAny_bind (wpAny_pure (wpAny_bind (wpAny_bind (wpAny_loadPart he ?_))))
 refine wpAny_bind (Looks.here (s := { s with toks := s.toks + 1 }) (looks_clsIn X hcd) ?_)
 rw [hd]
 show wpAny _ _ (alloc { cls := .type "dict",data := .dict #[] } >>= fun d => update x (fun o => { o with dict := some d }) >>= fun _ => dictMade (.ref C) x d) _ _ _
 refine wpAny_bind (wpAny_alloc ?_)
 have lt := Heap.lt_size he
 have hne : x ≠ s.heap.objs.size := AD lt
 have he1 := Heap.get?_push_of_some (h := s.heap) { cls := .type "dict",data := .dict #[] } he
 have e1 : (s.heap.push AS).get? s.heap.objs.size = some AS := Heap.get?_push_size s.heap rfl
 have e2 : (s.heap.push AS).Ns s.heap.objs.size (fun _ => none) := ⟨AS,#[],_,e1,rfl,(fun e he => absurd he (by simp)),fun _ => rfl⟩
 refine wpAny_bind (wpAny_update he1 ?_)
 refine wpAny_pure ?_
 have up : ∀ b,b ≠ x -> ((s.heap.push AS).update x (fun o => { o with dict := some s.heap.objs.size })).get? b = (s.heap.push AS).get? b := fun b hb => Heap.get?_update_other _ _ (Ne.symm hb)
 have e3 : ((s.heap.push AS).update x (fun o => { o with dict := some s.heap.objs.size })).Ns1 s.heap.objs.size (fun _ => none) := (Heap.Ns1.of_empty e2).at fun o q => (up _ (Ne.symm hne)).trans q
 have e4 : ((s.heap.push AS).update x (fun o => { o with dict := some s.heap.objs.size })).get? x = some ⟨.ref C,some s.heap.objs.size,.fields vs,osl⟩ := Heap.get?_update_self _ he1 rfl
 refine wpAny_bind (wpAny_pure (wpAny_bind ?_))
 refine wpAny_nsSet1 (s := ⟨(s.heap.push AS).update x (fun o => { o with dict := some s.heap.objs.size }),s.gens,s.drawn,s.toks + 1,s.os⟩) e3 fun h' hn2 hs2 => ?_
 obtain ⟨oD,esD,epD,hoD,hdD,hcD⟩ := hn2.count (ns := [name]) (PySem.Within.cons (ns := []) name v (fun y hy => absurd rfl hy))
 refine wpAny_bind (wpAny_lookBehind hoD (by rw [hdD]; exact pastItsLine_dict (AR hcD (by show 1 <= sizeLine + 1; decide))) ?_)
 refine wpAny_pure (h h' (fun b o hb q => ?_) ((hs2.2 x hne).trans e4) hn2)
 have hbd : b ≠ s.heap.objs.size := AD (Heap.lt_size q)
 exact (hs2.2 b hbd).trans ((up b hb).trans (Heap.get?_push_of_some _ q))
end
def w6 (K : A0) (ta tv : TE) (f : Str) : TS := fun D σ H => tv σ H fun y H1 => ta σ H1 fun x H2 => ∃ a C S n,x = .ref a /\ H2 a = some (cL n a (.ref C) none) /\ XA K C S /\ AH K (.ref C) f = some none /\
 ∀ d,H2 d = none -> D.nx σ (aq (aq H2 d (.xd [(f,y)])) a (cL n a (.ref C) (some d)))
section
variable {X : Cx} {o value : Expr} {f : Str} {pos pos' : Pos} {ta tv : TE}
theorem sN {pins : List (Addr × Obj)} {σ : St} {H : Hp} {s : Shared} {a C S : Addr} {y : V} {u : Value} {n : Bool} {A : Around} {E : Value -> Shared -> Prop} {Q : Unit -> Shared -> Prop} (I : av X pins σ H s) (e : H a = some (cL n a (.ref C) none)) (N : XA X.K C S)
  (hn : AH X.K (.ref C) f = some none) (ry : RelV y u) (h : ∀ d s',H d = none -> av X pins σ (aq (aq H d (.xd [(f,y)])) a (cL n a (.ref C) (some d))) s' -> Q () s') :
  wpAny (model X.prog X.w) A (setAttr (.ref a) f u) Q E s := by
 obtain ⟨⟨ox,vs,h1,h2,h3,h4,h6,h5⟩,_⟩ := (show aV X.prog X.w H s.heap a (cL n a (.ref C) none) from I.hok a _ e)
 refine sM I.kIn h1 h2 h3 h4 N hn fun h' kp ha hd => ?_
 have nd : H s.heap.objs.size = none := I.hok.fresh (A4 _)
 have ad : a ≠ s.heap.objs.size := aQ e nd
 refine h s.heap.objs.size _ nd ?_
 have ne : ∀ b o,H b = some o -> b ≠ s.heap.objs.size := fun b o q => aQ q nd
 have nea : ∀ b,H b = none -> b ≠ a := fun b q z => by rw [z,e] at q; cases q
 refine I.un (t' := s.toks + 2) (h' := h') ⟨?_,?_,?_,?_,?_,?_,?_⟩ ?_
 ·intro b o q n hb _
  exact kp b o (nea b n) q
 ·intro b o q n hb _
  exact ⟨o.slots,kp b o (nea b n) q⟩
 ·intro b o q n _
  rw [ae (nea b n),ae (AD (Heap.lt_size q))]
  exact n
 ·intro b o q _
  by_cases hb : b = a
  ·subst hb
   exact ⟨_,ha⟩
  ·exact ⟨o,kp b o hb q⟩
 ·intro b xs q
  have hb : b ≠ a := b9 q e (by intro z; cases z)
  rw [ae hb,ae (ne b _ q)]
  exact q
 ·intro b o' u' q
  have hb : b ≠ a := b9 q e (by intro z; cases z)
  rw [ae hb,ae (ne b _ q)]
  exact q
 ·intro b ps q
  have hb : b ≠ a := b9 q e (by intro z; cases z)
  exact ⟨#[],by rw [ae hb,ae (ne b _ q),q]; simp⟩
 ·intro b ob q
  by_cases hb : b = a
  ·subst hb
   rw [ac] at q
   cases q
   exact km ha h2 rfl h4 h6 h5
  ·rw [ae hb] at q
   by_cases hbd : b = s.heap.objs.size
   ·subst hbd
    rw [ac] at q
    cases q
    refine ⟨_,hd,fun g => ?_⟩
    show dE (BR g [(f,y)]) (if g = f then some u else none)
    by_cases hg : g = f
    ·subst hg
     rw [if_pos rfl]
     simp only [BR,beq_self_eq_true]
     exact ry
    ·rw [if_neg hg]
     have : (g == f) = false := beq_eq_false_iff_ne.mpr hg
     simp only [BR,this]
     trivial
   ·rw [ae hbd] at q
    refine (I.hok b ob q).stay (fun c v hc z => kp c v (fun y => ?_) z) (fun c z => ?_) fun c xs z => ?_
    ·rcases hc with z' | z'
     ·exact hb (z'.symm.trans y)
     ·rw [y,e] at z'; cases z'
    ·have hc : c ≠ a := b9 z e (by intro z; cases z)
     rw [ae hc,ae (ne c _ z)]
     exact z
    ·have hc : c ≠ a := b9 z e (by intro z; cases z)
     rw [ae hc,ae (ne c _ z)]
     exact z
end
section
variable {X : Cx} {o e value : Expr} {f : Str} {pos pos' : Pos} {ta tv : TE}
theorem nY {K : A0} (hK : X.K = K) (ha : PE X o ta) (hv : PE X value tv) (hs : swapsWith value (some (.Attribute o f pos')) pos.line X.env = pure false) : PS X (.Assign [.Attribute o f pos'] value pos) (w6 K ta tv f) := by
 subst hK
 intro pins s σ H D I h
 refine plainObj_wpAny_Assign_Attribute (bw (hv pins s σ H _ I h) fun u s1 ⟨y,H1,I1,ry,q⟩ => bw (ha pins s1 σ H1 _ I1 q) fun ov s2 ⟨x,H2,I2,rx,a,C,S,nb,ex,ea,n,hn,q2⟩ => ?_) hs
 subst ex
 obtain rfl : ov = Value.ref a := rx
 exact sN I2 ea n hn ry fun d s3 nd I3 => ⟨σ,_,I3,q2 d nd⟩
structure XF (K : A0) (C : Addr) (f : Str) : Prop where
 gg : XG K C
 dct : PySem.W.hasDictIn K C = true
 no : AH K (.ref C) f = some none
def w8 (K : A0) (ta : TE) (f : Str) : TE := fun σ H Q => ta σ H fun x H1 => ∃ a C d fs v n,x = .ref a /\ H1 a = some (cL n a (.ref C) (some d)) /\ H1 d = some (.xd fs) /\ XF K C f /\ fs.lookup f = some v /\ Q v H1
theorem nZ {K : A0} (hK : X.K = K) (he : PE X e ta) (hb : attributeBase e f X.env (eval e X.env) = eval e X.env) : PE X (.Attribute e f pos) (w8 K ta f) := by
 subst hK
 intro pins s σ H Q I h
 refine nK hb (bw (he pins s σ H _ I h) fun ov s1 ⟨x,H1,I1,rx,a,C,d,fs,v,nb,ex,ea,ed,n,l,q⟩ => ?_)
 subst ex
 obtain rfl : ov = Value.ref a := rx
 obtain ⟨⟨ox,vs,h1,h2,h3,h4,_⟩,_⟩ := (show aV X.prog X.w H1 s1.heap a (cL nb a (.ref C) (some d)) from I1.hok a _ ea)
 obtain ⟨mA,ns,rel⟩ := (show aV X.prog X.w H1 s1.heap d (.xd fs) from I1.hok d _ ed)
 obtain ⟨od,hod,lk⟩ := jp ns
 obtain ⟨u,hu,ru⟩ := dE.some_of (v := v) (o := mA f) (by rw [<- l]; exact rel f)
 have J : PySem.W.InstAt s1.heap a ox C (some od) := ⟨h1,h2,by unfold PySem.W.notCls; rw [h4],by rw [h3]; exact hod⟩
 have KX := I1.kIn
 have I2 := I1.tok (s1.toks + 1)
 obtain ⟨hh,g,dr,t,os⟩ := s1
 unfold getAttr
 refine wpAny_bind (wpAny_mkText (qP (h := hh) KX J n.gg fun A' => ie KX J (PySem.W.findObj_own n.dct n.no rfl (by rw [lk,hu])) ?_))
 exact PySem.W.handed_on (jq ru) ⟨v,H1,I2,ru,q⟩
end
theorem sO {K : A0} {h : Heap} {N : Addr} {mg : Str -> Option Value} {n : Str} {v : Value} (X : K.In h) (G : h.Ns N mg) (e : A6 K N n = some (some v)) : mg n = some v := by
 obtain ⟨o,es,ep,ho,hd,_,hf⟩ := G
 unfold A6 at e
 split at e
 ·rename_i q
  have z := X _ _ q
  rw [ho] at z
  cases z
  cases hd
  split at e
  ·rename_i he
   cases e
   rw [<- hf]
   unfold nsFind findBy
   rw [<- Array.find?_toList,he]
   rfl
  ·split at e <;> cases e
 ·cases e
structure w9 (K : A0) (C f : Addr) : Prop where
 ex : ∃ bm N nm q bs hdct sn sub ab col dd k0 k1 k2 k3 k5,K.lookup C = some (excClassObj nm q C N bs bm hdct sn sub ab col dd k0 k1 k2 k3 k5 "ValueError.__new__") /\ PySem.W.nsOkIn K N = true /\ A6 K N "__init__" = some (some (.ref f)) /\ PySem.W.tailIn K p9 bm = true
 fn : PySem.W.typeIn K (.ref f) = some (.type "function")
 kp : Aw K (.ref C) = true
section
variable {prog : Program} {w : World} {A : Around} {E : Value -> Shared -> Prop} {h : Heap} {g : Array GenState} {d : Drawn} {t : Nat} {os : OsState}
variable {nm q : Str} {C N : Addr} {bs bm : List Value} {hdct : Bool} {sn : List Str} {sub : List Value} {ab : Bool} {col : Option Bool} {dd : Option Addr} {k0 k1 k2 k3 k5 : Option Value}
theorem iM {mN : Str -> Option Value} {rest : List Value} {fI : Addr} {oI : Obj} {Q : Fin -> Shared -> Prop} (tl : OwnTail h p9 bm)
  (cl : h.get? C = some (excClassObj nm q C N bs bm hdct sn sub ab col dd k0 k1 k2 k3 k5 "ValueError.__new__")) (nn : h.Ns N mN) (ni : mN "__init__" = some (.ref fI)) (gI : h.get? fI = some oI) (cI : oI.cls = .type "function")
  (kq : ∀ h' e,Heap.MadeExcOf h h' e (.ref C) rest -> wpAny (model prog w) A (call (.ref fI) (.ref e :: rest)) (fun r s' => r = .none /\ Q (.done (.ret (.ref e))) s') E ⟨h',g,d,t,os⟩) (lr : rest.length <= sizeLine) :
  wpAny (model prog w) A (Builtin.«type.__call__» ⟨.ref C :: rest,[]⟩) Q E ⟨h,g,d,t,os⟩ := by
 have FV := PySem.F.excBase_ValueError
 repeat (first | with_reducible refine wpAny_loadPart_at cl ?_ | with_reducible refine wpAny_madeBy_exc cl ?_ | wp_step)
 refine codeAny_call_builtin_code (Code.quiet_builtin _ FV.quiet) (wpAny_check_new_subT FV tl cl ?_)
 refine codeAny_exc_new_subT FV tl cl ?_ lr
 show wpAny _ _ _ _ _ _
 generalize hp : (h.push { cls := .type "tuple",data := .seq rest.toArray }).push { cls := .ref C,data := .fields #[.ref h.objs.size,.none,.none,.none,.bool false,.none] } = h2
 have kp : ∀ b o,h.get? b = some o -> h2.get? b = some o := fun b o z => by rw [<- hp]; exact Heap.get?_push_of_some _ (Heap.get?_push_of_some _ z)
 have ge : h2.get? (h.objs.size + 1) = some { cls := .ref C,data := .fields #[.ref h.objs.size,.none,.none,.none,.bool false,.none] } := by rw [<- hp]; heap_get
 have gt : h2.get? h.objs.size = some { cls := .type "tuple",data := .seq rest.toArray } := by rw [<- hp]; exact Heap.get?_push_of_some _ (Heap.get?_push_at rfl rfl)
 have cl2 := kp _ _ cl
 have nn2 : h2.Ns N mN := nn.keeps kp
 have self : (Value.ref C :: bm).contains (.ref C) = true := by simp
 unfold isInstance
 repeat (first | with_reducible refine wpAny_loadPart_at ge ?_ | (with_reducible refine wpAny_isSubtype_exc cl2 ?_; rw [self]) | wp_step)
 show wpAny _ _ (typeLookup (.ref C) _) _ _ _
 refine wpAny_typeLookup_tail cl2 nn2 (tl.keeps kp) FV.mroIs FV.init.lookup ?_
 rw [ni]
 refine wpAny_holding (wpAny_bind ?_)
 unfold bindSpecial
 refine wpAny_bind (wpAny_typeOf (T := "function") ⟨_,kp _ _ gI,cI⟩ ?_)
 rw [if_pos (by decide)]
 refine wpAny_pure (wpAny_bind ?_)
 refine wpAny_mono (kq h2 (h.objs.size + 1) ⟨kp,Heap.get?_none_of_le (Nat.le_succ _),h.objs.size,ge,Heap.get?_none_of_le (A4 _),gt⟩) (fun r s' hr => ?_) fun _ _ z => z
 obtain ⟨rfl,z⟩ := hr
 wp_walk
 exact z
theorem pD {mN : Str -> Option Value} {rest : List Value} {fI : Addr} {oI : Obj} {Q : Value -> Shared -> Prop} (tl : OwnTail h p9 bm)
  (cl : h.get? C = some (excClassObj nm q C N bs bm hdct sn sub ab col dd k0 k1 k2 k3 k5 "ValueError.__new__")) (nn : h.Ns N mN) (ni : mN "__init__" = some (.ref fI)) (gI : h.get? fI = some oI) (cI : oI.cls = .type "function")
  (kq : ∀ h' e,Heap.MadeExcOf h h' e (.ref C) rest -> wpAny (model prog w) (A.under (.builtin "type.__call__" ⟨.ref C :: rest,[]⟩)) (call (.ref fI) (.ref e :: rest)) (fun r s' => r = .none /\ Q (.ref e) s') E ⟨h',g,d,t,os⟩) (lr : rest.length <= sizeLine) :
  wpAny (model prog w) A (call (.ref C) rest) Q E ⟨h,g,d,t,os⟩ := by
 have a1 := tc_lookup
 have a2 := tc_bind (.ref C)
 have ty : (⟨h,g,d,t,os⟩ : Shared).TypeIs (.ref C) "type" := ⟨_,cl,rfl⟩
 refine wpAny_call (codeAny_of_tree ?_)
 show wpAny _ _ (callAny (.ref C) _) _ _ _
 repeat (any_goals (first | assumption | with_reducible refine wpAny_loadPart_at cl ?_ | wp_step))
 refine ⟨rfl,?_⟩
 refine codeAny_call_builtin_at (Code.quiet_builtin _ (by decide +kernel)) entry_typeCall (wpAny_check_type_call_sub cl ?_)
 exact iM tl cl nn ni gI cI (fun h' e mk => kq h' e mk) lr
end
section
variable {X : Cx} {x : Str} {p pos : Pos} {e : Expr} {es : List Expr} {C fI : Addr} {t : TA} {k : Nat} {fd : FuncData} {ps : List Str} {sp : Sp}
theorem qU {pins : List (Addr × Obj)} {σ : St} {H : Hp} {s : Shared} {Q : Value -> Shared -> Prop} {us : List Value} {vs : List V} {E : Value -> Shared -> Prop} {R : Addr -> Hp -> Prop} (M : w9 X.K C fI) (F : bg X.prog X.w X.K X.mg X.base a9 k fI fd ps sp) (hr : bQ (k + 1) X.A) (hb : Binds X.K fd ps [])
  (I : av X pins σ H s) (r : aM vs us) (lr : vs.length <= sizeLine) (h : ∀ a,H a = none -> sp (.ref a :: vs) (aq H a (cL true a (.ref C) none)) (fun v H2 => v = .non /\ R a H2) E0)
  (hq : ∀ a h' H2 s2,Heap.MadeExcOf s.heap h' a (.ref C) us -> s2.os = s.os -> AllBare s2.gens -> Un (gS X.stack) [] H H2 s.heap s2.heap -> dQ X.prog X.w H2 s2.heap -> R a H2 -> Q (.ref a) s2) :
  wpAny (model X.prog X.w) X.A (call (.ref C) us) Q E s := by
 obtain ⟨bm,N,nm,qn,bs,hdct,sn,sub,ab,col,dd,k0,k1,k2,k3,k5,lk,ok,ini,tl⟩ := M.ex
 have KX := I.kIn
 have lr' : us.length <= sizeLine := by rw [<- r.length]; exact lr
 have fn := M.fn
 unfold PySem.W.typeIn at fn
 obtain ⟨oI,gI,cI⟩ := B1.mp fn
 have nn : s.heap.Ns N (s.heap.nsMap N) := .of_isNs (PySem.W.isNs_of_in KX ok)
 have key := fun h' a (mk : Heap.MadeExcOf s.heap h' a (.ref C) us) => (nW I mk).caughtN I
 have un := fun h' a (mk : Heap.MadeExcOf s.heap h' a (.ref C) us) => iJ (o := cL true a (.ref C) none) (Un.kept (fs := gS X.stack) (ex := []) (H := H) mk.keeps) mk.new (I.hok.none_of mk.new)
 obtain ⟨hh,g,d,tk,os⟩ := s
 refine pD (PySem.W.tail_of_in KX tl) (KX _ _ lk) nn (sO KX nn ini) (KX _ _ gI) cI (fun h' a mk => ?_) lr'
 have I2 := key h' a mk
 have na : H a = none := I.hok.none_of mk.new
 have hs := h a na
 have r2 : aM (V.ref a :: vs) (Value.ref a :: us) := .cons rfl r
 have hl : (Value.ref a :: us ++ []).length = ps.length := by
  rw [List.append_nil,<- r2.length]
  exact F.len _ _ _ _ hs
 have hb' := hb ⟨h',g,d,tk,os⟩ (Value.ref a :: us) I2.kIn hl
 rw [List.append_nil] at hb'
 refine wpAny_call (codeAny_mono (F.run _ X.stack _ _ ⟨Value.ref a :: us,[]⟩ (Value.ref a :: us) _ _ E0 (hr.make C us []) (I2.env0.make C us []) hb' r2 hs) fun rr s' hq' => ?_)
 cases rr with
 | error z => exact hq'.elim
 | ok fl =>
  cases fl with
  | ret u =>
   obtain ⟨v,H2,os',bare,un2,hok,rv,ev,q2⟩ := hq'
   subst ev
   exact ⟨rv,hq a h' H2 s' mk os' bare ((un h' a mk).trans un2) hok q2⟩
  | next => exact False.elim hq'
  | brk => exact False.elim hq'
  | cont => exact False.elim hq'
end
section
variable {M : Model} {A : Around} {E : Value -> Shared -> Prop} {env : Env}
variable {nm q : Str} {C N : Addr} {bs bm : List Value} {hdct : Bool} {sn : List Str} {sub : List Value} {ab : Bool} {col : Option Bool} {dd : Option Addr} {k0 k1 k2 k3 k5 : Option Value} {nw : String}
theorem pE {s : Shared} {x : Sem Value} {Q : Flow -> Shared -> Prop} (hb : bm.contains (.type "BaseException") = true) (hh : A.handled = none)
  (h : wpAny M A x (fun v s1 => ∃ e dx ws sl,v = .ref e /\ s1.heap.get? C = some (excClassObj nm q C N bs bm hdct sn sub ab col dd k0 k1 k2 k3 k5 nw) /\ s1.heap.get? e = some ⟨.ref C,dx,.fields ws,sl⟩ /\ ws[1]? = some .none /\ E (.ref e) s1) E s) :
  wpAny M A (raiseStmt env (some x) none) Q E s := by
 have cb : (Value.ref C :: bm).contains (.type "BaseException") = true := by rw [List.contains_cons,hb,Bool.or_true]
 unfold raiseStmt
 apply wpAny_bind
 refine wpAny_mono h (fun v s1 h1 => ?_) fun _ _ z => z
 obtain ⟨e,dx,ws,sl,rfl,cl,ge,n1,he⟩ := h1
 obtain ⟨hp,g,d,tk,os⟩ := s1
 repeat (first | with_reducible refine wpAny_loadPart_at ge ?_ | with_reducible refine wpAny_loadPart_at cl ?_ | (with_reducible refine wpAny_isSubtype_exc cl ?_; rw [cb]) | wp_step)
 rw [n1]
 refine wpAny_pure ?_
 rw [if_neg (by decide)]
 exact wpAny_pure (wpAny_raiseNew_none hh he)
end
def del (H : Hp) (a : Addr) : Hp := fun b => if b = a then none else H b
theorem eD {H : Hp} {a b : Addr} (h : b ≠ a) : del H a b = H b := if_neg h
theorem iN {H : Hp} {a : Addr} : del H a a = none := if_pos rfl
theorem vy {fs : List Addr} {H H2 : Hp} {h0 h : Heap} {a : Addr} (u : Un fs [] H H2 h0 h) (na : H a = none) : Un fs [] H (del H2 a) h0 h where
 keep := u.keep
 slot := u.slot
 free := fun b o q n hx => by
  by_cases hb : b = a
  ·rw [hb,iN]
  ·rw [eD hb]; exact u.free b o q n hx
 there := u.there
 tups := fun b xs e => by rw [eD (aQ e na)]; exact u.tups b xs e
 frzs := fun b o w e => by rw [eD (aQ e na)]; exact u.frzs b o w e
 tbls := fun b ps e => by rw [eD (aQ e na)]; exact u.tbls b ps e
theorem sP {P : Program} {w : World} {H : Hp} {h : Heap} {a : Addr} {φ : Heap -> Prop} (k : dQ P w H h) (e : H a = some (.ext φ)) : dQ P w (del H a) h := fun b o q => by
 by_cases hb : b = a
 ·rw [hb,iN] at q; cases q
 ·rw [eD hb] at q
  refine (k b o q).stay (fun c v _ z => z) (fun c z => ?_) fun c xs z => ?_
  ·rw [eD (b9 z e (by intro y; cases y))]; exact z
  ·rw [eD (b9 z e (by intro y; cases y))]; exact z
def n8 (C : Addr) (sp : Sp) (E : St -> XK) (t : TA) : TS := fun _ σ H => t σ H fun vs H1 => vs.length <= sizeLine /\ ∀ a,H1 a = none -> sp (.ref a :: vs) (aq H1 a (cL true a (.ref C) none)) (fun v H2 => v = .non /\ ∃ d,H2 a = some (cL true a (.ref C) (some d)) /\ E σ (.ref C) (some d) (del H2 a)) E0
section
variable {X : Cx} {x : Str} {np cpos pos : Pos} {e₀ : Expr} {rest : List Expr} {C fI : Addr} {t : TA} {k : Nat} {fd : FuncData} {ps : List Str} {sp : Sp} {E : St -> XK}
theorem pG (M : w9 X.K C fI) (F : bg X.prog X.w X.K X.mg X.base a9 k fI fd ps sp) (hr : bQ (k + 1) X.A) (hg : Gl X x) (hm : X.mg x = some (.ref C)) (hb : Binds X.K fd ps []) (hc : X.calm = true) (hp : fB X E) (ha : PA X (e₀ :: rest) t) (hd : (x == ("__debug__" : Str)) = false := by decide)
  (he : starEach (e₀ :: rest) X.env = (false,eval e₀ X.env) :: starEach rest X.env := by rfl) (hpl : (backTo cpos (starEach rest X.env)).any (·.1) = false := by rfl) :
  PS X (.Raise (some (.Call (.Name x np) (e₀ :: rest) [] cpos)) none pos) (n8 C sp E t) := by
 intro pins s σ H D I h
 obtain ⟨bm,N,nm,qn,bs,hdct,sn,sub,ab,col,dd,k0,k1,k2,k3,k5,lk,ok,ini,tl⟩ := M.ex
 have bb : bm.contains (.type "BaseException") = true := (PySem.W.tail_of_in I.kIn tl).hasType PySem.F.excBase_ValueError.hasBase
 have body : wpAny (model X.prog X.w) X.A (eval (.Call (.Name x np) (e₀ :: rest) [] cpos) X.env) (fun v s1 => ∃ e dx ws sl,v = .ref e /\ s1.heap.get? C = some (excClassObj nm qn C N bs bm hdct sn sub ab col dd k0 k1 k2 k3 k5 "ValueError.__new__") /\ s1.heap.get? e = some ⟨.ref C,dx,.fields ws,sl⟩ /\ ws[1]? = some .none /\ X.xe (.ref e) s1) X.xe s := by
  refine wpAny_Call_Name_kw (dG I hg hm ?_ hd)
  refine BQ (h₀ := X.base) I.ok.mod.kin M.kp (bw (ha cpos pins s σ H _ I h) fun us s1 ⟨vs,H1,I1,r,lr,q⟩ => ⟨I1.kIn,?_⟩) he hpl
  refine qU M F hr hb I1 r lr q fun a h' H2 s2 mk os bare un hok q2 => ?_
  obtain ⟨d,ed,hE⟩ := q2
  have I2 := I1.call' os un hok bare (fun b z => absurd z (by simp))
  obtain ⟨⟨ox,ws,g1,g2,g3,g4,g6,g5⟩,_⟩ := (show aV X.prog X.w H2 s2.heap a (cL true a (.ref C) (some d)) from hok a _ ed)
  have na := I1.hok.none_of mk.new
  obtain ⟨oc,odx,oda,osl⟩ := ox
  dsimp only at g2 g3 g4
  subst g2 g3 g4
  refine ⟨a,some d,ws,osl,rfl,I2.kIn _ _ lk,g1,(g5 rfl).2,hp pins σ H1 s1 _ _ I1 ⟨a,del H2 a,.ref C,some d,.new,rfl,⟨os,bare,vy un na,sP hok ed,⟨⟨_,ws,g1,rfl,rfl,rfl,⟨(g5 rfl).1,g6⟩,(g5 rfl).2⟩,mk.new,iN⟩⟩,hE⟩⟩
 rw [arm_exec_Raise]
 apply wpAny_bind
 apply wpAny_standAt
 refine pE (C := C) (nm := nm) (q := qn) (N := N) (bs := bs) (bm := bm) (hdct := hdct) (sn := sn) (sub := sub) (ab := ab) (col := col) (dd := dd) (k0 := k0) (k1 := k1) (k2 := k2) (k3 := k3) (k5 := k5) (nw := "ValueError.__new__") bb (I.ok.hd hc) ?_
 apply wpAny_bind
 refine wpAny_mono body (fun v s1 h1 => ?_) fun _ _ z => z
 apply wpAny_bind
 apply wpAny_standAt
 exact wpAny_pure h1
end
section
variable {prog : Program} {w : World} {A : Around} {E : Value -> Shared -> Prop} {s : Shared}
end
section
variable {X : Cx} {tg : Expr} {hd : Option Value}
end
section
variable {X : Cx} {scope : Scope} {cl : List (Str × Addr)} {own : Str} {ys : List Str} {js : List Nat} {elt iter : Expr} {px pos : Pos} {wi : TI} {te : TE} {hd : Option Value}
end
def xc (K : A0) (C' : Addr) (i : Nat) (t : Addr -> TS) (r : TH) : TH := fun D σ cls dx H a => ∃ C b,cls = .ref C /\ PySem.W.subIn K (.ref C) (.ref C') = some b /\
 if b = true then t a (wZ i D) (σ.set i (some (.ref a))) (aq H a (qO a cls dx)) else r D σ cls dx H a
section
variable {X : Cx} {x n : Str} {np pos : Pos} {b0 : Stmt} {suite : List Stmt} {rest : List ExceptHandler} {i : Nat} {C' : Addr} {tA : Addr -> TS} {th : TH}
theorem vz (T : XT X.K C') (hg : Gl X x) (hm : X.mg x = some (.ref C')) (hN : X.N.Nodup) (hi : X.N[i]? = some n) (hloc : X.env.scope.names.lookup n = some .local)
  (hs : ∀ (pins : List (Addr × Obj)) (a : Addr),ja (X.suite pins a) (b0 :: suite) (tA a)) (hrest : PH X rest th) (hd : (x == ("__debug__" : Str)) = false := by decide) :
  PH X (.ExceptHandler (some (.Name x np)) (some n) (b0 :: suite) pos :: rest) (xc X.K C' i tA th) := by
 intro pins σ H0 s0 D a H' cls v dx s' I c h
 obtain ⟨C,b,rfl,hsub,h⟩ := h
 have J : av X pins σ H' s' := I.call' c.os c.un c.hok c.bare (fun b z => absurd z (by simp))
 obtain ⟨oe,vs,he,hc,_,_,_⟩ := c.xo.ex
 refine wpAny_handleBy_cons (codeAny_handlers_test (dG (X := X.suite pins a) (J.insuite a) hg hm ?_ hd)) (by intro q; cases q)
 have KX := J.kIn
 obtain ⟨hh,g,d,tk,os⟩ := s'
 refine mO KX he hc T hsub ?_
 cases b with
 | false => exact hrest pins σ H0 s0 D a H' _ v dx _ I c h
 | true =>
  refine codeAny_handlers_suite_as ?_
  refine c.flight I.stack I.stkFree fun s2 c2 => ?_
  have J2 := (c2.caught I).insuite a
  refine dR (X := X.suite pins a) (v := V.ref a) J2 hN hi (.inl hloc) (show RelV (V.ref a) (Value.ref a) from rfl) (fun s3 I3 => ?_) (.inr hloc)
  refine wpAny_mono (hs pins a [] s3 _ _ _ I3 h) (fun f s4 q => ?_) fun _ _ z => z.elim
  exact sJ I.ok hN hi hloc q
end
structure dh (hd : Option Value) (k : Nat) (A : Around) : Prop where
 hd : A.handled = hd
 dp : A.depth + 3 * k + 5 < recursionLimit
 un : A.units + 16 * k + 200 < cLine
theorem dh.mono {hd : Option Value} {j k : Nat} {A : Around} (r : dh hd k A) (h : j <= k) : dh hd j A := ⟨r.hd,by have := r.dp; omega,by have := r.un; omega⟩
theorem dh.deeper {hd : Option Value} {k : Nat} {A : Around} (r : dh hd (k + 1) A) (env : Env) : dh hd k (A.deeper env) :=
 ⟨r.hd,by have := r.dp; show A.depth + 1 + 3 * k + 5 < _; omega,by have := r.un; show A.units + 3 + 16 * k + 200 < _; omega⟩
theorem dh.depth {hd : Option Value} {k : Nat} {A : Around} (r : dh hd k A) : A.depth < recursionLimit := by have := r.dp; omega
theorem bQ.h {k : Nat} {A : Around} (r : bQ k A) : dh none k A := ⟨r.hd,r.dp,r.un⟩
theorem bQ.suite {k : Nat} {A : Around} (r : bQ k A) (v : Value) : dh (some v) k (A.mark (some v)) := ⟨rfl,r.dp,r.un⟩
structure uK (hd : Option Value) (P : Program) (w : World) (K : A0) (mg : Str -> Option Value) (base : Heap) (k : Nat) (f : Addr) (fd : FuncData) (ps : List Str) (sp : Sp) : Prop where
 len : ∀ vs H Q E,sp vs H Q E -> vs.length = ps.length
 run : ∀ (A : Around) (outer : List Env) (s : Shared) (H : Hp) (args : Args) (us : List Value) (vs : List V) (Q : VK) (E : XK),dh hd k A -> jc P w K mg base A outer s H -> BindsTo s fd args (ps.zip us) -> aM vs us -> sp vs H Q E ->
  codeAny (model P w) A (.call (.ref f) args) (CR a9 outer P w H s Q E) s
section
variable {P : Program} {w : World} {K : A0} {mg : Str -> Option Value} {base : Heap} {hd : Option Value}
theorem uK.calm {k : Nat} {f : Addr} {fd : FuncData} {ps : List Str} {sp : Sp} (F : uK none P w K mg base k f fd ps sp) : bg P w K mg base a9 k f fd ps sp :=
 ⟨F.len,fun A outer s H args us vs Q E hr => F.run A outer s H args us vs Q E hr.h⟩
def vA (hd : Option Value) (P : Program) (w : World) (K : A0) (mg : Str -> Option Value) (base : Heap) (N : List Str) (qual : Str) (scope : Scope) (f : Addr) (cd : Value) (A : Around) (outer : List Env) (s : Shared) (H : Hp) (E : XK) : Cx :=
 { gF a9 P w K mg base N qual scope f cd A outer s H E with calm := hd.isNone }
theorem mP {N ps : List Str} {qual : Str} {scope : Scope} {f : Addr} {cd : Value} {A : Around} {outer : List Env} {s s1 : Shared} {H : Hp} {E : XK} {us : List Value} {vs : List V}
  (S : aA N ps scope) (hA : A.handled = hd) (e0 : jc P w K mg base A outer s H) (hl : vs.length = ps.length) (r : aM vs us)
  (x : InCallC s s.heap.objs.size (bindL (envOfC qual scope s.heap.objs.size f cd).kindOf (ps.zip us) fun _ => none) (cellsFrom (s.heap.objs.size + 1) scope.names []) (bindC (envOfC qual scope s.heap.objs.size f cd).kindOf (ps.zip us) fun _ => none) s1) :
  av (vA hd P w K mg base N qual scope f cd A outer s H E) [] (start N vs) H s1 := by
 have e0' : jc P w K mg base { A with handled := none } outer s H := ⟨e0.frames,e0.mod,e0.bs,e0.bsz,e0.funs,e0.frf,e0.hok,e0.bare⟩
 have I := jw (CX := a9) (E := E) S (A := { A with handled := none }) rfl e0' hl r x
 have hh : (vA hd P w K mg base N qual scope f cd A outer s H E).calm = true -> (vA hd P w K mg base N qual scope f cd A outer s H E).A.handled = none := fun z => by
  cases hd with
  | none => exact hA
  | some v => cases (show false = true from z)
 exact ⟨⟨I.ok.mod,I.ok.kind,I.ok.glob,I.ok.blt,I.ok.above,I.ok.inj,I.ok.has,I.ok.cab,hh,I.ok.frames,I.ok.stk,I.ok.exf,I.ok.bs,I.ok.bsz,I.ok.noex,I.ok.exfs,I.ok.funs,I.ok.frf⟩,
  I.os,I.bare,I.base,I.loc,I.cell,I.free,I.freeC,I.pin,I.hok,I.len⟩
theorem vB {k : Nat} {f : Addr} {name qual : Str} {params : Arguments} {body : List Stmt} {scope : Scope} {dV kV doc pm cdv ct oc : Value} {an od : Option Addr}
  {osl : Array (Option Value)} {N ps : List Str} {sp : Sp} (lk : K.lookup f = some ⟨oc,od,.func (Ay name qual params body scope dV kV doc pm an cdv ct),osl⟩) (hcd : BI K cdv qual = true) (S : aA N ps scope)
  (len : ∀ vs H Q E,sp vs H Q E -> vs.length = ps.length)
  (hbody : ∀ (A : Around) (outer : List Env) (s : Shared) (H : Hp) (vs : List V) (Q : VK) (E : XK),dh hd k (A.deeper (envOfC qual scope s.heap.objs.size f cdv)) -> sp vs H Q E ->
   ∃ t,ja (vA hd P w K mg base N qual scope f cdv A outer s H E) body t /\ t { nx := fun _ H' => Q .non H',rt := Q } (start N vs) H) :
  uK hd P w K mg base (k + 1) f (Ay name qual params body scope dV kV doc pm an cdv ct) ps sp := by
 refine ⟨len,fun A outer s H args us vs Q E hr e0 hb r hsp => ?_⟩
 have hl := len _ _ _ _ hsp
 have KX : K.In s.heap := e0.mod.kin.keeps fun b o e => (e0.bs b o e).1
 have lim : s.heap.NoLimit := e0.mod.nolimit.keeps fun b o e => (e0.bs b o e).1
 have hkind : ∀ y ∈ ps.zip us,scope.names.lookup y.1 = some .local ∨ (scope.names.lookup y.1 = some .cell /\ ((cellsFrom (s.heap.objs.size + 1) scope.names []).lookup y.1).isSome = true) := fun ⟨n,v⟩ hy => by
  rcases S.par n (List.of_mem_zip hy).1 with q | q
  ·exact .inl q
  ·exact .inr ⟨q,PySem.W.cellsFrom_some _ _ _ (.inl q)⟩
 refine codeAny_call_function hr.depth (KX _ _ lk) rfl S.co S.gen rfl (PySem.W.codeRec_of KX hcd) (hb _ _ _ _ ?_)
 refine wpAny_newFunctionEnv_cells S.kind hkind fun env he s1 x => ?_
 subst he
 refine ⟨lim.keeps x.toInCall.keep,codeAny_func ?_⟩
 obtain ⟨t,ht,hq⟩ := hbody A outer s H vs Q E (hr.deeper _) hsp
 have I : av (vA hd P w K mg base N qual scope f cdv A outer s H E) [] (start N vs) H s1 := mP S hr.hd e0 hl r x
 refine wpAny_mono (ht [] s1 (start N vs) H _ I hq) (fun fl s' hs => ?_) fun e s' hs => hs
 have fin : ∀ {σ' : St} {H' : Hp} {v : V} {u : Value},av (vA hd P w K mg base N qual scope f cdv A outer s H E) [] σ' H' s' -> RelV v u -> Q v H' -> CE outer P w H s Q u s' :=
  fun {σ' H' v u} J rv q => ⟨v,H',J.os,J.bare,J.base,J.hok,rv,q⟩
 cases fl with
 | ret u =>
  obtain ⟨v,σ',H',J,rv,q⟩ := hs
  exact fin J rv q
 | next =>
  obtain ⟨σ',H',J,q⟩ := hs
  exact fin (v := V.non) (u := Value.none) J rfl q
 | brk =>
  obtain ⟨_,_,_,q⟩ := hs
  exact False.elim q
 | cont =>
  obtain ⟨_,_,_,q⟩ := hs
  exact False.elim q
end
section
variable {X : Cx} {k : Nat} {f : Addr} {fd : FuncData} {ps : List Str} {sp : Sp} {dvs : List V} {ds : List Value} {x : Str} {p pos : Pos} {e : Expr} {es : List Expr} {t : TA} {hd : Option Value}
theorem sQ {pins : List (Addr × Obj)} {σ : St} {H : Hp} {s : Shared} {Q : VK} {us : List Value} {vs : List V} (F : uK hd X.prog X.w X.K X.mg X.base k f fd ps sp) (hr : dh hd k X.A) (hb : Binds X.K fd ps ds) (hv : aM dvs ds)
  (I : av X pins σ H s) (r : aM vs us) (h : sp (vs ++ dvs) H Q E0) : wpAny (model X.prog X.w) X.A (call (.ref f) us) (EP X pins σ Q) X.xe s := by
 have r2 : aM (vs ++ dvs) (us ++ ds) := r.append hv
 have hl : (us ++ ds).length = ps.length := by rw [<- r2.length]; exact F.len _ _ _ _ h
 refine wpAny_call (codeAny_mono (F.run X.A X.stack s H ⟨us,[]⟩ (us ++ ds) (vs ++ dvs) Q E0 hr I.env0 (hb s us I.kIn hl) r2 h) fun r s' hq => ?_)
 cases r with
 | error e => exact False.elim hq
 | ok fl =>
  cases fl with
  | ret u => exact I.after hq
  | next => exact False.elim hq
  | brk => exact False.elim hq
  | cont => exact False.elim hq
theorem qV (F : uK hd X.prog X.w X.K X.mg X.base k f fd ps sp) (hr : dh hd k X.A) (hg : Gl X x) (hm : X.mg x = some (.ref f)) (hk : Aw X.K (.ref f) = true) (hb : Binds X.K fd ps ds) (hv : aM dvs ds)
  (ha : PA X (e :: es) t) (hdb : (x == ("__debug__" : Str)) = false := by decide) (he : starEach (e :: es) X.env = (false,eval e X.env) :: starEach es X.env := by rfl) (hpl : (backTo pos (starEach es X.env)).any (·.1) = false := by rfl) :
  PE X (.Call (.Name x p) (e :: es) [] pos) (k9 sp dvs E0 t) := by
 intro pins s σ H Q I h
 refine wpAny_Call_Name_kw (dG I hg hm ?_ hdb)
 refine BQ (h₀ := X.base) I.ok.mod.kin hk (bw (ha pos pins s σ H _ I h) fun us s1 ⟨vs,H1,I1,r,q⟩ => ⟨I1.kIn,?_⟩) he hpl
 exact sQ F hr hb hv I1 r q
end
end L2
namespace Sw
open PySem L2 XH
structure Dx (P : Program) (w : World) (K : A0) (mg : Str -> Option Value) (base : Heap) (CX : nL) (k : Nat) (x : Str) (ps : List Str) (dvs : List V) (sp : Sp) where
 f : Addr
 fd : FuncData
 ok : bg P w K mg base CX k f fd ps sp
 m : mg x = some (.ref f)
 q : Aw K (.ref f) = true
 b : Binds K fd ps []
 bd : ∃ ds,Binds K fd ps ds /\ aM dvs ds
def Dx.calm {P : Program} {w : World} {K : A0} {mg : Str -> Option Value} {base : Heap} {k : Nat} {x : Str} {ps : List Str} {dvs : List V} {sp sp0 : Sp} (D : Dx P w K mg base (dz P w) k x ps dvs sp) (h : ∀ vs H Q E,sp0 vs H Q E -> sp vs H Q E0) : Dx P w K mg base a9 k x ps dvs sp0 :=
 ⟨D.f,D.fd,D.ok.noraise h,D.m,D.q,D.b,D.bd⟩
section
variable {X : Cx} {k j : Nat} {x : Str} {ps : List Str} {sp : Sp} {p pos : Pos} {e : Expr} {es : List Expr} {t : TA} {dvs : List V} {E : St -> XK}
theorem aS (D : Dx X.prog X.w X.K X.mg X.base a9 k x ps dvs sp) (hr : bQ j X.A) (hk : k <= j) (hg : Gl X x) (ha : PA X (e :: es) t) (hdb : (x == ("__debug__" : Str)) = false := by decide)
  (he : starEach (e :: es) X.env = (false,eval e X.env) :: starEach es X.env := by rfl) (hpl : (backTo pos (starEach es X.env)).any (·.1) = false := by rfl) :
  PE X (.Call (.Name x p) (e :: es) [] pos) (k9 sp [] E0 t) :=
 nM D.ok (hr.mono hk) hg D.m D.q D.b .nil nO ha hdb he hpl
theorem sR (D : Dx X.prog X.w X.K X.mg X.base a9 k x ps dvs sp) (hr : bQ j X.A) (hk : k <= j) (hg : Gl X x) (ha : PA X (e :: es) t) (hdb : (x == ("__debug__" : Str)) = false := by decide)
  (he : starEach (e :: es) X.env = (false,eval e X.env) :: starEach es X.env := by rfl) (hpl : (backTo pos (starEach es X.env)).any (·.1) = false := by rfl) :
  PE X (.Call (.Name x p) (e :: es) [] pos) (k9 sp dvs E0 t) := by
 obtain ⟨ds,hb,hv⟩ := D.bd
 exact nM D.ok (hr.mono hk) hg D.m D.q hb hv nO ha hdb he hpl
theorem gG (D : Dx X.prog X.w X.K X.mg X.base (dz X.prog X.w) k x ps dvs sp) (hr : bQ j X.A) (hk : k <= j) (hg : Gl X x) (hx : fB X E) (ha : PA X (e :: es) t) (hdb : (x == ("__debug__" : Str)) = false := by decide)
  (he : starEach (e :: es) X.env = (false,eval e X.env) :: starEach es X.env := by rfl) (hpl : (backTo pos (starEach es X.env)).any (·.1) = false := by rfl) :
  PE X (.Call (.Name x p) (e :: es) [] pos) (mM sp [] E t) :=
 lJ D.ok (hr.mono hk) hg D.m D.q D.b .nil hx ha hdb he hpl
theorem sS (D : Dx X.prog X.w X.K X.mg X.base (dz X.prog X.w) k x ps dvs sp) (hr : bQ j X.A) (hk : k <= j) (hg : Gl X x) (hx : fB X E) (ha : PA X (e :: es) t) (hdb : (x == ("__debug__" : Str)) = false := by decide)
  (he : starEach (e :: es) X.env = (false,eval e X.env) :: starEach es X.env := by rfl) (hpl : (backTo pos (starEach es X.env)).any (·.1) = false := by rfl) :
  PE X (.Call (.Name x p) (e :: es) [] pos) (mM sp dvs E t) := by
 obtain ⟨ds,hb,hv⟩ := D.bd
 exact lJ D.ok (hr.mono hk) hg D.m D.q hb hv hx ha hdb he hpl
end
theorem bK.okX {P : Program} {w : World} {K : A0} {mg : Str -> Option Value} {base : Heap} {x qual : Str} {st : Stmt} {dV : Value} {f : Addr} {fd : FuncData} {N ps : List Str} {k : Nat} {sp : Sp} (F : bK K x qual st dV f fd) (S : aA N ps (ap st)) (len : ∀ vs H Q E,sp vs H Q E -> vs.length = ps.length)
  (hbody : ∀ (cdv : Value) (A : Around) (outer : List Env) (s : Shared) (H : Hp) (vs : List V) (Q : VK) (E : XK),bQ k (A.deeper (PyProof.Rows.envOfC qual (ap st) s.heap.objs.size f cdv)) -> sp vs H Q E ->
   ∃ t,ja ((gF (dz P w) P w K mg base N qual (ap st) f cdv A outer s H E).wish (XS (gF (dz P w) P w K mg base N qual (ap st) f cdv A outer s H E) fun _ => E)) (cq st) t /\ t { nx := fun _ H' => Q .non H',rt := Q } (start N vs) H) : bg P w K mg base (dz P w) (k + 1) f fd ps sp := by
 obtain ⟨oc,od,kV,doc,pm,an,cdv,ct,osl,rfl,lk,hcd⟩ := F.ex
 exact vo lk hcd S len fun A outer s H vs Q E hr hsp => hbody cdv A outer s H vs Q E hr hsp
def n9 (c : Addr) : Sp := fun vs H Q E => ∃ a b : Int,vs = [.int a,.int b] /\ Bd 8500 b /\ (b ≠ 0 -> ∀ p q : Int,Fr p q a b -> Pair H Q p q) /\ (b = 0 -> E (.ref c) none H)
theorem vC {c : Addr} : ∀ vs H Q E,sH vs H Q E -> n9 c vs H Q E0 := fun vs H Q E ⟨a,b,e,b0,hb,q⟩ => ⟨a,b,e,hb,fun _ => q,fun z => absurd z b0⟩
end Sw
namespace L2
open PySem PySem.Spec PyProof.Rows XH
theorem bW {X : Cx} {K : A0} (hK : X.K = K) : cC X (.builtin "isinstance") (fun xs H Q => ∃ x t T b,xs = [x,.ty T] /\ eC K H x t /\ Av K t (.type T) = some b /\ Q (.bl b) H) := by
 subst hK
 intro pins s σ H xs us Q I r h
 obtain ⟨x,t,T,b,rfl,ty,e,q⟩ := h
 obtain ⟨u,w',rfl,e1,e2⟩ := vals2 r
 cases e2
 exact oW I e1 ty e fun tk => ⟨.bl b,H,I.tok tk,rfl,q⟩
end L2
namespace Sw
open PySem L2 XH
inductive Wh (K : A0) (H : Hp) : V -> Bool -> Prop where
 | mk {x : V} {t : Value} {b1 b2 : Bool} (ty : eC K H x t) (h1 : Av K t (.type "int") = some b1) (h2 : Av K t (.type "bool") = some b2) : Wh K H x (b1 && !b2)
section
variable {K : A0} {H : Hp}
theorem qW (i : Int) : Wh K H (.int i) true := .mk (b1 := true) (b2 := false) (.int i) (by kernel_rfl) (by kernel_rfl)
theorem ku {H' : Hp} (g : ay H H') {x : V} {t : Value} (h : eC K H x t) : eC K H' x t := by
 cases h with
 | non => exact .non
 | bl b => exact .bl b
 | int i => exact .int i
 | str x => exact .str x
 | flt x => exact .flt x
 | lst e => exact .lst (g _ _ e)
 | frz e => exact .frz (g _ _ e)
 | tup e => exact .tup (g _ _ e)
 | dK e => exact .dK (g _ _ e)
 | dT e => exact .dT (g _ _ e)
 | ins e c a n k m => exact .ins (g _ _ e) c a n k m
theorem Wh.same {H' : Hp} (g : ay H H') {x : V} {b : Bool} (h : Wh K H x b) : Wh K H' x b := by
 cases h with
 | mk ty h1 h2 => exact .mk (ku g ty) h1 h2
end
def vD (K : A0) : Sp := fun vs H Q _ => ∃ (x : V) (b : Bool),vs = [x] /\ Wh K H x b /\ Q (.bl b) H
inductive pH (K : A0) (H : Hp) : V -> Bool -> Prop where
 | no {x : V} {t : Value} (ty : eC K H x t) (h : Av K t (.type "tuple") = some false) : pH K H x false
 | len {a : Addr} {ys : List V} (e : H a = some (.tup ys)) (h : ((ys.length : Nat) : Int) ≠ 2) : pH K H (.ref a) false
 | top {a : Addr} {y z : V} (e : H a = some (.tup [y,z])) (h : Wh K H y false) : pH K H (.ref a) false
 | bot {a : Addr} {y z : V} (e : H a = some (.tup [y,z])) (h : Wh K H y true) (h' : Wh K H z false) : pH K H (.ref a) false
 | two {a : Addr} {p q : Int} (e : H a = some (.tup [.int p,.int q])) : pH K H (.ref a) (decide (1 <= q) && decide (bI p q = 1))
theorem pH.same {K : A0} {H H' : Hp} (g : ay H H') {x : V} {b : Bool} (h : pH K H x b) : pH K H' x b := by
 cases h with
 | no ty h => exact .no (ku g ty) h
 | len e h => exact .len (g _ _ e) h
 | top e h => exact .top (g _ _ e) (h.same g)
 | bot e h h' => exact .bot (g _ _ e) (h.same g) (h'.same g)
 | two e => exact .two (g _ _ e)
def mQ (K : A0) : Sp := fun vs H Q _ => ∃ (x : V) (b : Bool),vs = [x] /\ pH K H x b /\ Q (.bl b) H
theorem io (K : A0) : Av K (.type "tuple") (.type "tuple") = some true := by kernel_rfl
theorem vE {K : A0} {H : Hp} {a : Addr} {p q : Int} {b : Bool} (e : H a = some (.tup [.int p,.int q])) (h : (decide (1 <= q) && decide (bI p q = 1)) = b) : pH K H (.ref a) b := h ▸ .two e
end Sw
namespace L2
open PySem PySem.Spec PyProof.Rows XH
def zB : V -> Prop
 | .bl _ => True
 | .int _ => True
 | .str _ => True
 | .non => True
 | _ => False
theorem qX {A : Around} {s : Shared} {v : V} {u w : Value} (h : zB v) (r1 : RelV v u) (r2 : RelV v w) : SeqAt.EqAt A s u w true := by
 cases v with
 | bl b =>
  cases r1
  cases r2
  have z := SeqAt.EqAt.bool_bool (A := A) (s := s) b b
  rw [beq_self_eq_true] at z
  exact z
 | int i =>
  obtain ⟨t,rfl⟩ := r1
  obtain ⟨t',rfl⟩ := r2
  have z := SeqAt.EqAt.int_int (A := A) (s := s) i t i t'
  rw [beq_self_eq_true] at z
  exact z
 | str i =>
  obtain ⟨t,rfl⟩ := r1
  obtain ⟨t',rfl⟩ := r2
  have z := SeqAt.EqAt.str_str (A := A) (s := s) i t i t'
  rw [beq_self_eq_true] at z
  exact z
 | non =>
  cases r1
  cases r2
  exact SeqAt.EqAt.same _
 | _ => exact absurd h (fun z => z)
end L2
namespace Sw
open PySem L2 XH PyProof.Rows
structure xf (hd : Option Value) (P : Program) (w : World) (K : A0) (mg : Str -> Option Value) (base : Heap) (k : Nat) (x : Str) (ps : List Str) (sp : Sp) where
 f : Addr
 fd : FuncData
 ok : uK hd P w K mg base k f fd ps sp
 m : mg x = some (.ref f)
 q : Aw K (.ref f) = true
 b : Binds K fd ps []
def xf.calm {P : Program} {w : World} {K : A0} {mg : Str -> Option Value} {base : Heap} {k : Nat} {x : Str} {ps : List Str} {sp : Sp} (D : xf none P w K mg base k x ps sp) : Dx P w K mg base a9 k x ps [] sp :=
 ⟨D.f,D.fd,D.ok.calm,D.m,D.q,D.b,⟨[],D.b,.nil⟩⟩
structure xg (P : Program) (w : World) (K : A0) (mg : Str -> Option Value) (base : Heap) (k : Nat) (C : Addr) (ps : List Str) (sp : Sp) where
 f : Addr
 fd : FuncData
 ok : bg P w K mg base a9 k f fd ps sp
 ci : w9 K C f
 b : Binds K fd ps []
section
variable {X : Cx} {k j : Nat} {x : Str} {ps : List Str} {sp : Sp} {p np pos cpos : Pos} {e : Expr} {es : List Expr} {t : TA} {hd : Option Value} {C : Addr} {E : L2.St -> XK}
theorem vF (D : xf hd X.prog X.w X.K X.mg X.base k x ps sp) (hr : dh hd j X.A) (hk : k <= j) (hg : Gl X x) (ha : PA X (e :: es) t) (hdb : (x == ("__debug__" : Str)) = false := by decide)
  (he : starEach (e :: es) X.env = (false,eval e X.env) :: starEach es X.env := by rfl) (hpl : (backTo pos (starEach es X.env)).any (·.1) = false := by rfl) :
  PE X (.Call (.Name x p) (e :: es) [] pos) (k9 sp [] E0 t) :=
 qV D.ok (hr.mono hk) hg D.m D.q D.b .nil ha hdb he hpl
theorem og (D : xg X.prog X.w X.K X.mg X.base k C ps sp) (hr : bQ j X.A) (hk : k + 1 <= j) (hg : Gl X x) (hm : X.mg x = some (.ref C)) (hc : X.calm = true) (hp : fB X E) (ha : PA X (e :: es) t) (hdb : (x == ("__debug__" : Str)) = false := by decide)
  (he : starEach (e :: es) X.env = (false,eval e X.env) :: starEach es X.env := by rfl) (hpl : (backTo cpos (starEach es X.env)).any (·.1) = false := by rfl) :
  PS X (.Raise (some (.Call (.Name x np) (e :: es) [] cpos)) none pos) (n8 C sp E t) :=
 pG D.ci D.ok (hr.mono hk) hg hm D.b hc hp ha hdb he hpl
end
theorem bK.okH {hd : Option Value} {P : Program} {w : World} {K : A0} {mg : Str -> Option Value} {base : Heap} {x qual : Str} {st : Stmt} {dV : Value} {f : Addr} {fd : FuncData} {N ps : List Str} {k : Nat} {sp : Sp} (F : bK K x qual st dV f fd) (S : aA N ps (ap st)) (len : ∀ vs H Q E,sp vs H Q E -> vs.length = ps.length)
  (hbody : ∀ (cdv : Value) (A : Around) (outer : List Env) (s : Shared) (H : Hp) (vs : List V) (Q : VK) (E : XK),dh hd k (A.deeper (envOfC qual (ap st) s.heap.objs.size f cdv)) -> sp vs H Q E ->
   ∃ t,ja (vA hd P w K mg base N qual (ap st) f cdv A outer s H E) (cq st) t /\ t { nx := fun _ H' => Q .non H',rt := Q } (start N vs) H) : uK hd P w K mg base (k + 1) f fd ps sp := by
 obtain ⟨oc,od,kV,doc,pm,an,cdv,ct,osl,rfl,lk,hcd⟩ := F.ex
 exact vB lk hcd S len fun A outer s H vs Q E hr hsp => hbody cdv A outer s H vs Q E hr hsp
theorem fK {H H' : Hp} {p : Addr} (g : ay H H') (h : H p = none) (o : HO) : ay H (aq H' p o) := fun b u q => by
 rw [ae (aQ q h)]
 exact g b u q
def kx (X : Cx) (scope : Scope) (ys : List Str) (js : List Nat) : Prop := ∀ (i : Nat) (y : Str),ys[i]? = some y -> ∃ j : Nat,js[i]? = some j /\ X.N[j]? = some y /\ (X.env.scope.names.lookup y = some .cell ∨ X.env.scope.names.lookup y = some .free) /\ ((relabel scope X.env).names.lookup y = some .cell ∨ (relabel scope X.env).names.lookup y = some .free)
theorem xh {X : Cx} {scope : Scope} : kx X scope [] [] := fun i y h => by simp at h
theorem wm {X : Cx} {scope : Scope} {ys : List Str} {js : List Nat} {y : Str} {j : Nat} (t : kx X scope ys js) (h1 : X.N[j]? = some y := by rfl) (h2 : X.env.scope.names.lookup y = some .cell ∨ X.env.scope.names.lookup y = some .free := by first | exact Or.inl rfl | exact Or.inr rfl)
  (h3 : (relabel scope X.env).names.lookup y = some .cell ∨ (relabel scope X.env).names.lookup y = some .free := by first | exact Or.inl rfl | exact Or.inr rfl) : kx X scope (y :: ys) (j :: js) := fun i z h => by
 cases i with
 | zero =>
  cases h
  exact ⟨j,rfl,h1,h2,h3⟩
 | succ i => exact t i z h
inductive pI (X : Cx) : List (Str × Addr) -> Prop where
 | nil : pI X []
 | cons {y : Str} {c : Addr} {cl : List (Str × Addr)} (h : X.env.cells.lookup y = some c) (t : pI X cl) : pI X ((y,c) :: cl)
theorem pI.all {X : Cx} {cl : List (Str × Addr)} (h : pI X cl) : ∀ p ∈ cl,X.env.cells.lookup p.1 = some p.2 := by
 induction h with
 | nil => intro p hp; simp at hp
 | cons h _ ih =>
  intro p hp
  rcases AB.mp hp with e | e
  ·rw [e]; exact h
  ·exact ih p e
theorem xj {X : Cx} {scope : Scope} {cl : List (Str × Addr)} {own : Str} {ys : List Str} {js : List Nat} (a : kx X scope ys js) (s : pI X cl) (nd : (own :: ys).Nodup) (len : js.length = ys.length) (clos : closureFor scope X.env = pure cl) (nocell : (scope.names.all fun p => !(p.2 == .cell)) = true) (kind : scope.kind = .function)
  (loc : (scope.names.all fun p => !(p.2 == .local) || scope.names.lookup p.1 == some .local) = true) (ownL : scope.names.lookup own = some .local) (has : ((relabel scope X.env).names.all fun p => !(p.2 == .cell || p.2 == .free) || (cl.lookup p.1).isSome) = true) (noown : cl.lookup own = none) : kr X scope cl own ys js :=
 ⟨clos,nocell,kind,loc,ownL,s.all,has,noown,nd,a,len⟩
def Am (H : Hp) (a C : Addr) (dx : Option Addr) : Prop := (∃ n,H a = some (cL n a (.ref C) dx)) /\ nX H dx
section
variable {K : A0} {cs : List Addr} {S C D : Addr} {i j : Nat}
end
def fL (C : Addr) (f : Str) : Sp := fun vs H Q _ => ∃ a y n,vs = [.ref a,y] /\ H a = some (cL n a (.ref C) none) /\ ∀ d,H d = none -> Q .non (L2.aq (L2.aq H d (.xd [(f,y)])) a (cL n a (.ref C) (some d)))
theorem oh {H : Hp} {Q : VK} {a C : Addr} {f : Str} {y : V} (na : H a = none) (h : ∀ d H2,ay H H2 -> H2 a = some (cL true a (.ref C) (some d)) -> H2 d = some (.xd [(f,y)]) -> d ≠ a -> ay H (del H2 a) -> del H2 a d = some (.xd [(f,y)]) -> Q .non H2) {E : XK} :
  fL C f [.ref a,y] (L2.aq H a (cL true a (.ref C) none)) Q E := by
 refine ⟨a,y,true,rfl,ac,fun d hd => ?_⟩
 have ne : d ≠ a := by
  intro z
  rw [z,ac] at hd
  cases hd
 have nd : H d = none := by rwa [ae ne] at hd
 have g : ay H (L2.aq (L2.aq (L2.aq H a (cL true a (.ref C) none)) d (.xd [(f,y)])) a (cL true a (.ref C) (some d))) := fK (fK (fK (fun _ _ q => q) na _) nd _) na _
 have e2 : L2.aq (L2.aq (L2.aq H a (cL true a (.ref C) none)) d (.xd [(f,y)])) a (cL true a (.ref C) (some d)) d = some (.xd [(f,y)]) := by rw [ae ne,ac]
 exact h d _ g ac e2 ne (fun b o q => by rw [eD (aQ q na)]; exact g b o q) (by rw [eD ne]; exact e2)
structure ft (P : Program) (w : World) (K : A0) (mg : Str -> Option Value) (base : Heap) (CX : nL) (k : Nat) (f : Addr) (ps : List Str) (dvs : List V) (sp : Sp) where
 fd : FuncData
 ok : bg P w K mg base CX k f fd ps sp
 b : Binds K fd ps []
 bd : ∃ ds,Binds K fd ps ds /\ aM dvs ds
def ft.calm {P : Program} {w : World} {K : A0} {mg : Str -> Option Value} {base : Heap} {k : Nat} {f : Addr} {ps : List Str} {dvs : List V} {sp sp0 : Sp} (D : ft P w K mg base (dz P w) k f ps dvs sp) (h : ∀ vs H Q E,sp0 vs H Q E -> sp vs H Q E0) : ft P w K mg base a9 k f ps dvs sp0 :=
 ⟨D.fd,D.ok.noraise h,D.b,D.bd⟩
def vG (K : A0) (m : Str) (f : Addr) (sp : Sp) (dvs : List V) (ta : TE) (t : TA) : TE := fun σ H Q => ta σ H fun x H1 => ∃ a C dx fs,x = .ref a /\ H1 a = some (.ins C dx fs) /\ nJ K C /\ eB K C m f /\ fs.lookup m = none /\
 t σ H1 fun vs H2 => sp (x :: (vs ++ dvs)) H2 Q E0
section
variable {X : Cx} {k j : Nat} {f C : Addr} {ps : List Str} {sp : Sp} {dvs : List V} {x m : Str} {p pos apos : Pos} {e o : Expr} {es : List Expr} {ta tb : TE} {t : TA}
theorem vH (M : Mk X.K C f) (D : ft X.prog X.w X.K X.mg X.base a9 k f ps dvs sp) (hr : bQ j X.A) (hk : k + 1 <= j) (hg : Gl X x) (hm : X.mg x = some (.ref C)) (hdb : (x == ("__debug__" : Str)) = false := by decide) : PE X (.Call (.Name x p) [] [] pos) (uC C sp [] E0 u3) :=
 qw M D.ok (hr.mono hk) hg hm D.b .nil nO hdb
theorem qY {pins : List (Addr × Obj)} {σ : L2.St} {H1 : Hp} {s1 : Shared} {Q : VK} {a dx : Addr} {fs : List (Str × V)} {pl : Sem Bool} {ds : List Value} (F : bg X.prog X.w X.K X.mg X.base a9 k f fd ps sp) (hr : bQ k X.A) (hb : Binds X.K fd ps ds) (hd : aM dvs ds) (ha : PA X (e :: es) t)
  (hst : starEach (e :: es) X.env = (false,eval e X.env) :: starEach es X.env) (hpl : (backTo pos (starEach es X.env)).any (·.1) = false)
  (I1 : av X pins σ H1 s1) (ea : H1 a = some (.ins C dx fs)) (c : nJ X.K C) (hm : eB X.K C m f) (l : fs.lookup m = none) (q : t σ H1 fun vs H2 => sp (.ref a :: (vs ++ dvs)) H2 Q E0) :
  wpAny (model X.prog X.w) X.A (getMethod (.ref a) m pl) (fun fx s2 => wpAny (model X.prog X.w) X.A (callWith pos fx.1 fx.2 (backTo pos (starEach (e :: es) X.env)) (backToKw pos (keywordEach [] X.env))) (EP X pins σ Q) X.xe s2) X.xe s1 := by
 refine iC I1 ea c hm l ?_
 refine BQ (first := [.ref a]) (h₀ := X.base) I1.ok.mod.kin hm.kp (bw (ha pos pins s1 σ H1 _ I1 q) fun us s2 ⟨vs,H2,I2,r,q2⟩ => ⟨I2.kIn,?_⟩) hst hpl
 exact qt (us := .ref a :: us) (vs := .ref a :: vs) F hr hb hd nO I2 (.cons rfl r) q2
theorem eE {pl : Sem Bool} (he : PE X o ta) (D : ft X.prog X.w X.K X.mg X.base a9 k f ps dvs sp) (hr : bQ j X.A) (hk : k <= j) (ha : PA X (e :: es) t)
  (hst : starEach (e :: es) X.env = (false,eval e X.env) :: starEach es X.env := by rfl) (hpl : (backTo pos (starEach es X.env)).any (·.1) = false := by rfl)
  (ht : eval (.Call (.Attribute o m apos) (e :: es) [] pos) X.env = (do
   let ov <- eval o X.env
   standAt apos.atName
   let (f,first) <- holding [ov] (getMethod ov m pl)
   callWith pos f first (backTo pos (starEach (e :: es) X.env)) (backToKw pos (keywordEach [] X.env))) := by rfl) :
  PE X (.Call (.Attribute o m apos) (e :: es) [] pos) (vG X.K m f sp [] ta t) := by
 intro pins s σ H Q I h
 refine PySem.W.methodCall_KW (pl := pl) (bw (he pins s σ H _ I h) fun u s1 ⟨x,H1,I1,rx,a,C,dx,fs,ex,ea,c,hm,l,q⟩ => ?_) ht
 subst ex
 obtain rfl : u = Value.ref a := rx
 exact qY D.ok (hr.mono hk) D.b .nil ha hst hpl I1 ea c hm l q
end
def qZ (K : A0) (m : Str) (f : Addr) (sp : Sp) (dvs : List V) (E : L2.St -> XK) (ta : TE) (t : TA) : TE := fun σ H Q => ta σ H fun x H1 => ∃ a C dx fs,x = .ref a /\ H1 a = some (.ins C dx fs) /\ nJ K C /\ eB K C m f /\ fs.lookup m = none /\
 t σ H1 fun vs H2 => sp (x :: (vs ++ dvs)) H2 Q (E σ)
section
variable {X : Cx} {k j : Nat} {f C : Addr} {ps : List Str} {sp : Sp} {dvs : List V} {x m : Str} {p pos apos : Pos} {e o : Expr} {es : List Expr} {ta tb : TE} {t : TA} {E : L2.St -> XK}
theorem pJ {pins : List (Addr × Obj)} {σ : L2.St} {H1 : Hp} {s1 : Shared} {Q : VK} {a dx : Addr} {fs : List (Str × V)} {pl : Sem Bool} {ds : List Value} {fd : FuncData} (F : bg X.prog X.w X.K X.mg X.base (dz X.prog X.w) k f fd ps sp) (hr : bQ k X.A) (hb : Binds X.K fd ps ds) (hd : aM dvs ds) (hx : fB X E) (ha : PA X (e :: es) t)
  (hst : starEach (e :: es) X.env = (false,eval e X.env) :: starEach es X.env) (hpl : (backTo pos (starEach es X.env)).any (·.1) = false)
  (I1 : av X pins σ H1 s1) (ea : H1 a = some (.ins C dx fs)) (c : nJ X.K C) (hm : eB X.K C m f) (l : fs.lookup m = none) (q : t σ H1 fun vs H2 => sp (.ref a :: (vs ++ dvs)) H2 Q (E σ)) :
  wpAny (model X.prog X.w) X.A (getMethod (.ref a) m pl) (fun fx s2 => wpAny (model X.prog X.w) X.A (callWith pos fx.1 fx.2 (backTo pos (starEach (e :: es) X.env)) (backToKw pos (keywordEach [] X.env))) (EP X pins σ Q) X.xe s2) X.xe s1 := by
 refine iC I1 ea c hm l ?_
 refine BQ (first := [.ref a]) (h₀ := X.base) I1.ok.mod.kin hm.kp (bw (ha pos pins s1 σ H1 _ I1 q) fun us s2 ⟨vs,H2,I2,r,q2⟩ => ⟨I2.kIn,?_⟩) hst hpl
 exact nV (us := .ref a :: us) (vs := .ref a :: vs) F hr hb hd hx I2 (.cons rfl r) q2
theorem rb {pl : Sem Bool} (D : ft X.prog X.w X.K X.mg X.base (dz X.prog X.w) k f ps dvs sp) (hr : bQ j X.A) (hk : k <= j) (hx : fB X E) (he : PE X o ta) (ha : PA X (e :: es) t)
  (hst : starEach (e :: es) X.env = (false,eval e X.env) :: starEach es X.env := by rfl) (hpl : (backTo pos (starEach es X.env)).any (·.1) = false := by rfl)
  (ht : eval (.Call (.Attribute o m apos) (e :: es) [] pos) X.env = (do
   let ov <- eval o X.env
   standAt apos.atName
   let (f,first) <- holding [ov] (getMethod ov m pl)
   callWith pos f first (backTo pos (starEach (e :: es) X.env)) (backToKw pos (keywordEach [] X.env))) := by rfl) :
  PE X (.Call (.Attribute o m apos) (e :: es) [] pos) (qZ X.K m f sp [] E ta t) := by
 intro pins s σ H Q I h
 refine PySem.W.methodCall_KW (pl := pl) (bw (he pins s σ H _ I h) fun u s1 ⟨x,H1,I1,rx,a,C,dx,fs,ex,ea,c,hm,l,q⟩ => ?_) ht
 subst ex
 obtain rfl : u = Value.ref a := rx
 exact pJ D.ok (hr.mono hk) D.b .nil hx ha hst hpl I1 ea c hm l q
end
end Sw
namespace L2
open PySem PySem.Spec PyProof.Rows XH
def xm (x : Str) : It := ⟨fun i _ => i < x.cps.size,fun i H v H' => H' = H /\ ∃ c,x.cps[i]? = some c /\ v = .str ⟨#[c]⟩,fun i _ => i = x.cps.size⟩
theorem re {P : Program} {w : World} {K : A0} {tg : Expr} {ty : String} (hty : ty = "str_ascii_iterator" ∨ ty = "str_iterator") (it : Addr) (x : Str) (t : Tok) : Turn P w K tg (xm x) [it] it (fun i h => h.IsStrIter it ty x t i) where
 mem := by simp
 obj := fun i h st b hb => by
  have e : b = it := by simpa using hb
  subst e
  obtain ⟨o,e,c,d⟩ := st
  exact ⟨o,e,fun v z => by rw [d] at z; cases z⟩
 keep := fun i h h' st k => by
  obtain ⟨o,e,c,d⟩ := st
  exact ⟨o,k it (by simp) o e,c,d⟩
 item := by
  intro X hP hw hK hc i pins s σ H E I hf st hg
  subst hP hw hK
  obtain ⟨f0,f1,f2,f3,f4,f5⟩ := hf it (by simp)
  have W : Walks X.prog X.w X.A it [it] [it] x.cps.size (SignAt x) (fun i h => h.IsStrIter it ty x t i) := by
   rcases hty with rfl | rfl
   ·exact Walks.strAscii (I.ok.hd hc) it x t
   ·exact Walks.strWide (I.ok.hd hc) it x t
  refine W.item i s _ _ hg st fun v h' tk hv st' kk => ?_
  obtain ⟨c,u,hc',rfl⟩ := hv
  have I1 : av X pins σ H { s with heap := h',toks := tk } := I.turned (fun b o hb e => kk b o (by simpa using hb) e) f0 f1 f3 f4 f5
  obtain ⟨o,e,c1,d1⟩ := id st'
  refine ⟨_,rfl,jm (s := { s with heap := h',toks := tk }) (n := ty) e c1 d1 (by rcases hty with rfl | rfl <;> decide) ⟨.str ⟨#[c]⟩,H,I1,⟨u,rfl⟩,⟨rfl,c,hc',rfl⟩,st',fun b hb => (hf b hb).1⟩⟩
 done := by
  intro X hP hw hK hc i pins s σ H E I hf st hg
  subst hP hw hK
  obtain ⟨f0,f1,f2,f3,f4,f5⟩ := hf it (by simp)
  have W : Walks X.prog X.w X.A it [it] [it] x.cps.size (SignAt x) (fun i h => h.IsStrIter it ty x t i) := by
   rcases hty with rfl | rfl
   ·exact Walks.strAscii (I.ok.hd hc) it x t
   ·exact Walks.strWide (I.ok.hd hc) it x t
  have hg' : i = x.cps.size := hg
  subst hg'
  exact W.done s _ _ st fun h' tk kk => ⟨rfl,I.turned (fun b o hb e => kk b o (by simpa using hb) e) f0 f1 f3 f4 f5⟩
 self := fun _ _ _ _ _ st h => by
  rcases hty with rfl | rfl
  ·exact wpAny_pyIter_striter_ascii st h
  ·exact wpAny_pyIter_striter_wide st h
def zC (tl : TE) : TI := fun σ H R => tl σ H fun x H1 => ∃ z,x = .str z /\ R (xm z) H1
section
variable {X : Cx} {tg : Expr}
theorem vI {l : Expr} {tl : TE} (hl : PE X l tl) : PI X tg l (zC tl) := by
 intro pins s σ H R I h
 refine bw (hl pins s σ H _ I h) fun v s1 ⟨x,H1,I1,r1,q1⟩ => ?_
 obtain ⟨z,rfl,q⟩ := q1
 obtain ⟨t,rfl⟩ := r1
 have fin : ∀ {ty : String} {o : Obj},(ty = "str_ascii_iterator" ∨ ty = "str_iterator") -> (s1.heap.push o).IsStrIter s1.heap.objs.size ty z t 0 -> y4 X pins σ tg R (.ref s1.heap.objs.size) { s1 with heap := s1.heap.push o } := fun {ty o} hty st => by
  refine ⟨s1.heap.objs.size,[s1.heap.objs.size],_,_,H1,rfl,I1.kept (t' := s1.toks) fun b o e => Heap.get?_push_of_some _ e,re hty _ z t,st,fun b hb => ?_,q⟩
  have e : b = s1.heap.objs.size := by simpa using hb
  subst e
  exact I1.fpOk (A4 _) (I1.hok.fresh (A4 _))
 cases ha : z.cps.all (· < 128)
 ·exact wpAny_pyIter_wide ha (fin (.inr rfl) ⟨_,Heap.get?_push_size _ rfl,rfl,rfl⟩)
 ·exact wpAny_pyIter_ascii ha (fin (.inl rfl) ⟨_,Heap.get?_push_size _ rfl,rfl,rfl⟩)
end
theorem sT {z : Str} {g : TG} {tb : TS} {D : Ends} {σ : St} {H : Hp} (Pv : Nat -> St -> Hp -> Prop) (h0 : Pv 0 σ H)
  (hs : ∀ i c σ H,z.cps[i]? = some c -> Pv i σ H -> g (.str ⟨#[c]⟩) σ H fun σ2 H2 => tb { D with nx := Pv (i + 1),ct := Pv (i + 1),bk := D.nx } σ2 H2) (hd : ∀ σ H,Pv z.cps.size σ H -> D.nx σ H) :
  ∃ W : Nat -> Nat -> St -> Hp -> Prop,(∃ m,W 0 m σ H) /\ ∀ i m σ H,W i m σ H ->
   ((xm z).stop i H /\ D.nx σ H) ∨ ((xm z).go i H /\ ∃ N : St -> Hp -> Prop,(∀ σ' H',N σ' H' -> ∃ m',m' < m /\ W (i + 1) m' σ' H') /\ ∀ x H',(xm z).yld i H x H' -> g x σ H' fun σ2 H2 => tb { D with nx := N,ct := N,bk := D.nx } σ2 H2) := by
 refine ⟨fun i m σ H => m = z.cps.size - i /\ i <= z.cps.size /\ Pv i σ H,⟨z.cps.size,by simp,AZ _,h0⟩,?_⟩
 rintro i m σ H ⟨rfl,hi,p⟩
 by_cases hlt : i < z.cps.size
 ·refine .inr ⟨hlt,Pv (i + 1),fun σ' H' p' => ⟨z.cps.size - (i + 1),by omega,rfl,hlt,p'⟩,fun x H' y => ?_⟩
  obtain ⟨e,c,hc,rfl⟩ := y
  subst e
  exact hs i c σ _ hc p
 ·have e : i = z.cps.size := by omega
  subst e
  exact .inl ⟨rfl,hd σ H p⟩
def dj (x : Str) (lo hi : Option Int) : Str := ⟨((x.cps.toList.drop (HT.dN x.length 0 lo)).take (HT.dN x.length x.length hi - HT.dN x.length 0 lo)).toArray⟩
theorem xq (lo hi : Option Int) (n : Nat) : Builtin.Str.strSliceIndices lo hi 1 n = (List.range (HT.dN n n hi - HT.dN n 0 lo)).map (HT.dN n 0 lo + ·) := by
 have h1 : (match lo with | none => (0 : Int) | some i => max 0 (min (if i < 0 then i + (n : Int) else i) n)) = ((HT.dN n 0 lo : Nat) : Int) := by
  cases lo with
  | none => simp [HT.dN]
  | some i =>
   simp only [HT.dN]
   by_cases h : i < 0
   ·simp only [h,if_true] <;> omega
   ·simp only [h,if_false] <;> omega
 have h2 : (match hi with | none => (n : Int) | some i => max 0 (min (if i < 0 then i + (n : Int) else i) n)) = ((HT.dN n n hi : Nat) : Int) := by
  cases hi with
  | none => simp [HT.dN]
  | some i =>
   simp only [HT.dN]
   by_cases h : i < 0
   ·simp only [h,if_true] <;> omega
   ·simp only [h,if_false] <;> omega
 rw [<- sliceRange_one,<- h1,<- h2]
 cases lo <;> cases hi <;> rfl
theorem lK (x : Str) (l u : Option (Int × Tok)) : (⟨((slicePicked x l u none).filterMap (x.cps[·]?)).toArray⟩ : Str) = dj x (l.map (·.1)) (u.map (·.1)) := by
 show (⟨((Builtin.Str.strSliceIndices (l.map (·.1)) (u.map (·.1)) 1 x.length).filterMap (x.cps[·]?)).toArray⟩ : Str) = _
 rw [xq,pick_run]
 rfl
theorem dJ (x : Str) (lo hi : Option Int) : (dj x lo hi).length <= x.length := by
 show ((x.cps.toList.drop _).take _).toArray.size <= x.cps.size
 rw [AG,BJ,Bf]
 simp only [B9]
 omega
theorem mR (x : Str) (l u : Option (Int × Tok)) (h : (slicePicked x l u none).length = x.length) : dj x (l.map (·.1)) (u.map (·.1)) = x := by
 have h' : (Builtin.Str.strSliceIndices (l.map (·.1)) (u.map (·.1)) 1 x.length).length = x.length := h
 rw [xq,A5,List.length_range] at h'
 have hs : HT.dN x.length x.length (u.map (·.1)) <= x.length ∨ x.length < HT.dN x.length x.length (u.map (·.1)) := by omega
 have hu : HT.dN x.length x.length (u.map (·.1)) <= x.length := by
  cases u with
  | none => exact A4 _
  | some p =>
   show (if p.1 < 0 then (p.1 + (x.length : Int)).toNat else min p.1.toNat x.length) <= x.length
   by_cases hp : p.1 < 0
   ·rw [if_pos hp]; omega
   ·rw [if_neg hp]; omega
 unfold dj
 by_cases hx : x.length = 0
 ·have e : x.cps.toList = [] := by
   have : x.cps.toList.length = 0 := by rw [B9]; exact hx
   exact List.eq_nil_of_length_eq_zero this
  rw [e,List.drop_nil,List.take_nil]
  obtain ⟨c⟩ := x
  have e' : c = #[] := Array.toList_inj.mp (by simpa using e)
  rw [e']
 ·have h0 : HT.dN x.length 0 (l.map (·.1)) = 0 := by omega
  rw [h0,List.drop_zero,List.take_of_length_le (by rw [B9]; show x.length <= _; omega)]
theorem part_of {v : Value} {o : Option Int} (p : IsPart v o) : ∃ l : Option (Int × Tok),partValue l = v /\ l.map (·.1) = o := by
 cases p with
 | none => exact ⟨none,rfl,rfl⟩
 | int i t => exact ⟨some (i,t),rfl,rfl⟩
theorem fM {X : Cx} : zh X (fun x lo hi H Q => ∃ z,x = .str z /\ z.length <= sizeLine /\ Q (.str (dj z lo hi)) H) := by
 intro pins s σ H x v vl vu lo hi sl Q I rx hs pl pu h
 obtain ⟨z,rfl,hz,q⟩ := h
 obtain ⟨t,rfl⟩ := rx
 obtain ⟨l,rfl,rfl⟩ := part_of pl
 obtain ⟨u,rfl,rfl⟩ := part_of pu
 refine ⟨"str",_,slot_str_getitem.lookup,typeIs_str s z t,?_⟩
 refine wpAny_getItem_str_slice (l := l) (u := u) (st := none) hs rfl ?_
 unfold sliceMade
 by_cases hw : (slicePicked z l u none).length = z.length
 ·rw [if_pos (by simp [hw])]
  refine ⟨.str (dj z (l.map (·.1)) (u.map (·.1))),H,I,⟨t,by rw [mR z l u hw]⟩,q⟩
 ·rw [if_neg (by simp [hw])]
  rw [lK]
  exact ⟨AR (dJ _ _ _) hz,.str (dj z (l.map (·.1)) (u.map (·.1))),H,I.tok _,⟨_,rfl⟩,q⟩
end L2
namespace Sw
open PySem PySem.NumText
end Sw
namespace L2
open PySem PySem.Spec PyProof.Rows XH
section
variable {X : Cx} {a b e o : Expr} {es : List Expr} {t te to : TE} {ta : TA} {pos apos cpos : Pos} {x y : Str}
theorem rg {z : Str} {p : Pos} (hg : Gl X x) (h : ∃ t,X.mg x = some (.str z t)) (hd : (x == ("__debug__" : Str)) = false := by decide) : PE X (.Name x p) (tC (.str z)) := by
 obtain ⟨t,h⟩ := h
 exact bO hg h ⟨t,rfl⟩ hd
theorem lL {i : Int} {p : Pos} (hg : Gl X x) (h : ∃ t,X.mg x = some (.int i t)) (hd : (x == ("__debug__" : Str)) = false := by decide) : PE X (.Name x p) (tC (.int i)) := by
 obtain ⟨t,h⟩ := h
 exact bO hg h ⟨t,rfl⟩ hd
end
end L2
namespace Sw
open PySem L2 XH PySem.NumText
def sL (z : Str) : List Nat := z.cps.toList
def Aa (l : List Nat) : Str := ⟨l.toArray⟩
theorem ky (z : Str) : (sL z).length = z.length := by simp [sL,Str.length]
theorem vJ (x y : Str) : sL (x ++ y) = sL x ++ sL y := by
 show (x.cps ++ y.cps).toList = _
 rw [Array.toList_append]
 rfl
theorem vK (z : Str) (c : Nat) : (!(Builtin.Str.occurrences z (Aa [c]) 0 z.length 1).isEmpty) = decide (c ∈ sL z) := StrLaws.found_one z c
theorem Ab {b : Bool} {A B : Prop} (h1 : b = false -> A) (h2 : b = true -> B) : if (!b) = true then A else B := by
 cases b with
 | false => exact de (h1 rfl)
 | true => exact bS (h2 rfl)
theorem vL {xs : List V} {i : Int} (h0 : 0 <= i) (h : i < (xs.length : Int)) : ∃ v ∈ xs,fo xs i = some v := by
 have hk : i.toNat < xs.length := by omega
 have ek : i = ((i.toNat : Nat) : Int) := by omega
 refine ⟨xs[i.toNat],List.getElem_mem hk,?_⟩
 have q : fo xs ((i.toNat : Nat) : Int) = some xs[i.toNat] := bV (A2 hk)
 rw [<- ek] at q
 exact q
theorem sU {xs : List Nat} {i : Int} (h0 : 0 <= i) (h : i < (xs.length : Int)) : ∃ v,fo xs i = some v := by
 have hk : i.toNat < xs.length := by omega
 have ek : i = ((i.toNat : Nat) : Int) := by omega
 refine ⟨xs[i.toNat],?_⟩
 have q : fo xs ((i.toNat : Nat) : Int) = some xs[i.toNat] := bV (A2 hk)
 rw [<- ek] at q
 exact q
end Sw
namespace L2
open PySem PySem.Spec PyProof.Rows XH
section
variable {X : Cx}
end
end L2
namespace Sw
open PySem L2 XH PySem.NumText
def vM : Str := "abcdefghijklmnopqrstuvwxyz"
def Nm (z : Str) : Prop := 1 <= (sL z).length /\ (sL z).length <= 12 /\ ∀ c ∈ sL z,97 <= c /\ c <= 122
theorem oj (c : Nat) : (!(Builtin.Str.occurrences vM (Aa [c]) 0 vM.length 1).isEmpty) = decide (97 <= c /\ c <= 122) := by
 rw [vK]
 have e : sL vM = (List.range 26).map (97 + ·) := by decide
 rw [e]
 apply decide_eq_decide.mpr
 constructor
 ·intro h
  obtain ⟨i,hi,rfl⟩ := AC.mp h
  have := List.mem_range.mp hi
  omega
 ·intro h
  exact AC.mpr ⟨c - 97,List.mem_range.mpr (by omega),by omega⟩
def iO (K : A0) : Sp := fun vs H Q _ => ∃ x : V,vs = [x] /\ ((∃ z : Str,x = .str z /\ z.length <= 1000000 /\ (Nm z -> Q (.bl true) H) /\ (¬ Nm z -> Q (.bl false) H)) ∨ ∃ ty,eC K H x ty /\ Av K ty (.type "str") = some false /\ Q (.bl false) H)
def iP (x : V) : Prop := ∃ z,x = .str z /\ Nm z
def d8 (K : A0) (H : Hp) (x : V) : Prop := (∃ z,x = .str z /\ z.length <= 1000000 /\ ¬ Nm z) ∨ ∃ ty,eC K H x ty /\ Av K ty (.type "str") = some false
theorem d8.same {K : A0} {H H' : Hp} {x : V} (g : ay H H') (h : d8 K H x) : d8 K H' x := by
 rcases h with h | ⟨ty,a,b⟩
 ·exact .inl h
 ·exact .inr ⟨ty,ku g a,b⟩
theorem pK {xs : List V} (h : 1 <= xs.length) : lj xs none (some (-1)) = xs.dropLast := by
 unfold lj
 have e1 : HT.dN xs.length 0 none = 0 := rfl
 have e2 : HT.dN xs.length xs.length (some (-1)) = xs.length - 1 := by
  unfold HT.dN
  simp
  omega
 rw [e1,e2,List.drop_zero,Nat.sub_zero,List.dropLast_eq_take]
theorem vN {z : Str} (h : Nm z) : z.length <= 1000000 := by
 have := h.2.1
 have e := ky z
 omega
def uL : Sp := fun vs H Q _ => ∃ (l : Addr) (xs : List V),vs = [.ref l] /\ H l = some (.lst xs) /\ (∀ x ∈ xs,iP x) /\ Q .non H
def eG (K : A0) (c : Addr) : Sp := fun vs H Q E => ∃ (l : Addr) (xs : List V),vs = [.ref l] /\ H l = some (.lst xs) /\ (∀ x ∈ xs,iP x ∨ d8 K H x) /\ ((∀ x ∈ xs,iP x) -> Q .non H) /\ ((¬ ∀ x ∈ xs,iP x) -> ∀ H',ay H H' -> E (.ref c) none H')
theorem vO {K : A0} {c : Addr} {vs : List V} {H : Hp} {Q : VK} {E : XK} (h : uL vs H Q E) : eG K c vs H Q E0 := by
 obtain ⟨l,xs,e,h1,h2,h3⟩ := h
 exact ⟨l,xs,e,h1,fun x hx => .inl (h2 x hx),fun _ => h3,fun z => absurd h2 z⟩
end Sw
namespace So
open PySem PyProof.Rows
section
variable {prog : Program} {w : World} {A : Around} {E : Value -> Shared -> Prop} {s : Shared} {κ : KeyKind} {kd : SortKind}
end
section
variable {κ : KeyKind} {kd : SortKind} {a b out : Array Keyed} {ia ib : Nat}
end
section
variable {prog : Program} {w : World} {A : Around} {E : Value -> Shared -> Prop} {s : Shared} {κ : KeyKind} {kd : SortKind}
end
section
variable {κ : KeyKind} {kd : SortKind} {a b out : Array Keyed} {na nb : Nat}
end
section
variable {prog : Program} {w : World} {A : Around} {E : Value -> Shared -> Prop} {s : Shared} {κ : KeyKind} {kd : SortKind}
end
section
variable {prog : Program} {w : World} {A : Around} {E : Value -> Shared -> Prop} {s : Shared} {κ : KeyKind} {kd : SortKind}
end
section
variable {prog : Program} {w : World} {A : Around} {E : Value -> Shared -> Prop} {s : Shared} {κ : KeyKind} {kd : SortKind}
end
section
variable {prog : Program} {w : World} {A : Around} {E : Value -> Shared -> Prop} {s : Shared} {κ : KeyKind} {kd : SortKind}
end
section
variable {prog : Program} {w : World} {A : Around} {E : Value -> Shared -> Prop} {s : Shared} {κ : KeyKind} {kd : SortKind}
end
section
variable {κ : KeyKind} {kd : SortKind}
end
section
variable {prog : Program} {w : World} {A : Around} {E : Value -> Shared -> Prop} {s : Shared} {κ : KeyKind} {kd : SortKind}
end
section
variable {prog : Program} {w : World} {A : Around} {E : Value -> Shared -> Prop} {s : Shared} {κ : KeyKind} {kd : SortKind}
end
section
variable {prog : Program} {w : World} {A : Around} {E : Value -> Shared -> Prop} {s : Shared} {κ : KeyKind}
end
end So
namespace L2
open PySem PySem.Spec PyProof.Rows XH
def vP (a : Addr) (o : Obj) (kvs : List (Key × V)) : It :=
 ⟨fun i H => H a = some (.frz o (.dK kvs)) /\ i < kvs.length,fun i H v H' => H' = H /\ ∃ k x,kvs[i]? = some (k,x) /\ v = kV k,fun i H => H a = some (.frz o (.dK kvs)) /\ i = kvs.length⟩
theorem rh {P : Program} {w : World} {k : Key} {u : Value} (h : (aU P w).is k u = true) : RelV (kV k) u := by
 rcases bJ h with ⟨i,t,rfl,rfl⟩ | ⟨x,t,rfl,rfl⟩
 ·exact ⟨t,rfl⟩
 ·exact ⟨t,rfl⟩
theorem ri {κ : Type} : ∀ {kvs : List (κ × V)} {vs : List (κ × Value)} (r : KV kvs vs) (i : Nat) {k : κ} {x : V},kvs[i]? = some (k,x) -> ∃ u,vs[i]? = some (k,u) /\ RelV x u
 | _,_,.nil,i,k,x,h => by simp at h
 | _,_,.cons (b := q) r t,0,k,x,h => by
  simp at h
  subst h
  obtain ⟨q1,q2⟩ := q
  have e : k = q1 := r.1
  subst e
  exact ⟨q2,by simp,r.2⟩
 | _,_,.cons r t,i + 1,k,x,h => by
  obtain ⟨u,e,rx⟩ := ri t i (by simpa using h)
  exact ⟨u,by simpa using e,rx⟩
theorem lM {X : Cx} {pins : List (Addr × Obj)} {σ : St} {H : Hp} {s : Shared} {a : Addr} {o : Obj} {kvs : List (Key × V)} {es0 : Array DictEntry} {ep : Nat} (I : av X pins σ H s) (h : H a = some (.frz o (.dK kvs))) (hd : o.data = .dict es0 ep) :
  ∃ vs,KV kvs vs /\ s.heap.DictAt (aU X.prog X.w) a vs ep := by
 obtain ⟨ho,z,y,vs,rel,ob,es,ep',e,c,d,rest⟩ := (show aV X.prog X.w H s.heap a (.frz o (.dK kvs)) from I.hok a _ h)
 rw [ho] at e
 cases e
 have e2 : ep' = ep := by rw [hd] at d; cases d; rfl
 subst e2
 exact ⟨vs,rel,o,es,ho,c,d,rest⟩
theorem pL {P : Program} {w : World} {K : A0} {tg : Expr} (it a : Addr) (o : Obj) (kvs : List (Key × V)) {es0 : Array DictEntry} {ep : Nat} (hd : o.data = .dict es0 ep) : Turn P w K tg (vP a o kvs) [it] it (fun i h => h.IsKeyIter it a i kvs.length ep) where
 mem := by simp
 obj := fun i h st b hb => by
  have e : b = it := by simpa using hb
  subst e
  obtain ⟨o,e,c,d⟩ := st
  exact ⟨o,e,fun v z => by rw [d] at z; cases z⟩
 keep := fun i h h' st k => by
  obtain ⟨o,e,c,d⟩ := st
  exact ⟨o,k it (by simp) o e,c,d⟩
 item := by
  intro X hP hw hK hc i pins s σ H E I hf st hg
  subst hP hw hK
  obtain ⟨f0,f1,f2,f3,f4,f5⟩ := hf it (by simp)
  obtain ⟨hz,hlt⟩ := hg
  obtain ⟨vs,rel,D⟩ := lM I hz hd
  obtain ⟨⟨k,x⟩,hx⟩ : ∃ p,kvs[i]? = some p := ⟨kvs[i],A2 hlt⟩
  obtain ⟨u,hu,_⟩ := ri rel i hx
  have st' := st
  rw [rel.length] at st'
  refine wpAny_pyNext_dict_item st' D hu fun key h' hkey hit' hs' => ?_
  rw [<- rel.length] at hit'
  have I1 : av X pins σ H { s with heap := h',toks := s.toks } := I.turned (fun b ob hb e => hs'.extBut b ob hb e) f0 f1 f3 f4 f5
  obtain ⟨oi,ei,ci,di⟩ := id hit'
  exact ⟨_,rfl,jm (s := { s with heap := h' }) (n := "dict_keyiterator") ei ci di (by decide) ⟨kV k,H,I1,rh hkey,⟨rfl,k,x,hx,rfl⟩,hit',fun b hb => (hf b hb).1⟩⟩
 done := by
  intro X hP hw hK hc i pins s σ H E I hf st hg
  subst hP hw hK
  obtain ⟨f0,f1,f2,f3,f4,f5⟩ := hf it (by simp)
  obtain ⟨hz,rfl⟩ := hg
  obtain ⟨vs,rel,D⟩ := lM I hz hd
  rw [rel.length] at st
  refine wpAny_pyNext_dict_end (I.ok.hd hc) st D (by simp) fun h' he' => ⟨rfl,I.turned (t' := s.toks) (fun b ob hb e => he' b ob hb e) f0 f1 f3 f4 f5⟩
 self := fun _ _ _ _ _ st h => wpAny_pyIter_keyiter st h
def NF (X : Cx) (a : Addr) : Prop := ∀ o u,X.H₀ a ≠ some (.frz o u)
theorem av.nf {X : Cx} {pins : List (Addr × Obj)} {σ : St} {H : Hp} {s : Shared} {a : Addr} {kvs : List (Key × V)} (I : av X pins σ H s) (h : H a = some (.dK kvs)) : NF X a := fun o u e => by
 have := I.base.frzs a o u e
 rw [h] at this
 cases this
theorem av.freeze {X : Cx} {pins : List (Addr × Obj)} {σ : St} {H : Hp} {s : Shared} {a : Addr} {kvs : List (Key × V)} {o : Obj} (I : av X pins σ H s) (h : H a = some (.dK kvs)) (ho : s.heap.get? a = some o) : av X pins σ (aq H a (.frz o (.dK kvs))) s := by
 refine I.un (H' := aq H a (.frz o (.dK kvs))) (h' := s.heap) (t' := s.toks) ⟨fun b ob q n _ _ => q,fun b ob q n _ _ => ⟨ob.slots,q⟩,fun b ob q n _ => ?_,fun b ob q _ => ⟨ob,q⟩,fun b xs q => ?_,fun b ob u q => ?_,fun b ps q => ⟨#[],?_⟩⟩ ?_
 ·rw [ae (fun z => by subst z; rw [h] at n; cases n)]; exact n
 ·rw [ae (fun z => by subst z; rw [h] at q; cases q)]; exact q
 ·rw [ae (fun z => by subst z; rw [h] at q; cases q)]; exact q
 ·rw [ae (fun z => by subst z; rw [h] at q; cases q),q]; simp
 ·intro b u q
  by_cases hb : b = a
  ·subst hb
   rw [ac] at q
   cases q
   exact ⟨ho,(I.hok b _ h).stay (fun _ _ _ q => q) (fun c q => by rw [ae (fun z => by subst z; rw [h] at q; cases q)]; exact q) fun c xs q => by rw [ae (fun z => by subst z; rw [h] at q; cases q)]; exact q⟩
  ·rw [ae hb] at q
   exact (I.hok b _ q).stay (fun _ _ _ q => q) (fun c q => by rw [ae (fun z => by subst z; rw [h] at q; cases q)]; exact q) fun c xs q => by rw [ae (fun z => by subst z; rw [h] at q; cases q)]; exact q
theorem av.thaw {X : Cx} {pins : List (Addr × Obj)} {σ : St} {H : Hp} {s : Shared} {a : Addr} {kvs : List (Key × V)} {o : Obj} (I : av X pins σ H s) (h : H a = some (.frz o (.dK kvs))) (nf : NF X a) : av X pins σ (aq H a (.dK kvs)) s := by
 have hn : ∀ {b : Addr} {u : HO},H b = some u -> (∀ o' v,u ≠ .frz o' v) -> aq H a (.dK kvs) b = some u := fun {b u} q n => by
  rw [ae (fun z => by subst z; rw [h] at q; cases q; exact n _ _ rfl)]; exact q
 have hf : ∀ {b : Addr},H b = none -> aq H a (.dK kvs) b = none := fun {b} n => by
  rw [ae (fun z => by subst z; rw [h] at n; cases n)]; exact n
 refine ⟨I.ok,I.os,I.bare,⟨I.base.keep,I.base.slot,fun b ob q n hx => hf (I.base.free b ob q n hx),I.base.there,fun b xs q => hn (I.base.tups b xs q) (fun _ _ z => nomatch z),fun b ob u q => ?_,fun b ps q => ?_⟩,I.loc,I.cell,hf I.free,fun y c e => hf (I.freeC y c e),fun p hp => ?_,?_,I.len⟩
 ·have q' := I.base.frzs b ob u q
  rw [ae (fun z => by subst z; exact nf _ _ q)]
  exact q'
 ·obtain ⟨more,q'⟩ := I.base.tbls b ps q
  exact ⟨more,hn q' (fun _ _ z => nomatch z)⟩
 ·obtain ⟨p1,p2,p3⟩ := I.pin p hp
  exact ⟨p1,hf p2,p3⟩
 ·intro b u q
  by_cases hb : b = a
  ·subst hb
   rw [ac] at q
   cases q
   obtain ⟨_,q2⟩ := (show aV X.prog X.w H s.heap b (.frz o (.dK kvs)) from I.hok b _ h)
   exact aV.stay (o := .dK kvs) q2 (fun _ _ _ q => q) (fun c q => hn q (fun _ _ z => nomatch z)) fun c xs q => hn q (fun _ _ z => nomatch z)
  ·rw [ae hb] at q
   exact (I.hok b _ q).stay (fun _ _ _ q => q) (fun c q => hn q (fun _ _ z => nomatch z)) fun c xs q => hn q (fun _ _ z => nomatch z)
def xt (X : Cx) (tl : TE) : TI := fun σ H R => tl σ H fun x H1 => ∃ a kvs,x = .ref a /\ H1 a = some (.dK kvs) /\ ∀ o,NF X a -> R (vP a o kvs) (aq H1 a (.frz o (.dK kvs)))
section
variable {X : Cx} {tg : Expr}
theorem ip {l : Expr} {tl : TE} (hl : PE X l tl) : PI X tg l (xt X tl) := by
 intro pins s σ H R I h
 refine bw (hl pins s σ H _ I h) fun v s1 ⟨x,H1,I1,r1,q1⟩ => ?_
 obtain ⟨a,kvs,rfl,hk,q⟩ := q1
 cases r1
 obtain ⟨z,y,vs,rel,ob,es,ep,e,c,d,rest⟩ := (show aV X.prog X.w H1 s1.heap a (.dK kvs) from I1.hok a _ hk)
 have D : s1.heap.DictAt (aU X.prog X.w) a vs ep := ⟨ob,es,e,c,d,rest⟩
 have I2 := I1.freeze hk e
 refine wpAny_pyIter_dict y D ?_
 refine ⟨s1.heap.objs.size,[s1.heap.objs.size],_,_,_,rfl,I2.kept (t' := s1.toks) fun b o e => Heap.get?_push_of_some _ e,pL _ a ob kvs d,⟨_,Heap.get?_push_size _ rfl,rfl,by rw [rel.length]; rfl⟩,fun b hb => ?_,q ob (I1.nf hk)⟩
 have e : b = s1.heap.objs.size := by simpa using hb
 subst e
 exact I2.fpOk (A4 _) (I2.hok.fresh (A4 _))
end
def xu (X : Cx) (P : Hp -> Prop) (H : Hp) : Prop := ∃ a o kvs,H a = some (.frz o (.dK kvs)) /\ NF X a /\ P (aq H a (.dK kvs))
def zD (X : Cx) (D : Ends) : Ends := { nx := fun σ => xu X (D.nx σ),bk := fun σ => xu X (D.bk σ),ct := fun σ => xu X (D.ct σ),rt := fun v => xu X (D.rt v) }
theorem mS {X : Cx} {st : Stmt} {t : TS} (h : PS X st t) : PS X st (fun D σ H => t (zD X D) σ H) := by
 intro pins s σ H D I q
 refine bw (h pins s σ H _ I q) fun f s1 q1 => ?_
 cases f with
 | next =>
  obtain ⟨σ',H',I',a,o,kvs,e,nf,p⟩ := q1
  exact ⟨σ',_,I'.thaw e nf,p⟩
 | brk =>
  obtain ⟨σ',H',I',a,o,kvs,e,nf,p⟩ := q1
  exact ⟨σ',_,I'.thaw e nf,p⟩
 | cont =>
  obtain ⟨σ',H',I',a,o,kvs,e,nf,p⟩ := q1
  exact ⟨σ',_,I'.thaw e nf,p⟩
 | ret u =>
  obtain ⟨v,σ',H',I',r,a,o,kvs,e,nf,p⟩ := q1
  exact ⟨v,σ',_,I'.thaw e nf,r,p⟩
theorem vQ {X : Cx} {e : Expr} {t : TE} (h : PE X e t) : PE X e (fun σ H Q => t σ H fun v => xu X (Q v)) := by
 intro pins s σ H Q I q
 refine bw (h pins s σ H _ I q) fun u s1 ⟨v,H1,I1,r,a,o,kvs,e,nf,p⟩ => ?_
 exact ⟨v,_,I1.thaw e nf,r,p⟩
theorem rj {a : Addr} {o : Obj} {kvs : List (Key × V)} {g : TG} {tb : TS} {D : Ends} {σ : St} {H : Hp} (Pv : Nat -> St -> Hp -> Prop) (h0 : Pv 0 σ H) (hz : ∀ i σ H,i <= kvs.length -> Pv i σ H -> H a = some (.frz o (.dK kvs)))
  (hs : ∀ i k x σ H,kvs[i]? = some (k,x) -> Pv i σ H -> g (kV k) σ H fun σ2 H2 => tb { D with nx := Pv (i + 1),ct := Pv (i + 1),bk := D.nx } σ2 H2) (hd : ∀ σ H,Pv kvs.length σ H -> D.nx σ H) :
  ∃ W : Nat -> Nat -> St -> Hp -> Prop,(∃ m,W 0 m σ H) /\ ∀ i m σ H,W i m σ H ->
   ((vP a o kvs).stop i H /\ D.nx σ H) ∨ ((vP a o kvs).go i H /\ ∃ N : St -> Hp -> Prop,(∀ σ' H',N σ' H' -> ∃ m',m' < m /\ W (i + 1) m' σ' H') /\ ∀ x H',(vP a o kvs).yld i H x H' -> g x σ H' fun σ2 H2 => tb { D with nx := N,ct := N,bk := D.nx } σ2 H2) := by
 refine ⟨fun i m σ H => m = kvs.length - i /\ i <= kvs.length /\ Pv i σ H,⟨kvs.length,by simp,AZ _,h0⟩,?_⟩
 rintro i m σ H ⟨rfl,hi,p⟩
 by_cases hlt : i < kvs.length
 ·refine .inr ⟨⟨hz i σ H hi p,hlt⟩,Pv (i + 1),fun σ' H' p' => ⟨kvs.length - (i + 1),by omega,rfl,hlt,p'⟩,fun x H' y => ?_⟩
  obtain ⟨e,k,v,hk,rfl⟩ := y
  subst e
  exact hs i k v σ _ hk p
 ·have e : i = kvs.length := by omega
  subst e
  exact .inl ⟨⟨hz _ σ H hi p,rfl⟩,hd σ H p⟩
def iQ (js : List Nat) (tc : TT) (te : TE) (σ : St) (Q : VK) : It -> Hp -> Prop := fun J H1 => ∀ p,H1 p = none -> ∃ W : Nat -> Nat -> List V -> Hp -> Prop,(∃ m,W 0 m [] (aq H1 p (.lst []))) /\
 ∀ i m ys H2,W i m ys H2 -> H2 p = some (.lst ys) /\ ((J.stop i H2 /\ Q (.ref p) H2) ∨ (J.go i H2 /\ ys.length < sizeLine /\ ∀ x H3,J.yld i H2 x H3 -> tc (some x :: bP js σ) H3 fun b H4 =>
  if b = true then te (some x :: bP js σ) H4 fun y H5 => H5 p = some (.lst ys) /\ ∃ m',m' < m /\ W (i + 1) m' (ys ++ [y]) (aq H5 p (.lst (ys ++ [y]))) else ∃ m',m' < m /\ W (i + 1) m' ys H4))
def ol (wi : TI) (js : List Nat) (tc : TT) (te : TE) : TE := fun σ H Q => wi σ H (iQ js tc te σ Q)
section
variable {prog : Program} {w : World} {A : Around} {R : Result -> Shared -> Prop} {s : Shared}
theorem gZ {elt target iter cond : Expr} {scope : Scope} {pos : Pos} {it acc : Value} {env : Env} (I : Nat -> Shared -> Prop)
  (turn : ∀ n s,I n s -> wpAny (model prog w) A (pyNext it) (fun r s1 => match r with
   | none => R (.ok .next) s1
   | some v => wpAny (model prog w) A (letOwnedTupleGo target it v) (fun _ s2 => wpAny (model prog w) A (assign target env v) (fun _ s3 => wpAny (model prog w) A (isTrue cond env (eval cond env)) (fun ok s4 =>
     if ok = true then wpAny (model prog w) A (eval elt env) (fun x s5 => wpAny (model prog w) A (call (.builtin "list.append") [acc,x]) (fun _ s6 => ∃ m,m < n /\ I m s6) (fun _ _ => False) s5) (fun _ _ => False) s4
     else ∃ m,m < n /\ I m s4) (fun _ _ => False) s3) (fun _ _ => False) s2) (fun _ _ => False) s1) (fun _ _ => False) s)
  (n : Nat) (h : I n s) : codeAny (model prog w) A (.compLoop (.ListComp elt [⟨target,iter,[cond],0⟩] scope pos) 0 it acc env) R s := by
 apply codeAny_loop rfl I ?_ n h
 intro n s hI
 show wpAny _ _ ((compTurn (.ListComp elt [⟨target,iter,[cond],0⟩] scope pos) 0 it acc env).onRaise _) _ _ s
 apply wpAny_noted
 rw [compTurn_list]
 apply wpAny_bind
 apply wpAny_standAt
 apply wpAny_bind
 refine wpAny_mono (turn n s hI) (fun r s1 h1 => ?_) fun _ _ z => z.elim
 cases r with
 | none => exact wpAny_pure h1
 | some v =>
  apply wpAny_bind
  refine wpAny_mono h1 (fun _ s2 h2 => ?_) fun _ _ z => z.elim
  apply wpAny_bind
  refine wpAny_mono h2 (fun _ s3 h3 => ?_) fun _ _ z => z.elim
  apply wpAny_bind
  refine wpAny_mono (wpAny_tests_one h3) (fun ok s4 h4 => ?_) fun _ _ z => z.elim
  cases ok with
  | true =>
   apply wpAny_bind
   apply wpAny_bind
   refine wpAny_mono h4 (fun x s5 h5 => ?_) fun _ _ z => z.elim
   apply wpAny_bind
   refine wpAny_mono h5 (fun _ s6 h6 => ?_) fun _ _ z => z.elim
   exact wpAny_pure (wpAny_pure ⟨rfl,h6⟩)
  | false =>
   have h4' : ∃ m,m < n /\ I m s4 := h4
   exact wpAny_pure ⟨rfl,h4'⟩
end
section
variable {X : Cx} {scope : Scope} {cl : List (Str × Addr)} {own : Str} {ys : List Str} {js : List Nat} {elt iter cond : Expr} {px pos : Pos} {wi : TI} {te : TE} {tc : TT}
theorem jF (hc : X.calm = true) (ok : kr X scope cl own ys js) (hi : PI X (.Name own px) iter wi)
  (hq : ∀ (C : Addr) (fp : List Addr) (s : Shared) (H : Hp),PT (X.block scope cl C (own :: ys) own fp s H) cond tc)
  (he : ∀ (C : Addr) (fp : List Addr) (s : Shared) (H : Hp),PE (X.block scope cl C (own :: ys) own fp s H) elt te)
  (hs : ∀ x,foldedSetIterable iter X.env x = pure x := by intro _; rfl) : PE X (.ListComp elt [⟨.Name own px,iter,[cond],0⟩] scope pos) (ol wi js tc te) := by
 intro pins s σ H Q I h
 rw [eval_ListComp]
 have ncell : ∀ y ∈ scope.names,y.2 ≠ .cell := fun y hy z => by
  have q := BP.mp ok.nocell y hy
  rw [z] at q
  simp at q
 have nloc : ∀ y ∈ scope.names,y.2 = .local -> scope.names.lookup y.1 = some .local := fun y hy z => by
  have q := BP.mp ok.loc y hy
  rw [z] at q
  simpa using q
 refine wpAny_comprehension_free (use := none) rfl hs ok.clos ok.kind nloc (bw (hi pins s σ H _ I h) fun v s1 h1 => bw h1 fun itv s2 h2 => ?_)
 obtain ⟨it,fp,tn,J,H2,rfl,I2,T,st2,f2,q2⟩ := h2
 obtain ⟨W,⟨m0,w0⟩,turn⟩ := q2 s2.heap.objs.size (I2.hok.fresh (A4 _))
 refine wpAny_newObj_type (wpAny_newFunctionEnv ncell (by intro y hy; simp at hy) (fun h1 hns hsb => ?_) ok.kind)
 have I3 := I2.laid (a := s2.heap.objs.size) (o := .lst []) (h' := s2.heap.push { cls := .type "list",dict := none,data := .seq ([] : List Value).toArray }) (t' := s2.toks) (fun b u q => Heap.get?_push_of_some _ q) (A4 _)
  ⟨AZ _,[],0,.nil,Heap.get?_push_size _ rfl⟩
 have fpo : ∀ b ∈ fp,b < s2.heap.objs.size := fun b hb => by
  obtain ⟨o,e,_⟩ := T.obj 0 _ st2 b hb
  exact Heap.lt_size e
 have f3 : ∀ b ∈ fp,fP X pins (aq H2 s2.heap.objs.size (.lst [])) b := fun b hb => ⟨by rw [ae (AD (fpo b hb))]; exact (f2 b hb).1,(f2 b hb).2⟩
 generalize hs3 : ({ s2 with heap := s2.heap.push { cls := .type "list",dict := none,data := .seq ([] : List Value).toArray },toks := s2.toks } : Shared) = s3 at I3
 have e3 : s3.heap = s2.heap.push { cls := .type "list",dict := none,data := .seq ([] : List Value).toArray } := by rw [<- hs3]
 have lt3 : ∀ b ∈ fp,b < s3.heap.objs.size := fun b hb => by rw [e3,Heap.size_push]; exact Nat.lt_succ_of_lt (fpo b hb)
 dsimp only at hns hsb ⊢
 rw [<- e3] at hns hsb
 have hk : ∀ b o,s3.heap.get? b = some o -> h1.get? b = some o := fun b o e => hsb.extBut b o (AD (Heap.lt_size e)) (Heap.get?_push_of_some _ e)
 have J0 := gY (h1 := h1) ok I3 f3 lt3 hns hk (s2.toks + 0)
 have t0 : tn 0 h1 := T.keep 0 _ _ st2 fun b hb o e => hk b o (by rw [e3]; exact Heap.get?_push_of_some _ e)
 have fpB : ∀ {H' : Hp},(∀ b ∈ fp,H' b = none) -> ∀ b ∈ fp,fP (X.block scope cl s3.heap.objs.size (own :: ys) own fp s3 (aq H2 s2.heap.objs.size (.lst []))) [] H' b := fun {H'} hn b hb =>
  ⟨hn b hb,AD (lt3 b hb),fun z => (AB.mp (I3.stkSub b z)).elim (f3 b hb).2.1 (f3 b hb).2.2.1,.inl hb,fun x c e => (f3 b hb).2.2.2.2.1 x c (ok.sub (x,c) (B2 e)),fun p hp => absurd (show p ∈ ([] : List (Addr × Obj)) from hp) (by simp)⟩
 have loop : codeAny (model X.prog X.w) X.A (.compLoop (.ListComp elt [⟨.Name own px,iter,[cond],0⟩] scope pos) 0 (.ref it) (.ref s2.heap.objs.size) (compEnvC scope cl s3.heap.objs.size X.env))
   (compPost (model X.prog X.w) X.A X.xe none (EP X pins σ Q) (.ref s2.heap.objs.size) s3.heap.objs.size) { s3 with heap := h1,toks := s2.toks + 0 } := by
  refine gZ (fun n s' => ∃ i zs o0 H',av (X.block scope cl s3.heap.objs.size (own :: ys) own fp s3 (aq H2 s2.heap.objs.size (.lst []))) [] (o0 :: bP js σ) H' s' /\ tn i s'.heap /\ (∀ b ∈ fp,H' b = none) /\ W i n zs H') ?_ m0
   ⟨0,[],none,_,J0,t0,fun b hb => (f3 b hb).1,w0⟩
  rintro n s5 ⟨i,zs,o0,H5,I5,t5,n5,w5⟩
  obtain ⟨hD,hw⟩ := turn i n zs H5 w5
  rcases hw with ⟨stop,qn⟩ | ⟨go,hz,step⟩
  ·refine bw (T.done (X.block scope cl s3.heap.objs.size (own :: ys) own fp s3 (aq H2 s2.heap.objs.size (.lst []))) rfl rfl rfl hc i [] s5 _ H5 (fun _ _ => False) I5 (fpB n5) t5 stop) fun r s6 ⟨hr,I6⟩ => ?_
   subst hr
   obtain ⟨m,hn,_⟩ := id I6.loc
   exact ⟨m,hn,fun h' hs' => ⟨V.ref s2.heap.objs.size,H5,jE I3 f3 I6 hs',rfl,qn⟩⟩
  ·refine bw (T.item (X.block scope cl s3.heap.objs.size (own :: ys) own fp s3 (aq H2 s2.heap.objs.size (.lst []))) rfl rfl rfl hc i [] s5 _ H5 (fun _ _ => False) I5 (fpB n5) t5 go) fun r s6 ⟨u,hr,h6⟩ => ?_
   subst hr
   refine bw h6 fun _ s7 ⟨x,H7,I7,r7,y7,t7,n7⟩ => ?_
   have I7' := I7.pinned (fpB n7) (T.obj _ _ t7)
   have hst := step x H7 y7
   have own' : (relabel scope X.env).names.lookup own = some .local := lookup_relabel_local ok.ownL
   refine bw (bA (X := X.block scope cl s3.heap.objs.size (own :: ys) own fp s3 (aq H2 s2.heap.objs.size (.lst []))) (i := 0) (x := own) (pos := px) ok.nd rfl (.inl own') (.inr own') _ s7 _ H7 x u (fun σ' H' => σ' = some x :: bP js σ /\ H' = H7) I7' r7 ⟨rfl,rfl⟩) fun _ s8 ⟨σ8,H8,I8,e8,eH8⟩ => ?_
   subst e8 eH8
   refine bw (hq _ _ _ _ _ s8 _ H8 _ I8 hst) fun ok s9 ⟨H9,I9,h9⟩ => ?_
   have frame : ∀ {s' : Shared} {H' : Hp},av (X.block scope cl s3.heap.objs.size (own :: ys) own fp s3 (aq H2 s2.heap.objs.size (.lst []))) ([] ++ gw fp s7.heap) (some x :: bP js σ) H' s' -> tn (i + 1) s'.heap /\ ∀ b ∈ fp,H' b = none := fun {s' H'} I' =>
    ⟨T.keep _ _ _ t7 fun b hb o e => (I'.pin (b,o) (AJ _ (AJ _ (cM hb e)))).1,fun b hb => by
     obtain ⟨o,e,d⟩ := T.obj _ _ t7 b hb
     exact (I'.pin (b,o) (AJ _ (AJ _ (cM hb e)))).2.1⟩
   cases ok with
   | true =>
    refine bw (he _ _ _ _ _ s9 _ H9 _ I9 h9) fun yv s10 ⟨y,H10,I10,r10,hD10,m',hm,w10⟩ => ?_
    refine bw (cg _ s10 _ H10 (.ref s2.heap.objs.size) [y] (.ref s2.heap.objs.size) [yv] (fun _ H' => H' = aq H10 s2.heap.objs.size (.lst (zs ++ [y]))) I10 rfl (.cons r10 .nil) ⟨_,zs,y,rfl,rfl,hD10,hz,rfl⟩) fun _ s11 ⟨_,H11,I11,_,e11⟩ => ?_
    subst e11
    exact ⟨m',hm,i + 1,zs ++ [y],some x,_,I11.unpinned,(frame I11).1,(frame I11).2,w10⟩
   | false =>
    obtain ⟨m',hm,w10⟩ := h9
    exact ⟨m',hm,i + 1,zs,some x,_,I9.unpinned,(frame I9).1,(frame I9).2,w10⟩
 subst hs3
 exact codeAny_compStart_list loop (T.self _ 0 _ _ _ t0 loop)
end
section
variable {X : Cx}
theorem jG : zi X "dict.setdefault" (fun x vs H Q => ∃ a kvs k v,x = .ref a /\ vs = [kV k,v] /\ H a = some (.dK kvs) /\ kvs.length < sizeLine /\ (∀ w,aE kvs k = some w -> Q w H) /\ (aE kvs k = none -> Q v (aq H a (.dK (putK kvs k v))))) := by
 intro pins s σ H x vs v us Q I rx rv h
 obtain ⟨a,kvs,k,y,rfl,rfl,hk,hz,q1,q2⟩ := h
 cases rx
 obtain ⟨u,w',rfl,ru,rw'⟩ := vals2 rv
 obtain ⟨z,hS,ws,rel,D⟩ := iF I.hok hk
 refine call_meetsIn F.slot_dict_setdefault D.typeIs F.entry_dict_setdefault (F.args_dict_setdefault_3 _ _ _) (kt_meets_setdefault (aU X.prog X.w) a (eT ru) hS w') ⟨ws,D,by rw [<- rel.length]; exact z,fun v' hv => ?_,fun hn h' D' hs' => ?_⟩
 ·have r := rel.val k
  rw [hv] at r
  cases e : aE kvs k with
  | none => rw [e] at r; exact r.elim
  | some y' =>
   rw [e] at r
   exact ⟨y',H,I.tok _,r,q1 y' e⟩
 ·have r := rel.val k
  rw [hn] at r
  have e : aE kvs k = none := by
   cases e : aE kvs k with
   | none => rfl
   | some y' => rw [e] at r; exact r.elim
  obtain ⟨od,_,_,ho,_⟩ := id D'
  refine ⟨y,_,fV I (by rw [hk]; trivial) hs' ⟨od,ho⟩ (kc (by have := cV kvs k y; omega) hS (rel.put k rw') D'),rw',q2 e⟩
end
section
variable {prog : Program} {w : World} {κ : Type} [DecidableEq κ] {knd : KeyKind prog w κ} {A : Around} {E : Value -> Shared -> Prop} {s : Shared}
end
theorem sV : typeLookup (.type "list_reverseiterator") "__len__" = pure none := by
 rw [typeLookup_type,builtinLookup_eq_fast]
 kernel_rfl
theorem rn : typeLookup (.type "list_reverseiterator") "__length_hint__" = pure (some (.builtin "list_reverseiterator.__length_hint__")) := by
 rw [typeLookup_type,builtinLookup_eq_fast]
 kernel_rfl
section
variable {prog : Program} {w : World} {A : Around} {R : Result -> Shared -> Prop} {s : Shared} {I l S : Addr} {items : Array Value}
abbrev vR (items : Array Value) : Nat -> Value -> Prop := fun i v => items[items.size - 1 - i]? = some v
theorem mT (hh : A.in1.handled = none) (hlI : l ≠ I) (hSI : S ≠ I) (hSl : S ≠ l) (res : Value) (c : Nat) (hit : s.heap.IsRevIter I l ((items.size : Int) - 1)) (hl : s.heap.IsList l items)
  (hS : s.heap.get? S = some { cls := .type "list",data := .seq #[] c }) (hn : items.size <= sizeLine)
  (fin : ∀ s' acc c',Moved [S,I] (fun a b => b = a) s s' -> s'.heap.get? S = some { cls := .type "list",dict := none,data := .seq acc c',slots := #[] } -> ItemsOf (vR items) acc items.size -> R (.ok (.ret res)) s') :
  wpAny (model prog w) A.in1 (Builtin.List.listExtendWith (.ref S) (.ref I) res)
   (fun fin s' => match fin with | .done f => R (.ok f) s' | .again c' => c'.quiet = true /\ codeAny (model prog w) A c' R s') (fun e s' => R (.error e) s') s := by
 have ty : s.TypeIs (.ref I) "list_reverseiterator" := hit.typeIs
 have ns : Builtin.List.listSameRef (.ref S) (.ref I) = false := by
  simp [Builtin.List.listSameRef,hSI]
 unfold Builtin.List.listExtendWith
 apply wpAny_bind
 apply wpAny_typeOf ty
 rw [if_neg (by rw [ns]; decide)]
 apply wpAny_bind
 apply wpAny_pyIter_revIter hit
 apply wpAny_bind
 apply wpAny_holding
 unfold Builtin.List.listLengthHint
 apply wpAny_bind
 apply wpAny_specialOf ty sV
 show wpAny _ _ (specialOf (Value.ref I) (Str.ofString "__length_hint__") >>= _) _ _ s
 apply wpAny_bind
 apply wpAny_specialOf ty rn
 generalize hid : ("list_reverseiterator.__length_hint__" : String) = id0
 wp_delta
 rw [show splitId id0 = some ("list_reverseiterator","__length_hint__") from by subst hid; decide +kernel]
 subst hid
 apply wpAny_bind
 refine wpAny_isInstance (b := true) ty (by rw [isSubtype_type]; kernel_rfl) ?_
 apply wpAny_pure
 rw [if_neg (by decide)]
 have W := (Walks.listRev (prog := prog) (w := w) hh I l hlI items).toS
 have out : S ∉ [I,l] := by
  simp only [AB,BB,or_false,not_or]
  exact ⟨hSI,hSl⟩
 have st : (0 : Nat) <= items.size /\ s.heap.IsRevIter I l ((items.size : Int) - 1 - ((0 : Nat) : Int)) /\ s.heap.IsList l items := ⟨AZ _,by simpa using hit,hl⟩
 apply wpAny_pure
 refine ⟨plainId_quiet PySem.F.plain_extend_loop _,?_⟩
 exact codeAny_extend_loopS W hn S out res items.size 0 s #[] c rfl (AZ _) st hS (ItemsOf.nil _) fin
theorem ro {E : Value -> Shared -> Prop} {Q : Value -> Shared -> Prop} (hh : A.handled = none) (hlI : l ≠ I) (hit : s.heap.IsRevIter I l ((items.size : Int) - 1)) (hl : s.heap.IsList l items) (hn : items.size <= sizeLine)
  (fin : ∀ h' tk acc c',(∀ b o,b ≠ I -> s.heap.get? b = some o -> h'.get? b = some o) -> h'.get? s.heap.objs.size = some { cls := .type "list",dict := none,data := .seq acc c',slots := #[] } -> ItemsOf (vR items) acc items.size -> Q (.ref s.heap.objs.size) { s with heap := h',toks := tk }) :
  wpAny (model prog w) A (call (.type "list") [.ref I]) Q E s := by
 have lI : I < s.heap.objs.size := by
  obtain ⟨o,e,_⟩ := hit
  exact Heap.lt_size e
 have ll : l < s.heap.objs.size := by
  obtain ⟨o,e,_⟩ := hl
  exact Heap.lt_size e
 refine callType_codes (Q₁ := fun v s1 => v = .ref s.heap.objs.size /\ s1 = { s with heap := s.heap.push { cls := .type "list",data := .seq #[] } }) PySem.F.called_list (PySem.F.typeCall_list_1 _) PySem.F.entry_list_init (code_list_new _ ⟨rfl,rfl⟩) ?_
 rintro v s1 ⟨rfl,rfl⟩
 have e0 : (s.heap.push { cls := .type "list",data := .seq #[] }).get? s.heap.objs.size = some { cls := .type "list",data := .seq #[] } := Heap.get?_push_size _ rfl
 refine ⟨⟨_,e0,rfl⟩,PySem.F.args_list_init_2 _ _,?_⟩
 show wpAny _ _ (Builtin.List.listItems (.ref s.heap.objs.size) >>= fun old => Builtin.List.listUpdate (.ref s.heap.objs.size) (fun _ => #[]) >>= fun _ => letGo old.toList.reverse >>= fun _ => Builtin.List.listExtendWith (.ref s.heap.objs.size) (.ref I) .none) _ _ _
 apply wpAny_bind
 unfold Builtin.List.listItems
 apply wpAny_bind
 apply wpAny_seqItems e0 rfl
 apply wpAny_pure
 show wpAny _ _ (updateSeq s.heap.objs.size (fun _ => #[]) >>= fun _ => letGo (#[] : Array Value).toList.reverse >>= fun _ => Builtin.List.listExtendWith (.ref s.heap.objs.size) (.ref I) .none) _ _ _
 apply wpAny_bind
 apply wpAny_updateSeq e0 rfl
 have e1 := Heap.get?_update_self (Obj.mapSeq (fun _ => (#[] : Array Value))) e0 rfl
 have old : ∀ b o,b ≠ s.heap.objs.size -> s.heap.get? b = some o -> ((s.heap.push { cls := .type "list",data := .seq #[] }).update s.heap.objs.size (Obj.mapSeq (fun _ => (#[] : Array Value)))).get? b = some o := fun b o hb e =>
  (Heap.get?_update_other _ _ (Ne.symm hb)).trans (Heap.get?_push_of_some _ e)
 apply wpAny_bind
 apply wpAny_letGo
 refine mT (A := A.in1) (by simpa using hh) hlI (Nat.ne_of_gt lI) (Nat.ne_of_gt ll) .none _ ?_ ?_ e1 hn fun s' acc c' mv eS it => ?_
 ·obtain ⟨o,e,z⟩ := hit
  exact ⟨o,old _ _ (AD lI) e,z⟩
 ·obtain ⟨o,e,z⟩ := hl
  exact ⟨o,old _ _ (AD ll) e,z⟩
 ·obtain ⟨h',g',d',tk',os'⟩ := s'
  have eg : g' = s.gens := mv.gens
  have ed : d' = s.drawn := mv.drawn
  have eo : os' = s.os := mv.os
  subst eg ed eo
  refine ⟨rfl,fin h' tk' acc c' (fun b o hb e => ?_) eS it⟩
  refine mv.heap b o ?_ (old b o (AD (Heap.lt_size e)) e)
  simp only [AB,BB,or_false,not_or]
  exact ⟨AD (Heap.lt_size e),hb⟩
end
theorem lN : ∀ {xs : List V} {us : List Value},aM xs us -> aM xs.reverse us.reverse
 | _,_,.nil => .nil
 | _,_,.cons r t => by
  rw [List.reverse_cons,List.reverse_cons]
  exact (lN t).append (.cons r .nil)
theorem pM {us : List Value} {acc : Array Value} (h : ItemsOf (vR us.toArray) acc us.toArray.size) : acc.toList = us.reverse := by
 obtain ⟨h1,h2⟩ := h
 refine List.ext_getElem? fun i => ?_
 by_cases hi : i < acc.size
 ·have e := h2 i acc[i] (Bg hi)
  rw [BA,Bg hi,List.getElem?_reverse (by simpa [h1] using hi)]
  simpa using e.symm
 ·rw [B6 (by simpa using hi),B6 (by rw [List.length_reverse]; simp [h1] at hi; omega)]
def zE (K : A0) (te : TE) : TE := fun σ H Q => te σ H fun x H1 => ∃ a xs,x = .ref a /\ bh K H1 a xs /\ ∀ l,H1 l = none -> Q (.ref l) (aq H1 l (.lst xs.reverse))
section
variable {X : Cx} {e : Expr} {te : TE} {p1 p2 pos pos2 : Pos}
theorem mU (hc : X.calm = true) (g1 : Gl X "list") (m1 : X.mg "list" = none) (g2 : Gl X "reversed") (m2 : X.mg "reversed" = none) (b1 : bootBuiltins "list" = some (.type "list")) (b2 : bootBuiltins "reversed" = some (.type "reversed")) (he : PE X e te)
  (hs : starEach [e] X.env = [(false,eval e X.env)] := by rfl) :
  PE X (.Call (.Name "list" p1) [.Call (.Name "reversed" p2) [e] [] pos2] [] pos) (zE X.K te) := by
 intro pins s σ H Q I h
 apply wpAny_Call_Name_kw
 refine fE I g1 m1 b1 ?_ (by decide) (by decide)
 refine BF ?_ rfl rfl
 refine Calls.spliced_cons (x := eval (.Call (.Name "reversed" p2) [e] [] pos2) X.env) (rest := []) ?_
 apply wpAny_Call_Name_kw
 refine fE I g2 m2 b2 ?_ (by decide) (by decide)
 refine BF ?_ hs rfl
 rw [hs]
 refine Calls.spliced_cons (x := eval e X.env) (rest := []) (bw (he pins s σ H _ I h) fun v s1 ⟨x,H1,I1,r1,a,xs,ex,hq,q⟩ => ?_)
 subst ex
 cases r1
 apply Calls.spliced_nil
 obtain ⟨its,rv,pl,hz⟩ := I1.list hq
 have hli : s1.heap.IsList a its.toArray := pl.isList
 have alt : a < s1.heap.objs.size := by
  obtain ⟨o,eo,_⟩ := id hli
  exact Heap.lt_size eo
 apply call_reversed_list hli
 apply Calls.spliced_nil
 have I2 : av X pins σ H1 { s1 with heap := s1.heap.push (revObj a ((its.toArray.size : Int) - 1)),toks := s1.toks } := I1.kept fun b o e => Heap.get?_push_of_some _ e
 have sz : its.toArray.size = xs.length := by rw [AG,rv.length]
 refine ro (l := a) (items := its.toArray) (I.ok.hd hc) (AD alt) ⟨_,Heap.get?_push_size _ rfl,rfl,rfl⟩ (hli.push _) (by rw [sz]; exact hz) fun h' tk acc c' kp eL itm => ?_
 have er := pM itm
 have sl : s1.heap.objs.size <= (s1.heap.push (revObj a ((its.toArray.size : Int) - 1))).objs.size := by
  rw [Heap.size_push]
  exact Nat.le_succ _
 refine ⟨.ref _,_,I1.laid (a := (s1.heap.push (revObj a ((its.toArray.size : Int) - 1))).objs.size) (o := .lst xs.reverse) (h' := h') (t' := tk) (fun b o eo => kp b o (AD (Heap.lt_size eo)) (Heap.get?_push_of_some _ eo)) sl ?_,rfl,q _ (I1.hok.fresh sl)⟩
 refine ⟨by rw [List.length_reverse]; exact hz,acc.toList,c',by rw [er]; exact lN rv,?_⟩
 rw [Array.toArray_toList]
 exact eL
end
section
variable {prog : Program} {w : World} {A : Around} {R : Result -> Shared -> Prop} {I : Addr} {fp wr : List Addr} {G : Array GenState -> Array GenState -> Prop} {n : Nat} {P : Nat -> Value -> Prop} {St : Nat -> Shared -> Prop}
end
section
variable {prog : Program} {w : World} {A : Around} {E : Value -> Shared -> Prop} {s : Shared}
end
section
variable {X : Cx} {e : Expr} {te : TE} {p1 p2 pos pos2 : Pos}
end
theorem gH {X : Cx} : cC X (.builtin "len") (fun xs H Q => ∃ a kvs,xs = [.ref a] /\ Rd H a (.dK kvs) /\ Q (.int kvs.length) H) := by
 intro pins s σ H xs us Q I r h
 obtain ⟨a,kvs,rfl,e,q⟩ := h
 obtain ⟨u,rfl,r1⟩ := vals1 r
 cases r1
 exact wQ I e fun t s' I' => ⟨.int kvs.length,H,I',⟨t,rfl⟩,q⟩
end L2
namespace Sw
open PySem L2
inductive Led (ps : List (Str × Str)) (x : Str) : Str -> Prop where
 | self : Led ps x x
 | step {y z : Str} : Led ps x y -> (y,z) ∈ ps -> Led ps x z
theorem Led.closed {ps : List (Str × Str)} {x y : Str} {S : Str -> Prop} (hx : S x) (hc : ∀ a b,S a -> (a,b) ∈ ps -> S b) (l : Led ps x y) : S y := by
 induction l with
 | self => exact hx
 | step _ m ih => exact hc _ _ ih m
def aO (ks : List Str) (v : V) : List (Key × V) := ks.map fun y => (.inr y,v)
def bU (ks : List Str) (y : Str) : List Str := if y ∈ ks then ks else ks ++ [y]
theorem bR (ks : List Str) (v : V) : (aO ks v).length = ks.length := A5 _
theorem rp (ks : List Str) (v : V) (y : Str) : ((aO ks v).any fun kv => decide (kv.1 = (.inr y : Key))) = decide (y ∈ ks) := by
 unfold aO
 rw [BU]
 simp
theorem cX (ks : List Str) (v : V) (y : Str) : aE (aO ks v) (.inr y) = if y ∈ ks then some v else none := by
 induction ks with
 | nil => rfl
 | cons k ks ih =>
  by_cases e : k = y
  ·subst e
   rw [if_pos (by simp)]
   exact bj rfl
  ·have n : ¬ ((.inr k : Key) = .inr y) := fun z => e (Sum.inr.inj z)
   have h : aE (aO (k :: ks) v) (.inr y) = aE (aO ks v) (.inr y) := bu n
   rw [h,ih]
   simp [Ne.symm e,show ¬ y = k from fun z => e z.symm]
theorem dA (ks : List Str) (v : V) (y : Str) : putK (aO ks v) (.inr y) v = aO (bU ks y) v := by
 unfold putK bU
 rw [rp]
 by_cases h : y ∈ ks
 ·rw [if_pos (decide_eq_true h),if_pos h]
  unfold aO
  rw [Be]
  refine List.map_congr_left fun z hz => ?_
  show (if (.inr z : Key) = .inr y then ((.inr z : Key),v) else (.inr z,v)) = _
  split <;> rfl
 ·rw [if_neg (by simpa using h),if_neg h]
  unfold aO
  simp
theorem b4 {ks : List Str} {y z : Str} : z ∈ bU ks y ↔ z ∈ ks ∨ z = y := by
 unfold bU
 split
 ·rename_i h
  constructor
  ·exact .inl
  ·rintro (k | rfl)
   ·exact k
   ·exact h
 ·simp
theorem cO {ks : List Str} {y : Str} (h : ks.Nodup) : (bU ks y).Nodup := by
 unfold bU
 split
 ·exact h
 ·rename_i n
  rw [B8]
  refine ⟨h,by simp,?_⟩
  intro a ha b hb
  simp at hb
  subst hb
  exact fun e => n (e ▸ ha)
theorem cY (ks : List Str) (y : Str) : ks.length <= (bU ks y).length /\ ((bU ks y).length = ks.length -> y ∈ ks) /\ (bU ks y).length <= ks.length + 1 := by
 unfold bU
 split
 ·rename_i h
  exact ⟨A4 _,fun _ => h,Nat.le_succ _⟩
 ·simp
def fZ (l ks : List Str) : Nat := (l.filter fun y => !decide (y ∈ ks)).length
theorem sW (l : List Str) {ks ks' : List Str} (h : ∀ y ∈ ks,y ∈ ks') : fZ l ks' <= fZ l ks := by
 unfold fZ
 induction l with
 | nil => exact A4 _
 | cons a l ih =>
  by_cases h1 : a ∈ ks
  ·simp [h1,h a h1,ih]
  ·by_cases h2 : a ∈ ks'
   ·simp [h1,h2]; omega
   ·simp [h1,h2]; omega
theorem g9 (l ks : List Str) : fZ l ks <= l.length := BV _ _
theorem sX {l ks ks' : List Str} {y : Str} (h : ∀ z ∈ ks,z ∈ ks') (yl : y ∈ l) (n : y ∉ ks) (y' : y ∈ ks') : fZ l ks' < fZ l ks := by
 unfold fZ
 induction l with
 | nil => simp at yl
 | cons a l ih =>
  have le := sW l h
  unfold fZ at le
  by_cases e : a = y
  ·subst e
   simp [n,y']
   omega
  ·have yl' : y ∈ l := by
    rcases AB.mp yl with z | z
    ·exact absurd z.symm e
    ·exact z
   have ih := ih yl'
   by_cases h1 : a ∈ ks
   ·simp [h1,h a h1]; exact ih
   ·by_cases h2 : a ∈ ks'
    ·simp [h1,h2]; omega
    ·simp [h1,h2]; exact ih
theorem jH {l ks : List Str} {y : Str} (yl : y ∈ l) : (bU ks y).length + fZ l (bU ks y) <= ks.length + fZ l ks := by
 by_cases h : y ∈ ks
 ·unfold bU
  rw [if_pos h]
  exact A4 _
 ·have lt := sX (ks' := bU ks y) (fun z hz => b4.mpr (.inl hz)) yl h (b4.mpr (.inr rfl))
  have := (cY ks y).2.2
  omega
def dB : Str := "abcdefghijklmnopqrstuvwxyz"
theorem om {i : Int} (h0 : 0 <= i) (h : i < 26) : ∃ c,fo dB.cps.toList i = some c := by
 refine sU h0 ?_
 have e : dB.cps.toList.length = 26 := by decide
 rw [e]
 exact h
def aP : List (Str × List Str) -> Str -> Str -> List (Str × List Str)
 | [],x,y => [(x,[y])]
 | (a,ys) :: r,x,y => if a = x then (a,bU ys y) :: r else (a,ys) :: aP r x y
def iR (rows : List (Str × List Str)) (x y : Str) : Prop := ∃ ys,(x,ys) ∈ rows /\ y ∈ ys
theorem ce {a : Str} {ys : List Str} {r : List (Str × List Str)} {x y : Str} : iR ((a,ys) :: r) x y ↔ (a = x /\ y ∈ ys) ∨ iR r x y := by
 constructor
 ·rintro ⟨zs,h,k⟩
  rcases AB.mp h with e | e
  ·cases e; exact .inl ⟨rfl,k⟩
  ·exact .inr ⟨zs,e,k⟩
 ·rintro (⟨rfl,k⟩ | ⟨zs,h,k⟩)
  ·exact ⟨ys,by simp,k⟩
  ·exact ⟨zs,by simp [h],k⟩
theorem iS : ∀ (rows : List (Str × List Str)) (x y a b : Str),iR (aP rows x y) a b ↔ iR rows a b ∨ (a = x /\ b = y)
 | [],x,y,a,b => by
  simp only [aP,ce]
  constructor
  ·rintro (⟨rfl,k⟩ | ⟨_,h,_⟩)
   ·exact .inr ⟨rfl,by simpa using k⟩
   ·simp at h
  ·rintro (⟨_,h,_⟩ | ⟨rfl,rfl⟩)
   ·simp at h
   ·exact .inl ⟨rfl,by simp⟩
 | (c,ys) :: r,x,y,a,b => by
  have ih := iS r x y a b
  unfold aP
  by_cases e : c = x
  ·subst e
   rw [if_pos rfl,ce,ce,b4]
   constructor
   ·rintro (⟨rfl,k | rfl⟩ | h)
    ·exact .inl (.inl ⟨rfl,k⟩)
    ·exact .inr ⟨rfl,rfl⟩
    ·exact .inl (.inr h)
   ·rintro ((⟨rfl,k⟩ | h) | ⟨rfl,rfl⟩)
    ·exact .inl ⟨rfl,.inl k⟩
    ·exact .inr h
    ·exact .inl ⟨rfl,.inr rfl⟩
  ·rw [if_neg e,ce,ce,ih]
   constructor
   ·rintro (h | h | h)
    ·exact .inl (.inl h)
    ·exact .inl (.inr h)
    ·exact .inr h
   ·rintro ((h | h) | h)
    ·exact .inl h
    ·exact .inr (.inl h)
    ·exact .inr (.inr h)
theorem eI : ∀ (rows : List (Str × List Str)) (x y : Str),(aP rows x y).map (·.1) = bU (rows.map (·.1)) x
 | [],x,y => by simp [aP,bU]
 | (c,ys) :: r,x,y => by
  have ih := eI r x y
  unfold aP
  by_cases e : c = x
  ·subst e
   rw [if_pos rfl]
   simp [bU]
  ·rw [if_neg e]
   simp only [Ap,ih]
   unfold bU
   have e' : ¬ x = c := fun z => e z.symm
   simp only [AB,e',false_or]
   split <;> rfl
theorem je {n : Nat} : ∀ {rows : List (Str × List Str)} (x y : Str),rows.length <= n -> (∀ p ∈ rows,p.2.length <= n /\ p.2.Nodup) -> (aP rows x y).length <= n + 1 /\ ∀ p ∈ aP rows x y,p.2.length <= n + 1 /\ p.2.Nodup := by
 intro rows x y h1 h2
 have hl : (aP rows x y).length <= rows.length + 1 := by
  have := congrArg List.length (eI rows x y)
  rw [A5] at this
  have k := (cY (rows.map (·.1)) x).2.2
  rw [A5] at k
  omega
 refine ⟨by omega,?_⟩
 clear hl h1
 induction rows with
 | nil =>
  intro p hp
  simp [aP] at hp
  subst hp
  simp
 | cons a r ih =>
  obtain ⟨c,ys⟩ := a
  have ih := ih fun p hp => h2 p (by simp [hp])
  have hc := h2 (c,ys) (by simp)
  intro p hp
  unfold aP at hp
  split at hp
  ·rcases AB.mp hp with rfl | k
   ·have := (cY ys y).2.2
    exact ⟨AR this (by have := hc.1; simp at this ⊢; omega),cO hc.2⟩
   ·have := h2 p (by simp [k])
    exact ⟨by omega,this.2⟩
  ·rcases AB.mp hp with rfl | k
   ·exact ⟨by have := hc.1; simp at this ⊢; omega,hc.2⟩
   ·exact ih p k
structure bY (rows : List (Str × List Str)) (ps : List (Str × Str)) : Prop where
 mem : ∀ a b,iR rows a b ↔ (a,b) ∈ ps
 keys : (rows.map (·.1)).Nodup
 few : rows.length <= ps.length
 small : ∀ p ∈ rows,p.2.length <= ps.length /\ p.2.Nodup
theorem bY.nil : bY [] [] := ⟨fun a b => ⟨fun ⟨_,h,_⟩ => by simp at h,fun h => by simp at h⟩,by simp,by simp,fun p hp => by simp at hp⟩
theorem bY.add {rows : List (Str × List Str)} {ps : List (Str × Str)} (h : bY rows ps) (p : Str × Str) : bY (aP rows p.1 p.2) (ps ++ [p]) := by
 obtain ⟨k1,k2⟩ := je p.1 p.2 h.few h.small
 refine ⟨fun a b => ?_,by rw [eI]; exact cO h.keys,by simpa using k1,fun q hq => by simpa using k2 q hq⟩
 rw [iS,h.mem]
 obtain ⟨p1,p2⟩ := p
 simp
def bv (H : Hp) : List (Str × List Str) -> List Addr -> Prop
 | [],[] => True
 | (_,ys) :: rows,r :: rs => H r = some (.dK (aO ys (.bl true))) /\ bv H rows rs
 | _,_ => False
def df : List (Str × List Str) -> List Addr -> List (Key × V)
 | (x,_) :: rows,r :: rs => (.inr x,.ref r) :: df rows rs
 | _,_ => []
theorem bv.len {H : Hp} : ∀ {rows : List (Str × List Str)} {rs : List Addr},bv H rows rs -> rs.length = rows.length /\ (df rows rs).length = rows.length
 | [],[],_ => ⟨rfl,rfl⟩
 | _ :: _,_ :: _,h => by
  have := bv.len h.2
  exact ⟨by simp [this.1],by simp [df,this.2]⟩
 | [],_ :: _,h => h.elim
 | _ :: _,[],h => h.elim
theorem bv.same {H H' : Hp} (g : ay H H') : ∀ {rows : List (Str × List Str)} {rs : List Addr},bv H rows rs -> bv H' rows rs
 | [],[],_ => trivial
 | _ :: _,_ :: _,h => ⟨g _ _ h.1,bv.same g h.2⟩
 | [],_ :: _,h => h.elim
 | _ :: _,[],h => h.elim
theorem bv.other {H : Hp} {a : Addr} {o : HO} : ∀ {rows : List (Str × List Str)} {rs : List Addr},bv H rows rs -> a ∉ rs -> bv (aq H a o) rows rs
 | [],[],_,_ => trivial
 | _ :: _,r :: _,h,n => ⟨by rw [ae (fun e => n (by simp [e]))]; exact h.1,bv.other h.2 fun k => n (by simp [k])⟩
 | [],_ :: _,h,_ => h.elim
 | _ :: _,[],h,_ => h.elim
theorem bv.at_some {H : Hp} {x y : Str} {w : V} : ∀ {rows : List (Str × List Str)} {rs : List Addr},bv H rows rs -> rs.Nodup -> aE (df rows rs) (.inr x) = some w ->
  ∃ r ys,w = .ref r /\ r ∈ rs /\ (x,ys) ∈ rows /\ H r = some (.dK (aO ys (.bl true))) /\ bv (aq H r (.dK (aO (bU ys y) (.bl true)))) (aP rows x y) rs /\ df (aP rows x y) rs = df rows rs
 | [],[],_,_,e => by cases e
 | (c,ys) :: rows,r :: rs,h,nd,e => by
  by_cases z : c = x
  ·subst z
   have e' : aE (df ((c,ys) :: rows) (r :: rs)) (.inr c) = some (.ref r) := bj rfl
   rw [e'] at e
   cases e
   refine ⟨r,ys,rfl,by simp,by simp,h.1,?_,?_⟩
   ·unfold aP
    rw [if_pos rfl]
    exact ⟨ac,h.2.other (AQ.mp nd).1⟩
   ·unfold aP
    rw [if_pos rfl]
    rfl
  ·have n : ¬ ((.inr c : Key) = .inr x) := fun q => z (Sum.inr.inj q)
   have e' : aE (df ((c,ys) :: rows) (r :: rs)) (.inr x) = aE (df rows rs) (.inr x) := bu n
   rw [e'] at e
   obtain ⟨r',ys',rfl,hr,hm,hH,hD,hT⟩ := bv.at_some (y := y) h.2 (AQ.mp nd).2 e
   refine ⟨r',ys',rfl,by simp [hr],by simp [hm],hH,?_,?_⟩
   ·unfold aP
    rw [if_neg z]
    refine ⟨?_,hD⟩
    rw [ae]
    ·exact h.1
    ·intro q
     exact (AQ.mp nd).1 (q ▸ hr)
   ·unfold aP
    rw [if_neg z]
    show _ :: _ = _ :: _
    rw [hT]
 | [],_ :: _,h,_,_ => h.elim
 | _ :: _,[],h,_,_ => h.elim
theorem bv.at_none {H : Hp} {x y : Str} {p : Addr} : ∀ {rows : List (Str × List Str)} {rs : List Addr},bv H rows rs -> aE (df rows rs) (.inr x) = none ->
  aP rows x y = rows ++ [(x,[y])] /\ df (rows ++ [(x,[y])]) (rs ++ [p]) = df rows rs ++ [(.inr x,.ref p)] /\ ∀ b,¬ iR rows x b
 | [],[],_,_ => ⟨rfl,rfl,fun b ⟨_,h,_⟩ => by simp at h⟩
 | (c,ys) :: rows,r :: rs,h,e => by
  have z : ¬ c = x := fun z => by
   subst z
   have e' : aE (df ((c,ys) :: rows) (r :: rs)) (.inr c) = some (.ref r) := bj rfl
   rw [e'] at e
   cases e
  have n : ¬ ((.inr c : Key) = .inr x) := fun q => z (Sum.inr.inj q)
  have e' : aE (df ((c,ys) :: rows) (r :: rs)) (.inr x) = aE (df rows rs) (.inr x) := bu n
  rw [e'] at e
  obtain ⟨h1,h2,h3⟩ := bv.at_none (y := y) (p := p) h.2 e
  refine ⟨?_,?_,fun b hb => ?_⟩
  ·unfold aP
   rw [if_neg z,h1]
   rfl
  ·exact congrArg (((.inr c : Key),V.ref r) :: ·) h2
  ·rcases ce.mp hb with ⟨q,_⟩ | k
   ·exact z q
   ·exact h3 b k
 | [],_ :: _,h,_ => h.elim
 | _ :: _,[],h,_ => h.elim
theorem bv.snoc {H : Hp} {x : Str} {ys : List Str} {p : Addr} (e : H p = some (.dK (aO ys (.bl true)))) : ∀ {rows : List (Str × List Str)} {rs : List Addr},bv H rows rs -> bv H (rows ++ [(x,ys)]) (rs ++ [p])
 | [],[],_ => ⟨e,trivial⟩
 | _ :: _,_ :: _,h => ⟨h.1,bv.snoc e h.2⟩
 | [],_ :: _,h => h.elim
 | _ :: _,[],h => h.elim
structure DD (H : Hp) (d : Addr) (rows : List (Str × List Str)) : Prop where
 ex : ∃ rs : List Addr,bv H rows rs /\ H d = some (.dK (df rows rs)) /\ rs.Nodup /\ d ∉ rs
theorem DD.same {H H' : Hp} {d : Addr} {rows : List (Str × List Str)} (h : DD H d rows) (g : ay H H') : DD H' d rows := by
 obtain ⟨rs,h1,h2,h3,h4⟩ := h.ex
 exact ⟨rs,h1.same g,g _ _ h2,h3,h4⟩
def mV : Option Str -> V
 | none => .non
 | some p => .str p
def aT (es : List (Str × Option Str)) : List (Key × V) := es.map fun e => (.inr e.1,mV e.2)
def aL (es : List (Str × Option Str)) : List Str := es.map (·.1)
theorem eJ (es : List (Str × Option Str)) : (aT es).length = (aL es).length := by simp [aT,aL]
theorem gJ : ∀ (es : List (Str × Option Str)) (b : Str),(aE (aT es) (.inr b)).isSome = decide (b ∈ aL es)
 | [],b => by simp [aT,aL,aE]
 | (c,o) :: es,b => by
  by_cases e : c = b
  ·subst e
   have : aE (aT ((c,o) :: es)) (.inr c) = some (mV o) := bj rfl
   rw [this]
   simp [aL]
  ·have n : ¬ ((.inr c : Key) = .inr b) := fun z => e (Sum.inr.inj z)
   have h : aE (aT ((c,o) :: es)) (.inr b) = aE (aT es) (.inr b) := bu n
   rw [h,gJ es b]
   have e' : ¬ b = c := fun z => e z.symm
   show decide (b ∈ aL es) = decide (b ∈ c :: aL es)
   rw [decide_eq_decide]
   simp [e']
theorem mW {es : List (Str × Option Str)} {b : Str} (h : b ∉ aL es) : aE (aT es) (.inr b) = none := by
 have := gJ es b
 rw [decide_eq_false h] at this
 cases e : aE (aT es) (.inr b) with
 | none => rfl
 | some => rw [e] at this; cases this
theorem pN {es : List (Str × Option Str)} {b nm : Str} (h : b ∉ aL es) : putK (aT es) (.inr b) (.str nm) = aT (es ++ [(b,some nm)]) := by
 rw [eQ _ (mW h)]
 simp [aT,mV]
theorem rq {es : List (Str × Option Str)} (nd : (aL es).Nodup) {i : Nat} {y : Str} {o : Option Str} (h : es[i]? = some (y,o)) : aE (aT es) (.inr y) = some (mV o) := by
 induction es generalizing i with
 | nil => simp at h
 | cons e es ih =>
  obtain ⟨c,oc⟩ := e
  cases i with
  | zero =>
   simp at h
   obtain ⟨rfl,rfl⟩ := h
   exact bj rfl
  | succ i =>
   have hm : y ∈ aL es := AC.mpr ⟨(y,o),A8 (by simpa using h),rfl⟩
   have nd' := AQ.mp nd
   have n : ¬ ((.inr c : Key) = .inr y) := fun z => nd'.1 (by rw [Sum.inr.inj z]; exact hm)
   have hv : aE (aT ((c,oc) :: es)) (.inr y) = aE (aT es) (.inr y) := bu n
   rw [hv]
   exact ih nd'.2 (by simpa using h)
structure cZ (ps : List (Str × Str)) (good : Str) (es : List (Str × Option Str)) : Prop where
 first : es[0]? = some (good,none)
 nd : (aL es).Nodup
 led : ∀ y ∈ aL es,Led ps good y
 par : ∀ (i : Nat) (y : Str) (o : Option Str),es[i]? = some (y,o) -> (o = none -> i = 0) /\ ∀ p,o = some p -> (p,y) ∈ ps /\ ∃ j o',j < i /\ es[j]? = some (p,o')
 room : (aL es).length + fZ (ps.map (·.2)) (aL es) <= 1001
theorem cZ.start (ps : List (Str × Str)) (good : Str) (few : ps.length <= 1000) : cZ ps good [(good,none)] where
 first := rfl
 nd := by simp [aL]
 led := fun y hy => by simp [aL] at hy; subst hy; exact .self
 par := fun i y o h => by
  cases i with
  | zero => simp at h; exact ⟨fun _ => rfl,fun p hp => by rw [<- h.2] at hp; cases hp⟩
  | succ i => simp at h
 room := by
  have := g9 (ps.map (·.2)) (aL [(good,none)])
  rw [A5] at this
  show 1 + _ <= _
  omega
theorem eK (es : List (Str × Option Str)) (b : Str) (o : Option Str) : aL (es ++ [(b,o)]) = aL es ++ [b] := by simp [aL]
theorem cZ.add {ps : List (Str × Str)} {good : Str} {es : List (Str × Option Str)} (h : cZ ps good es) {nm b : Str} (hn : nm ∈ aL es) (hb : b ∉ aL es) (hp : (nm,b) ∈ ps) : cZ ps good (es ++ [(b,some nm)]) where
 first := by
  rw [AA]
  ·exact h.first
  ·exact (A1.mp h.first).1
 nd := by
  rw [eK,B8]
  refine ⟨h.nd,by simp,?_⟩
  intro u hu v hv
  simp at hv
  subst hv
  exact fun z => hb (z ▸ hu)
 led := fun y hy => by
  rw [eK] at hy
  rcases AM.mp hy with k | k
  ·exact h.led y k
  ·simp at k
   subst k
   exact .step (h.led nm hn) hp
 par := fun i y o hi => by
  by_cases c : i < es.length
  ·rw [AA c] at hi
   obtain ⟨h1,h2⟩ := h.par i y o hi
   refine ⟨h1,fun p e => ?_⟩
   obtain ⟨k1,j,o',jl,ej⟩ := h2 p e
   exact ⟨k1,j,o',jl,by rw [AA (by omega)]; exact ej⟩
  ·rw [AT (by omega)] at hi
   have e0 : i - es.length = 0 := by
    rcases BS (i - es.length) with z | z
    ·exact z
    ·rw [B6 (by simp; omega)] at hi; cases hi
   rw [e0] at hi
   simp at hi
   obtain ⟨rfl,rfl⟩ := hi
   refine ⟨(fun z => nomatch z),fun p e => ?_⟩
   cases e
   obtain ⟨q,hq,rfl⟩ := AC.mp hn
   obtain ⟨j,hj⟩ := AW.mp hq
   have jl := (A1.mp hj).1
   exact ⟨hp,j,q.2,by omega,by rw [AA jl]; exact hj⟩
 room := by
  have := jH (ks := aL es) (show b ∈ ps.map (·.2) from AC.mpr ⟨_,hp,rfl⟩)
  have e : bU (aL es) b = aL es ++ [b] := if_neg hb
  rw [e] at this
  rw [eK]
  exact AR this h.room
theorem cZ.good {ps : List (Str × Str)} {good : Str} {es : List (Str × Option Str)} (h : cZ ps good es) : good ∈ aL es := AC.mpr ⟨(good,none),A8 h.first,rfl⟩
theorem rA {H H' : Hp} (g : ay H H') (a : Addr) (o : HO) : ay (aq H a o) (aq H' a o) := fun b u e => by
 by_cases z : b = a
 ·subst z
  rw [ac] at e ⊢
  exact e
 ·rw [ae z] at e ⊢
  exact g b u e
theorem sY {ys : List Str} {v x : V} {i : Nat} {k : Key} (h : (aO ys v)[i]? = some (k,x)) : ∃ b,ys[i]? = some b /\ k = .inr b := by
 unfold aO at h
 rw [AK] at h
 cases e : ys[i]? with
 | none => rw [e] at h; cases h
 | some b => rw [e] at h; cases h; exact ⟨b,rfl,rfl⟩
structure sZ (ps : List (Str × Str)) (good : Str) (es : List (Str × Option Str)) : Prop where
 base : cZ ps good es
 all : ∀ y,y ∈ aL es ↔ Led ps good y
def kA : Sp := fun vs H Q _ => ∃ (d : Addr) (good : Str) (rows : List (Str × List Str)) (ps : List (Str × Str)),vs = [.ref d,.str good] /\ DD H d rows /\ bY rows ps /\ ps.length <= 1000 /\
 ∀ (ah : Addr) (H' : Hp) (es : List (Str × Option Str)),ay H H' -> H' ah = some (.dK (aT es)) -> sZ ps good es -> Q (.ref ah) H'
theorem vS {H : Hp} {rows : List (Str × List Str)} {rs : List Addr} {ps : List (Str × Str)} {x : Str} (dr : bv H rows rs) (nd : rs.Nodup) (ok : bY rows ps) :
  (aE (df rows rs) (.inr x) = none /\ ∀ b,(x,b) ∉ ps) ∨ ∃ r ys,aE (df rows rs) (.inr x) = some (.ref r) /\ r ∈ rs /\ H r = some (.dK (aO ys (.bl true))) /\ ys.length <= ps.length /\ ys.Nodup /\ ∀ b,b ∈ ys ↔ (x,b) ∈ ps := by
 cases e : aE (df rows rs) (.inr x) with
 | none =>
  refine .inl ⟨rfl,fun b hb => ?_⟩
  exact (dr.at_none (y := x) (p := 0) e).2.2 b ((ok.mem x b).mpr hb)
 | some w =>
  obtain ⟨r,ys,rfl,hr,hm,hH,_,_⟩ := dr.at_some (y := x) nd e
  refine .inr ⟨r,ys,rfl,hr,hH,(ok.small _ hm).1,(ok.small _ hm).2,fun b => ?_⟩
  rw [<- ok.mem]
  constructor
  ·exact fun h => ⟨ys,hm,h⟩
  ·rintro ⟨zs,hz,hb⟩
   have : zs = ys := by
    have inj : ∀ {l : List (Str × List Str)},(l.map (·.1)).Nodup -> ∀ {a b c},(a,b) ∈ l -> (a,c) ∈ l -> b = c := by
     intro l
     induction l with
     | nil => intro _ a b c h; simp at h
     | cons p l ih =>
      intro nd a b c h1 h2
      have nd' := AQ.mp nd
      rcases AB.mp h1 with e1 | e1
      ·rcases AB.mp h2 with e2 | e2
       ·rw [<- e1] at e2; cases e2; rfl
       ·exact absurd (AC.mpr ⟨(a,c),e2,by rw [<- e1]⟩) nd'.1
      ·rcases AB.mp h2 with e2 | e2
       ·exact absurd (AC.mpr ⟨(a,b),e1,by rw [<- e2]⟩) nd'.1
       ·exact ih nd'.2 e1 e2
    exact inj ok.keys hz hm
   rw [<- this]
   exact hb
structure Way (ps : List (Str × Str)) (good goal : Str) (c : List Str) : Prop where
 first : c[0]? = some good
 last : c.getLast? = some goal
 nd : c.Nodup
 pair : ∀ (i : Nat) (a b : Str),c[i]? = some a -> c[i + 1]? = some b -> (a,b) ∈ ps
 alone : goal = good -> c = [good]
 few : c.length <= 1001
structure Back (ps : List (Str × Str)) (good goal : Str) (es : List (Str × Option Str)) (rc : List Str) (o : Option Str) : Prop where
 nd : rc.Nodup
 pair : ∀ (i : Nat) (a b : Str),rc[i]? = some a -> rc[i + 1]? = some b -> (b,a) ∈ ps
 first : rc.head? = some goal ∨ (rc = [] /\ o = some goal)
 nxt : ∀ y,o = some y -> ∃ (i : Nat) (oy : Option Str),es[i]? = some (y,oy) /\ (∀ x ∈ rc,∃ (j : Nat) (ox : Option Str),i < j /\ es[j]? = some (x,ox)) /\ (∀ a,rc.getLast? = some a -> (y,a) ∈ ps) /\ rc.length + i < es.length
 fin : o = none -> rc.getLast? = some good
 alone : goal = good -> rc = [] ∨ (rc = [good] /\ o = none)
 few : rc.length <= es.length
theorem f6 {es : List (Str × Option Str)} {i : Nat} {y : Str} {o : Option Str} (h : es[i]? = some (y,o)) : (aL es)[i]? = some y := by
 unfold aL
 rw [AK,h]
 rfl
theorem xv {xs : List Str} (nd : xs.Nodup) {i j : Nat} {y : Str} (h1 : xs[i]? = some y) (h2 : xs[j]? = some y) : i = j := by
 obtain ⟨l1,e1⟩ := A1.mp h1
 obtain ⟨l2,e2⟩ := A1.mp h2
 exact (List.getElem_inj nd).mp (e1.trans e2.symm)
theorem cZ.at {ps : List (Str × Str)} {good : Str} {es : List (Str × Option Str)} (h : cZ ps good es) {i j : Nat} {y : Str} {o o' : Option Str} (h1 : es[i]? = some (y,o)) (h2 : es[j]? = some (y,o')) : i = j :=
 xv h.nd (f6 h1) (f6 h2)
theorem Back.start {ps : List (Str × Str)} {good goal : Str} {es : List (Str × Option Str)} (hg : goal ∈ aL es) : Back ps good goal es [] (some goal) where
 nd := List.nodup_nil
 pair := fun i a b h => by simp at h
 first := .inr ⟨rfl,rfl⟩
 nxt := fun y e => by
  cases e
  obtain ⟨p,hp,rfl⟩ := AC.mp hg
  obtain ⟨i,hi⟩ := AW.mp hp
  refine ⟨i,p.2,hi,by simp,by simp,?_⟩
  have := (A1.mp hi).1
  simpa using this
 fin := fun e => nomatch e
 alone := fun _ => .inl rfl
 few := by simp
theorem Back.step {ps : List (Str × Str)} {good goal : Str} {es : List (Str × Option Str)} (ab : cZ ps good es) {rc : List Str} {y : Str} {oy : Option Str} {i : Nat} (h : Back ps good goal es rc (some y)) (hi : es[i]? = some (y,oy)) : Back ps good goal es (rc ++ [y]) oy := by
 obtain ⟨i',oy',h1,h2,h3,h4⟩ := h.nxt y rfl
 obtain rfl := ab.at hi h1
 have par := ab.par i y oy hi
 have ny : y ∉ rc := fun m => by
  obtain ⟨j,ox,lt,e⟩ := h2 y m
  have := ab.at hi e
  omega
 refine ⟨?_,?_,?_,?_,?_,?_,?_⟩
 ·rw [B8]
  refine ⟨h.nd,by simp,?_⟩
  intro u hu v hv
  simp at hv
  subst hv
  exact fun z => ny (z ▸ hu)
 ·intro k a b ha hb
  by_cases c : k + 1 < rc.length
  ·rw [AA (by omega)] at ha
   rw [AA c] at hb
   exact h.pair k a b ha hb
  ·have kl : k + 1 < (rc ++ [y]).length := (A1.mp hb).1
   simp at kl
   have ke : k + 1 = rc.length := by omega
   rw [AT (by omega),ke] at hb
   simp at hb
   subst hb
   rw [AA (by omega)] at ha
   refine h3 a ?_
   rw [List.getLast?_eq_getElem?,<- ha]
   congr 1
   omega
 ·rcases h.first with k | ⟨rfl,k⟩
  ·left
   cases rc with
   | nil => simp at k
   | cons z zs => simpa using k
  ·cases k
   left
   rfl
 ·intro p e
  obtain ⟨hp,j,o',jl,ej⟩ := par.2 p e
  refine ⟨j,o',ej,?_,?_,?_⟩
  ·intro x hx
   rcases AM.mp hx with k | k
   ·obtain ⟨j2,ox,lt,e2⟩ := h2 x k
    exact ⟨j2,ox,by omega,e2⟩
   ·simp at k
    subst k
    exact ⟨i,oy,jl,hi⟩
  ·intro a ha
   simp at ha
   subst ha
   exact hp
  ·simp
   omega
 ·intro e
  have i0 := par.1 e
  subst i0
  rw [ab.first] at hi
  cases hi
  simp
 ·intro e
  subst e
  rcases h.alone rfl with rfl | ⟨_,k⟩
  ·rcases h.first with k | ⟨_,k⟩
   ·simp at k
   ·cases k
    right
    have := ab.at hi ab.first
    subst this
    rw [ab.first] at hi
    cases hi
    exact ⟨rfl,rfl⟩
  ·cases k
 ·simp
  omega
theorem Back.way {ps : List (Str × Str)} {good goal : Str} {es : List (Str × Option Str)} (ab : cZ ps good es) {rc : List Str} (h : Back ps good goal es rc none) : Way ps good goal rc.reverse where
 first := by
  have := h.fin rfl
  rw [<- List.head?_eq_getElem?,List.head?_reverse]
  exact this
 last := by
  rw [List.getLast?_reverse]
  rcases h.first with k | ⟨_,k⟩
  ·exact k
  ·cases k
 nd := by
  unfold List.Nodup
  rw [List.pairwise_reverse]
  exact h.nd.imp fun n => Ne.symm n
 pair := fun i a b ha hb => by
  have l : i + 1 < rc.reverse.length := (A1.mp hb).1
  rw [List.length_reverse] at l
  rw [List.getElem?_reverse (by omega)] at ha hb
  refine h.pair (rc.length - 1 - (i + 1)) b a hb ?_
  rw [<- ha]
  congr 1
  omega
 alone := fun e => by
  rcases h.alone e with k | ⟨k,_⟩
  ·subst k
   have := h.fin rfl
   simp at this
  ·rw [k]
   rfl
 few := by
  rw [List.length_reverse]
  have := h.few
  have r := ab.room
  have l : (aL es).length = es.length := by simp [aL]
  omega
def lO (es : List (Str × Option Str)) : Option (Option V) -> Nat
 | some (some (.str y)) => (aL es).idxOf y + 1
 | _ => 0
theorem lP {ps : List (Str × Str)} {good : Str} {es : List (Str × Option Str)} (ab : cZ ps good es) {i : Nat} {y : Str} {o : Option Str} (h : es[i]? = some (y,o)) : lO es (some (some (.str y))) = i + 1 := by
 show (aL es).idxOf y + 1 = i + 1
 have hk := f6 h
 obtain ⟨l,e⟩ := A1.mp hk
 rw [<- e,ab.nd.idxOf_getElem]
theorem rB {ps : List (Str × Str)} {good : Str} {es : List (Str × Option Str)} (ab : cZ ps good es) {i : Nat} {y : Str} {o : Option Str} (h : es[i]? = some (y,o)) : lO es (some (some (mV o))) < lO es (some (some (.str y))) := by
 rw [lP ab h]
 cases o with
 | none => exact Nat.succ_pos _
 | some p =>
  obtain ⟨_,j,o',jl,ej⟩ := (ab.par i y _ h).2 p rfl
  show lO es (some (some (.str p))) < _
  rw [lP ab ej]
  omega
def vT : Sp := fun vs H Q _ => ∃ (ah : Addr) (goal good : Str) (ps : List (Str × Str)) (es : List (Str × Option Str)),vs = [.ref ah,.str goal] /\ H ah = some (.dK (aT es)) /\ cZ ps good es /\ goal ∈ aL es /\
 ∀ (l : Addr) (H' : Hp) (c : List Str),ay H H' -> H' l = some (.lst (c.map V.str)) -> Way ps good goal c -> Q (.ref l) H'
end Sw
namespace L2
open PySem PySem.Spec PyProof.Rows XH
section
variable {X : Cx} {scope : Scope} {cl : List (Str × Addr)} {own : Str} {ys : List Str} {js : List Nat} {elt iter cond : Expr} {px pos : Pos} {wi : TI} {te : TE} {tc : TT}
theorem gK {i : Nat} {y : Str} {py spos : Pos} (hN : X.N.Nodup) (hi' : X.N[i]? = some y) (hy : X.env.scope.names.lookup y = some .local) (hc : X.calm = true) (ok : kr X scope cl own ys js) (hi : PI X (.Name own px) iter wi)
  (hq : ∀ (C : Addr) (fp : List Addr) (s : Shared) (H : Hp),PT (X.block scope cl C (own :: ys) own fp s H) cond tc)
  (he : ∀ (C : Addr) (fp : List Addr) (s : Shared) (H : Hp),PE (X.block scope cl C (own :: ys) own fp s H) elt te)
  (hsw : swapsWith (.ListComp elt [⟨.Name own px,iter,[cond],0⟩] scope pos) (some (.Name y py)) spos.line X.env = pure true := by rfl) (hs : ∀ x,foldedSetIterable iter X.env x = pure x := by intro _; rfl) :
  PS X (.Assign [.Name y py] (.ListComp elt [⟨.Name own px,iter,[cond],0⟩] scope pos) spos) (wD (ol wi js tc te) (bC i)) := by
 intro pins s σ H D I h
 have ncell : ∀ y ∈ scope.names,y.2 ≠ .cell := fun y hy z => by
  have q := BP.mp ok.nocell y hy
  rw [z] at q
  simp at q
 have nloc : ∀ y ∈ scope.names,y.2 = .local -> scope.names.lookup y.1 = some .local := fun y hy z => by
  have q := BP.mp ok.loc y hy
  rw [z] at q
  simpa using q
 show wpAny _ _ (exec _ X.env) _ _ _
 rw [exec_Assign_Name_used _ _ _ _ hsw]
 refine wpAny_bind (wpAny_standAt (wpAny_bind ?_))
 show wpAny _ X.A (do let _ <- comprehension (.ListComp elt [⟨.Name own px,iter,[cond],0⟩] scope pos) scope X.env _ (newList []) false (eval iter X.env) (some (assign (.Name y py) X.env))) _ _ s
 refine wpAny_bind (wpAny_mono (wpAny_comprehension_free (use := some (assign (.Name y py) X.env)) (Q := fun _ s' => SP X pins D .next s') rfl hs ok.clos ok.kind nloc (bw (hi pins s σ H _ I h) fun v s1 h1 => bw h1 fun itv s2 h2 => ?_)) (fun _ s' hq => wpAny_pure (wpAny_pure hq)) fun _ _ e => e)
 obtain ⟨it,fp,tn,J,H2,rfl,I2,T,st2,f2,q2⟩ := h2
 obtain ⟨W,⟨m0,w0⟩,turn⟩ := q2 s2.heap.objs.size (I2.hok.fresh (A4 _))
 refine wpAny_newObj_type (wpAny_newFunctionEnv ncell (by intro y hy; simp at hy) (fun h1 hns hsb => ?_) ok.kind)
 have I3 := I2.laid (a := s2.heap.objs.size) (o := .lst []) (h' := s2.heap.push { cls := .type "list",dict := none,data := .seq ([] : List Value).toArray }) (t' := s2.toks) (fun b u q => Heap.get?_push_of_some _ q) (A4 _)
  ⟨AZ _,[],0,.nil,Heap.get?_push_size _ rfl⟩
 have fpo : ∀ b ∈ fp,b < s2.heap.objs.size := fun b hb => by
  obtain ⟨o,e,_⟩ := T.obj 0 _ st2 b hb
  exact Heap.lt_size e
 have f3 : ∀ b ∈ fp,fP X pins (aq H2 s2.heap.objs.size (.lst [])) b := fun b hb => ⟨by rw [ae (AD (fpo b hb))]; exact (f2 b hb).1,(f2 b hb).2⟩
 generalize hs3 : ({ s2 with heap := s2.heap.push { cls := .type "list",dict := none,data := .seq ([] : List Value).toArray },toks := s2.toks } : Shared) = s3 at I3
 have e3 : s3.heap = s2.heap.push { cls := .type "list",dict := none,data := .seq ([] : List Value).toArray } := by rw [<- hs3]
 have lt3 : ∀ b ∈ fp,b < s3.heap.objs.size := fun b hb => by rw [e3,Heap.size_push]; exact Nat.lt_succ_of_lt (fpo b hb)
 dsimp only at hns hsb ⊢
 rw [<- e3] at hns hsb
 have hk : ∀ b o,s3.heap.get? b = some o -> h1.get? b = some o := fun b o e => hsb.extBut b o (AD (Heap.lt_size e)) (Heap.get?_push_of_some _ e)
 have J0 := gY (h1 := h1) ok I3 f3 lt3 hns hk (s2.toks + 0)
 have t0 : tn 0 h1 := T.keep 0 _ _ st2 fun b hb o e => hk b o (by rw [e3]; exact Heap.get?_push_of_some _ e)
 have fpB : ∀ {H' : Hp},(∀ b ∈ fp,H' b = none) -> ∀ b ∈ fp,fP (X.block scope cl s3.heap.objs.size (own :: ys) own fp s3 (aq H2 s2.heap.objs.size (.lst []))) [] H' b := fun {H'} hn b hb =>
  ⟨hn b hb,AD (lt3 b hb),fun z => (AB.mp (I3.stkSub b z)).elim (f3 b hb).2.1 (f3 b hb).2.2.1,.inl hb,fun x c e => (f3 b hb).2.2.2.2.1 x c (ok.sub (x,c) (B2 e)),fun p hp => absurd (show p ∈ ([] : List (Addr × Obj)) from hp) (by simp)⟩
 have loop : codeAny (model X.prog X.w) X.A (.compLoop (.ListComp elt [⟨.Name own px,iter,[cond],0⟩] scope pos) 0 (.ref it) (.ref s2.heap.objs.size) (compEnvC scope cl s3.heap.objs.size X.env))
   (compPost (model X.prog X.w) X.A X.xe (some (assign (.Name y py) X.env)) (fun _ s' => SP X pins D .next s') (.ref s2.heap.objs.size) s3.heap.objs.size) { s3 with heap := h1,toks := s2.toks + 0 } := by
  refine gZ (fun n s' => ∃ i zs o0 H',av (X.block scope cl s3.heap.objs.size (own :: ys) own fp s3 (aq H2 s2.heap.objs.size (.lst []))) [] (o0 :: bP js σ) H' s' /\ tn i s'.heap /\ (∀ b ∈ fp,H' b = none) /\ W i n zs H') ?_ m0
   ⟨0,[],none,_,J0,t0,fun b hb => (f3 b hb).1,w0⟩
  rintro n s5 ⟨i,zs,o0,H5,I5,t5,n5,w5⟩
  obtain ⟨hD,hw⟩ := turn i n zs H5 w5
  rcases hw with ⟨stop,qn⟩ | ⟨go,hz,step⟩
  ·refine bw (T.done (X.block scope cl s3.heap.objs.size (own :: ys) own fp s3 (aq H2 s2.heap.objs.size (.lst []))) rfl rfl rfl hc i [] s5 _ H5 (fun _ _ => False) I5 (fpB n5) t5 stop) fun r s6 ⟨hr,I6⟩ => ?_
   subst hr
   obtain ⟨m,hn,_⟩ := id I6.loc
   have J : av X pins σ H5 s6 := jE (h' := s6.heap) I3 f3 I6 (Heap.SameBut.refl _ _)
   have fC := I3.fpOk (A4 _) (show H5 s3.heap.objs.size = none from I6.free)
   obtain ⟨k0,k1,k2,k3,k4,k5⟩ := fC
   show wpAny _ X.A (assign (.Name y py) X.env (.ref s2.heap.objs.size)) _ _ _
   refine wpAny_assign_Name (jj (v := .ref s2.heap.objs.size) J hN hi' (.inl hy) rfl (fun s7 I7 hsb => ?_) (.inr hy))
   obtain ⟨a',sb,ha⟩ := hsb
   have ne : s3.heap.objs.size ≠ a' := by
    rcases ha with z | z
    ·rw [z]; exact k1
    ·exact fun w => k4 _ _ z w.symm
   exact ⟨m,hn.sameBut sb ne,fun h' hs' => ⟨_,H5,I7.turned (t' := s7.toks) (fun b o hb e => (hs'.2 b hb).trans e) k0 k1 k3 k4 k5,qn⟩⟩
  ·refine bw (T.item (X.block scope cl s3.heap.objs.size (own :: ys) own fp s3 (aq H2 s2.heap.objs.size (.lst []))) rfl rfl rfl hc i [] s5 _ H5 (fun _ _ => False) I5 (fpB n5) t5 go) fun r s6 ⟨u,hr,h6⟩ => ?_
   subst hr
   refine bw h6 fun _ s7 ⟨x,H7,I7,r7,y7,t7,n7⟩ => ?_
   have I7' := I7.pinned (fpB n7) (T.obj _ _ t7)
   have hst := step x H7 y7
   have own' : (relabel scope X.env).names.lookup own = some .local := lookup_relabel_local ok.ownL
   refine bw (bA (X := X.block scope cl s3.heap.objs.size (own :: ys) own fp s3 (aq H2 s2.heap.objs.size (.lst []))) (i := 0) (x := own) (pos := px) ok.nd rfl (.inl own') (.inr own') _ s7 _ H7 x u (fun σ' H' => σ' = some x :: bP js σ /\ H' = H7) I7' r7 ⟨rfl,rfl⟩) fun _ s8 ⟨σ8,H8,I8,e8,eH8⟩ => ?_
   subst e8 eH8
   refine bw (hq _ _ _ _ _ s8 _ H8 _ I8 hst) fun ok s9 ⟨H9,I9,h9⟩ => ?_
   have frame : ∀ {s' : Shared} {H' : Hp},av (X.block scope cl s3.heap.objs.size (own :: ys) own fp s3 (aq H2 s2.heap.objs.size (.lst []))) ([] ++ gw fp s7.heap) (some x :: bP js σ) H' s' -> tn (i + 1) s'.heap /\ ∀ b ∈ fp,H' b = none := fun {s' H'} I' =>
    ⟨T.keep _ _ _ t7 fun b hb o e => (I'.pin (b,o) (AJ _ (AJ _ (cM hb e)))).1,fun b hb => by
     obtain ⟨o,e,d⟩ := T.obj _ _ t7 b hb
     exact (I'.pin (b,o) (AJ _ (AJ _ (cM hb e)))).2.1⟩
   cases ok with
   | true =>
    refine bw (he _ _ _ _ _ s9 _ H9 _ I9 h9) fun yv s10 ⟨y,H10,I10,r10,hD10,m',hm,w10⟩ => ?_
    refine bw (cg _ s10 _ H10 (.ref s2.heap.objs.size) [y] (.ref s2.heap.objs.size) [yv] (fun _ H' => H' = aq H10 s2.heap.objs.size (.lst (zs ++ [y]))) I10 rfl (.cons r10 .nil) ⟨_,zs,y,rfl,rfl,hD10,hz,rfl⟩) fun _ s11 ⟨_,H11,I11,_,e11⟩ => ?_
    subst e11
    exact ⟨m',hm,i + 1,zs ++ [y],some x,_,I11.unpinned,(frame I11).1,(frame I11).2,w10⟩
   | false =>
    obtain ⟨m',hm,w10⟩ := h9
    exact ⟨m',hm,i + 1,zs,some x,_,I9.unpinned,(frame I9).1,(frame I9).2,w10⟩
 subst hs3
 exact codeAny_compStart_list loop (T.self _ 0 _ _ _ t0 loop)
end
theorem vU {X : Cx} {K : A0} (h : X.K = K) : gq X (compareOp .In) (z8 K false) := by
 subst h
 exact oY
theorem iT {X : Cx} (hu : X.A.units < cLine) : gq X (compareOp .Eq) (fun x y H Q => ∃ a b zs,x = .ref a /\ y = .ref b /\ bh X.K H a zs /\ bh X.K H b [] /\ Q (.bl zs.isEmpty) H) := by
 intro pins s σ H x y v u Q I rx ry h
 obtain ⟨a,b,zs,rfl,rfl,h1,h2,hq⟩ := h
 cases rx
 cases ry
 obtain ⟨i1,r1,p1,_⟩ := I.list h1
 obtain ⟨i2,r2,p2,_⟩ := I.list h2
 cases r2
 cases zs with
 | nil =>
  cases r1
  refine SeqAt.eq_listAt (e := fun _ => true) p1.isList p2.isList rfl hu (fun j g1 g2 => absurd g1 (by simp)) ?_
  exact ⟨.bl true,H,I,by show Value.bool _ = Value.bool _; simp,hq⟩
 | cons z zs =>
  cases r1 with
  | cons r rr =>
   refine SeqAt.eq_list_lengthsAt p1.isList p2.isList (by simp) hu ?_
   exact ⟨.bl false,H,I,rfl,hq⟩
theorem hG {a : Addr} {o : Obj} {kvs : List (Key × V)} {js : List Nat} {tc : TT} {σ : L2.St} {H1 : Hp} {Q : VK} (pr : Key -> Bool) (hf : H1 a = some (.frz o (.dK kvs))) (hz : kvs.length <= sizeLine)
  (step : ∀ (i : Nat) (k : Key) (x : V),kvs[i]? = some (k,x) -> ∀ H3,ay H1 H3 -> ∀ R : Bool -> Hp -> Prop,R (pr k) H3 -> tc (some (kV k) :: bP js σ) H3 R)
  (fin : ∀ p H',ay H1 H' -> H' p = some (.lst ((kvs.filter fun e => pr e.1).map fun e => kV e.1)) -> Q (.ref p) H') : iQ js tc (sg 0) σ Q (vP a o kvs) H1 := by
 intro p hp
 refine ⟨fun i m ys H2 => i <= kvs.length /\ m = kvs.length - i /\ ys = ((kvs.take i).filter fun e => pr e.1).map (fun e => kV e.1) /\ ay H1 H2 /\ H2 p = some (.lst ys),⟨kvs.length,AZ _,rfl,rfl,Sw.aj hp _,ac⟩,?_⟩
 rintro i m ys H2 ⟨hi,rfl,rfl,g,e⟩
 refine ⟨e,?_⟩
 have f2 := g _ _ hf
 by_cases hin : i < kvs.length
 ·refine .inr ⟨⟨f2,hin⟩,?_,fun x H3 hy => ?_⟩
  ·have := BV (fun e : Key × V => pr e.1) (kvs.take i)
   rw [A5]
   rw [BJ] at this
   omega
  obtain ⟨rfl,k,v,hk,rfl⟩ := hy
  have tk : ((kvs.take (i + 1)).filter fun e => pr e.1) = ((kvs.take i).filter fun e => pr e.1) ++ (if pr k = true then [(k,v)] else []) := by
   rw [List.take_succ,hk,List.filter_append]
   congr 1
   simp [BK]
  refine step i k v hk H3 g _ ?_
  cases hpr : pr k with
  | true =>
   rw [hpr,if_pos rfl] at tk
   rw [if_pos rfl]
   exact ⟨_,rfl,e,kvs.length - (i + 1),by omega,hin,rfl,by rw [tk,Ar]; rfl,Sw.fK g hp _,ac⟩
  | false =>
   rw [hpr,if_neg (by decide),List.append_nil] at tk
   rw [if_neg (by decide)]
   exact ⟨kvs.length - (i + 1),by omega,hin,rfl,by rw [tk],g,e⟩
 ·have e2 : i = kvs.length := by omega
  subst e2
  refine .inl ⟨⟨f2,rfl⟩,fin p H2 g ?_⟩
  rw [e,List.take_of_length_le (A4 _)]
theorem lQ {K : A0} {a : Addr} {xs : List V} {js : List Nat} {tc : TT} {σ : L2.St} {H1 : Hp} {Q : VK} (pr : V -> Bool) (hS : bh K H1 a xs) (hz : xs.length <= sizeLine)
  (step : ∀ x ∈ xs,∀ H3,ay H1 H3 -> ∀ R : Bool -> Hp -> Prop,R (pr x) H3 -> tc (some x :: bP js σ) H3 R)
  (fin : ∀ p H',ay H1 H' -> H' p = some (.lst (xs.filter pr)) -> Q (.ref p) H') : iQ js tc (sg 0) σ Q (wg K a) H1 := by
 intro p hp
 refine ⟨fun i m ys H2 => i <= xs.length /\ m = xs.length - i /\ ys = (xs.take i).filter pr /\ ay H1 H2 /\ H2 p = some (.lst ys),⟨xs.length,AZ _,rfl,rfl,Sw.aj hp _,ac⟩,?_⟩
 rintro i m ys H2 ⟨hi,rfl,rfl,g,e⟩
 refine ⟨e,?_⟩
 have S2 := g.seq hS
 by_cases hin : i < xs.length
 ·refine .inr ⟨⟨xs,xs[i],S2,A2 hin⟩,?_,fun x H3 hy => ?_⟩
  ·have := BV pr (xs.take i)
   rw [BJ] at this
   omega
  obtain ⟨rfl,hx⟩ := hy
  have ex := hx xs S2
  have tk : (xs.take (i + 1)).filter pr = (xs.take i).filter pr ++ (if pr x = true then [x] else []) := by
   rw [List.take_succ,ex,List.filter_append]
   congr 1
   simp [BK]
  refine step x (A8 ex) H3 g _ ?_
  cases hpr : pr x with
  | true =>
   rw [hpr,if_pos rfl] at tk
   rw [if_pos rfl]
   exact ⟨_,rfl,e,xs.length - (i + 1),by omega,hin,rfl,by rw [tk],Sw.fK g hp _,ac⟩
  | false =>
   rw [hpr,if_neg (by decide),List.append_nil] at tk
   rw [if_neg (by decide)]
   exact ⟨xs.length - (i + 1),by omega,hin,rfl,by rw [tk],g,e⟩
 ·have e2 : i = xs.length := by omega
  subst e2
  refine .inl ⟨⟨xs,S2,A4 _⟩,fin p H2 g ?_⟩
  rw [e,List.take_of_length_le (A4 _)]
end L2
namespace Sw
open PySem L2 PyProof.Rows
theorem jI {α β : Type} {F : α -> β -> Prop} : ∀ {l : List α} {m : List β},Paired F l m -> ∀ {i : Nat} {b : β},m[i]? = some b -> ∃ a,l[i]? = some a /\ F a b
 | _,_,.nil,i,b,h => by simp at h
 | _,_,.cons r t,0,b,h => by simp at h; subst h; exact ⟨_,rfl,r⟩
 | _,_,.cons r t,i + 1,b,h => by
  obtain ⟨a,h1,h2⟩ := jI t (i := i) (by simpa using h)
  exact ⟨a,by simpa using h1,h2⟩
structure xw (H : Hp) (l : Addr) (gs : List Str) : Prop where
 seq : H l = some (.lst (gs.map V.str))
 few : gs.length <= 10
def tf (gs : List Str) : Key -> Bool
 | .inr y => decide (y ∈ gs)
 | _ => false
theorem lR (gs : List Str) : ∀ es : List (Str × Option Str),(((aT es).filter fun e => tf gs e.1).map fun e => kV e.1) = ((aL es).filter fun y => decide (y ∈ gs)).map V.str
 | [] => rfl
 | (c,o) :: es => by
  have ih := lR gs es
  show ((((.inr c,mV o) :: aT es).filter fun e => tf gs e.1).map fun e => kV e.1) = (((c :: aL es).filter fun y => decide (y ∈ gs)).map V.str)
  by_cases h : c ∈ gs
  ·rw [List.filter_cons_of_pos (by show decide (c ∈ gs) = true; exact decide_eq_true h),List.filter_cons_of_pos (by exact decide_eq_true h),Ap,Ap,ih]
   rfl
  ·rw [List.filter_cons_of_neg (by show ¬ decide (c ∈ gs) = true; simp [h]),List.filter_cons_of_neg (by simp [h]),ih]
theorem tj (x : Str) (gs : List Str) : wO (.str x) (gs.map V.str) = decide (x ∈ gs) := by
 unfold wO
 rw [BU]
 simp [su]
theorem pO (gs : List Str) : (gs.map V.str).all fQ = true := by
 rw [BP]
 intro x hx
 obtain ⟨y,_,rfl⟩ := AC.mp hx
 rfl
def fc : Sp := fun vs H Q _ => ∃ (d lg : Addr) (good : Str) (rows : List (Str × List Str)) (ps : List (Str × Str)) (gs : List Str),vs = [.ref d,.str good,.ref lg] /\ DD H d rows /\ bY rows ps /\ ps.length <= 1000 /\ xw H lg gs /\
 (∀ (H' : Hp),ay H H' -> (∀ g ∈ gs,¬ Led ps good g) -> Q .non H') /\
 ∀ (l : Addr) (H' : Hp) (c : List Str) (goal : Str),ay H H' -> H' l = some (.lst (c.map V.str)) -> Way ps good goal c -> goal ∈ gs -> Led ps good goal -> (good ∈ gs -> goal = good) -> Q (.ref l) H'
end Sw
namespace L2
open PySem PySem.Spec PyProof.Rows XH Sw So
theorem oo : ∀ {acc : List Value} {ks : List Str},acc.length = ks.length -> (∀ (j : Nat) (v : Value),acc[j]? = some v -> ∃ y t,ks[j]? = some y /\ v = .str y t) -> StrsAre acc ks
 | [],[],_,_ => .nil
 | v :: acc,k :: ks,hl,h => by
  obtain ⟨y,t,e,rfl⟩ := h 0 v rfl
  simp at e
  subst e
  exact .cons _ _ (oo (by simpa using hl) fun j u hu => h (j + 1) u (by simpa using hu))
 | [],_ :: _,hl,_ => by simp at hl
 | _ :: _,[],hl,_ => by simp at hl
theorem f7 : ∀ {us : List Value} {ks : List Str},StrsAre us ks -> aM (ks.map V.str) us
 | _,_,.nil => .nil
 | _,_,.cons y t h => .cons ⟨t,rfl⟩ (f7 h)
theorem lS {prog : Program} {w : World} {A : Around} {E : Value -> Shared -> Prop} {s : Shared} {T : String} {r d : Addr} {n : Nat} {P : Nat -> Value -> Prop} {OK : Heap -> Prop} {R : List Value -> Shared -> Prop} (K : PySem.W.KdlSrc prog w T r d n P OK) (hh : A.handled = none) (hok : OK s.heap) (hn : n <= sizeLine)
  (h : ∀ (h' : Heap) (tk : Nat) (acc : Array Value),s.heap.objs.size < h'.objs.size -> (∀ b o,s.heap.get? b = some o -> h'.get? b = some o) -> PySem.ItemsOf P acc n -> R acc.toList { s with heap := h',toks := tk }) :
  wpAny (model prog w) A (collect (.ref r)) R E s := by
 have hlt := K.there _ hok
 unfold collect
 refine wpAny_bind (wpAny_runValue (codeAny_builtin entry_proto_collect' ?_))
 rw [Around.under_plainId PySem.F.plain_proto_collect _]
 show wpAny _ A.in1 (newList [] >>= fun l => again (.builtin "list.__iadd__" ⟨[l,.ref r],[]⟩)) _ _ s
 refine wpAny_bind (wpAny_newObj_type (wpAny_pure ⟨plainId_quiet PySem.F.plain_list_iadd _,codeAny_builtin entry_list_iadd' ?_⟩))
 rw [Around.under_plainId PySem.F.plain_list_iadd _]
 have fresh : (s.heap.push { cls := .type "list",data := .seq ([] : List Value).toArray }).get? s.heap.objs.size = some { cls := .type "list",data := .seq #[] } := Heap.get?_push_size _ rfl
 show wpAny _ A.in1 (Builtin.List.listExtendWith (.ref s.heap.objs.size) (.ref r) (.ref s.heap.objs.size)) _ _ _
 have key := PySem.W.kdl_extend (A := A) (s := { s with heap := s.heap.push { cls := .type "list",data := .seq ([] : List Value).toArray } })
  (R := fun (q : Result) (s' : Shared) => ∃ (h' : Heap) (tk : Nat) (acc : Array Value) (c : Nat),q = .ok (.ret (.ref s.heap.objs.size)) /\ s' = { s with heap := h',toks := tk } /\ (∀ b o,s.heap.get? b = some o -> h'.get? b = some o) /\ h'.get? s.heap.objs.size = some { cls := .type "list",dict := none,data := .seq acc c,slots := #[] } /\ PySem.ItemsOf P acc n)
  K hh (K.keep _ _ hok fun b _ o e => Heap.get?_push_of_some _ e) s.heap.objs.size (Nat.ne_of_gt hlt.1) (Nat.ne_of_gt hlt.2) (.ref s.heap.objs.size) 0 fresh
  (fun h' tk acc c hk hS ha => ⟨h',tk,acc,c,rfl,rfl,fun b o e => hk b o (AD (Heap.lt_size e)) (Heap.get?_push_of_some _ e),hS,ha⟩) hn
 have fin : ∀ {h' : Heap} {tk c : Nat} {acc : Array Value},(∀ b o,s.heap.get? b = some o -> h'.get? b = some o) -> h'.get? s.heap.objs.size = some { cls := .type "list",dict := none,data := .seq acc c,slots := #[] } -> PySem.ItemsOf P acc n -> R acc.toList { s with heap := h',toks := tk } :=
  fun {h' tk c acc} hk hS ha => h h' tk acc (Heap.lt_size hS) hk ha
 refine wpAny_mono key (fun f s' x => ?_) fun e s' x => ?_
 ·cases f with
  | done f =>
   obtain ⟨h',tk,acc,c,e,rfl,hk,hS,ha⟩ := x
   cases e
   show wpAny _ A (load s.heap.objs.size >>= _) _ _ _
   exact wpAny_bind (wpAny_load hS (wpAny_pure (fin hk hS ha)))
  | again c₁ =>
   refine ⟨x.1,codeAny_mono x.2 fun q s₂ y => ?_⟩
   obtain ⟨h',tk,acc,c,rfl,rfl,hk,hS,ha⟩ := y
   show wpAny _ A (load s.heap.objs.size >>= _) _ _ _
   exact wpAny_bind (wpAny_load hS (wpAny_pure (fin hk hS ha)))
 ·obtain ⟨_,_,_,_,e',_⟩ := x
  cases e'
end L2
namespace So
open PySem PySem.Spec PyProof.Rows
def pP (x y : Str) : Prop := ¬ (y.cps.toList < x.cps.toList)
theorem pQ {x y z : Str} (h1 : pP x y) (h2 : pP y z) : pP x z := fun h => by
 unfold pP at h1 h2
 exact h1 (List.lt_of_le_of_lt (List.not_lt.mp h2) h)
theorem lT {x y : Str} (h1 : pP x y) (h2 : pP y x) : x = y := by
 have e := List.le_antisymm (List.not_lt.mp h1) (List.not_lt.mp h2)
 cases x; cases y
 congr 1
 exact Array.toList_inj.mp e
theorem jJ : ∀ (r : List Str) (x : Str),risingS x r = true -> (x :: r).Pairwise pP
 | [],x,_ => by simp
 | y :: r,x,h => by
  unfold risingS at h
  have h' : ltCps y.cps.toList x.cps.toList = false /\ risingS y r = true := by
   simpa [Bool.and_eq_true] using h
  have ih := jJ r y h'.2
  have xy : pP x y := by
   have := h'.1
   rw [ltCps_eq] at this
   exact of_decide_eq_false this
  refine List.pairwise_cons.mpr ⟨fun z hz => ?_,ih⟩
  rcases AB.mp hz with e | e
  ·rw [e]; exact xy
  ·exact pQ xy ((List.pairwise_cons.mp ih).1 z e)
theorem pS {l : List Str} (h : sortedS l = true) : l.Pairwise pP := by
 cases l with
 | nil => simp
 | cons x r => exact jJ r x h
end So
namespace Sw
open PySem L2 PyProof.Rows So
theorem bv.free {H : Hp} {p : Addr} (hn : H p = none) : ∀ {rows : List (Str × List Str)} {rs : List Addr},bv H rows rs -> p ∉ rs
 | [],[],_ => by simp
 | _ :: _,r :: _,h => fun m => by
  rcases AB.mp m with e | e
  ·have := h.1
   rw [<- e,hn] at this
   cases this
  ·exact bv.free hn h.2 e
 | [],_ :: _,h => h.elim
 | _ :: _,[],h => h.elim
theorem DD.put_none {H : Hp} {d pn : Addr} {rows : List (Str × List Str)} {rs : List Addr} {x y : Str} (hn : H pn = none) (dr : bv H rows rs) (e : H d = some (.dK (df rows rs))) (nd : rs.Nodup) (dn : d ∉ rs) (hw : aE (df rows rs) (.inr x) = none) :
  DD (aq (aq (aq H pn (.dK [])) d (.dK (putK (df rows rs) (.inr x) (.ref pn)))) pn (.dK (putK [] (.inr y) (.bl true)))) d (aP rows x y) := by
 have g3 := aj hn (.dK [])
 obtain ⟨h1,h2,_⟩ := (dr.same g3).at_none (y := y) (p := pn) hw
 have pd : pn ≠ d := fun z => by rw [z,e] at hn; cases hn
 have pr : pn ∉ rs := bv.free hn dr
 refine ⟨rs ++ [pn],?_,?_,?_,?_⟩
 ·rw [h1]
  have eN : (aq (aq (aq H pn (.dK [])) d (.dK (putK (df rows rs) (.inr x) (.ref pn)))) pn (.dK (putK [] (.inr y) (.bl true)))) pn = some (.dK (aO [y] (.bl true))) := ac
  refine bv.snoc eN ?_
  exact (((dr.same g3).other dn).other pr)
 ·rw [h1,h2,ae (Ne.symm pd),ac,eQ _ hw]
 ·rw [B8]
  refine ⟨nd,by simp,?_⟩
  intro u hu v hv
  simp at hv
  subst hv
  exact fun z => pr (z ▸ hu)
 ·simp
  exact ⟨dn,Ne.symm pd⟩
open XH
def KF (F : List Addr) (H H' : Hp) : Prop := ∀ a o,a ∉ F -> H a = some o -> H' a = some o
theorem KF.refl {F : List Addr} {H : Hp} : KF F H H := fun _ _ _ e => e
theorem KF.trans {F : List Addr} {H H' H'' : Hp} (h : KF F H H') (k : KF F H' H'') : KF F H H'' := fun a o n e => k a o n (h a o n e)
theorem KF.of {F : List Addr} {H H' : Hp} (h : ay H H') : KF F H H' := fun a o _ e => h a o e
theorem KF.put {F : List Addr} {H : Hp} {a : Addr} (o : HO) (h : a ∈ F) : KF F H (aq H a o) := fun b ob n e => by
 have q : b ≠ a := fun z => n (by rw [z]; exact h)
 rw [ae q]; exact e
def FG (F F' : List Addr) (H : Hp) : Prop := ∀ a ∈ F',a ∈ F ∨ H a = none
theorem FG.refl {F : List Addr} {H : Hp} : FG F F H := fun _ h => .inl h
structure LA (C : Addr) (F : List Addr) (H : Hp) (x : Addr) (rows : List (Str × List Str)) (ns : List Str) : Prop where
 ex : ∃ (dx p n : Addr) (fs : List (Str × V)) (rs : List Addr),H x = some (.ins C dx fs) /\ fs.lookup ("parts" : Str) = some (.ref p) /\ fs.lookup ("names" : Str) = some (.ref n) /\ bv H rows rs /\ H p = some (.dK (df rows rs)) /\ H n = some (.dK (aO ns (.bl true))) /\
  F = p :: n :: rs /\ F.Nodup /\ ∀ m : Str,m ∈ [("part" : Str),"learn","known","held"] -> fs.lookup m = none
theorem LA.same {C : Addr} {F : List Addr} {H H' : Hp} {x : Addr} {rows : List (Str × List Str)} {ns : List Str} (h : LA C F H x rows ns) (g : ay H H') : LA C F H' x rows ns := by
 obtain ⟨dx,p,n,fs,rs,a,b,c,d,e,f,i,j,k⟩ := h.ex
 exact ⟨dx,p,n,fs,rs,g _ _ a,b,c,d.same g,g _ _ e,g _ _ f,i,j,k⟩
theorem bv.dict {H : Hp} {a : Addr} : ∀ {rows : List (Str × List Str)} {rs : List Addr},bv H rows rs -> a ∈ rs -> ∃ kv,H a = some (.dK kv)
 | [],[],_,h => by simp at h
 | _ :: _,r :: _,h,m => by
  rcases AB.mp m with e | e
  ·subst e; exact ⟨_,h.1⟩
  ·exact bv.dict h.2 e
 | [],_ :: _,h,_ => h.elim
 | _ :: _,[],h,_ => h.elim
theorem LA.dict {C : Addr} {F : List Addr} {H : Hp} {x : Addr} {rows : List (Str × List Str)} {ns : List Str} (h : LA C F H x rows ns) {a : Addr} (m : a ∈ F) : ∃ kv,H a = some (.dK kv) := by
 obtain ⟨dx,p,n,fs,rs,_,_,_,d,e,f,i,_,_⟩ := h.ex
 subst i
 rcases AB.mp m with e' | m
 ·subst e'; exact ⟨_,e⟩
 rcases AB.mp m with e' | m
 ·subst e'; exact ⟨_,f⟩
 exact d.dict m
theorem LA.not {C : Addr} {F : List Addr} {H : Hp} {x : Addr} {rows : List (Str × List Str)} {ns : List Str} (h : LA C F H x rows ns) {a : Addr} {o : HO} (e : H a = some o) (k : ∀ kv,o ≠ .dK kv) : a ∉ F := fun m => by
 obtain ⟨kv,e'⟩ := h.dict m
 rw [e] at e'
 exact k kv (AN e')
theorem LA.free {C : Addr} {F : List Addr} {H : Hp} {x : Addr} {rows : List (Str × List Str)} {ns : List Str} (h : LA C F H x rows ns) {a : Addr} (e : H a = none) : a ∉ F := fun m => by
 obtain ⟨kv,e'⟩ := h.dict m
 rw [e] at e'; cases e'
theorem LA.dd {C : Addr} {F : List Addr} {H : Hp} {x : Addr} {rows : List (Str × List Str)} {ns : List Str} (h : LA C F H x rows ns) : ∃ (dx p n : Addr) (fs : List (Str × V)),H x = some (.ins C dx fs) /\ fs.lookup ("parts" : Str) = some (.ref p) /\ fs.lookup ("names" : Str) = some (.ref n) /\ DD H p rows /\ H n = some (.dK (aO ns (.bl true))) /\ p ∈ F /\ n ∈ F /\ ∀ m : Str,m ∈ [("part" : Str),"learn","known","held"] -> fs.lookup m = none := by
 obtain ⟨dx,p,n,fs,rs,a,b,c,d,e,f,i,j,k⟩ := h.ex
 subst i
 have j1 := AQ.mp j
 have j2 := AQ.mp j1.2
 exact ⟨dx,p,n,fs,a,b,c,⟨rs,d,e,j2.2,fun z => j1.1 (AV _ z)⟩,f,by simp,by simp,k⟩
theorem LA.learn {C : Addr} {F : List Addr} {H : Hp} {x n dx : Addr} {fs : List (Str × V)} {rows : List (Str × List Str)} {ns ms : List Str} (h : LA C F H x rows ns) (ex : H x = some (.ins C dx fs)) (en : fs.lookup ("names" : Str) = some (.ref n)) : LA C F (aq H n (.dK (aO ms (.bl true)))) x rows ms /\ KF F H (aq H n (.dK (aO ms (.bl true)))) /\ n ∈ F := by
 obtain ⟨dx',p,n',fs',rs,a,b,c,d,e,f,i,j,k⟩ := h.ex
 rw [a] at ex; cases ex
 rw [c] at en; cases en
 subst i
 have j1 := AQ.mp j
 have j2 := AQ.mp j1.2
 have pn : p ≠ n := fun z => j1.1 (by simp [z])
 have xn : x ≠ n := fun z => by rw [z,f] at a; cases a
 exact ⟨⟨dx,p,n,fs,rs,by rw [ae xn]; exact a,b,c,d.other j2.1,by rw [ae pn]; exact e,ac,rfl,j,k⟩,KF.put _ (by simp),by simp⟩
theorem LA.put_some {C : Addr} {F : List Addr} {H : Hp} {x p dx : Addr} {fs : List (Str × V)} {rows : List (Str × List Str)} {ns : List Str} {g y : Str} {kvs : List (Key × V)} (h : LA C F H x rows ns) (ex : H x = some (.ins C dx fs)) (ep : fs.lookup ("parts" : Str) = some (.ref p)) (e1 : H p = some (.dK kvs)) {w : V} (hw : aE kvs (.inr g) = some w) :
  ∃ r ys,w = .ref r /\ (g,ys) ∈ rows /\ H r = some (.dK (aO ys (.bl true))) /\ LA C F (aq H r (.dK (aO (bU ys y) (.bl true)))) x (aP rows g y) ns /\ KF F H (aq H r (.dK (aO (bU ys y) (.bl true)))) := by
 obtain ⟨dx',p',n,fs',rs,a,b,c,d,e,f,i,j,k⟩ := h.ex
 rw [a] at ex; cases ex
 rw [b] at ep; cases ep
 rw [e] at e1; cases e1
 subst i
 have j1 := AQ.mp j
 have j2 := AQ.mp j1.2
 obtain ⟨r,ys,rfl,hr,hm,hH,hD,hT⟩ := d.at_some (y := y) j2.2 hw
 have pr : p ≠ r := fun z => j1.1 (by rw [z]; exact AV _ hr)
 have nr : n ≠ r := fun z => j2.1 (by rw [z]; exact hr)
 have xr : x ≠ r := fun z => by rw [z,hH] at a; cases a
 exact ⟨r,ys,rfl,hm,hH,⟨dx,p,n,fs,rs,by rw [ae xr]; exact a,b,c,hD,by rw [ae pr,hT]; exact e,by rw [ae nr]; exact f,rfl,j,k⟩,KF.put _ (by simp [hr])⟩
theorem LA.put_none {C : Addr} {F : List Addr} {H : Hp} {x p dx pn : Addr} {fs : List (Str × V)} {rows : List (Str × List Str)} {ns : List Str} {g y : Str} {kvs : List (Key × V)} (h : LA C F H x rows ns) (ex : H x = some (.ins C dx fs)) (ep : fs.lookup ("parts" : Str) = some (.ref p)) (e1 : H p = some (.dK kvs)) (hn : H pn = none) (hw : aE kvs (.inr g) = none) :
  LA C (F ++ [pn]) (aq (aq (aq H pn (.dK [])) p (.dK (putK kvs (.inr g) (.ref pn)))) pn (.dK (putK [] (.inr y) (.bl true)))) x (aP rows g y) ns /\ KF F H (aq (aq (aq H pn (.dK [])) p (.dK (putK kvs (.inr g) (.ref pn)))) pn (.dK (putK [] (.inr y) (.bl true)))) := by
 have hf := h.free hn
 obtain ⟨dx',p',n,fs',rs,a,b,c,d,e,f,i,j,k⟩ := h.ex
 rw [a] at ex; cases ex
 rw [b] at ep; cases ep
 rw [e] at e1; cases e1
 subst i
 have j1 := AQ.mp j
 have j2 := AQ.mp j1.2
 have pr : p ∉ rs := fun z => j1.1 (AV _ z)
 obtain ⟨rs',hD,hP,hN,hd⟩ := (DD.put_none (y := y) hn d e j2.2 pr hw).ex
 have g3 := aj hn (.dK [])
 obtain ⟨h1,h2,_⟩ := (d.same g3).at_none (y := y) (p := pn) hw
 have pp : pn ≠ p := fun z => hf (by simp [z])
 have np : pn ≠ n := fun z => hf (by simp [z])
 have xp : pn ≠ x := fun z => by rw [z,a] at hn; cases hn
 have nr : pn ∉ rs := fun z => hf (by simp [z])
 have nn : n ≠ p := fun z => j1.1 (by simp [z])
 have xx : x ≠ p := fun z => by rw [z,e] at a; cases a
 refine ⟨⟨dx,p,n,fs,rs ++ [pn],?_,b,c,?_,?_,?_,rfl,?_,k⟩,?_⟩
 ·rw [ae (Ne.symm xp),ae xx,ae (Ne.symm xp)]; exact a
 ·rw [h1]
  exact bv.snoc (ys := [y]) ac (((d.same g3).other pr).other nr)
 ·rw [h1,h2,ae (Ne.symm pp),ac,eQ _ hw]
 ·rw [ae (Ne.symm np),ae nn,ae (Ne.symm np)]; exact f
 ·show (_ :: _ :: _ ++ [pn]).Nodup
  rw [B8]
  refine ⟨j,by simp,?_⟩
  intro u hu v hv
  simp only [A3] at hv
  subst hv
  exact fun z => hf (z ▸ hu)
 ·exact fun q ob nq eq => by
   have q1 : q ≠ pn := fun z => by rw [z,hn] at eq; cases eq
   rw [ae q1,ae (fun z => nq (by simp [z])),ae q1]; exact eq
def f8 (p st b n : V) : List (Str × V) := aC "names" n (aC "bars" b (aC "stands" st (aC "parts" p [])))
theorem kB {p st b n : V} : (f8 p st b n).lookup ("parts" : Str) = some p /\ (f8 p st b n).lookup ("names" : Str) = some n /\ ∀ m : Str,m ∈ [("part" : Str),"learn","known","held"] -> (f8 p st b n).lookup m = none := by
 refine ⟨?_,?_,fun m hm => ?_⟩
 ·unfold f8
  rw [aK,if_neg (by decide),aK,if_neg (by decide),aK,if_neg (by decide),aK,if_pos rfl]
 ·unfold f8
  rw [aK,if_pos rfl]
 ·simp only [AB,BB,or_false] at hm
  unfold f8
  rcases hm with rfl | rfl | rfl | rfl <;> (rw [aK,if_neg (by decide),aK,if_neg (by decide),aK,if_neg (by decide),aK,if_neg (by decide)]; rfl)
def jf (x : Addr) (H H' : Hp) : Prop := ∀ a o,a ≠ x -> H a = some o -> H' a = some o
theorem jf.trans {x : Addr} {H H' H'' : Hp} (h : jf x H H') (k : jf x H' H'') : jf x H H'' := fun a o n e => k a o n (h a o n e)
theorem jf.step {x d : Addr} {H : Hp} {o : HO} (o0 : HO) (nd : H d = none) : jf x H (aq (aq H d o0) x o) := fun a ob n e => by
 rw [ae n,ae (fun z => by rw [z,nd] at e; cases e)]
 exact e
def f9 (C : Addr) : Sp := fun vs H Q _ => ∃ (x l : Addr) (F : List Addr) (rows : List (Str × List Str)) (ns xs : List Str),vs = [.ref x,.ref l] /\ LA C F H x rows ns /\ H l = some (.lst (xs.map V.str)) /\ ns.length + xs.length <= 80 /\ ns.Nodup /\
 ∀ (H' : Hp) (ms : List Str),KF F H H' -> LA C F H' x rows ms -> ms.Nodup -> (∀ y,y ∈ ms ↔ y ∈ ns ∨ y ∈ xs) -> Q .non H'
def kC (K : A0) (C cN cI : Addr) : Sp := fun vs H Q E => ∃ (x : Addr) (g o : V) (F : List Addr) (rows : List (Str × List Str)) (ns : List Str) (ps : List (Str × Str)),vs = [.ref x,g,o] /\ LA C F H x rows ns /\ bY rows ps /\ ps.length <= 900 /\ ns.Nodup /\ ns.length <= 78 /\ (iP g ∨ d8 K H g) /\ (iP o ∨ d8 K H o) /\
 (¬ (iP g /\ iP o) -> ∀ H',ay H H' -> E (.ref cN) none H') /\
 ∀ zg zo,g = .str zg -> o = .str zo -> Nm zg -> Nm zo ->
  (Led ps zo zg -> ∀ d l H' c,ay H H' -> H' l = some (.lst ((zg :: List.dropLast c).map V.str)) -> H' d = some (.xd [("ring",.ref l)]) -> Way ps zo zg c -> E (.ref cI) (some d) H') /\
  (¬ Led ps zo zg -> ∀ F' H' ms,KF F H H' -> FG F F' H -> LA C F' H' x (aP rows zg zo) ms -> ms.Nodup -> (∀ y,y ∈ ms ↔ y ∈ ns ∨ y = zg ∨ y = zo) -> Q .non H')
def eV (ns xs : List Str) : List Str := xs.foldl bU ns
theorem jK {z : Str} : ∀ {xs ns : List Str},z ∈ eV ns xs ↔ z ∈ ns ∨ z ∈ xs
 | [],_ => by simp [eV]
 | x :: xs,ns => by
  show z ∈ eV (bU ns x) xs ↔ _
  rw [jK,b4,AB]
  exact or_assoc
theorem hJ : ∀ {xs ns : List Str},ns.Nodup -> (eV ns xs).Nodup
 | [],_,h => h
 | _ :: xs,_,h => hJ (xs := xs) (cO h)
theorem mX (ns xs : List Str) (y : Str) : eV ns (xs ++ [y]) = bU (eV ns xs) y := by
 unfold eV
 rw [List.foldl_append]
 rfl
theorem jL : ∀ (xs ns : List Str),(eV ns xs).length <= ns.length + xs.length
 | [],_ => A4 _
 | x :: xs,ns => by
  have h := jL xs (bU ns x)
  have := (cY ns x).2.2
  show (eV (bU ns x) xs).length <= _
  simp only [As]
  omega
end Sw
namespace L2
open PySem PySem.Spec PyProof.Rows
end L2
namespace Sw
open PySem L2 XH
theorem rC {p q n : Int} (f : Fr p q n 1) : p = n /\ q = 1 := by
 have h2 := f.bb
 have h3 := f.pos
 have h4 := f.same
 simp only [Int.natAbs_one] at h2
 have e : q = 1 := by omega
 subst e
 rw [Int.mul_one,Int.mul_one] at h4
 exact ⟨h4,rfl⟩
theorem tm {p q c d : Int} (h : p * d = c * q) (d0 : 0 < d) (q0 : 0 < q) (z : 0 < c) : 0 < p := by
 have k := Int.mul_pos z q0
 rw [<- h] at k
 exact Int.pos_of_mul_pos_left k d0
end Sw
namespace L2
open PySem PySem.Spec PyProof.Rows
end L2
namespace Sw
open PySem L2 XH
end Sw
namespace So
open PySem PyProof.Rows
section
variable {prog : Program} {w : World} {A : Around} {E : Value -> Shared -> Prop} {s : Shared} {κ : KeyKind} {kd : SortKind}
end
end So
namespace L2
open PySem PySem.Spec PyProof.Rows XH Sw So
section
variable {prog : Program} {w : World} {A : Around} {E : Value -> Shared -> Prop} {s : Shared}
end
end L2
namespace Sw
open PySem L2 XH PyProof.Rows
end Sw
namespace L2
open PySem PySem.Spec PyProof.Rows XH Sw
end L2
namespace Sw
open PySem L2 XH PyProof.Rows
end Sw
namespace L2
open PySem PySem.Spec PyProof.Rows XH Sw
theorem mY {cs : List Addr} {its : List Value} (h : aM (cs.map V.ref) its) : its = cs.map Value.ref := by
 induction cs generalizing its with
 | nil => cases h; rfl
 | cons c cs ih =>
  cases h with
  | cons r rr => cases r; rw [ih rr]; rfl
theorem iU {X : Cx} {K : A0} (hK : X.K = K) : cC X (.builtin "isinstance") (fun xs H Q => ∃ (a C : Addr) (dx : Option Addr) (t : Addr) (cs : List Addr) (b : Bool),xs = [.ref a,.ref t] /\ (∃ n,H a = some (cL n a (.ref C) dx)) /\ nX H dx /\ XI K C /\ H t = some (.tup (cs.map V.ref)) /\ PySem.W.kitAny K (.ref C) (cs.map Value.ref) = some b /\ Q (.bl b) H) := by
 subst hK
 intro pins s σ H xs us Q I r h
 obtain ⟨a,C,dx,t,cs,b,rfl,⟨n,e⟩,d,xi,et,ka,q⟩ := h
 obtain ⟨u,w',rfl,e1,e2⟩ := vals2 r
 cases e1
 cases e2
 obtain ⟨_,its,hv,ht⟩ := (show aV X.prog X.w H s.heap t (.tup (cs.map V.ref)) from I.hok t _ et)
 rw [mY hv] at ht
 obtain ⟨⟨oc,od,odt,osl⟩,hg,h1,m,h2⟩ := ht
 cases h1
 cases h2
 exact PySem.W.kia_tup (iL xi) I.kIn (ko I e d) hg ka (fun z => nomatch z) fun tk => ⟨.bl b,H,I.tok tk,rfl,q⟩
theorem tq {X : Cx} {e : Expr} {ta : TE} {f : Str} {pos : Pos} {K : A0} (hK : X.K = K) (he : PE X e ta) (hb : attributeBase e f X.env (eval e X.env) = eval e X.env) : PE X (.Attribute e f pos) (wL K ta f) := by
 subst hK
 exact c8 he hb
section
variable {X : Cx} {es es' : List Expr} {t t' : TA} {p : Pos} 
end
section
variable {X : Cx} {k j : Nat} {f C : Addr} {ps : List Str} {sp : Sp} {dvs : List V} {x m : Str} {p pos apos : Pos} {e o : Expr} {es : List Expr} {ta tb : TE} {t : TA} {E : L2.St -> XK}
theorem tu {pl : Sem Bool} {K : A0} (hK : X.K = K) (D : ft X.prog X.w X.K X.mg X.base (dz X.prog X.w) k f ps dvs sp) (hr : bQ j X.A) (hk : k <= j) (he : PE (X.wish (XS X E)) o ta) (ha : PA (X.wish (XS X E)) (e :: es) t)
  (hst : starEach (e :: es) X.env = (false,eval e X.env) :: starEach es X.env := by rfl) (hpl : (backTo pos (starEach es X.env)).any (·.1) = false := by rfl)
  (ht : eval (.Call (.Attribute o m apos) (e :: es) [] pos) X.env = (do
   let ov <- eval o X.env
   standAt apos.atName
   let (f,first) <- holding [ov] (getMethod ov m pl)
   callWith pos f first (backTo pos (starEach (e :: es) X.env)) (backToKw pos (keywordEach [] X.env))) := by rfl) :
  PE (X.wish (XS X E)) (.Call (.Attribute o m apos) (e :: es) [] pos) (qZ K m f sp [] E ta t) := by
 subst hK
 exact rb (X := X.wish (XS X E)) D hr hk cW he ha hst hpl ht
end
section
variable {X : Cx} {pins : List (Addr × Obj)} {σ : St} {H : Hp} {s : Shared}
end
section
variable {prog : Program} {w : World} {A : Around} {E : Value -> Shared -> Prop} {s : Shared}
end
section
variable {prog : Program} {w : World} {A : Around} {R : Result -> Shared -> Prop} {I : Addr} {fp wr : List Addr} {G : Array GenState -> Array GenState -> Prop} {n : Nat} {P : Nat -> Value -> Prop} {St : Nat -> Shared -> Prop}
end
section
variable {prog : Program} {w : World} {A : Around} {E : Value -> Shared -> Prop} {s : Shared}
end
section
variable {prog : Program} {w : World} {A : Around} {E : Value -> Shared -> Prop} {s : Shared}
end
section
variable {prog : Program} {w : World} {A : Around} {E : Value -> Shared -> Prop} {s : Shared}
end
section
variable {prog : Program} {w : World} {A : Around} {E : Value -> Shared -> Prop} {s : Shared}
end
section
variable {prog : Program} {w : World} {A : Around} {E : Value -> Shared -> Prop} {s : Shared}
end
open So
section
variable {prog : Program} {w : World} {A : Around} {E : Value -> Shared -> Prop} {s : Shared}
end
section
variable {X : Cx} {e : Expr} {te : TE} {p1 p2 pos pos2 : Pos}
end
end L2
namespace Sw
open PySem L2 XH PyProof.Rows
def Lt (z : Str) : Prop := ∀ c ∈ sL z,97 <= c /\ c <= 122
theorem Lt.app {x y : Str} (h : Lt x) (k : Lt y) : Lt (x ++ y) := fun c hc => by
 rw [vJ] at hc
 rcases AM.mp hc with q | q
 ·exact h c q
 ·exact k c q
theorem Lt.cut {x : Str} (h : Lt x) (lo hi : Option Int) : Lt (dj x lo hi) := fun c hc => by
 have hc' : c ∈ ((sL x).drop (HT.dN x.length 0 lo)).take (HT.dN x.length x.length hi - HT.dN x.length 0 lo) := by simpa [sL,dj] using hc
 exact h c (List.mem_of_mem_drop (List.mem_of_mem_take hc'))
theorem Lt.nil : Lt "" := fun c hc => by
 have : c ∈ ([] : List Nat) := hc
 simp at this
theorem rD {i : Int} (h0 : 0 <= i) (h : i < 26) : ∃ c,fo dB.cps.toList i = some c /\ 97 <= c /\ c <= 122 := by
 obtain ⟨c,hc⟩ := om h0 h
 refine ⟨c,hc,?_⟩
 have hm : c ∈ dB.cps.toList := by
  unfold fo at hc
  obtain ⟨j,_,hj⟩ := BG.mp hc
  exact A8 hj
 have e : dB.cps.toList = (List.range 26).map (97 + ·) := by decide
 rw [e] at hm
 obtain ⟨k,hk,rfl⟩ := AC.mp hm
 have := List.mem_range.mp hk
 omega
theorem Lt.one {c : Nat} (h : 97 <= c /\ c <= 122) : Lt ⟨#[c]⟩ := fun d hd => by
 have : d ∈ [c] := hd
 rw [A3.mp this]
 exact h
theorem gc {x : Str} {i : Int} (h : 0 <= i) : (dj x none (some i)).length = min i.toNat x.length := by
 have e1 : HT.dN x.length 0 none = 0 := rfl
 have e2 : HT.dN x.length x.length (some i) = min i.toNat x.length := by
  unfold HT.dN
  simp
  omega
 show ((x.cps.toList.drop _).take _).toArray.size = _
 rw [e1,e2,AG,BJ,Bf]
 have : x.cps.toList.length = x.length := by simp [Str.length]
 omega
theorem tw {x : Str} {i : Int} (h : 0 <= i) : (dj x (some i) none).length = x.length - i.toNat := by
 have e1 : HT.dN x.length 0 (some i) = min i.toNat x.length := by
  unfold HT.dN
  simp
  omega
 have e2 : HT.dN x.length x.length none = x.length := rfl
 show ((x.cps.toList.drop _).take _).toArray.size = _
 rw [e1,e2,AG,BJ,Bf]
 have : x.cps.toList.length = x.length := by simp [Str.length]
 omega
theorem Lt.nm {z : Str} (h : Lt z) (h1 : 1 <= z.length) (h2 : z.length <= 12) : Nm z := ⟨by rw [ky]; exact h1,by rw [ky]; exact h2,h⟩
theorem gh : ∀ {rows : List (Str × List Str)} {x y : Str},(rows.map (·.1)).Nodup -> iR rows x y -> aP rows x y = rows
 | [],x,y,_,⟨_,h,_⟩ => by simp at h
 | (c,ys) :: r,x,y,nd,h => by
  have nd' := AQ.mp (show (c :: r.map (·.1)).Nodup from nd)
  unfold aP
  by_cases z : c = x
  ·rw [if_pos z]
   rcases ce.mp h with ⟨_,q⟩ | ⟨zs,q,_⟩
   ·have : bU ys y = ys := by unfold bU; rw [if_pos q]
    rw [this]
   ·exact absurd (AC.mpr ⟨_,q,z.symm⟩) nd'.1
  ·rw [if_neg z]
   rcases ce.mp h with ⟨e,_⟩ | q
   ·exact absurd e z
   ·rw [gh nd'.2 q]
end Sw
namespace Hm
open PySem PySem.SeqAt PySem.MeetsSeq
section
variable {prog : Program} {w : World} {A : Around} {E : Value -> Shared -> Prop} {s : Shared}
end
open PySem.MeetsSeq3
def fw : List Str -> List Str -> Bool
 | _,[] => false
 | [],_ :: _ => true
 | x :: xs,y :: ys => if x = y then fw xs ys else decide (x.cps.toList < y.cps.toList)
def gL (xs : List Str) (us : List Value) : Prop := xs.length = us.length /\ ∀ (j : Nat) (x : Str),xs[j]? = some x -> ∃ t,us[j]? = some (.str x t)
theorem rE (l b : Addr) (us ws : List Value) (xs ys : List Str) (n n2 : Nat) (dd dd2 : Option Addr) (sl sl2 : Array (Option Value)) (h1 : gL xs us) (h2 : gL ys ws) (k : Nat) :
  ∀ i : Nat,xs.length - i = k -> Meets (Builtin.«list.__eq__.loop» ⟨[.ref l,.ref b,rawInt i,rawInt 0],[]⟩)
   (fun A R s => s.heap.get? l = some { cls := .type "list",dict := dd,data := .seq us.toArray n,slots := sl } /\ s.heap.get? b = some { cls := .type "list",dict := dd2,data := .seq ws.toArray n2,slots := sl2 } /\
    R (.ok (.ret (.bool (if xs.length < i ∨ ys.length < i then decide (xs.length < ys.length) else fw (xs.drop i) (ys.drop i))))) s) := by
 induction k with
 | zero =>
  intro i hk prog w A R s h
  obtain ⟨hp,g,d,tk,os⟩ := s; obtain ⟨hl,hb,h⟩ := h
  wp_walk using AutoSeq1.wpAny_loadPart' hl,AutoSeq1.wpAny_loadPart' hb
  have i1 : us.toArray[((i : Nat) : Int).toNat]? = none := by
   rw [BW,List.getElem?_toArray]
   exact B6 (by rw [<- h1.1]; omega)
  rw [i1]
  wp_walk using AutoSeq1.wpAny_loadPart' hl,AutoSeq1.wpAny_loadPart' hb
  refine (show R (.ok (.ret (.bool (decide (us.toArray.size < ws.toArray.size))))) _ from ?_)
  have e : decide (us.toArray.size < ws.toArray.size) = (if xs.length < i ∨ ys.length < i then decide (xs.length < ys.length) else fw (xs.drop i) (ys.drop i)) := by
   rw [AG,AG,<- h1.1,<- h2.1]
   split
   ·rfl
   ·rename_i c
    have c1 : ¬ xs.length < i := fun z => c (.inl z)
    have c2 : ¬ ys.length < i := fun z => c (.inr z)
    have x0 : xs.length = i := by omega
    rw [List.drop_eq_nil_of_le (by omega : xs.length <= i)]
    cases hd : ys.drop i with
    | nil =>
     have := congrArg List.length hd
     rw [Bf,Bk] at this
     exact decide_eq_false (by omega)
    | cons y r =>
     have := congrArg List.length hd
     rw [Bf,As] at this
     exact decide_eq_true (by omega)
  rw [e]
  exact h
 | succ k ih =>
  intro i hk prog w A R s h
  obtain ⟨hp,g,d,tk,os⟩ := s; obtain ⟨hl,hb,h⟩ := h
  wp_walk using AutoSeq1.wpAny_loadPart' hl,AutoSeq1.wpAny_loadPart' hb
  have il : i < xs.length := by omega
  have hx := A2 il
  generalize xs[i] = x at hx
  obtain ⟨t,ht⟩ := h1.2 i x hx
  have i1 : us.toArray[((i : Nat) : Int).toNat]? = some (.str x t) := by
   rw [BW,List.getElem?_toArray]
   exact ht
  have dx : xs.drop i = x :: xs.drop (i + 1) := by
   rw [List.drop_eq_getElem_cons il]
   rw [A2 il] at hx
   cases hx
   rfl
  rw [i1]
  by_cases c : i < ys.length
  ·have hy := A2 c
   generalize ys[i] = y at hy
   obtain ⟨u,hu⟩ := h2.2 i y hy
   have i2 : ws.toArray[((i : Nat) : Int).toNat]? = some (.str y u) := by
    rw [BW,List.getElem?_toArray]
    exact hu
   have dy : ys.drop i = y :: ys.drop (i + 1) := by
    rw [List.drop_eq_getElem_cons c]
    rw [A2 c] at hy
    cases hy
    rfl
   rw [i2]
   rw [if_neg (by omega),dx,dy] at h
   unfold fw at h
   refine wpAny_bind (EqAt.str_str x t y u prog w _ _ ?_)
   by_cases q : x = y
   ·rw [if_pos q] at h
    rw [show (x == y) = true from beq_iff_eq.mpr q]
    wp_walk
    rw [show ((i : Int) + 1) = ((i + 1 : Nat) : Int) by omega]
    refine ⟨plainId_quiet plain_eq_loop _,codeAny_builtin entry_eq_loop ?_⟩
    rw [Around.under_plainId plain_eq_loop _]
    refine ih (i + 1) (by omega) prog w A R _ ⟨hl,hb,?_⟩
    rw [if_neg (by omega)]
    exact h
   ·rw [if_neg q] at h
    rw [show (x == y) = false from beq_eq_false_iff_ne.mpr q]
    have ltr : ∀ {A : Around} {E : Value -> Shared -> Prop} {s : Shared} {Q : Value -> Shared -> Prop},Q (.bool (decide (x.cps.toList < y.cps.toList))) s -> wpAny (model prog w) A (richCompare .Lt (.str x t) (.str y u)) Q E s := fun h => PyProof.Rows.lt_str h
    wp_walk using AutoSeq1.wpAny_loadPart' hl,AutoSeq1.wpAny_loadPart' hb
    rw [i1,i2]
    wp_walk using ltr
    exact h
  ·have i2 : ws.toArray[((i : Nat) : Int).toNat]? = none := by
    rw [BW,List.getElem?_toArray]
    exact B6 (by rw [<- h2.1]; omega)
   rw [i2]
   wp_walk using AutoSeq1.wpAny_loadPart' hl,AutoSeq1.wpAny_loadPart' hb
   refine (show R (.ok (.ret (.bool (decide (us.toArray.size < ws.toArray.size))))) _ from ?_)
   rw [AG,AG,<- h1.1,<- h2.1]
   have e : decide (xs.length < ys.length) = (if xs.length < i ∨ ys.length < i then decide (xs.length < ys.length) else fw (xs.drop i) (ys.drop i)) := by
    split
    ·rfl
    ·rw [List.drop_eq_nil_of_le (by omega : ys.length <= i)]
     rw [decide_eq_false (by omega)]
     unfold fw
     cases xs.drop i <;> rfl
   rw [e]
   exact h
theorem rF (l b : Addr) (us ws : List Value) (xs ys : List Str) (n n2 : Nat) (dd dd2 : Option Addr) (sl sl2 : Array (Option Value)) (h1 : gL xs us) (h2 : gL ys ws) :
  Meets (Builtin.«list.__lt__» ⟨[.ref l,.ref b],[]⟩)
   (fun A R s => s.heap.get? l = some { cls := .type "list",dict := dd,data := .seq us.toArray n,slots := sl } /\ s.heap.get? b = some { cls := .type "list",dict := dd2,data := .seq ws.toArray n2,slots := sl2 } /\
    R (.ok (.ret (.bool (fw xs ys)))) s) := by
 intro prog w A R s h
 obtain ⟨hp,g,d,tk,os⟩ := s; obtain ⟨hl,hb,h⟩ := h
 have f3 := AutoSeq1.sub_list_list
 wp_walk using AutoSeq1.wpAny_loadPart' hl,AutoSeq1.wpAny_loadPart' hb
 refine ⟨plainId_quiet plain_eq_loop _,codeAny_builtin entry_eq_loop ?_⟩
 rw [Around.under_plainId plain_eq_loop _]
 refine rE l b us ws xs ys n n2 dd dd2 sl sl2 h1 h2 _ 0 rfl prog w A R _ ⟨hl,hb,?_⟩
 rw [if_neg (by omega)]
 exact h
section
variable {prog : Program} {w : World} {A : Around} {E : Value -> Shared -> Prop} {s : Shared}
theorem tz {x y : Addr} {us ws : List Value} {xs ys : List Str} {Q : Value -> Shared -> Prop} (gx : s.heap.IsList x us.toArray) (gy : s.heap.IsList y ws.toArray) (h1 : gL xs us) (h2 : gL ys ws) (hu : A.units < cLine) (h : Q (.bool (fw xs ys)) s) :
  wpAny (model prog w) A (compareOp .Lt (.ref x) (.ref y)) Q E s := by
 obtain ⟨⟨c1,d1,t1,z1⟩,o1,e1,m1,f1⟩ := gx
 obtain ⟨⟨c2,d2,t2,z2⟩,o2,e2,m2,f2⟩ := gy
 simp only at e1 f1 e2 f2
 subst e1 f1 e2 f2
 refine richCompare_meets_room (op := .Lt) ⟨_,o1,rfl⟩ ⟨_,o2,rfl⟩ F.slot_list_lt F.entry_list_lt (F.args_list_lt_2 _ _) (rF x y us ws xs ys m1 m2 d1 d2 z1 z2 h1 h2) ⟨o1,o2,?_⟩ hu
 exact (show Value.bool (fw xs ys) ≠ Value.notImplemented /\ Q (.bool (fw xs ys)) s from ⟨(fun z => nomatch z),h⟩)
end
end Hm
namespace Wo
open PySem Hm So
def r8 (x y : Str) : Prop := x.cps.toList < y.cps.toList
instance (x y : Str) : Decidable (r8 x y) := inferInstanceAs (Decidable (x.cps.toList < y.cps.toList))
theorem oq {x : Str} : ¬ r8 x x := List.lt_irrefl _
theorem pT {x y z : Str} (h1 : r8 x y) (h2 : r8 y z) : r8 x z := List.lt_trans h1 h2
theorem xz {x y : Str} (h : pP x y) (n : x ≠ y) : r8 x y := by
 refine Classical.byContradiction fun c => n (lT h ?_)
 exact c
theorem dC (x y : Str) (xs ys : List Str) : fw (x :: xs) (y :: ys) = if x = y then fw xs ys else decide (r8 x y) := rfl
theorem ot : ∀ (c : List Str),fw c c = false
 | [] => rfl
 | x :: c => by rw [dC,if_pos rfl]; exact ot c
theorem jM : ∀ {a b c : List Str},fw a b = true -> fw b c = true -> fw a c = true
 | [],[],c,h,_ => by cases h
 | [],_ :: _,[],_,h => by cases h
 | [],_ :: _,_ :: _,_,_ => rfl
 | _ :: _,[],_,h,_ => by cases h
 | _ :: _,_ :: _,[],_,h => by cases h
 | x :: a,y :: b,z :: c,h1,h2 => by
  rw [dC] at h1 h2 ⊢
  by_cases e1 : x = y
  ·subst e1
   rw [if_pos rfl] at h1
   by_cases e2 : x = z
   ·subst e2
    rw [if_pos rfl] at h2 ⊢
    exact jM h1 h2
   ·rw [if_neg e2] at h2 ⊢
    exact h2
  ·rw [if_neg e1] at h1
   have h1 := of_decide_eq_true h1
   by_cases e2 : y = z
   ·subst e2
    rw [if_neg e1]
    exact decide_eq_true h1
   ·rw [if_neg e2] at h2
    have h2 := of_decide_eq_true h2
    have h3 := pT h1 h2
    rw [if_neg (fun e => by subst e; exact oq h3)]
    exact decide_eq_true h3
theorem ou : ∀ {a b : List Str},a.length = b.length -> fw a b = true -> ∀ x y,fw (a ++ [x]) (b ++ [y]) = true
 | [],[],_,h,_,_ => by cases h
 | [],_ :: _,e,_,_,_ => by simp at e
 | _ :: _,[],e,_,_,_ => by simp at e
 | u :: a,v :: b,e,h,x,y => by
  rw [List.cons_append,List.cons_append,dC]
  rw [dC] at h
  by_cases c : u = v
  ·rw [if_pos c] at h ⊢
   exact ou (by simpa using e) h x y
  ·rw [if_neg c] at h ⊢
   exact h
theorem lV : ∀ (c : List Str) {x y : Str},r8 x y -> fw (c ++ [x]) (c ++ [y]) = true
 | [],x,y,h => by
  rw [List.nil_append,List.nil_append,dC,if_neg (fun e => by subst e; exact oq h)]
  exact decide_eq_true h
 | u :: c,x,y,h => by
  rw [List.cons_append,List.cons_append,dC,if_pos rfl]
  exact lV c h
def bD (c d : List Str) : Bool := if c.length ≠ d.length then decide (c.length < d.length) else fw c d
def aZ (c d : List Str) : Prop := bD c d = true
theorem cE {c d : List Str} (h : c.length < d.length) : aZ c d := by
 unfold aZ bD
 rw [if_pos (by omega)]
 exact decide_eq_true h
theorem dD {c d : List Str} (e : c.length = d.length) (h : fw c d = true) : aZ c d := by
 unfold aZ bD
 rw [if_neg (by omega)]
 exact h
theorem eW {c d : List Str} (h : aZ c d) : c.length < d.length ∨ c.length = d.length /\ fw c d = true := by
 unfold aZ bD at h
 by_cases e : c.length = d.length
 ·rw [if_neg (by omega)] at h
  exact .inr ⟨e,h⟩
 ·rw [if_pos e] at h
  exact .inl (of_decide_eq_true h)
theorem aZ.le {c d : List Str} (h : aZ c d) : c.length <= d.length := by rcases eW h with z | z <;> omega
theorem aZ.trans {a b c : List Str} (h1 : aZ a b) (h2 : aZ b c) : aZ a c := by
 rcases eW h1 with z | ⟨e,z⟩
 ·exact cE (by have := h2.le; omega)
 ·rcases eW h2 with y | ⟨f,y⟩
  ·exact cE (by omega)
  ·exact dD (by omega) (jM z y)
theorem aZ.irr {a : List Str} (h : aZ a a) : False := by
 rcases eW h with z | ⟨e,z⟩
 ·omega
 ·rw [ot] at z
  cases z
theorem aZ.app {c d : List Str} (h : aZ c d) (x y : Str) : aZ (c ++ [x]) (d ++ [y]) := by
 rcases eW h with z | ⟨e,z⟩
 ·exact cE (by rw [A7,A7]; simp; exact z)
 ·exact dD (by rw [A7,A7,e]; rfl) (ou e z x y)
theorem mZ (c : List Str) {x y : Str} (h : r8 x y) : aZ (c ++ [x]) (c ++ [y]) := dD (by rw [A7,A7]; rfl) (lV c h)
def az (c : List Str) : Str := c.getLastD ""
theorem bz (c : List Str) (x : Str) : az (c ++ [x]) = x := by unfold az; rw [List.getLastD_concat]
structure eh (R : Str -> Str -> Prop) (good : Str) (cs : List (List Str)) (i : Nat) (S : Str -> Prop) : Prop where
 first : cs[0]? = some [good]
 from_ : ∀ (k : Nat) (d : List Str),0 < k -> cs[k]? = some d -> ∃ (j : Nat) (c : List Str) (x : Str),j < k /\ j <= i /\ cs[j]? = some c /\ d = c ++ [x] /\ R (az c) x /\ (j = i -> S x)
 nd : (cs.map az).Nodup
 rise : ∀ (k : Nat) (c d : List Str),cs[k]? = some c -> cs[k + 1]? = some d -> aZ c d
 shut : ∀ (j : Nat) (c : List Str) (x : Str),j < i -> cs[j]? = some c -> R (az c) x -> ∃ (k : Nat) (d : List Str),cs[k]? = some d /\ az d = x /\ ¬ aZ (c ++ [x]) d
 now : ∀ (c : List Str) (x : Str),cs[i]? = some c -> S x -> ∃ (k : Nat) (d : List Str),cs[k]? = some d /\ az d = x /\ ¬ aZ (c ++ [x]) d
theorem eh.pair {R : Str -> Str -> Prop} {good : Str} {cs : List (List Str)} {i : Nat} {S : Str -> Prop} (h : eh R good cs i S) : ∀ (n k : Nat) (c d : List Str),cs[k]? = some c -> cs[k + 1 + n]? = some d -> aZ c d
 | 0,k,c,d,h1,h2 => h.rise k c d h1 h2
 | n + 1,k,c,d,h1,h2 => by
  have l := (A1.mp h2).1
  have e := A2 (show k + 1 + n < cs.length by omega)
  exact (h.pair n k c _ h1 e).trans (h.rise _ _ d e h2)
theorem eh.lt {R : Str -> Str -> Prop} {good : Str} {cs : List (List Str)} {i : Nat} {S : Str -> Prop} (h : eh R good cs i S) {j k : Nat} {c d : List Str} (hj : cs[j]? = some c) (hk : cs[k]? = some d) (l : j < k) : aZ c d := by
 obtain ⟨n,rfl⟩ : ∃ n,k = j + 1 + n := ⟨k - j - 1,by omega⟩
 exact h.pair n j c d hj hk
theorem eh.ne {R : Str -> Str -> Prop} {good : Str} {cs : List (List Str)} {i : Nat} {S : Str -> Prop} (h : eh R good cs i S) {k : Nat} {d : List Str} (hk : cs[k]? = some d) : d ≠ [] := by
 rcases BS k with e | e
 ·subst e
  rw [h.first] at hk
  cases hk
  exact nofun
 ·obtain ⟨j,c,x,_,_,_,rfl,_⟩ := h.from_ k d e hk
  simp
theorem eh.long {R : Str -> Str -> Prop} {good : Str} {cs : List (List Str)} {i : Nat} {S : Str -> Prop} (h : eh R good cs i S) : ∀ (k : Nat) (d : List Str),cs[k]? = some d -> d.length <= k + 1 := by
 intro k
 induction k using Nat.strongRecOn with
 | ind k ih =>
  intro d hk
  rcases BS k with e | e
  ·subst e
   rw [h.first] at hk
   cases hk
   exact A4 _
  ·obtain ⟨j,c,x,l,_,hj,rfl,_⟩ := h.from_ k d e hk
   have := ih j l c hj
   rw [A7,AF]
   omega
theorem eh.start {R : Str -> Str -> Prop} {good : Str} : eh R good [[good]] 0 (fun _ => False) where
 first := rfl
 from_ := fun k d k0 hk => by
  rw [B6 (by simp; omega)] at hk
  cases hk
 nd := by simp
 rise := fun k c d _ h => by
  rw [B6 (by simp)] at h
  cases h
 shut := fun j c x hj => absurd hj (Nat.not_lt_zero _)
 now := fun c x _ h => h.elim
theorem eh.seen {R : Str -> Str -> Prop} {good : Str} {cs : List (List Str)} {i : Nat} {S : Str -> Prop} (h : eh R good cs i S) {x : Str} {c : List Str} (hi : cs[i]? = some c) (hx : x ∈ cs.map az) : eh R good cs i (fun y => S y ∨ y = x) where
 first := h.first
 from_ := fun k d k0 hk => by
  obtain ⟨j,c,y,a1,a2,a3,a4,a5,a6⟩ := h.from_ k d k0 hk
  exact ⟨j,c,y,a1,a2,a3,a4,a5,fun e => .inl (a6 e)⟩
 nd := h.nd
 rise := h.rise
 shut := h.shut
 now := fun c' y hc hy => by
  rcases hy with hy | rfl
  ·exact h.now c' y hc hy
  ·rw [hi] at hc
   cases hc
   obtain ⟨d,hd,e⟩ := AC.mp hx
   obtain ⟨k,hk⟩ := AW.mp hd
   refine ⟨k,d,hk,e,fun a => ?_⟩
   have c1 := BH.mpr (h.ne hi)
   rcases BS k with z | z
   ·subst z
    rw [h.first] at hk
    cases hk
    have := a.le
    rw [A7,AF,AF] at this
    omega
   ·obtain ⟨j,b,u,_,ji,hj,rfl,_⟩ := h.from_ k d z hk
    rw [bz] at e
    subst e
    rcases Nat.lt_or_eq_of_le ji with l | rfl
    ·exact (a.trans ((h.lt hj hi l).app u u)).irr
    ·rw [hi] at hj
     cases hj
     exact a.irr
theorem eh.more {R : Str -> Str -> Prop} {good : Str} {cs : List (List Str)} {i : Nat} {S : Str -> Prop} (h : eh R good cs i S) {x : Str} {c : List Str} (hi : cs[i]? = some c) (hx : x ∉ cs.map az) (r : R (az c) x) (hS : ∀ y,S y -> y ≠ x -> r8 y x) : eh R good (cs ++ [c ++ [x]]) i (fun y => S y ∨ y = x) := by
 have il := (A1.mp hi).1
 have at_ : ∀ {k : Nat} {d : List Str},cs[k]? = some d -> (cs ++ [c ++ [x]])[k]? = some d := fun {k d} e => by
  rw [AA (A1.mp e).1]
  exact e
 have or_ : ∀ {k : Nat} {d : List Str},(cs ++ [c ++ [x]])[k]? = some d -> cs[k]? = some d ∨ (k = cs.length /\ d = c ++ [x]) := fun {k d} e => by
  rcases Nat.lt_or_ge k cs.length with l | l
  ·rw [AA l] at e
   exact .inl e
  ·have kl := (A1.mp e).1
   rw [A7,AF] at kl
   have : k = cs.length := by omega
   subst this
   rw [AT (A4 _),Nat.sub_self] at e
   cases e
   exact .inr ⟨rfl,rfl⟩
 have c1 := BH.mpr (h.ne hi)
 refine ⟨at_ h.first,fun k d k0 hk => ?_,?_,fun k b d h1 h2 => ?_,fun j b y hj hb hr => ?_,fun b y hb hy => ?_⟩
 ·rcases or_ hk with hk | ⟨rfl,rfl⟩
  ·obtain ⟨j,b,y,a1,a2,a3,a4,a5,a6⟩ := h.from_ k d k0 hk
   exact ⟨j,b,y,a1,a2,at_ a3,a4,a5,fun e => .inl (a6 e)⟩
  ·exact ⟨i,c,x,il,A4 _,at_ hi,rfl,r,fun _ => .inr rfl⟩
 ·rw [Ar,List.map_singleton,bz,B8]
  refine ⟨h.nd,by simp,fun a ha b hb => ?_⟩
  rw [A3.mp hb]
  intro z
  subst z
  exact hx ha
 ·rcases or_ h2 with h2' | ⟨e,rfl⟩
  ·have kl := (A1.mp h2').1
   rw [AA (by omega)] at h1
   exact h.rise k b d h1 h2'
  ·rw [AA (by omega)] at h1
   rcases BS k with z | z
   ·subst z
    rw [h.first] at h1
    cases h1
    refine cE ?_
    rw [A7,AF,AF]
    omega
   ·obtain ⟨j,b',u,_,ji,hj,rfl,_,hu⟩ := h.from_ k b z h1
    rcases Nat.lt_or_eq_of_le ji with l | rfl
    ·exact (h.lt hj hi l).app u x
    ·rw [hi] at hj
     cases hj
     refine mZ c (hS u (hu rfl) fun z => hx ?_)
     subst z
     exact AC.mpr ⟨_,A8 h1,bz _ _⟩
 ·have bl : j < cs.length := by omega
  rw [AA bl] at hb
  obtain ⟨k,d,a1,a2⟩ := h.shut j b y hj hb hr
  exact ⟨k,d,at_ a1,a2⟩
 ·rw [AA il,hi] at hb
  cases hb
  rcases hy with hy | rfl
  ·obtain ⟨k,d,a1,a2⟩ := h.now c y hi hy
   exact ⟨k,d,at_ a1,a2⟩
  ·refine ⟨cs.length,c ++ [y],?_,bz _ _,fun a => a.irr⟩
   rw [AT (A4 _),Nat.sub_self]
   rfl
theorem eh.next {R : Str -> Str -> Prop} {good : Str} {cs : List (List Str)} {i : Nat} {S : Str -> Prop} (h : eh R good cs i S) {c : List Str} (hi : cs[i]? = some c) (all : ∀ y,R (az c) y -> S y) : eh R good cs (i + 1) (fun _ => False) where
 first := h.first
 from_ := fun k d k0 hk => by
  obtain ⟨j,b,y,a1,a2,a3,a4,a5,_⟩ := h.from_ k d k0 hk
  exact ⟨j,b,y,a1,by omega,a3,a4,a5,fun e => absurd e (by omega)⟩
 nd := h.nd
 rise := h.rise
 shut := fun j b x hj hb hr => by
  rcases AY.mp hj with l | rfl
  ·exact h.shut j b x l hb hr
  ·rw [hi] at hb
   cases hb
   exact h.now _ x hi (all x hr)
 now := fun _ _ _ z => z.elim
theorem c6 : ∀ {l m : List Str},l.Nodup -> (∀ x ∈ l,x ∈ m) -> l.length <= m.length
 | [],m,_,_ => AZ _
 | x :: l,m,nd,sub => by
  have hx := sub x BC
  have nd' := AQ.mp nd
  have := c6 (m := m.erase x) nd'.2 fun y hy => (List.mem_erase_of_ne (a := y) (b := x) (fun e => nd'.1 (by rw [<- e]; exact hy))).mpr (sub y (AV _ hy))
  rw [List.length_erase_of_mem hx] at this
  have p := List.length_pos_of_mem hx
  rw [As]
  omega
theorem eh.few {R : Str -> Str -> Prop} {good : Str} {cs : List (List Str)} {i : Nat} {S : Str -> Prop} (h : eh R good cs i S) {U : List Str} (hU : ∀ x y,R x y -> y ∈ U) : cs.length <= U.length + 1 := by
 have := c6 (m := good :: U) h.nd fun x hx => by
  obtain ⟨d,hd,e⟩ := AC.mp hx
  obtain ⟨k,hk⟩ := AW.mp hd
  rcases BS k with z | z
  ·subst z
   rw [h.first] at hk
   cases hk
   rw [<- e]
   exact BC
  ·obtain ⟨j,c,y,_,_,_,rfl,r,_⟩ := h.from_ k d z hk
   rw [bz] at e
   subst e
   exact AV _ (hU _ _ r)
 rw [A5] at this
 exact this
end Wo
namespace L2
open PySem PySem.Spec PyProof.Rows XH
section
variable {prog : Program} {w : World} {A : Around} {E : Value -> Shared -> Prop} {s : Shared}
def tD (h : Heap) (d : Addr) (es : Array DictEntry) (ep : Nat) : Prop := ∃ o,h.get? d = some o /\ o.ExactDict /\ o.data = .dict es ep
theorem rG {d : Addr} {es : Array DictEntry} {ep : Nat} {Q : Value -> Shared -> Prop} (hd : (d == sysModules) = false) (hm : tD s.heap d es ep)
  (hQ : Q (.ref s.heap.objs.size) { s with heap := s.heap.push { cls := .type "dict_keyiterator",data := .fields #[.ref d,.int 0 0,.int es.size 0,.int ep 0] } }) :
  wpAny (model prog w) A (pyIter (.ref d)) Q E s := by
 obtain ⟨o,ho,hc,hdat⟩ := hm
 have hT : s.TypeIs (.ref d) "dict" := ⟨o,ho,hc.1⟩
 refine wpAny_pyIter_slot hT F.slot_dict_iter (wpAny_call_entry F.slot_dict_iter hT F.entry_dict_iter (wpAny_bind (wpAny_bind (wpAny_notOrdered_dict hT (wpAny_pure ?_)))) (F.args_dict_iter_1 _))
 refine (show wpAny _ _ (Builtin.Dict.showsAll d >>= _) _ _ s from ?_)
 have sh : Builtin.Dict.showsAll d = pure () := by unfold Builtin.Dict.showsAll; rw [hd]; rfl
 rw [sh]
 refine wpAny_bind (wpAny_pure (wpAny_bind (wpAny_dictEntries ho hdat (wpAny_bind (wpAny_dictEpoch ho hdat (wpAny_bind (wpAny_newObj_type (wpAny_pure ⟨_,rfl,"dict_keyiterator",_,⟨_,Heap.get?_push_size _ rfl,rfl⟩,F.slot_dict_keyiterator_next.lookup,?_⟩))))))))
 simpa [rawInt] using hQ
theorem rH {it d : Addr} {i ep : Nat} {es : Array DictEntry} {Q : Option Value -> Shared -> Prop} (hi : i < es.size) (hit : s.heap.IsKeyIter it d i es.size ep) (hm : tD s.heap d es ep)
  (hQ : ∀ h',h'.IsKeyIter it d (i + 1) es.size ep -> Heap.SameBut it s.heap h' -> Q (some es[i].key) { s with heap := h' }) : wpAny (model prog w) A (pyNext (.ref it)) Q E s := by
 obtain ⟨o,ho,hc,hd⟩ := id hit
 obtain ⟨od,hod,hcd,hdd⟩ := hm
 have ty := hit.typeIs
 unfold pyNext
 refine wpAny_bind (wpAny_attempt (wpAny_callSpecial?_slot (name := Str.ofString "__next__") ty F.slot_dict_keyiterator_next (wpAny_call_entry F.slot_dict_keyiterator_next ty F.entry_dict_keyiterator_next ?_ (F.args_dict_keyiterator_next_1 _))))
 refine wpAny_bind (wpAny_pure (wpAny_bind (wpAny_bind ?_)))
 refine wpAny_bind (wpAny_typeNameOfWhole_keyiter ty (wpAny_pure (wpAny_bind (wpAny_fieldsOf ho hd ?_))))
 have own : Builtin.Dict_items.ownsTuple "dict_keyiterator" = false := by decide
 rw [own]
 refine (show wpAny _ _ (if (Value.ref d == Value.none) = true then _ else _) _ _ s from ?_)
 rw [if_neg (AE : ¬ ((Value.ref d == Value.none) = true))]
 refine wpAny_bind (wpAny_pure (wpAny_bind (wpAny_dictEntries hod hdd ?_)))
 rw [if_neg (by simp)]
 refine wpAny_bind (wpAny_pure (wpAny_bind (wpAny_dictEpoch hod hdd ?_)))
 rw [if_neg (by simp)]
 refine wpAny_pure ?_
 have n0 : ¬ ((i : Int) < 0) := by omega
 simp only [n0,if_false,BW,Bg hi]
 refine wpAny_bind (wpAny_bind (wpAny_typeNameOfWhole_keyiter ty (wpAny_pure (wpAny_bind (wpAny_isOneOf_keyiter ty ?_)))))
 refine (show wpAny _ _ (setField (.ref it) 1 (rawInt ((i : Int) + 1)) >>= _) _ _ s from wpAny_bind (wpAny_setField ho hd (by simp) ?_))
 have hit' : (s.heap.update it (Obj.mapFields (·.setIfInBounds 1 (rawInt ((i : Int) + 1))))).IsKeyIter it d (i + 1) es.size ep := ⟨_,Heap.get?_update_self _ ho (Obj.isFreed_of_fields (Obj.data_mapFields hd _)),(Obj.cls_mapFields ..).trans hc,by rw [Obj.data_mapFields hd]; simp [rawInt]⟩
 refine wpAny_bind (wpAny_holding (wpAny_bind (wpAny_isOneOf_keyiter (s := { s with heap := s.heap.update it _ }) hit'.typeIs ?_)))
 exact (show wpAny _ _ (pure es[i].key) _ _ _ from wpAny_pure (wpAny_pure ⟨_,rfl,wpAny_pure (hQ _ hit' (Heap.SameBut.update ..))⟩))
theorem tE {it d : Addr} {ep : Nat} {es : Array DictEntry} {Q : Option Value -> Shared -> Prop} (hh : A.handled = none) (hit : s.heap.IsKeyIter it d es.size es.size ep) (hm : tD s.heap d es ep)
  (hQ : ∀ h',Heap.ExtBut it s.heap h' -> Q none { s with heap := h' }) : wpAny (model prog w) A (pyNext (.ref it)) Q E s := by
 obtain ⟨o,ho,hc,hd⟩ := id hit
 obtain ⟨od,hod,hcd,hdd⟩ := hm
 have ty := hit.typeIs
 unfold pyNext
 refine wpAny_bind (wpAny_attempt (wpAny_callSpecial?_slot (name := Str.ofString "__next__") ty F.slot_dict_keyiterator_next (wpAny_call_entry F.slot_dict_keyiterator_next ty F.entry_dict_keyiterator_next ?_ (F.args_dict_keyiterator_next_1 _))))
 refine wpAny_bind (wpAny_pure (wpAny_bind (wpAny_bind ?_)))
 refine wpAny_bind (wpAny_typeNameOfWhole_keyiter ty (wpAny_pure (wpAny_bind (wpAny_fieldsOf ho hd ?_))))
 have own : Builtin.Dict_items.ownsTuple "dict_keyiterator" = false := by decide
 rw [own]
 refine (show wpAny _ _ (if (Value.ref d == Value.none) = true then _ else _) _ _ s from ?_)
 rw [if_neg (AE : ¬ ((Value.ref d == Value.none) = true))]
 refine wpAny_bind (wpAny_pure (wpAny_bind (wpAny_dictEntries hod hdd ?_)))
 rw [if_neg (by simp)]
 refine wpAny_bind (wpAny_pure (wpAny_bind (wpAny_dictEpoch hod hdd ?_)))
 rw [if_neg (by simp)]
 refine wpAny_pure ?_
 have n0 : ¬ ((es.size : Int) < 0) := by omega
 simp only [n0,if_false,BW,Array.getElem?_eq_none (A4 _)]
 refine wpAny_bind (wpAny_bind (wpAny_typeNameOfWhole_keyiter ty (wpAny_pure ?_)))
 refine (show wpAny _ _ (setField (.ref it) 0 .none >>= _) _ _ s from wpAny_bind (wpAny_setField ho hd (by simp) ?_))
 refine (show wpAny _ _ (newExc (.type "StopIteration") [] >>= _) _ _ _ from wpAny_bind ?_)
 simp only [newExc,newTuple]
 refine wpAny_bind (wpAny_newObj_type ?_ (by size_fits))
 refine wpAny_bind (m := firstArgMember _ _) (wpAny_of_eq (a := Value.none) (by first | rfl | (simp only [firstArgMember]; rfl)) ?_)
 refine wpAny_newObj_type ?_ (by size_fits)
 simp only [raiseNew]
 refine wpAny_bind (wpAny_handled ?_)
 have hn : A.in1.handled = none := hh
 rw [hn]
 refine wpAny_bind (wpAny_pure (wpAny_throw ?_))
 refine wpAny_bind (wpAny_isInstance (T := "StopIteration") (b := true) ⟨_,Heap.get?_push_size _ rfl,rfl⟩ isSubtype_stop ?_)
 exact wpAny_pure (hQ _ (((Heap.SameBut.update ..).extBut.push _).push _))
end
def rJ (a : Addr) (o : Obj) (kvs : List (List Key × V)) : It :=
 ⟨fun i H => H a = some (.frz o (.dT kvs)) /\ i < kvs.length,fun i H v H' => H' = H /\ ∃ k x b,kvs[i]? = some (k,x) /\ v = .ref b /\ H b = some (.tup (k.map kV)),fun i H => H a = some (.frz o (.dT kvs)) /\ i = kvs.length⟩
theorem fN {α β : Type} {R : α -> β -> Prop} : ∀ {xs : List α} {ys : List β},Paired R xs ys -> ∀ (i : Nat) {x : α},xs[i]? = some x -> ∃ y,ys[i]? = some y /\ R x y
 | _,_,.nil,i,x,h => nomatch h
 | _,_,.cons r t,0,x,h => by cases h; exact ⟨_,rfl,r⟩
 | _,_,.cons r t,i + 1,x,h => fN t i (by simpa using h)
theorem jN {X : Cx} {pins : List (Addr × Obj)} {σ : St} {H : Hp} {s : Shared} {a : Addr} {o : Obj} {kvs : List (List Key × V)} {es : Array DictEntry} {ep : Nat} (I : av X pins σ H s) (h : H a = some (.frz o (.dT kvs))) (hd : o.data = .dict es ep) :
  tD s.heap a es ep /\ es.size = kvs.length /\ ∀ (i : Nat) (k : List Key) (x : V),kvs[i]? = some (k,x) -> ∃ (b : Addr) (e : DictEntry),es[i]? = some e /\ e.key = Value.ref b /\ H b = some (.tup (k.map kV)) := by
 obtain ⟨ho,z,y,xs,rel,ob,es',ep',e,c,d,l,_⟩ := (show aV X.prog X.w H s.heap a (.frz o (.dT kvs)) from I.hok a _ h)
 rw [ho] at e
 cases e
 rw [hd] at d
 cases d
 refine ⟨⟨o,ho,c,hd⟩,?_,fun i k x hk => ?_⟩
 ·rw [<- B9,l,A5,rel.length]
 ·obtain ⟨q,hq,q1,q2,_⟩ := fN rel i hk
  refine ⟨q.2.1,entryOfKey (tupleKind (aU X.prog X.w)) q,?_,rfl,q2⟩
  rw [<- BA,l,AK,hq]
  rfl
theorem m4 {P : Program} {w : World} {K : A0} {tg : Expr} (it a : Addr) (o : Obj) (kvs : List (List Key × V)) {es0 : Array DictEntry} {ep : Nat} (hd : o.data = .dict es0 ep) : Turn P w K tg (rJ a o kvs) [it] it (fun i h => h.IsKeyIter it a i kvs.length ep) where
 mem := by simp
 obj := fun i h st b hb => by
  have e : b = it := by simpa using hb
  subst e
  obtain ⟨o,e,c,d⟩ := st
  exact ⟨o,e,fun v z => by rw [d] at z; cases z⟩
 keep := fun i h h' st k => by
  obtain ⟨o,e,c,d⟩ := st
  exact ⟨o,k it (by simp) o e,c,d⟩
 item := by
  intro X hP hw hK hc i pins s σ H E I hf st hg
  subst hP hw hK
  obtain ⟨f0,f1,f2,f3,f4,f5⟩ := hf it (by simp)
  obtain ⟨hz,hlt⟩ := hg
  obtain ⟨D,sz,at_⟩ := jN I hz hd
  obtain ⟨⟨k,x⟩,hx⟩ : ∃ p,kvs[i]? = some p := ⟨kvs[i],A2 hlt⟩
  obtain ⟨b,e,he,ek,hb⟩ := at_ i k x hx
  rw [<- sz] at st
  have il : i < es0.size := by omega
  refine rH il st D fun h' hit' hs' => ?_
  rw [sz] at hit'
  have I1 : av X pins σ H { s with heap := h',toks := s.toks } := I.turned (fun b ob hb e => hs'.extBut b ob hb e) f0 f1 f3 f4 f5
  obtain ⟨oi,ei,ci,di⟩ := id hit'
  have ee : es0[i].key = .ref b := by
   rw [Bg il] at he
   cases he
   exact ek
  rw [ee]
  exact ⟨_,rfl,jm (s := { s with heap := h' }) (n := "dict_keyiterator") ei ci di (by decide) ⟨.ref b,H,I1,rfl,⟨rfl,k,x,b,hx,rfl,hb⟩,hit',fun b hb => (hf b hb).1⟩⟩
 done := by
  intro X hP hw hK hc i pins s σ H E I hf st hg
  subst hP hw hK
  obtain ⟨f0,f1,f2,f3,f4,f5⟩ := hf it (by simp)
  obtain ⟨hz,rfl⟩ := hg
  obtain ⟨D,sz,_⟩ := jN I hz hd
  rw [<- sz] at st
  refine tE (I.ok.hd hc) st D fun h' he' => ⟨rfl,I.turned (t' := s.toks) (fun b ob hb e => he' b ob hb e) f0 f1 f3 f4 f5⟩
 self := fun _ _ _ _ _ st h => wpAny_pyIter_keyiter st h
theorem av.nfT {X : Cx} {pins : List (Addr × Obj)} {σ : St} {H : Hp} {s : Shared} {a : Addr} {kvs : List (List Key × V)} (I : av X pins σ H s) (h : H a = some (.dT kvs)) : NF X a := fun o u e => by
 have := I.base.frzs a o u e
 rw [h] at this
 cases this
theorem av.freezeT {X : Cx} {pins : List (Addr × Obj)} {σ : St} {H : Hp} {s : Shared} {a : Addr} {kvs : List (List Key × V)} {o : Obj} (I : av X pins σ H s) (h : H a = some (.dT kvs)) (ho : s.heap.get? a = some o) : av X pins σ (aq H a (.frz o (.dT kvs))) s := by
 have ne : ∀ {b : Addr} {u : HO},H b = some u -> (∀ v,u ≠ .dT v) -> b ≠ a := fun {b u} q n z => by subst z; rw [h] at q; cases q; exact n _ rfl
 have nn : ∀ {b : Addr},H b = none -> b ≠ a := fun {b} q z => by subst z; rw [h] at q; cases q
 refine I.un (H' := aq H a (.frz o (.dT kvs))) (h' := s.heap) (t' := s.toks) ⟨fun b ob q n _ _ => q,fun b ob q n _ _ => ⟨ob.slots,q⟩,fun b ob q n _ => ?_,fun b ob q _ => ⟨ob,q⟩,fun b xs q => ?_,fun b ob u q => ?_,fun b ps q => ⟨#[],?_⟩⟩ ?_
 ·rw [ae (nn n)]; exact n
 ·rw [ae (ne q fun _ z => nomatch z)]; exact q
 ·rw [ae (ne q fun _ z => nomatch z)]; exact q
 ·rw [ae (ne q fun _ z => nomatch z),q]; simp
 ·intro b u q
  by_cases hb : b = a
  ·subst hb
   rw [ac] at q
   cases q
   exact ⟨ho,(I.hok b _ h).stay (fun _ _ _ q => q) (fun c q => by rw [ae (ne q fun _ z => nomatch z)]; exact q) fun c xs q => by rw [ae (ne q fun _ z => nomatch z)]; exact q⟩
  ·rw [ae hb] at q
   exact (I.hok b _ q).stay (fun _ _ _ q => q) (fun c q => by rw [ae (ne q fun _ z => nomatch z)]; exact q) fun c xs q => by rw [ae (ne q fun _ z => nomatch z)]; exact q
theorem av.thawT {X : Cx} {pins : List (Addr × Obj)} {σ : St} {H : Hp} {s : Shared} {a : Addr} {kvs : List (List Key × V)} {o : Obj} (I : av X pins σ H s) (h : H a = some (.frz o (.dT kvs))) (nf : NF X a) : av X pins σ (aq H a (.dT kvs)) s := by
 have hn : ∀ {b : Addr} {u : HO},H b = some u -> (∀ o' v,u ≠ .frz o' v) -> aq H a (.dT kvs) b = some u := fun {b u} q n => by
  rw [ae (fun z => by subst z; rw [h] at q; cases q; exact n _ _ rfl)]; exact q
 have hf : ∀ {b : Addr},H b = none -> aq H a (.dT kvs) b = none := fun {b} n => by
  rw [ae (fun z => by subst z; rw [h] at n; cases n)]; exact n
 refine ⟨I.ok,I.os,I.bare,⟨I.base.keep,I.base.slot,fun b ob q n hx => hf (I.base.free b ob q n hx),I.base.there,fun b xs q => hn (I.base.tups b xs q) (fun _ _ z => nomatch z),fun b ob u q => ?_,fun b ps q => ?_⟩,I.loc,I.cell,hf I.free,fun y c e => hf (I.freeC y c e),fun p hp => ?_,?_,I.len⟩
 ·have q' := I.base.frzs b ob u q
  rw [ae (fun z => by subst z; exact nf _ _ q)]
  exact q'
 ·obtain ⟨more,q'⟩ := I.base.tbls b ps q
  exact ⟨more,hn q' (fun _ _ z => nomatch z)⟩
 ·obtain ⟨p1,p2,p3⟩ := I.pin p hp
  exact ⟨p1,hf p2,p3⟩
 ·intro b u q
  by_cases hb : b = a
  ·subst hb
   rw [ac] at q
   cases q
   obtain ⟨_,q2⟩ := (show aV X.prog X.w H s.heap b (.frz o (.dT kvs)) from I.hok b _ h)
   exact aV.stay (o := .dT kvs) q2 (fun _ _ _ q => q) (fun c q => hn q (fun _ _ z => nomatch z)) fun c xs q => hn q (fun _ _ z => nomatch z)
  ·rw [ae hb] at q
   exact (I.hok b _ q).stay (fun _ _ _ q => q) (fun c q => hn q (fun _ _ z => nomatch z)) fun c xs q => hn q (fun _ _ z => nomatch z)
def vV (X : Cx) (tl : TE) : TI := fun σ H R => tl σ H fun x H1 => ∃ a kvs,x = .ref a /\ H1 a = some (.dT kvs) /\ ∀ o,NF X a -> R (rJ a o kvs) (aq H1 a (.frz o (.dT kvs)))
section
variable {X : Cx} {tg : Expr}
theorem lW {l : Expr} {tl : TE} (hl : PE X l tl) : PI X tg l (vV X tl) := by
 intro pins s σ H R I h
 refine bw (hl pins s σ H _ I h) fun v s1 ⟨x,H1,I1,r1,q1⟩ => ?_
 obtain ⟨a,kvs,rfl,hk,q⟩ := q1
 cases r1
 obtain ⟨z,y,xs,rel,ob,es,ep,e,c,d,l,_⟩ := (show aV X.prog X.w H1 s1.heap a (.dT kvs) from I1.hok a _ hk)
 have I2 := I1.freezeT hk e
 have sz : es.size = kvs.length := by rw [<- B9,l,A5,rel.length]
 refine rG y ⟨ob,e,c,d⟩ ?_
 refine ⟨s1.heap.objs.size,[s1.heap.objs.size],_,_,_,rfl,I2.kept (t' := s1.toks) fun b o e => Heap.get?_push_of_some _ e,m4 _ a ob kvs d,⟨_,Heap.get?_push_size _ rfl,rfl,by rw [sz]; rfl⟩,fun b hb => ?_,q ob (I1.nfT hk)⟩
 have e : b = s1.heap.objs.size := by simpa using hb
 subst e
 exact I2.fpOk (A4 _) (I2.hok.fresh (A4 _))
end
def tF (X : Cx) (P : Hp -> Prop) (H : Hp) : Prop := ∃ a o kvs,H a = some (.frz o (.dT kvs)) /\ NF X a /\ P (aq H a (.dT kvs))
def uM (X : Cx) (D : Ends) : Ends := { nx := fun σ => tF X (D.nx σ),bk := fun σ => tF X (D.bk σ),ct := fun σ => tF X (D.ct σ),rt := fun v => tF X (D.rt v) }
theorem ow {X : Cx} {st : Stmt} {t : TS} (h : PS X st t) : PS X st (fun D σ H => t (uM X D) σ H) := by
 intro pins s σ H D I q
 refine bw (h pins s σ H _ I q) fun f s1 q1 => ?_
 cases f with
 | next =>
  obtain ⟨σ',H',I',a,o,kvs,e,nf,p⟩ := q1
  exact ⟨σ',_,I'.thawT e nf,p⟩
 | brk =>
  obtain ⟨σ',H',I',a,o,kvs,e,nf,p⟩ := q1
  exact ⟨σ',_,I'.thawT e nf,p⟩
 | cont =>
  obtain ⟨σ',H',I',a,o,kvs,e,nf,p⟩ := q1
  exact ⟨σ',_,I'.thawT e nf,p⟩
 | ret u =>
  obtain ⟨v,σ',H',I',r,a,o,kvs,e,nf,p⟩ := q1
  exact ⟨v,σ',_,I'.thawT e nf,r,p⟩
theorem jO {a : Addr} {o : Obj} {kvs : List (List Key × V)} {g : TG} {tb : TS} {D : Ends} {σ : St} {H : Hp} (Pv : Nat -> St -> Hp -> Prop) (h0 : Pv 0 σ H) (hz : ∀ i σ H,i <= kvs.length -> Pv i σ H -> H a = some (.frz o (.dT kvs)))
  (hs : ∀ i k x b σ H,kvs[i]? = some (k,x) -> H b = some (.tup (k.map kV)) -> Pv i σ H -> g (.ref b) σ H fun σ2 H2 => tb { D with nx := Pv (i + 1),ct := Pv (i + 1),bk := D.nx } σ2 H2) (hd : ∀ σ H,Pv kvs.length σ H -> D.nx σ H) :
  ∃ W : Nat -> Nat -> St -> Hp -> Prop,(∃ m,W 0 m σ H) /\ ∀ i m σ H,W i m σ H ->
   ((rJ a o kvs).stop i H /\ D.nx σ H) ∨ ((rJ a o kvs).go i H /\ ∃ N : St -> Hp -> Prop,(∀ σ' H',N σ' H' -> ∃ m',m' < m /\ W (i + 1) m' σ' H') /\ ∀ x H',(rJ a o kvs).yld i H x H' -> g x σ H' fun σ2 H2 => tb { D with nx := N,ct := N,bk := D.nx } σ2 H2) := by
 refine ⟨fun i m σ H => m = kvs.length - i /\ i <= kvs.length /\ Pv i σ H,⟨kvs.length,by simp,AZ _,h0⟩,?_⟩
 rintro i m σ H ⟨rfl,hi,p⟩
 by_cases hlt : i < kvs.length
 ·refine .inr ⟨⟨hz i σ H hi p,hlt⟩,Pv (i + 1),fun σ' H' p' => ⟨kvs.length - (i + 1),by omega,rfl,hlt,p'⟩,fun x H' y => ?_⟩
  obtain ⟨e,k,v,b,hk,rfl,hb⟩ := y
  subst e
  exact hs i k v b σ _ hk hb p
 ·have e : i = kvs.length := by omega
  subst e
  exact .inl ⟨⟨hz _ σ H hi p,rfl⟩,hd σ H p⟩
open Hm
theorem gi {xs : List Str} {us : List Value} (r : aM (xs.map V.str) us) : gL xs us := by
 refine ⟨by rw [<- r.length,A5],fun j x hx => ?_⟩
 obtain ⟨u,hu,ru⟩ := fN r j (x := .str x) (by rw [AK,hx]; rfl)
 obtain ⟨t,rfl⟩ := ru
 exact ⟨t,hu⟩
theorem oz {H H' : Hp} {l : Addr} {u v : HO} (h : H l = some u) (g : ay (aq H l v) H') : ay H (aq H' l u) := fun b o q => by
 by_cases e : b = l
 ·subst e
  rw [h] at q
  cases q
  exact ac
 ·rw [ae e]
  exact g b o (by rw [ae e]; exact q)
end L2
namespace Sw
open PySem L2 XH Hm Wo So PyProof.Rows
def bN (row : List (Str × Addr)) : List (Key × V) := row.map fun p => ((.inr p.1 : Key),V.ref p.2)
theorem pU (row : List (Str × Addr)) : (bN row).map (·.1) = (row.map (·.1)).map fun y => (.inr y : Key) := by
 unfold bN
 rw [Be,Be]
 rfl
theorem c7 : ∀ {row : List (Str × Addr)},(row.map (·.1)).Nodup -> ∀ {y : Str} {t : Addr},(y,t) ∈ row -> aE (bN row) (.inr y) = some (.ref t)
 | [],_,_,_,h => nomatch h
 | p :: row,nd,y,t,h => by
  rw [Ap,AQ] at nd
  show aE (((.inr p.1 : Key),V.ref p.2) :: bN row) _ = _
  rcases AB.mp h with e | e
  ·subst e
   exact bj rfl
  ·rw [bu (by
    show ¬ (Sum.inr p.1 : Key) = Sum.inr y
    intro z
    injection z with z
    exact nd.1 (z ▸ AC.mpr ⟨_,e,rfl⟩))]
   exact c7 nd.2 e
structure rK (K : A0) (b : Nat) (vw : Str -> Str -> Int × Int) (H : Hp) (d : Addr) (g : Str -> Str -> Option Addr) : Prop where
 ex : ∃ kvs : List (Key × V),H d = some (.dK kvs) /\ ∀ x : Str,(aE kvs (.inr x) = none /\ ∀ y,g x y = none) ∨
  ∃ (a : Addr) (row : List (Str × Addr)),aE kvs (.inr x) = some (.ref a) /\ H a = some (.dK (bN row)) /\ (row.map (·.1)).Nodup /\ row.length <= 200 /\ ∀ y t,g x y = some t ↔ (y,t) ∈ row
 fr : ∀ x y t,g x y = some t -> fq K b H t (vw x y).1 (vw x y).2
theorem rK.same {K : A0} {b : Nat} {vw : Str -> Str -> Int × Int} {H H' : Hp} {d : Addr} {g : Str -> Str -> Option Addr} (h : rK K b vw H d g) (e : ay H H') : rK K b vw H' d g := by
 obtain ⟨⟨kvs,h1,h2⟩,h3⟩ := h
 refine ⟨⟨kvs,e _ _ h1,fun x => ?_⟩,fun x y t z => ?_⟩
 ·rcases h2 x with z | ⟨a,row,q1,q2,q3⟩
  ·exact .inl z
  ·exact .inr ⟨a,row,q1,e _ _ q2,q3⟩
 ·exact (h3 x y t z).same e
structure An (K : A0) (b : Nat) (Rt : List Str -> Int -> Int -> Prop) (F : Addr -> Prop) (H : Hp) (l : Addr) (cs : List (List Str)) : Prop where
 ex : ∃ ts : List Addr,H l = some (.lst (ts.map V.ref)) /\ ts.length = cs.length /\ ∀ (i : Nat) (t : Addr) (c : List Str),ts[i]? = some t -> cs[i]? = some c ->
  ∃ (cl rl : Addr) (p q : Int),H t = some (.tup [.ref cl,.ref rl]) /\ H cl = some (.lst (c.map V.str)) /\ fq K (b * c.length) H rl p q /\ Rt c p q /\ F cl /\ H rl = some (.tup [.int p,.int q])
def cF (l r : Addr) (H H' : Hp) : Prop := ∀ b o,b ≠ l -> b ≠ r -> H b = some o -> H' b = some o
theorem cF.refl (l r : Addr) (H : Hp) : cF l r H H := fun _ _ _ _ h => h
theorem cF.thenS {l r : Addr} {H H1 H2 : Hp} (a : cF l r H H1) (b : ay H1 H2) : cF l r H H2 := fun c o h1 h2 h => b c o (a c o h1 h2 h)
theorem cF.putL {l r : Addr} {H H1 : Hp} (a : cF l r H H1) (u : HO) : cF l r H (aq H1 l u) := fun c o h1 h2 h => by rw [ae h1]; exact a c o h1 h2 h
theorem cF.putR {l r : Addr} {H H1 : Hp} (a : cF l r H H1) (u : HO) : cF l r H (aq H1 r u) := fun c o h1 h2 h => by rw [ae h2]; exact a c o h1 h2 h
theorem cF.sqT {K : A0} {l r : Addr} {H H' : Hp} {ls : List V} {rs : List (Key × V)} (g : cF l r H H') (el : H l = some (.lst ls)) (er : H r = some (.dK rs)) {t : Addr} {xs : List V} (h : cu K H t xs) : cu K H' t xs := by
 rcases h with (w | ⟨o,w⟩) | w
 ·exact .inl (.inl (g _ _ (b9 w el (fun z => nomatch z)) (b9 w er (fun z => nomatch z)) w))
 ·exact .inl (.inr ⟨o,g _ _ (b9 w el (fun z => nomatch z)) (b9 w er (fun z => nomatch z)) w⟩)
 ·exact .inr w
theorem cF.fr {K : A0} {n : Nat} {l r : Addr} {H H' : Hp} {ls : List V} {rs : List (Key × V)} (g : cF l r H H') (el : H l = some (.lst ls)) (er : H r = some (.dK rs)) {t : Addr} {p q : Int} (h : fq K n H t p q) : fq K n H' t p q := ⟨g.sqT el er h.at_,h.pos,h.bp,h.bq⟩
theorem jP {ts : List Addr} {c : List Str} (n : c ≠ []) : (c.map V.str) ≠ ts.map V.ref := by
 cases c with
 | nil => exact absurd rfl n
 | cons x c =>
  cases ts with
  | nil => exact nofun
  | cons t ts => intro z; injection z with z; cases z
def mf (K : A0) (b : Nat) (Rt : List Str -> Int -> Int -> Prop) (F : Addr -> Prop) (H : Hp) (ts : List Addr) (cs : List (List Str)) : Prop := ts.length = cs.length /\ ∀ (i : Nat) (t : Addr) (c : List Str),ts[i]? = some t -> cs[i]? = some c ->
  ∃ (cl rl : Addr) (p q : Int),H t = some (.tup [.ref cl,.ref rl]) /\ H cl = some (.lst (c.map V.str)) /\ fq K (b * c.length) H rl p q /\ Rt c p q /\ F cl /\ H rl = some (.tup [.int p,.int q])
theorem mf.same {K : A0} {b : Nat} {Rt : List Str -> Int -> Int -> Prop} {F : Addr -> Prop} {H H' : Hp} {ts : List Addr} {cs : List (List Str)} (h : mf K b Rt F H ts cs) (g : ay H H') : mf K b Rt F H' ts cs := ⟨h.1,fun i t c h1 h2 => by
 obtain ⟨cl,rl,p,q,a1,a2,a3,a4,a5,a6⟩ := h.2 i t c h1 h2
 exact ⟨cl,rl,p,q,g _ _ a1,g _ _ a2,a3.same g,a4,a5,g _ _ a6⟩⟩
theorem mf.keep {K : A0} {b : Nat} {Rt : List Str -> Int -> Int -> Prop} {F : Addr -> Prop} {l r : Addr} {H H' : Hp} {ts ts0 : List Addr} {cs : List (List Str)} {rs : List (Key × V)} (h : mf K b Rt F H ts cs) (nz : ∀ c ∈ cs,c ≠ []) (g : cF l r H H') (el : H l = some (.lst (ts0.map V.ref))) (er : H r = some (.dK rs)) : mf K b Rt F H' ts cs := ⟨h.1,fun i t c h1 h2 => by
 obtain ⟨cl,rl,p,q,a1,a2,a3,a4,a5,a6⟩ := h.2 i t c h1 h2
 have cn := nz c (A8 h2)
 exact ⟨cl,rl,p,q,g _ _ (b9 a1 el (fun z => nomatch z)) (b9 a1 er (fun z => nomatch z)) a1,g _ _ (b9 a2 el (fun z => by injection z with z; exact jP cn z)) (b9 a2 er (fun z => nomatch z)) a2,g.fr el er a3,a4,a5,g _ _ (b9 a6 el (fun z => nomatch z)) (b9 a6 er (fun z => nomatch z)) a6⟩⟩
theorem mf.snoc {K : A0} {b : Nat} {Rt : List Str -> Int -> Int -> Prop} {F : Addr -> Prop} {H : Hp} {ts : List Addr} {cs : List (List Str)} {t cl rl : Addr} {c : List Str} {p q : Int} (h : mf K b Rt F H ts cs) (a1 : H t = some (.tup [.ref cl,.ref rl])) (a2 : H cl = some (.lst (c.map V.str))) (a3 : fq K (b * c.length) H rl p q) (a4 : Rt c p q) (a5 : F cl) (a6 : H rl = some (.tup [.int p,.int q])) : mf K b Rt F H (ts ++ [t]) (cs ++ [c]) := by
 refine ⟨by rw [A7,A7,h.1]; rfl,fun i t' c' h1 h2 => ?_⟩
 rcases Nat.lt_or_ge i ts.length with l | l
 ·rw [AA l] at h1
  rw [AA (by rw [<- h.1]; exact l)] at h2
  exact h.2 i t' c' h1 h2
 ·have il := (A1.mp h1).1
  rw [A7,AF] at il
  have e : i = ts.length := by omega
  subst e
  rw [AT (A4 _),Nat.sub_self] at h1
  rw [h.1,AT (A4 _),Nat.sub_self] at h2
  cases h1
  cases h2
  exact ⟨cl,rl,p,q,a1,a2,a3,a4,a5,a6⟩
theorem tG {row : List (Str × Addr)} {ks : List Str} (h : ks ≠ []) : bN row ≠ aO ks (.bl true) := by
 cases ks with
 | nil => exact absurd rfl h
 | cons k ks =>
  cases row with
  | nil => exact nofun
  | cons p row => intro z; injection z with z; injection z with _ z; cases z
theorem jQ {c : List Str} (n : c ≠ []) : fo (c.map V.str) (-1) = some (.str (az c)) := by
 obtain ⟨a,x,rfl⟩ : ∃ a x,c = a ++ [x] := ⟨c.dropLast,c.getLast n,(List.dropLast_concat_getLast n).symm⟩
 rw [Ar,bz]
 exact lq _ _
theorem vW {p q : Int} (f : Fr p q 1 1) : p = 1 /\ q = 1 := by
 have h1 := f.pos
 have h2 := f.same
 have h3 := f.bb
 omega
def kD (g : Str -> Str -> Option Addr) (x y : Str) : Prop := ∃ t,g x y = some t
theorem ff {κ : Type} [DecidableEq κ] : ∀ {kvs : List (κ × V)} {k : κ} {v : V},aE kvs k = some v -> (k,v) ∈ kvs
 | [],_,_,h => by cases h
 | p :: r,k,v,h => by
  by_cases e : p.1 = k
  ·rw [bj e] at h
   cases h
   subst e
   exact BC
  ·rw [bu e] at h
   exact AV _ (ff h)
theorem kE {κ : Type} [DecidableEq κ] : ∀ {kvs : List (κ × V)} {k : κ} {v : V},(k,v) ∈ kvs -> ∃ w,aE kvs k = some w
 | p :: r,k,v,h => by
  by_cases e : p.1 = k
  ·exact ⟨_,bj e⟩
  ·rw [bu e]
   rcases AB.mp h with z | z
   ·subst z
    exact absurd rfl e
   ·exact kE z
theorem lX {zs : List Str} {i : Int} (h0 : 0 <= i) (h : i < (zs.length : Int)) : ∃ v,fo (zs.map V.str) i = some (.str v) /\ v ∈ zs := by
 obtain ⟨j,rfl⟩ : ∃ j : Nat,i = (j : Int) := ⟨i.toNat,by omega⟩
 exact ⟨zs[j]'(by omega),bV (by rw [AK,A2 (by omega)]; rfl),List.getElem_mem _⟩
def cK (row : List (Str × Addr)) (y : Str) (t : Addr) : List (Str × Addr) := if (row.any fun p => decide (p.1 = y)) = true then row.map (fun p => if p.1 = y then (p.1,t) else p) else row ++ [(y,t)]
theorem lY (row : List (Str × Addr)) (y : Str) (t : Addr) : putK (bN row) (.inr y) (.ref t) = bN (cK row y t) := by
 have e : ((bN row).any fun kv => decide (kv.1 = (.inr y : Key))) = row.any fun p => decide (p.1 = y) := by
  unfold bN
  rw [List.any_map]
  congr 1
  funext p
  simp
 unfold putK cK
 rw [e]
 split
 ·unfold bN
  rw [Be,Be]
  congr 1
  funext p
  show (if (Sum.inr p.1 : Key) = Sum.inr y then ((Sum.inr p.1 : Key),V.ref t) else (Sum.inr p.1,V.ref p.2)) = ((Sum.inr (if p.1 = y then (p.1,t) else p).1 : Key),V.ref (if p.1 = y then (p.1,t) else p).2)
  by_cases c : p.1 = y
  ·rw [if_pos c,if_pos (by rw [c])]
  ·rw [if_neg c,if_neg (fun z => c (by injection z))]
 ·unfold bN
  rw [Ar]
  rfl
theorem gj (row : List (Str × Addr)) (y : Str) (t : Addr) (nd : (row.map (·.1)).Nodup) : ((cK row y t).map (·.1)).Nodup /\ (cK row y t).length <= row.length + 1 /\ ∀ z s,(z,s) ∈ cK row y t ↔ if z = y then s = t else (z,s) ∈ row := by
 unfold cK
 by_cases c : (row.any fun p => decide (p.1 = y)) = true
 ·rw [if_pos c]
  obtain ⟨p,hp,hy⟩ := List.any_eq_true.mp c
  have hy := of_decide_eq_true hy
  have e : (row.map fun p => if p.1 = y then (p.1,t) else p).map (·.1) = row.map (·.1) := by
   rw [Be]
   congr 1
   funext p
   show (if p.1 = y then (p.1,t) else p).1 = p.1
   split <;> rfl
  refine ⟨by rw [e]; exact nd,by rw [A5]; omega,fun z s => ⟨fun h => ?_,fun h => ?_⟩⟩
  ·obtain ⟨q,hq,e⟩ := AC.mp h
   by_cases d : q.1 = y
   ·rw [if_pos d] at e
    cases e
    rw [if_pos d]
   ·rw [if_neg d] at e
    subst e
    rw [if_neg d]
    exact hq
  ·by_cases d : z = y
   ·rw [if_pos d] at h
    subst h d
    exact AC.mpr ⟨p,hp,by rw [if_pos hy,hy]⟩
   ·rw [if_neg d] at h
    exact AC.mpr ⟨_,h,by rw [if_neg d]⟩
 ·rw [if_neg c]
  have no : ∀ q ∈ row,q.1 ≠ y := fun q hq e => c (List.any_eq_true.mpr ⟨q,hq,decide_eq_true e⟩)
  refine ⟨?_,by rw [A7]; exact A4 _,fun z s => ⟨fun h => ?_,fun h => ?_⟩⟩
  ·rw [Ar,B8]
   refine ⟨nd,by simp,fun a ha b hb => ?_⟩
   obtain ⟨q,hq,rfl⟩ := AC.mp ha
   cases A3.mp hb
   exact no q hq
  ·rcases AM.mp h with h | h
   ·rw [if_neg (no _ h)]
    exact h
   ·cases A3.mp h
    rw [if_pos rfl]
  ·by_cases d : z = y
   ·rw [if_pos d] at h
    subst h d
    exact AJ _ (A3.mpr rfl)
   ·rw [if_neg d] at h
    exact Au _ h
structure BD (H H' : Hp) (d : Addr) (n : Nat) (dk : List (Key × V)) (g : Str -> Str -> Option Addr) : Prop where
 at_ : H' d = some (.dK dk)
 few : dk.length <= n
 inj : ∀ x x' a,aE dk (.inr x) = some (.ref a) -> aE dk (.inr x') = some (.ref a) -> x = x'
 ex : ∀ x : Str,(aE dk (.inr x) = none /\ ∀ y,g x y = none) ∨
  ∃ (a : Addr) (row : List (Str × Addr)),aE dk (.inr x) = some (.ref a) /\ H' a = some (.dK (bN row)) /\ H a = none /\ a ≠ d /\ (row.map (·.1)).Nodup /\ row.length <= n /\ ∀ y t,g x y = some t ↔ (y,t) ∈ row
theorem BD.same {H H1 H2 : Hp} {d : Addr} {n : Nat} {dk : List (Key × V)} {g : Str -> Str -> Option Addr} (h : BD H H1 d n dk g) (e : ay H1 H2) : BD H H2 d n dk g := by
 refine ⟨e _ _ h.at_,h.few,h.inj,fun x => ?_⟩
 rcases h.ex x with z | ⟨a,row,q1,q2,q3⟩
 ·exact .inl z
 ·exact .inr ⟨a,row,q1,e _ _ q2,q3⟩
theorem BD.open {H H1 : Hp} {d pn : Addr} {n : Nat} {dk : List (Key × V)} {g : Str -> Str -> Option Addr} {x0 : Str} (h : BD H H1 d n dk g) (hv : aE dk (.inr x0) = none) (hp : H1 pn = some (.dK (bN []))) (hn : H pn = none) (nd : pn ≠ d) (new : ∀ x,aE dk (.inr x) ≠ some (.ref pn)) : BD H (aq H1 d (.dK (putK dk (.inr x0) (.ref pn)))) d (n + 1) (putK dk (.inr x0) (.ref pn)) g := by
 refine ⟨ac,AR (cV _ _ _) (by have := h.few; omega),fun x x' a e1 e2 => ?_,fun x => ?_⟩
 ·rw [fT] at e1 e2
  split at e1
  ·rename_i c1
   injection c1 with c1
   cases e1
   split at e2
   ·rename_i c2
    injection c2 with c2
    rw [c1,c2]
   ·exact absurd e2 (new _)
  ·split at e2
   ·cases e2
    exact absurd e1 (new _)
   ·exact h.inj x x' a e1 e2
 ·rw [fT]
  by_cases c : x = x0
  ·subst c
   rw [if_pos rfl]
   rcases h.ex x with ⟨z1,z2⟩ | ⟨a,row,q1,_⟩
   ·refine .inr ⟨pn,[],rfl,by rw [ae nd]; exact hp,hn,nd,by simp,AZ _,fun y t => ?_⟩
    rw [z2]
    simp
   ·rw [hv] at q1
    cases q1
  ·rw [if_neg (fun z => c (by injection z))]
   rcases h.ex x with z | ⟨a,row,q1,q2,q3,q4,q5,q6,q7⟩
   ·exact .inl z
   ·exact .inr ⟨a,row,q1,by rw [ae q4]; exact q2,q3,q4,q5,by omega,q7⟩
theorem BD.put {H H1 : Hp} {d a : Addr} {n : Nat} {dk : List (Key × V)} {g g' : Str -> Str -> Option Addr} {x0 y0 : Str} {t0 : Addr} {row : List (Str × Addr)} (h : BD H H1 d n dk g) (hv : aE dk (.inr x0) = some (.ref a)) (hr : H1 a = some (.dK (bN row)))
  (hg : ∀ x y,g' x y = if x = x0 /\ y = y0 then some t0 else g x y) : BD H (aq H1 a (.dK (putK (bN row) (.inr y0) (.ref t0)))) d (n + 1) dk g' := by
 obtain ⟨na,hx⟩ : a ≠ d /\ H a = none /\ (row.map (·.1)).Nodup /\ row.length <= n /\ ∀ y t,g x0 y = some t ↔ (y,t) ∈ row := by
  rcases h.ex x0 with ⟨z,_⟩ | ⟨a',row',q1,q2,q3,q4,q5,q6,q7⟩
  ·rw [hv] at z
   cases z
  ·rw [hv] at q1
   cases q1
   rw [hr] at q2
   have e : bN row = bN row' := by injection q2 with q2; injection q2
   have e' : row = row' := by
    unfold bN at e
    refine (List.map_inj_right ?_).mp e
    rintro ⟨u1,u2⟩ ⟨w1,w2⟩ z
    injection z with z1 z2
    injection z1 with z1
    injection z2 with z2
    exact Prod.ext z1 z2
   subst e'
   exact ⟨q4,q3,q5,q6,q7⟩
 obtain ⟨hn,nd,ln,mem⟩ := hx
 obtain ⟨p1,p2,p3⟩ := gj row y0 t0 nd
 refine ⟨by rw [ae (Ne.symm na)]; exact h.at_,by have := h.few; omega,h.inj,fun x => ?_⟩
 by_cases c : x = x0
 ·subst c
  refine .inr ⟨a,cK row y0 t0,hv,by rw [ac,lY],hn,na,p1,by omega,fun y t => ?_⟩
  rw [hg,p3]
  by_cases e : y = y0
  ·rw [if_pos ⟨rfl,e⟩,if_pos e]
   exact ⟨fun z => by injection z with z; exact z.symm,fun z => by rw [z]⟩
  ·rw [if_neg (fun z => e z.2),if_neg e]
   exact mem y t
 ·rcases h.ex x with ⟨z1,z2⟩ | ⟨b,row',q1,q2,q3,q4,q5,q6,q7⟩
  ·refine .inl ⟨z1,fun y => ?_⟩
   rw [hg,if_neg (fun z => c z.1)]
   exact z2 y
  ·have ba : b ≠ a := fun e => c (h.inj x x0 a (e ▸ q1) hv)
   refine .inr ⟨b,row',q1,by rw [ae ba]; exact q2,q3,q4,q5,by omega,fun y t => ?_⟩
   rw [hg,if_neg (fun z => c z.1)]
   exact q7 y t
theorem BD.done {K : A0} {b : Nat} {vw : Str -> Str -> Int × Int} {H H' : Hp} {d : Addr} {n : Nat} {dk : List (Key × V)} {g : Str -> Str -> Option Addr} (h : BD H H' d n dk g) (h2 : n <= 200) (f : ∀ x y t,g x y = some t -> fq K b H' t (vw x y).1 (vw x y).2) : rK K b vw H' d g := by
 refine ⟨⟨dk,h.at_,fun x => ?_⟩,f⟩
 rcases h.ex x with z | ⟨a,row,q1,q2,q3,q4,q5,q6,q7⟩
 ·exact .inl z
 ·exact .inr ⟨a,row,q1,q2,q5,by omega,q7⟩
end Sw
namespace L2
open PySem PySem.Spec PyProof.Rows
section
variable {X : Cx} {pins : List (Addr × Obj)} {σ : St} {H : Hp} {s : Shared} {h' : Heap}
theorem av.turnedNew {ch : List Addr} {T : Addr} {o : HO} {t' : Nat} (I : av X pins σ H s) (hf : ∀ b ∈ ch,fP X pins H b) (k : ∀ b u,b ∉ ch -> s.heap.get? b = some u -> h'.get? b = some u) (hp : s.heap.objs.size <= T) (new : aV X.prog X.w (aq H T o) h' T o) :
  av X pins σ (aq H T o) { s with heap := h',toks := t' } := by
 have nT : H T = none := I.hok.fresh hp
 have ne : ∀ b u,H b = some u -> b ≠ T := fun b u e z => by rw [z,nT] at e; cases e
 have nch : ∀ b u,H b = some u -> b ∉ ch := fun b u e z => by rw [(hf b z).1] at e; cases e
 have up : ∀ b u,H b = some u -> aq H T o b = some u := fun b u e => by rw [ae (ne b u e)]; exact e
 refine I.step (g' := s.gens) (d' := s.drawn) (ch := ch) (fun b hb => ?_) (fun b u _ _ hc e _ => k b u hc e) (fun b u _ _ hc e _ => ⟨u.slots,k b u hc e⟩) (fun b u _ e n => ?_)
  (fun b u hc e => ⟨u,k b u hc e⟩) (fun b xs e => up b _ e) (fun b u v e => up b _ e) (fun b ps e => ⟨#[],by rw [up b _ e]; simp⟩) (fun m hm => ?_) (fun b u e => ?_) I.bare
 ·obtain ⟨f0,f1,f2,f3,f4,f5⟩ := hf b hb
  exact ⟨f3,f1,f4,f5⟩
 ·have : b ≠ T := AD (AL (Heap.lt_size e) hp)
  rw [ae this]
  exact n
 ·obtain ⟨u,es,ep,ho,r⟩ := hm
  exact ⟨u,es,ep,k _ u (fun z => (hf _ z).2.1 rfl) ho,r⟩
 ·by_cases c : b = T
  ·subst c
   rw [ac] at e
   cases e
   exact new
  ·rw [ae c] at e
   refine (I.hok b u e).stay (fun c' v hc q => k c' v ?_ q) (fun _ q => up _ _ q) fun _ _ q => up _ _ q
   rcases hc with z | z
   ·rw [z]; exact nch b u e
   ·exact nch c' _ z
theorem av.turnedAll {ch : List Addr} {t' : Nat} (I : av X pins σ H s) (hf : ∀ b ∈ ch,fP X pins H b) (k : ∀ b u,b ∉ ch -> s.heap.get? b = some u -> h'.get? b = some u) : av X pins σ H { s with heap := h',toks := t' } := by
 have nch : ∀ b u,H b = some u -> b ∉ ch := fun b u e z => by rw [(hf b z).1] at e; cases e
 refine I.step (g' := s.gens) (d' := s.drawn) (ch := ch) (fun b hb => ?_) (fun b u _ _ hc e _ => k b u hc e) (fun b u _ _ hc e _ => ⟨u.slots,k b u hc e⟩) (fun b u _ e n => n)
  (fun b u hc e => ⟨u,k b u hc e⟩) (fun b xs e => e) (fun b u v e => e) (fun b ps e => ⟨#[],by rw [e]; simp⟩) (fun m hm => ?_) (fun b u e => ?_) I.bare
 ·obtain ⟨f0,f1,f2,f3,f4,f5⟩ := hf b hb
  exact ⟨f3,f1,f4,f5⟩
 ·obtain ⟨u,es,ep,ho,r⟩ := hm
  exact ⟨u,es,ep,k _ u (fun z => (hf _ z).2.1 rfl) ho,r⟩
 ·refine (I.hok b u e).stay (fun c' v hc q => k c' v ?_ q) (fun _ q => q) fun _ _ q => q
  rcases hc with z | z
  ·rw [z]; exact nch b u e
  ·exact nch c' _ z
end
def xA (K : A0) (l : Addr) : It :=
 ⟨fun i H => ∃ xs x,bh K H l xs /\ xs[i]? = some x,fun i H v H' => ∃ (T : Addr) (x : V),v = .ref T /\ H T = none /\ (∀ xs,bh K H l xs -> xs[i]? = some x) /\ H' = aq H T (.tup [.int i,x]),fun i H => ∃ xs,bh K H l xs /\ xs.length <= i⟩
theorem pV {P : Program} {w : World} {K : A0} {elts : List Expr} {k : Nat} {pos : Pos} (l e it : Addr) (ne : e ≠ it) : Turn P w K (.Tuple elts k pos) (xA K l) [e,it] e (fun i h => (∃ old,IsEnum h e it i old) /\ h.IsListIter it l i) where
 mem := by simp
 obj := fun i h st b hb => by
  obtain ⟨⟨old,he⟩,o,e1,c,d⟩ := st
  rcases AB.mp hb with z | z
  ·subst z
   exact ⟨_,he,fun v z => by cases z⟩
  ·rw [A3.mp z]
   exact ⟨o,e1,fun v z => by rw [d] at z; cases z⟩
 keep := fun i h h' st k => ⟨let ⟨old,he⟩ := st.1; ⟨old,k e (by simp) _ he⟩,st.2.at fun o q => k it (by simp) o q⟩
 item := by
  intro X hP hw hK hc i pins s σ H E I hf st hg
  subst hP hw hK
  obtain ⟨xs,x,hq,hx⟩ := hg
  obtain ⟨its,rv,p,hz⟩ := I.list hq
  obtain ⟨u,hu,ru⟩ := rv.get hx
  obtain ⟨⟨old,he⟩,hit⟩ := st
  refine wpAny_pyNext_enum_item he hit p.isList (x := u) (by simpa using hu) ne fun h1 ho hit' hT hsz hk => ?_
  refine ⟨_,rfl,wpAny_letOwnedTupleGo_enum (s := { s with heap := h1,toks := s.toks + 1 }) ho fun h2 he2 hs2 => ?_⟩
  have nT : H s.heap.objs.size = none := I.hok.fresh (A4 _)
  have el : e < s.heap.objs.size := Heap.lt_size he
  have il : it < s.heap.objs.size := by obtain ⟨_,q,_⟩ := hit; exact Heap.lt_size q
  have hT2 : h2.get? s.heap.objs.size = some { cls := .type "tuple",data := .seq #[.int i s.toks,u] } := (hs2.2 _ (Nat.ne_of_gt el)).trans hT
  have kp : ∀ b o,b ∉ [e,it] -> s.heap.get? b = some o -> h2.get? b = some o := fun b o hb q => by
   simp at hb
   exact (hs2.2 b hb.1).trans (hk b o hb.1 hb.2 q)
  refine ⟨.ref s.heap.objs.size,aq H s.heap.objs.size (.tup [.int i,x]),I.turnedNew (t' := s.toks + 1) (ch := [e,it]) hf kp (A4 _) ⟨by show 2 <= sizeLine; decide,[.int i s.toks,u],.cons ⟨_,rfl⟩ (.cons ru .nil),⟨_,hT2,rfl,0,rfl⟩⟩,rfl,
   ⟨_,x,rfl,nT,fun ys hy => by rw [I.list_inj hy hq]; exact hx,rfl⟩,⟨⟨u,?_⟩,?_⟩,fun b hb => ?_⟩
  ·simpa using he2
  ·exact hit'.at fun o q => (hs2.2 it (Ne.symm ne)).trans q
  ·have bl : b ≠ s.heap.objs.size := by
    rcases AB.mp hb with z | z
    ·rw [z]; exact AD el
    ·rw [A3.mp z]; exact AD il
   rw [ae bl]
   exact (hf b hb).1
 done := by
  intro X hP hw hK hc i pins s σ H E I hf st hg
  subst hP hw hK
  obtain ⟨xs,hq,hx⟩ := hg
  obtain ⟨its,rv,p,hz⟩ := I.list hq
  obtain ⟨⟨old,he⟩,hit⟩ := st
  have hl := rv.length
  exact wpAny_pyNext_enum_end (I.ok.hd hc) he hit p.isList (by simp; omega) fun h' eb => ⟨rfl,I.turnedAll (t' := s.toks) (ch := [e,it]) hf fun b o hb q => eb b o (fun z => hb (by simp [z])) q⟩
 self := fun _ _ _ _ _ st h => let ⟨_,he⟩ := st.1; wpAny_pyIter_enum he h
def xB (K : A0) (ta : TA) : TI := fun σ H R => ta σ H fun vs H1 => ∃ l : Addr,vs = [.ref l] /\ (∃ xs,bh K H1 l xs) /\ R (xA K l) H1
theorem boot_enumerate : bootBuiltins "enumerate" = some (.type "enumerate") := by kernel_rfl
theorem tH {X : Cx} {a : Expr} {ta : TA} {elts : List Expr} {k : Nat} {tp p pos : Pos} (hg : Gl X "enumerate") (hm : X.mg "enumerate" = none) (ha : PA X [a] ta) (hs : starEach [a] X.env = [(false,eval a X.env)] := by rfl) : PI X (.Tuple elts k tp) (.Call (.Name "enumerate" p) [a] [] pos) (xB X.K ta) := by
 intro pins s σ H R I h
 refine Call_ (fE I hg hm boot_enumerate (BF (bw (ha pos pins s σ H _ I h) fun us s1 ⟨vs,H1,I1,r1,q1⟩ => ?_) hs rfl))
 obtain ⟨l,e,⟨xs,hq⟩,q⟩ := q1
 subst e
 cases r1 with
 | cons r rr =>
  cases rr
  cases r
  obtain ⟨its,rv,p1,hz⟩ := I1.list hq
  refine call_enumerate_list p1.isList fun h' he hit hsz hk => ?_
  refine wpAny_pyIter_enum (s := { s1 with heap := h' }) he ?_
  have I2 : av X pins σ H1 { s1 with heap := h' } := I1.kept (t' := s1.toks) hk
  refine ⟨s1.heap.objs.size + 1,[s1.heap.objs.size + 1,s1.heap.objs.size],_,_,H1,rfl,I2,pV l _ _ (Nat.succ_ne_self _),⟨⟨_,by simpa using he⟩,hit⟩,fun b hb => ?_,q⟩
  have bl : s1.heap.objs.size <= b := by
   rcases AB.mp hb with z | z
   ·rw [z]; exact Nat.le_succ _
   ·rw [A3.mp z]; exact A4 _
  exact I1.fpOk bl (I1.hok.fresh bl)
theorem rL {K : A0} {a : Addr} {xs : List V} {g : TG} {tb : TS} {D : Ends} {σ : St} {H : Hp} (Pv : Nat -> St -> Hp -> Prop) (h0 : Pv 0 σ H) (hl : ∀ i σ H,i <= xs.length -> Pv i σ H -> bh K H a xs)
  (hs : ∀ i x σ H (T : Addr),xs[i]? = some x -> Pv i σ H -> H T = none -> g (.ref T) σ (aq H T (.tup [.int i,x])) fun σ2 H2 => tb { D with nx := Pv (i + 1),ct := Pv (i + 1),bk := D.nx } σ2 H2) (hd : ∀ σ H,Pv xs.length σ H -> D.nx σ H) :
  ∃ W : Nat -> Nat -> St -> Hp -> Prop,(∃ m,W 0 m σ H) /\ ∀ i m σ H,W i m σ H ->
   ((xA K a).stop i H /\ D.nx σ H) ∨ ((xA K a).go i H /\ ∃ N : St -> Hp -> Prop,(∀ σ' H',N σ' H' -> ∃ m',m' < m /\ W (i + 1) m' σ' H') /\ ∀ x H',(xA K a).yld i H x H' -> g x σ H' fun σ2 H2 => tb { D with nx := N,ct := N,bk := D.nx } σ2 H2) := by
 refine ⟨fun i m σ H => m = xs.length - i /\ i <= xs.length /\ Pv i σ H,⟨xs.length,by simp,AZ _,h0⟩,?_⟩
 rintro i m σ H ⟨rfl,hi,p⟩
 have q := hl i σ H hi p
 by_cases hlt : i < xs.length
 ·refine .inr ⟨⟨xs,xs[i],q,by simp [hlt]⟩,Pv (i + 1),fun σ' H' p' => ⟨xs.length - (i + 1),by omega,rfl,hlt,p'⟩,fun x H' y => ?_⟩
  obtain ⟨T,z,rfl,nT,hz,rfl⟩ := y
  exact hs i z σ H T (hz xs q) p nT
 ·have e : i = xs.length := by omega
  subst e
  exact .inl ⟨⟨xs,q,A4 _⟩,hd σ H p⟩
open XH
section
variable {X : Cx} {a b c d : Expr} {ta tb tc td : TE} {pos : Pos}
end
open Sw So Hm
section
variable {prog : Program} {w : World} {A : Around} {E : Value -> Shared -> Prop} {s : Shared}
end
section
variable {X : Cx} {scope : Scope} {cl : List (Str × Addr)} {own : Str} {ys : List Str} {js : List Nat} {elt iter : Expr} {px pos : Pos} {wi : TI} {te : TE}
end
theorem rM {X : Cx} (hu : X.A.units < cLine) : gq X (compareOp .NotEq) (fun x y H Q => ∃ a b zs,x = .ref a /\ y = .ref b /\ bh X.K H a zs /\ bh X.K H b [] /\ Q (.bl (!zs.isEmpty)) H) := by
 intro pins s σ H x y v u Q I rx ry h
 obtain ⟨a,b,zs,rfl,rfl,h1,h2,hq⟩ := h
 cases rx
 cases ry
 obtain ⟨i1,r1,p1,_⟩ := I.list h1
 obtain ⟨i2,r2,p2,_⟩ := I.list h2
 cases r2
 cases zs with
 | nil =>
  cases r1
  refine SeqAt.RcNeAt.lists (e := fun _ => true) p1.isList p2.isList rfl hu (fun j g1 g2 => absurd g1 (by simp)) _ _ _ _ ?_
  exact ⟨.bl false,H,I,by show Value.bool _ = Value.bool _; simp,hq⟩
 | cons z zs =>
  cases r1 with
  | cons r rr =>
   refine SeqAt.RcNeAt.lists_lengths p1.isList p2.isList (by simp) hu _ _ _ _ ?_
   exact ⟨.bl true,H,I,rfl,hq⟩
theorem ay.sqt {K : A0} {H H' : Hp} {a : Addr} {xs : List V} (e : ay H H') (h : cu K H a xs) : cu K H' a xs := by
 rcases h with (h | ⟨o,h⟩) | h
 ·exact .inl (.inl (e _ _ h))
 ·exact .inl (.inr ⟨o,e _ _ h⟩)
 ·exact .inr h
theorem lZ {K : A0} {a : Addr} {xs : List V} {js : List Nat} {tc : TT} {te : TE} {σ : L2.St} {H1 : Hp} {Q : VK} (hS : cu K H1 a xs) (hz : xs.length <= sizeLine)
  (step : ∀ x ∈ xs,∀ H3,ay H1 H3 -> ∀ R : Bool -> Hp -> Prop,R false H3 -> tc (some x :: bP js σ) H3 R)
  (fin : ∀ p H',ay H1 H' -> H' p = some (.lst []) -> Q (.ref p) H') : iQ js tc te σ Q (y6 K a) H1 := by
 intro p hp
 refine ⟨fun i m ys H2 => i <= xs.length /\ m = xs.length - i /\ ys = [] /\ H2 = aq H1 p (.lst []),⟨xs.length,AZ _,rfl,rfl,rfl⟩,?_⟩
 rintro i m ys H2 ⟨hi,rfl,rfl,rfl⟩
 have g := Sw.aj hp (.lst [])
 have S2 := g.sqt hS
 refine ⟨ac,?_⟩
 by_cases hin : i < xs.length
 ·refine .inr ⟨⟨xs,xs[i],S2,A2 hin⟩,(by show 0 < sizeLine; decide),fun x H3 hy => ?_⟩
  obtain ⟨rfl,hx⟩ := hy
  have ex := hx xs S2
  exact step x (A8 ex) _ g _ (bS ⟨xs.length - (i + 1),by omega,hin,rfl,rfl,rfl⟩)
 ·have e2 : i = xs.length := by omega
  subst e2
  exact .inl ⟨⟨xs,S2,A4 _⟩,fin p _ g ac⟩
end L2
namespace Sw
open PySem L2 XH Hm
section
variable {X : Cx} {k j : Nat} {f C : Addr} {ps : List Str} {sp : Sp} {dvs : List V} {x m : Str} {p pos apos : Pos} {e o : Expr} {es : List Expr} {ta tb : TE} {t : TA} {E : L2.St -> XK}
end
end Sw
namespace L2
open PySem PySem.Spec PyProof.Rows XH Sw Hm
end L2
namespace Sw
open PySem L2 XH Hm
end Sw
namespace L2
open PySem PySem.Spec PyProof.Rows XH
end L2
namespace Sw
open PySem L2 XH Hm
end Sw
namespace L2
open PySem PySem.Spec PyProof.Rows XH
section
variable {X : Cx} {scope : Scope} {cl : List (Str × Addr)} {os : List Str} {ys : List Str} {js : List Nat} {fp : List Addr} {pins : List (Addr × Obj)} {σ : St} {H : Hp} {s s4 : Shared}
end
section
variable {X : Cx} {scope : Scope} {cl : List (Str × Addr)} {os : List Str} {ys : List Str} {js : List Nat} {elt iter tg : Expr} {px pos : Pos} {wi : TI} {te : TE} {g : TG}
end
end L2
namespace Sw
open PySem L2 XH
end Sw
namespace L2
open PySem PySem.Spec PyProof.Rows XH
section
variable {X : Cx} {scope : Scope} {cl : List (Str × Addr)} {os : List Str} {ys : List Str} {js : List Nat} {elt iter tg : Expr} {px pos : Pos} {wi : TI} {te : TE} {g : TG}
end
section
variable {X : Cx}
end
def kG (R : V -> V -> Prop) : List V -> List V -> Prop
 | [],[] => True
 | x :: xs,y :: ys => R x y /\ kG R xs ys
 | _,_ => False
theorem kG.len {R : V -> V -> Prop} : ∀ {xs ys : List V},kG R xs ys -> xs.length = ys.length
 | [],[],_ => rfl
 | _ :: _,_ :: _,h => by simp [kG.len h.2]
 | [],_ :: _,h => h.elim
 | _ :: _,[],h => h.elim
def vX (K : A0) (H : Hp) : Nat -> V -> V -> Prop
 | 0,x,y => x = y /\ zB x
 | n + 1,x,y => vX K H n x y ∨ ∃ a b xs ys,x = .ref a /\ y = .ref b /\ ((cu K H a xs /\ cu K H b ys) ∨ (bh K H a xs /\ bh K H b ys)) /\ kG (vX K H n) xs ys
theorem iq {A : Around} {s : Shared} {R : V -> V -> Prop} (hR : ∀ x y u w,R x y -> RelV x u -> RelV y w -> SeqAt.EqAt A s u w true) : ∀ {xs ys : List V} {us ws : List Value},kG R xs ys -> aM xs us -> aM ys ws -> ∀ j (h1 : j < us.length) (h2 : j < ws.length),SeqAt.EqAt A s us[j] ws[j] true
 | [],[],_,_,_,.nil,.nil,j,h1,_ => absurd h1 (by simp)
 | _ :: _,_ :: _,_,_,h,.cons r1 _,.cons r2 _,0,_,_ => hR _ _ _ _ h.1 r1 r2
 | _ :: _,_ :: _,_,_,h,.cons _ t1,.cons _ t2,j + 1,h1,h2 => iq hR h.2 t1 t2 j (by simpa using h1) (by simpa using h2)
theorem m6 {X : Cx} {pins : List (Addr × Obj)} {σ : St} {H : Hp} {s : Shared} (I : av X pins σ H s) : ∀ (n : Nat) (A : Around) (x y : V) (u w : Value),A.units + n < cLine -> vX X.K H n x y -> RelV x u -> RelV y w -> SeqAt.EqAt A s u w true
 | 0,A,x,y,u,w,_,h,r1,r2 => by
  obtain ⟨rfl,hs⟩ := h
  exact qX hs r1 r2
 | n + 1,A,x,y,u,w,hu,h,r1,r2 => by
  rcases h with h | ⟨a,b,xs,ys,rfl,rfl,hq,hA⟩
  ·exact m6 I n A x y u w (by omega) h r1 r2
  cases r1
  cases r2
  by_cases e : a = b
  ·subst e
   exact SeqAt.EqAt.same _
  refine SeqAt.EqAt.of_refs e ?_
  have ih := fun x y u w => m6 I n A.in1 x y u w (by show A.units + 1 + n < _; omega)
  rcases hq with ⟨h1,h2⟩ | ⟨h1,h2⟩
  ·obtain ⟨i1,v1,p1,_⟩ := I.tuple h1
   obtain ⟨i2,v2,p2,_⟩ := I.tuple h2
   have k := SeqAt.RcAt.tuples (A := A) (e := fun _ => true) p1 p2 (by omega) fun j g1 g2 => iq (A := A.in1) (s := s) ih hA v1 v2 j (by simpa using g1) (by simpa using g2)
   have e1 : ∀ m,((List.range m).all fun _ => true) = true := fun m => by simp
   rw [e1] at k
   simpa [<- v1.length,<- v2.length,hA.len] using k
  ·obtain ⟨i1,v1,p1,_⟩ := I.list h1
   obtain ⟨i2,v2,p2,_⟩ := I.list h2
   have k := SeqAt.RcAt.lists (A := A) (e := fun _ => true) p1.isList p2.isList (by simp [<- v1.length,<- v2.length,hA.len]) (by omega) fun j g1 g2 => iq (A := A.in1) (s := s) ih hA v1 v2 j (by simpa using g1) (by simpa using g2)
   have e1 : ∀ m,((List.range m).all fun _ => true) = true := fun m => by simp
   rw [e1] at k
   exact k
end L2
namespace Sw
open PySem L2 XH
end Sw
namespace L2
open PySem PySem.Spec PyProof.Rows XH Sw So
theorem tI {X : Cx} (n : Nat) (hu : X.A.units + (n + 1) < cLine) : gq X (compareOp .Eq) (fun x y H Q => ∃ a b xs ys,x = .ref a /\ y = .ref b /\ cu X.K H a xs /\ cu X.K H b ys /\ kG (vX X.K H n) xs ys /\ Q (.bl true) H) := by
 intro pins s σ H x y v u Q I rx ry h
 obtain ⟨a,b,xs,ys,rfl,rfl,h1,h2,hA,hq⟩ := h
 cases rx
 cases ry
 obtain ⟨i1,v1,p1,_⟩ := I.tuple h1
 obtain ⟨i2,v2,p2,_⟩ := I.tuple h2
 refine SeqAt.eq_tupleAt (e := fun _ => true) p1 p2 (by omega) (fun j g1 g2 => ?_) ?_
 ·exact iq (A := X.A.in1) (s := s) (fun x y u w => m6 I n X.A.in1 x y u w (by show X.A.units + 1 + n < _; omega)) hA v1 v2 j (by simpa using g1) (by simpa using g2)
 ·exact ⟨.bl true,H,I,by show Value.bool _ = Value.bool _; simp [<- v1.length,<- v2.length,hA.len],hq⟩
end L2
namespace Sw
open PySem L2 XH Hm
end Sw
namespace L2
open PySem PySem.Spec PyProof.Rows XH Sw Hm
end L2
namespace Sw
open PySem L2 XH Hm
theorem dP {α : Type} {f : α -> V} {xs : List α} {i : Nat} {x : α} (h : xs[i]? = some x) : (xs.map f)[i]? = some (f x) := by rw [AK,h]; rfl
theorem oA {R : V -> V -> Prop} : ∀ {xs ys : List V},xs.length = ys.length -> (∀ (i : Nat) (x y : V),xs[i]? = some x -> ys[i]? = some y -> R x y) -> kG R xs ys
 | [],[],_,_ => trivial
 | x :: xs,y :: ys,hl,h => ⟨h 0 x y rfl rfl,oA (by simpa using hl) fun i a b e1 e2 => h (i + 1) a b (by simpa using e1) (by simpa using e2)⟩
 | [],_ :: _,hl,_ => by simp at hl
 | _ :: _,[],hl,_ => by simp at hl
end Sw
namespace L2
open PySem PySem.Spec PyProof.Rows XH Sw Hm
end L2
namespace Sw
open PySem L2 XH Hm
end Sw
namespace L2
open PySem PySem.Spec PyProof.Rows XH Sw Hm
section
variable {X : Cx} {pins : List (Addr × Obj)} {σ : St} {H : Hp} {s : Shared}
end
end L2
namespace Sw
open PySem L2 XH Hm
end Sw
namespace L2
open PySem PySem.Spec PyProof.Rows XH Sw Hm
end L2
namespace Sw
open PySem L2 XH Hm
end Sw
namespace Wo
open PySem Hm So
end Wo
namespace L2
open PySem PySem.Spec PyProof.Rows XH Hm Wo
end L2
namespace Sw
open PySem L2 XH Hm Wo So PyProof.Rows
def fz (vw : Str -> Str -> Int × Int) (c : List Str) : Nat -> Int × Int
 | 0 => (1,1)
 | n + 1 => ((fz vw c n).1 * (vw (c.getD n "") (c.getD (n + 1) "")).1,(fz vw c n).2 * (vw (c.getD n "") (c.getD (n + 1) "")).2)
theorem oB (vw : Str -> Str -> Int × Int) (c : List Str) (x : Str) : ∀ n,n < c.length -> fz vw (c ++ [x]) n = fz vw c n
 | 0,_ => rfl
 | n + 1,h => by
  have ih := oB vw c x n (by omega)
  have e1 : (c ++ [x]).getD n "" = c.getD n "" := by rw [AO,AO,AA (by omega)]
  have e2 : (c ++ [x]).getD (n + 1) "" = c.getD (n + 1) "" := by rw [AO,AO,AA h]
  unfold fz
  rw [ih,e1,e2]
theorem rN (vw : Str -> Str -> Int × Int) (c : List Str) (x : Str) (n : c ≠ []) : fz vw (c ++ [x]) c.length = ((fz vw c (c.length - 1)).1 * (vw (az c) x).1,(fz vw c (c.length - 1)).2 * (vw (az c) x).2) := by
 obtain ⟨a,y,rfl⟩ : ∃ a y,c = a ++ [y] := ⟨c.dropLast,c.getLast n,(List.dropLast_concat_getLast n).symm⟩
 have l : (a ++ [y]).length = a.length + 1 := by rw [A7]; rfl
 rw [bz,l,Nat.add_sub_cancel]
 show ((fz vw (a ++ [y] ++ [x]) a.length).1 * _,(fz vw (a ++ [y] ++ [x]) a.length).2 * _) = _
 rw [oB vw (a ++ [y]) x a.length (by omega)]
 have e1 : (a ++ [y] ++ [x]).getD a.length "" = y := by rw [AO,List.append_assoc,AT (A4 _),Nat.sub_self]; rfl
 have e2 : (a ++ [y] ++ [x]).getD (a.length + 1) "" = x := by rw [AO,AT (by omega),l,Nat.sub_self]; rfl
 rw [e1,e2]
def wn (vw : Str -> Str -> Int × Int) (c : List Str) (p q : Int) : Prop := c ≠ [] /\ p * (fz vw c (c.length - 1)).2 = (fz vw c (c.length - 1)).1 * q /\ bI p q = 1 /\ 0 < q
theorem vY (vw : Str -> Str -> Int × Int) (x : Str) : wn vw [x] 1 1 := ⟨nofun,rfl,by decide,by decide⟩
theorem tJ {vw : Str -> Str -> Int × Int} {c : List Str} {p q r s : Int} {x : Str} (h : wn vw c p q) (f : Fr r s (p * (vw (az c) x).1) (q * (vw (az c) x).2)) : wn vw (c ++ [x]) r s := by
 obtain ⟨n,e,_,q0⟩ := h
 refine ⟨by simp,?_,f.low,f.pos⟩
 rw [A7,AF,Nat.add_sub_cancel,rN vw c x n]
 have e2 := f.same
 generalize (fz vw c (c.length - 1)).1 = T at *
 generalize (fz vw c (c.length - 1)).2 = B at *
 generalize (vw (az c) x).1 = u at *
 generalize (vw (az c) x).2 = v at *
 show r * (B * v) = (T * u) * s
 refine qK (k := q) ?_ (by omega)
 grind
theorem tK {vw : Str -> Str -> Int × Int} {c : List Str} {p q p' q' : Int} (h : wn vw c p q) (f : Fr p' q' (fz vw c (c.length - 1)).1 (fz vw c (c.length - 1)).2) (B0 : 0 < (fz vw c (c.length - 1)).2) : p = p' /\ q = q' := by
 obtain ⟨_,e,g,q0⟩ := h
 refine mI ⟨q0,g⟩ ⟨f.pos,f.low⟩ (qK (k := (fz vw c (c.length - 1)).2) ?_ (by omega))
 have e2 := f.same
 generalize (fz vw c (c.length - 1)).1 = T at *
 generalize (fz vw c (c.length - 1)).2 = B at *
 grind
theorem BD.mono {H H1 : Hp} {d : Addr} {n m : Nat} {dk : List (Key × V)} {g : Str -> Str -> Option Addr} (h : BD H H1 d n dk g) (l : n <= m) : BD H H1 d m dk g := ⟨h.at_,AR h.few l,h.inj,fun x => by
 rcases h.ex x with z | ⟨a,row,q1,q2,q3,q4,q5,q6,q7⟩
 ·exact .inl z
 ·exact .inr ⟨a,row,q1,q2,q3,q4,q5,AR q6 l,q7⟩⟩
theorem BD.new {H H1 : Hp} {d pn : Addr} {n : Nat} {dk : List (Key × V)} {g : Str -> Str -> Option Addr} (h : BD H H1 d n dk g) (hn : H1 pn = none) (x : Str) : aE dk (.inr x) ≠ some (.ref pn) := fun z => by
 rcases h.ex x with ⟨w,_⟩ | ⟨a,row,q1,q2,_⟩
 ·rw [w] at z; cases z
 ·rw [z] at q1; cases q1; rw [hn] at q2; cases q2
def hF (F : List Addr) : Hp := fun a => if a ∈ F then none else some (.lst [])
theorem eM {F : List Addr} {a : Addr} : hF F a = none ↔ a ∈ F := by
 unfold hF
 by_cases h : a ∈ F
 ·simp [h]
 ·simp [h]
theorem tL {F F' : List Addr} {H1 : Hp} {d : Addr} {n : Nat} {dk : List (Key × V)} {g : Str -> Str -> Option Addr} (h : BD (hF F) H1 d n dk g) (s : ∀ a ∈ F,a ∈ F') : BD (hF F') H1 d n dk g :=
 ⟨h.at_,h.few,h.inj,fun x => by
  rcases h.ex x with z | ⟨a,row,q1,q2,q3,q4⟩
  ·exact .inl z
  ·exact .inr ⟨a,row,q1,q2,eM.mpr (s a (eM.mp q3)),q4⟩⟩
theorem kH {H0 H1 : Hp} {d l : Addr} {n : Nat} {dk : List (Key × V)} {g : Str -> Str -> Option Addr} (h : BD H0 H1 d n dk g) (ld : l ≠ d) (li : ∀ y,aE dk (.inr y) ≠ some (.ref l)) (u : HO) : BD H0 (aq H1 l u) d n dk g :=
 ⟨by rw [ae (fun z => ld z.symm)]; exact h.at_,h.few,h.inj,fun x => by
  rcases h.ex x with z | ⟨a,row,q1,q2,q3⟩
  ·exact .inl z
  ·exact .inr ⟨a,row,q1,by rw [ae (fun z => li x (by rw [<- z]; exact q1))]; exact q2,q3⟩⟩
theorem tM {H0 H1 H2 : Hp} {d : Addr} {n : Nat} {dk : List (Key × V)} {g : Str -> Str -> Option Addr} {F0 : List Addr} (h : BD H0 H1 d n dk g) (k : KF F0 H1 H2) (hd : d ∉ F0) (hi : ∀ y a,aE dk (.inr y) = some (.ref a) -> a ∉ F0) : BD H0 H2 d n dk g :=
 ⟨k _ _ hd h.at_,h.few,h.inj,fun x => by
  rcases h.ex x with z | ⟨a,row,q1,q2,q3⟩
  ·exact .inl z
  ·exact .inr ⟨a,row,q1,k _ _ (hi x a q1) q2,q3⟩⟩
def yJ : List Str := ["part","stand","bar","allow","known","held","barred","stand_in","learn"]
structure LB (C : Addr) (F : List Addr) (H : Hp) (x : Addr) (rows : List (Str × List Str)) (m : Nat) (g : Str -> Str -> Option Addr) (bs ns : List Str) : Prop where
 ex : ∃ (F0 : List Addr) (dx s b : Addr) (fs : List (Str × V)) (dk : List (Key × V)),LA C F0 H x rows ns /\ H x = some (.ins C dx fs) /\ fs.lookup ("stands" : Str) = some (.ref s) /\ fs.lookup ("bars" : Str) = some (.ref b) /\ BD (hF F) H s m dk g /\ H b = some (.dK (aO bs (.bl true))) /\
  s ≠ b /\ s ∉ F0 /\ b ∉ F0 /\ (∀ y a,aE dk (.inr y) = some (.ref a) -> a ∉ F0 /\ a ≠ b) /\ (∀ a ∈ F0,a ∈ F) /\ s ∈ F /\ b ∈ F /\ (∀ a ∈ F,∃ kv,H a = some (.dK kv)) /\ ∀ m ∈ yJ,fs.lookup m = none
section
variable {C : Addr} {F : List Addr} {H H' : Hp} {x : Addr} {rows : List (Str × List Str)} {m : Nat} {g : Str -> Str -> Option Addr} {bs ns : List Str}
theorem LB.same (h : LB C F H x rows m g bs ns) (e : ay H H') : LB C F H' x rows m g bs ns := by
 obtain ⟨F0,dx,s,b,fs,dk,la,ex,es,eb,bd,hb,q1,q2,q3,q4,q5,q6,q7,q8,q9⟩ := h.ex
 exact ⟨F0,dx,s,b,fs,dk,la.same e,e _ _ ex,es,eb,bd.same e,e _ _ hb,q1,q2,q3,q4,q5,q6,q7,fun a ha => by obtain ⟨kv,z⟩ := q8 a ha; exact ⟨kv,e _ _ z⟩,q9⟩
theorem LB.not (h : LB C F H x rows m g bs ns) {a : Addr} {o : HO} (e : H a = some o) (k : ∀ kv,o ≠ .dK kv) : a ∉ F := fun z => by
 obtain ⟨F0,dx,s,b,fs,dk,la,ex,es,eb,bd,hb,q1,q2,q3,q4,q5,q6,q7,q8,q9⟩ := h.ex
 obtain ⟨kv,e'⟩ := q8 a z
 rw [e] at e'
 exact k kv (AN e')
theorem LB.free (h : LB C F H x rows m g bs ns) {a : Addr} (e : H a = none) : a ∉ F := fun z => by
 obtain ⟨F0,dx,s,b,fs,dk,la,ex,es,eb,bd,hb,q1,q2,q3,q4,q5,q6,q7,q8,q9⟩ := h.ex
 obtain ⟨kv,e'⟩ := q8 a z
 rw [e] at e'
 cases e'
theorem LB.la (h : LB C F H x rows m g bs ns) : ∃ F0,LA C F0 H x rows ns /\ (∀ a ∈ F0,a ∈ F) /\ ∀ H' rows' ms,LA C F0 H' x rows' ms -> KF F0 H H' -> LB C F H' x rows' m g bs ms := by
 obtain ⟨F0,dx,s,b,fs,dk,la,ex,es,eb,bd,hb,q1,q2,q3,q4,q5,q6,q7,q8,q9⟩ := h.ex
 refine ⟨F0,la,q5,fun H' rows' ms la' k => ?_⟩
 have xn : x ∉ F0 := la.not ex (fun _ z => nomatch z)
 refine ⟨F0,dx,s,b,fs,dk,la',k _ _ xn ex,es,eb,tM bd k q2 fun y a e => (q4 y a e).1,k _ _ q3 hb,q1,q2,q3,q4,q5,q6,q7,fun a ha => ?_,q9⟩
 by_cases c : a ∈ F0
 ·exact la'.dict c
 ·obtain ⟨kv,e⟩ := q8 a ha
  exact ⟨kv,k _ _ c e⟩
theorem LB.at_ (h : LB C F H x rows m g bs ns) : ∃ (dx s b : Addr) (fs : List (Str × V)) (dk : List (Key × V)),H x = some (.ins C dx fs) /\ fs.lookup ("stands" : Str) = some (.ref s) /\ fs.lookup ("bars" : Str) = some (.ref b) /\ BD (hF F) H s m dk g /\ H b = some (.dK (aO bs (.bl true))) /\ (∀ m ∈ yJ,fs.lookup m = none) /\ s ∈ F /\ b ∈ F /\
  (∀ ms,LB C F (aq H b (.dK (aO ms (.bl true)))) x rows m g ms ns /\ KF F H (aq H b (.dK (aO ms (.bl true))))) := by
 obtain ⟨F0,dx,s,b,fs,dk,la,ex,es,eb,bd,hb,q1,q2,q3,q4,q5,q6,q7,q8,q9⟩ := h.ex
 refine ⟨dx,s,b,fs,dk,ex,es,eb,bd,hb,q9,q6,q7,fun ms => ⟨⟨F0,dx,s,b,fs,dk,?_,?_,es,eb,kH bd (fun z => q1 z.symm) (fun y e => (q4 y b e).2 rfl) _,ac,q1,q2,q3,q4,q5,q6,q7,fun a ha => ?_,q9⟩,KF.put _ q7⟩⟩
 ·obtain ⟨dx',p,n,fs',rs,a,b',c,d,e,f,i,j,k⟩ := la.ex
  subst i
  have bp : p ≠ b := fun z => q3 (by simp [z])
  have bn : n ≠ b := fun z => q3 (by simp [z])
  have br : b ∉ rs := fun z => q3 (by simp [z])
  have xb : x ≠ b := fun z => by rw [z,hb] at a; cases a
  exact ⟨dx',p,n,fs',rs,by rw [ae xb]; exact a,b',c,d.other br,by rw [ae bp]; exact e,by rw [ae bn]; exact f,rfl,j,k⟩
 ·rw [ae (fun z => by rw [z,hb] at ex; cases ex)]
  exact ex
 ·by_cases c : a = b
  ·exact ⟨_,by rw [c]; exact ac⟩
  ·obtain ⟨kv,e⟩ := q8 a ha
   exact ⟨kv,by rw [ae c]; exact e⟩
theorem LB.stands (h : LB C F H x rows m g bs ns) {s r : Addr} {dx : Addr} {fs : List (Str × V)} {u : HO} {m' : Nat} {dk' : List (Key × V)} {g' : Str -> Str -> Option Addr} {F' : List Addr} (ex : H x = some (.ins C dx fs)) (es : fs.lookup ("stands" : Str) = some (.ref s)) (kF : ∀ a ∈ F,a ∈ F') (K2 : ∀ a o,a ∉ F' -> H a = some o -> H' a = some o)
  (keep : ∀ a o,H a = some o -> a ≠ s -> (∀ dk,H s = some (.dK dk) -> ∀ y,aE dk (.inr y) ≠ some (.ref a)) -> H' a = some o) (bd : BD (hF F') H' s m' dk' g') (inn : ∀ dk,H s = some (.dK dk) -> ∀ y a,aE dk' (.inr y) = some (.ref a) -> aE dk (.inr y) = some (.ref a) ∨ H a = none) (dd : ∀ a ∈ F',∃ kv,H' a = some (.dK kv)) : LB C F' H' x rows m' g' bs ns := by
 obtain ⟨F0,dx',s',b,fs',dk,la,ex',es',eb,bd0,hb,q1,q2,q3,q4,q5,q6,q7,q8,q9⟩ := h.ex
 rw [ex'] at ex
 cases ex
 rw [es'] at es
 cases es
 have out : ∀ a,a ∈ F0 -> a ≠ s /\ (∀ dk,H s = some (.dK dk) -> ∀ y,aE dk (.inr y) ≠ some (.ref a)) := fun a ha => ⟨fun z => q2 (by rw [<- z]; exact ha),fun dk2 e y z => by
  rw [bd0.at_] at e
  cases e
  exact (q4 y a z).1 ha⟩
 have bo : b ≠ s /\ (∀ dk,H s = some (.dK dk) -> ∀ y,aE dk (.inr y) ≠ some (.ref b)) := ⟨fun z => q1 z.symm,fun dk2 e y z => by
  rw [bd0.at_] at e
  cases e
  exact (q4 y b z).2 rfl⟩
 have kp : ∀ a ∈ F0,∀ o,H a = some o -> H' a = some o := fun a ha o e => keep a o e (out a ha).1 (out a ha).2
 have xk : H' x = some (.ins C dx fs) := keep x _ ex' (fun z => by rw [z,bd0.at_] at ex'; cases ex') fun dk2 e y z => by
  rw [bd0.at_] at e
  cases e
  rcases bd0.ex y with ⟨z1,_⟩ | ⟨a,row,z1,z2,_⟩
  ·rw [z] at z1; cases z1
  ·rw [z] at z1
   cases z1
   rw [ex'] at z2
   cases z2
 refine ⟨F0,dx,s,b,fs,dk',?_,xk,es',eb,bd,keep b _ hb bo.1 bo.2,q1,q2,q3,fun y a e => ?_,fun a ha => kF a (q5 a ha),kF s q6,kF b q7,dd,q9⟩
 ·obtain ⟨dx',p,n,fs',rs,a,b',c,d,e,f,i,j,k⟩ := la.ex
  subst i
  rw [ex'] at a
  cases a
  refine ⟨dx,p,n,fs,rs,xk,b',c,?_,kp p (by simp) _ e,kp n (by simp) _ f,rfl,j,k⟩
  clear f e c b' k
  have : ∀ {rows : List (Str × List Str)} {rs : List Addr},bv H rows rs -> (∀ a ∈ rs,∀ o,H a = some o -> H' a = some o) -> bv H' rows rs := fun {rows} => by
   induction rows with
   | nil => intro rs d _; cases rs with | nil => exact d | cons _ _ => exact d.elim
   | cons r1 rows ih =>
    intro rs d kk
    cases rs with
    | nil => exact d.elim
    | cons a rs => exact ⟨kk a (by simp) _ d.1,ih d.2 fun b hb => kk b (by simp [hb])⟩
  exact this d fun a ha => kp a (by simp [ha])
 ·rcases inn dk bd0.at_ y a e with z | z
  ·exact q4 y a z
  ·refine ⟨fun w => ?_,fun w => ?_⟩
   ·obtain ⟨kv,e'⟩ := la.dict w
    rw [z] at e'
    cases e'
   ·rw [w,hb] at z
    cases z
end
end Sw
namespace L2
open PySem PySem.Spec PyProof.Rows XH
section
variable {prog : Program} {w : World} {A : Around} {E : Value -> Shared -> Prop} {s : Shared}
end
section
variable {prog : Program} {w : World} {A : Around} {R : Result -> Shared -> Prop} {I : Addr} {fp wr : List Addr} {G : Array GenState -> Array GenState -> Prop} {n : Nat} {P : Nat -> Value -> Prop} {St : Nat -> Shared -> Prop}
end
section
variable {prog : Program} {w : World} {A : Around} {E : Value -> Shared -> Prop} {s : Shared}
end
open Sw So
section
variable {prog : Program} {w : World} {A : Around} {E : Value -> Shared -> Prop} {s : Shared}
end
section
variable {prog : Program} {w : World} {A : Around} {E : Value -> Shared -> Prop} {s : Shared}
end
section
variable {X : Cx} {e : Expr} {te : TE} {p1 p2 pos pos2 : Pos}
end
theorem hV {X : Cx} (hc : X.calm = true) : cC X (.builtin "sorted") (fun xs H Q => ∃ d ks kvs,xs = [.ref d] /\ H d = some (.dK kvs) /\ kvs.map (·.1) = ks.map (fun y => (.inr y : Key)) /\ ks.Nodup /\ ks.length < 64 /\
  ∀ p ys,H p = none -> ys.Perm ks -> sortedS ys = true -> Q (.ref p) (aq H p (.lst (ys.map V.str)))) := by
 intro pins s σ H xs us Q I r h
 obtain ⟨d,ks,kvs,rfl,hk,ek,nd,l64,q⟩ := h
 obtain ⟨u,rfl,ru⟩ := vals1 r
 cases ru
 obtain ⟨z,hS,ws,rel,D⟩ := iF I.hok hk
 obtain ⟨ep,hat⟩ := D.dictAt
 have lw : ws.length = ks.length := by
  rw [<- rel.length]
  have := congrArg List.length ek
  simpa using this
 refine Calls.call_function_entry kind_sorted plain_sorted entry_sorted (args_sorted1 _) ?_
 unfold Builtin.«sorted»
 refine wpAny_bind (m := checkCount "sorted" 1 1 _) (wpAny_pure ?_)
 refine wpAny_bind (lS (A := X.A.in1) (PySem.W.kdl_dict (knd := aU X.prog X.w) (kvs := ws) (ep := ep) hS) (I.ok.hd hc) hat (by rw [<- rel.length]; exact z) fun h' tk acc hlt hkp hacc => ?_)
 have la : acc.toList.length = ks.length := by rw [B9,hacc.1,lw]
 have SA : StrsAre acc.toList ks := oo la fun j v hv => by
  obtain ⟨k,x,e1,e2⟩ := hacc.2 j v (by rw [<- BA]; exact hv)
  obtain ⟨⟨k',v'⟩,e3,rfl,_⟩ := jI rel e1
  have e4 : (kvs.map (·.1))[j]? = some k' := by rw [AK,e3]; rfl
  rw [ek,AK] at e4
  cases e5 : ks[j]? with
  | none => rw [e5] at e4; cases e4
  | some y =>
   rw [e5] at e4
   cases e4
   obtain ⟨t,ht⟩ := rh e2
   exact ⟨y,t,rfl,ht⟩
 refine wpAny_bind (wpAny_newList ?_ (by rw [la,<- lw,<- rel.length]; exact z))
 have hoL : (h'.push (seqObj "list" acc.toList.toArray 0)).get? h'.objs.size = some (seqObj "list" acc.toList.toArray 0) := Heap.get?_push_size _ rfl
 refine wpAny_bind (wpAny_holding (wpAny_call_entry slot_list_sort ⟨_,hoL,rfl⟩ entry_list_sort (list_sort_treeK strKind_oneLt hoL SA.keysOf (fun v₁ v₂ rest e => keyKind_strs (by rw [<- e]; exact SA)) (by rw [la]; exact l64) fun st' hp hs => ⟨_,rfl,?_⟩) (args_list_sort _)))
 obtain ⟨ys,h1,h2,h3⟩ := sorted_out_str SA hp hs
 have sl : s.heap.objs.size <= h'.objs.size := Nat.le_of_lt hlt
 refine wpAny_pure ⟨_,rfl,.ref h'.objs.size,_,I.laid (a := h'.objs.size) (o := .lst (ys.map V.str)) (h' := sortedHeap (h'.push (seqObj "list" acc.toList.toArray 0)) h'.objs.size acc.toList ((arrOf st').map (·.2))) (t' := tk) (fun b o eo => ?_) sl ?_,rfl,q _ ys (I.hok.fresh sl) h2 h3⟩
 ·have eo' := hkp b o eo
  have bl := Heap.lt_size eo'
  rw [sortedHeap_old (AD bl) (by rw [size_push']; exact Nat.lt_succ_of_lt bl)]
  exact Heap.get?_push_of_some _ eo'
 ·obtain ⟨e,he⟩ := sortedHeap_at (out := (arrOf st').map (·.2)) hoL
  refine ⟨by rw [A5,h2.length_eq,<- lw,<- rel.length]; exact z,((arrOf st').map (·.2)).toList,e,f7 h1,?_⟩
  rw [Array.toArray_toList]
  exact he
end L2
namespace Sw
open PySem L2 XH Hm
end Sw
namespace L2
open PySem PySem.Spec PyProof.Rows XH Sw Hm
section
variable {K : A0} {β : Type} {a : Addr} {xs : List V} {n : Nat} {js : List Nat} {tc : TT} {te : TE} {σ : L2.St} {H1 : Hp} {Q : VK}
end
end L2
namespace Sw
open PySem L2 XH Hm
def vZ (xs : List V) : Prop := ∀ x ∈ xs,zB x
theorem rO {K : A0} {H : Hp} {xs : List V} (h : vZ xs) : kG (vX K H 0) xs xs := oA rfl fun i x y h1 h2 => by
 rw [h1] at h2
 cases h2
 exact ⟨rfl,h x (A8 h1)⟩
section
variable (C : Addr)
end
end Sw
namespace L2
open PySem PySem.Spec PyProof.Rows XH Sw
end L2
namespace Sw
open PySem L2 XH Hm
end Sw
namespace L2
open PySem PySem.Spec PyProof.Rows XH Sw
end L2
namespace Sw
open PySem L2 XH Hm PySem.NumText
end Sw
namespace L2
open PySem PySem.Spec PyProof.Rows XH Sw
theorem oC : ∀ {xs : List V} {us : List Value},xs.length = us.length -> (∀ (j : Nat) (x : V) (u : Value),xs[j]? = some x -> us[j]? = some u -> RelV x u) -> aM xs us
 | [],[],_,_ => .nil
 | x :: xs,u :: us,h,f => .cons (f 0 x u rfl rfl) (oC (by simpa using h) fun j y w e1 e2 => f (j + 1) y w (by simpa using e1) (by simpa using e2))
 | [],_ :: _,h,_ => by simp at h
 | _ :: _,[],h,_ => by simp at h
theorem m7 {X : Cx} (hc : X.calm = true) : cC X (.type "list") (fun xs H Q => ∃ (d : Addr) (kvs : List (Key × V)),xs = [.ref d] /\ H d = some (.dK kvs) /\ ∀ l,H l = none -> Q (.ref l) (aq H l (.lst (kvs.map fun p => kV p.1)))) := by
 intro pins s σ H xs us Q I r h
 obtain ⟨d,kvs,rfl,hk,q⟩ := h
 obtain ⟨u,rfl,ru⟩ := vals1 r
 cases ru
 obtain ⟨z,hS,ws,rel,D⟩ := iF I.hok hk
 obtain ⟨ep,hat⟩ := D.dictAt
 refine PySem.W.kdl_call (PySem.W.kdl_dict (knd := aU X.prog X.w) (kvs := ws) (ep := ep) hS) (I.ok.hd hc) hat (by rw [<- rel.length]; exact z) fun h' tk acc' c' kp hS' hacc => ?_
 have hv : aM (kvs.map fun p => kV p.1) acc'.toList := oC (by
   have el : acc'.toList.length = acc'.size := by simp
   rw [A5,el,hacc.1,rel.length]) fun j x u e1 e2 => by
  rw [AK] at e1
  obtain ⟨⟨k,v⟩,e3,rfl⟩ := B1.mp e1
  obtain ⟨k',x',e4,e5⟩ := hacc.2 j u (by rw [<- BA]; exact e2)
  obtain ⟨u',e6,_⟩ := ri rel j e3
  rw [e6] at e4
  cases e4
  exact rh e5
 exact ⟨.ref s.heap.objs.size,_,I.laid (t' := tk) kp (A4 _) (show aV X.prog X.w _ h' _ (.lst _) from ⟨by rw [A5]; exact z,acc'.toList,c',hv,by simpa using hS'⟩),rfl,q _ (I.hok.fresh (A4 _))⟩
end L2
namespace Sw
open PySem L2 XH PyProof.Rows Wo Hm
def rP (K : A0) : Sp := fun vs H Q _ => ∃ (d : Addr) (good : Str) (b m : Nat) (vw : Str -> Str -> Int × Int) (g : Str -> Str -> Option Addr) (U : List Str) (Rt : List Str -> Int -> Int -> Prop),vs = [.ref d,.str good] /\ rK K b vw H d g /\
 (∀ x y,kD g x y -> y ∈ U) /\ U.length <= m /\ m <= 60 /\ 1 <= b /\ b * (m + 2) <= 4000 /\ Rt [good] 1 1 /\ (∀ c p q x t r s,Rt c p q -> g (az c) x = some t -> Fr r s (p * (vw (az c) x).1) (q * (vw (az c) x).2) -> Rt (c ++ [x]) r s) /\
 ∀ (l : Addr) (cs : List (List Str)) (H' : Hp),ay H H' -> H l = none -> An K b Rt (fun c => H c = none) H' l cs -> eh (kD g) good cs cs.length (fun _ => False) -> Q (.ref l) H'
theorem iV {p st b n : V} : (f8 p st b n).lookup ("stands" : Str) = some st /\ (f8 p st b n).lookup ("bars" : Str) = some b /\ ∀ m ∈ yJ,(f8 p st b n).lookup m = none := by
 refine ⟨?_,?_,fun m hm => ?_⟩
 ·unfold f8
  rw [aK,if_neg (by decide),aK,if_neg (by decide),aK,if_pos rfl]
 ·unfold f8
  rw [aK,if_neg (by decide),aK,if_pos rfl]
 ·unfold yJ at hm
  simp only [AB,BB,or_false] at hm
  unfold f8
  rcases hm with rfl | rfl | rfl | rfl | rfl | rfl | rfl | rfl | rfl <;> (rw [aK,if_neg (by decide),aK,if_neg (by decide),aK,if_neg (by decide),aK,if_neg (by decide)]; rfl)
theorem v3 {H0 H1 : Hp} {d : Addr} (e : H1 d = some (.dK [])) : BD H0 H1 d 0 [] (fun _ _ => none) := ⟨e,A4 _,fun x x' a h => (by cases h),fun x => .inl ⟨rfl,fun _ => rfl⟩⟩
def gM (bs : List Str) (z : Str) : List Str := bs.filter fun y => decide (y ≠ z)
theorem gO (bs : List Str) (v : V) (z : Str) : gU (aO bs v) (.inr z) = aO (gM bs z) v := by
 unfold gU aO gM
 rw [List.filter_map]
 congr 1
 apply List.filter_congr
 intro y _
 by_cases c : y = z
 ·simp [c]
 ·have : ¬ ((.inr y : Key) = .inr z) := fun e => c (by injection e)
  simp [c]
theorem jR {bs : List Str} {z : Str} (h : z ∉ bs) : gM bs z = bs := by
 unfold gM
 rw [List.filter_eq_self]
 intro y hy
 exact decide_eq_true fun e => h (by rw [<- e]; exact hy)
def m8 (H : Hp) (r : V) (p q : Int) : Prop := (r = .non /\ p = 1 /\ q = 1) ∨ ∃ t,r = .ref t /\ H t = some (.tup [.int p,.int q]) /\ 0 < p /\ qI p q /\ Bd 200 p /\ Bd 200 q
def hW (K : A0) (H : Hp) (r : V) : Prop := r ≠ .non /\ (pH K H r false ∨ ∃ (t : Addr) (p q : Int),r = .ref t /\ H t = some (.tup [.int p,.int q]) /\ pH K H r true /\ p <= 0)
theorem hW.same {K : A0} {H H' : Hp} {r : V} (h : hW K H r) (g : ay H H') : hW K H' r := by
 obtain ⟨n,h | ⟨t,p,q,e,et,f,z⟩⟩ := h
 ·exact ⟨n,.inl (h.same g)⟩
 ·exact ⟨n,.inr ⟨t,p,q,e,g _ _ et,f.same g,z⟩⟩
def kI (g : Str -> Str -> Option Addr) (zg zo : Str) (t : Addr) : Str -> Str -> Option Addr := fun a b => if a = zg /\ b = zo then some t else g a b
section
variable (K : A0) (C cN cS cI : Addr)
def gP : Sp := fun vs H Q _ => ∃ (x dx : Addr),vs = [.ref x] /\ H x = some (.ins C dx []) /\ ∀ H' F,(∀ a o,a ≠ x -> H a = some o -> H' a = some o) -> (∀ a ∈ F,H a = none) -> LB C F H' x [] 0 (fun _ _ => none) [] [] -> Q .non H'
def m9 : Sp := fun vs H Q E => ∃ (x : Addr) (v : V) (F : List Addr) (rows : List (Str × List Str)) (m : Nat) (g : Str -> Str -> Option Addr) (bs ns : List Str),vs = [.ref x,v] /\ LB C F H x rows m g bs ns /\ bs.length <= 200 /\ ns.Nodup /\ ns.length <= 79 /\ (iP v ∨ d8 K H v) /\
 (¬ iP v -> ∀ H',ay H H' -> E (.ref cN) none H') /\
 ∀ z,v = .str z -> Nm z -> ∀ H' ms,KF F H H' -> LB C F H' x rows m g (bU bs z) ms -> ms.Nodup -> (∀ y,y ∈ ms ↔ y ∈ ns ∨ y = z) -> Q .non H'
def iW : Sp := fun vs H Q E => ∃ (x : Addr) (v : V) (F : List Addr) (rows : List (Str × List Str)) (m : Nat) (g : Str -> Str -> Option Addr) (bs ns : List Str),vs = [.ref x,v] /\ LB C F H x rows m g bs ns /\ (iP v ∨ d8 K H v) /\
 (¬ iP v -> ∀ H',ay H H' -> E (.ref cN) none H') /\
 ∀ z,v = .str z -> Nm z -> ∀ H',KF F H H' -> LB C F H' x rows m g (gM bs z) ns -> Q .non H'
def fh : Sp := fun vs H Q E => ∃ (x : Addr) (v : V) (F : List Addr) (rows : List (Str × List Str)) (m : Nat) (g : Str -> Str -> Option Addr) (bs ns : List Str) (ps : List (Str × Str)),vs = [.ref x,v] /\ LB C F H x rows m g bs ns /\ bY rows ps /\ ps.length <= 1000 /\ bs.length <= 10 /\ (iP v ∨ d8 K H v) /\
 (¬ iP v -> ∀ H',ay H H' -> E (.ref cN) none H') /\
 ∀ z,v = .str z -> Nm z -> (∀ (H' : Hp),ay H H' -> (∀ b ∈ bs,¬ Led ps z b) -> Q .non H') /\
  ∀ (l : Addr) (H' : Hp) (c : List Str) (goal : Str),ay H H' -> H' l = some (.lst (c.map V.str)) -> Way ps z goal c -> goal ∈ bs -> Led ps z goal -> (z ∈ bs -> goal = z) -> Q (.ref l) H'
def iX : Sp := fun vs H Q E => ∃ (x : Addr) (v w r : V) (F : List Addr) (rows : List (Str × List Str)) (m : Nat) (g : Str -> Str -> Option Addr) (bs ns : List Str),vs = [.ref x,v,w,r] /\ LB C F H x rows m g bs ns /\ m <= 1000 /\ ns.Nodup /\ ns.length <= 78 /\ (iP v ∨ d8 K H v) /\ (iP w ∨ d8 K H w) /\ ((∃ p q,m8 H r p q) ∨ hW K H r) /\
 (¬ (iP v /\ iP w) -> ∀ H',ay H H' -> E (.ref cN) none H') /\
 ∀ zg zo,v = .str zg -> w = .str zo -> Nm zg -> Nm zo ->
  ((zg = zo ∨ kD g zg zo ∨ hW K H r) -> ∀ H',ay H H' -> E (.ref cS) none H') /\
  (zg ≠ zo -> ¬ kD g zg zo -> ∀ p q,m8 H r p q -> ∀ (F' : List Addr) (H' : Hp) (ms : List Str) (t : Addr),KF F H H' -> FG F F' H -> LB C F' H' x rows (m + 2) (kI g zg zo t) bs ms -> H' t = some (.tup [.int p,.int q]) -> (∀ r',r = .ref r' -> t = r') -> ms.Nodup -> (∀ y,y ∈ ms ↔ y ∈ ns ∨ y = zg ∨ y = zo) -> Q .non H')
def Blk (ps : List (Str × Str)) (bs : List Str) (y : Str) : Prop := ∃ b ∈ bs,Led ps y b
structure nh (K : A0) (H : Hp) (g : Str -> Str -> Option Addr) (vw : Str -> Str -> Int × Int) : Prop where
 fr : ∀ x y t,g x y = some t -> H t = some (.tup [.int (vw x y).1,.int (vw x y).2]) /\ 0 < (vw x y).1 /\ qI (vw x y).1 (vw x y).2 /\ Bd 200 (vw x y).1 /\ Bd 200 (vw x y).2
 nm : ∀ x y t,g x y = some t -> Nm x /\ Nm y
def oE : Sp := fun vs H Q E => ∃ (x : Addr) (v : V) (F : List Addr) (rows : List (Str × List Str)) (m : Nat) (g : Str -> Str -> Option Addr) (bs ns : List Str) (ps : List (Str × Str)) (vw : Str -> Str -> Int × Int) (U : List Str) (Rt : List Str -> Int -> Int -> Prop),vs = [.ref x,v] /\ LB C F H x rows m g bs ns /\ m <= 200 /\ bY rows ps /\ ps.length <= 1000 /\ bs.length <= 10 /\ (iP v ∨ d8 K H v) /\ nh K H g vw /\ (∀ a b,kD g a b -> b ∈ U) /\ U.length <= 17 /\
 (∀ z,v = .str z -> Rt [z] 1 1) /\ (∀ c p q y t r s,Rt c p q -> g (az c) y = some t -> Fr r s (p * (vw (az c) y).1) (q * (vw (az c) y).2) -> Rt (c ++ [y]) r s) /\
 (¬ iP v -> ∀ H',ay H H' -> E (.ref cN) none H') /\
 ∀ z,v = .str z -> Nm z -> ∀ cs,eh (kD g) z cs cs.length (fun _ => False) ->
  (∀ (k : Nat) (c : List Str) (t cl rl : Addr) (p q : Int) (H' : Hp),ay H H' -> cs[k]? = some c -> (∀ (j : Nat) (d : List Str),j < k -> cs[j]? = some d -> Blk ps bs (az d)) -> ¬ Blk ps bs (az c) -> H' t = some (.tup [.ref cl,.ref rl]) -> H' cl = some (.lst (c.map V.str)) -> H' rl = some (.tup [.int p,.int q]) -> Rt c p q -> Q (.ref t) H') /\
  ((∀ (j : Nat) (d : List Str),cs[j]? = some d -> Blk ps bs (az d)) -> ∀ (d : Addr) (H' : Hp),ay H H' -> H' d = some (.xd [("good",.str z)]) -> E (.ref cI) (some d) H')
end
end Sw
namespace L2
open PySem PySem.Spec PyProof.Rows XH Sw So
section
variable {prog : Program} {w : World} {A : Around} {E : Value -> Shared -> Prop} {s : Shared}
end
theorem jS {X : Cx} : cC X (.builtin "len") (fun xs H Q => ∃ (a : Addr) (ys : List V),xs = [.ref a] /\ H a = some (.lst ys) /\ Q (.int (ys.length : Nat)) H) := by
 intro pins s σ H xs us Q I r h
 obtain ⟨a,ys,rfl,e,q⟩ := h
 exact aN pins s σ H _ us Q I r ⟨a,ys,rfl,.inl (bh.of e),q⟩
end L2
namespace Sw
open PySem L2 XH PyProof.Rows
theorem tN {i : Int} (h0 : 0 <= i) (h : i < 26) : fo dB.cps.toList i = some (97 + i.toNat) := by
 have key : ∀ n : Nat,n < 26 -> dB.cps.toList[n]? = some (97 + n) := by decide
 have := key i.toNat (by omega)
 have e := bV this
 rwa [Int.toNat_of_nonneg h0] at e
def sgn (c st : Int) (k : Nat) : Nat := 97 + ((c + (0 + (k : Int)) * st).fmod 26).toNat
def kJ (st : Int) : Prop := st = 1 ∨ st = 3 ∨ st = 5 ∨ st = 7 ∨ st = 9 ∨ st = 11 ∨ st = 15 ∨ st = 17
theorem tO {c st : Int} (hs : kJ st) {k k' : Nat} (h : k < 14) (h' : k' < 14) (e : sgn c st k = sgn c st k') : k = k' := by
 unfold sgn at e
 rw [Int.fmod_eq_emod_of_nonneg _ (by decide),Int.fmod_eq_emod_of_nonneg _ (by decide)] at e
 rcases hs with rfl | rfl | rfl | rfl | rfl | rfl | rfl | rfl <;> omega
theorem kK (x y : Str) : (x ++ y).cps.toList = x.cps.toList ++ y.cps.toList := by
 show (x.cps ++ y.cps).toList = _
 simp
def nj : Sp := fun vs H Q _ => ∃ a b : Int,vs = [.int a,.int b] /\ 0 < b /\ Q (.int (bI a b)) H
section
variable (K : A0) (cP : Addr)
end
open Wo Hm
def tP (md : Int) (pre suf : List Nat) (k : Nat) (s : Nat) (z : Str) : Prop := if md = 1 then z.length = k + 1 else if md = 2 then ∃ x,z.cps.toList = x ++ [s] else z.cps.toList = pre ++ s :: suf
theorem pW {zs : List Str} {md c st : Int} (hs : kJ st) {pre suf : List Nat} (l : zs.length <= 12) (h : ∀ (k : Nat) (z : Str),zs[k]? = some z -> Nm z /\ tP md pre suf k (sgn c st k) z) : zs.Nodup := by
 unfold List.Nodup
 rw [List.pairwise_iff_getElem]
 intro i j hi hj ij e
 have h1 := (h i _ (A2 hi)).2
 have h2 := (h j _ (A2 hj)).2
 rw [e] at h1
 unfold tP at h1 h2
 by_cases c1 : md = 1
 ·rw [if_pos c1] at h1 h2
  omega
 rw [if_neg c1] at h1 h2
 have : sgn c st i = sgn c st j := by
  by_cases c2 : md = 2
  ·rw [if_pos c2] at h1 h2
   obtain ⟨x,h1⟩ := h1
   obtain ⟨y,h2⟩ := h2
   rw [h1] at h2
   have := (List.append_inj' h2 rfl).2
   injection this
  ·rw [if_neg c2] at h1 h2
   rw [h1] at h2
   have := List.append_cancel_left h2
   injection this
 have := tO hs (by omega) (by omega) this
 omega
def iY : Sp := fun vs H Q _ => ∃ n m : Int,vs = [.int n,.int m] /\ 0 <= m /\ m <= 12 /\ ∀ (l : Addr) (H' : Hp) (zs : List Str),ay H H' -> H' l = some (.lst (zs.map V.str)) -> (zs.length : Int) = m -> (∀ z ∈ zs,Nm z) -> zs.Nodup -> Q (.ref l) H'
end Sw
namespace L2
open PySem PySem.Spec PyProof.Rows XH Sw
section
variable {X : Cx} {k j : Nat} {f C : Addr} {ps : List Str} {sp : Sp} {dvs : List V} {x m : Str} {p pos apos : Pos} {e o : Expr} {es : List Expr} {ta tb : TE} {t : TA} {E : L2.St -> XK}
end
end L2
namespace Sw
open PySem L2 XH PyProof.Rows Wo Hm
theorem LB.far {C : Addr} {F : List Addr} {H : Hp} {x l : Addr} {rows : List (Str × List Str)} {m : Nat} {g : Str -> Str -> Option Addr} {bs ns : List Str} {o : HO} (h : LB C F H x rows m g bs ns) (e : H l = some o) (k1 : ∀ kv,o ≠ .dK kv) (k2 : ∀ C dx fs,o ≠ .ins C dx fs) (u : HO) : LB C F (aq H l u) x rows m g bs ns := by
 have lF := h.not e k1
 obtain ⟨F0,dx,s,b,fs,dk,la,ex,es,eb,bd,hb,q1,q2,q3,q4,q5,q6,q7,q8,q9⟩ := h.ex
 have xl : x ≠ l := fun z => by
  rw [z,e] at ex
  exact k2 _ _ _ (AN ex)
 have sl : s ≠ l := fun z => lF (by rw [<- z]; exact q6)
 have bl : b ≠ l := fun z => lF (by rw [<- z]; exact q7)
 refine ⟨F0,dx,s,b,fs,dk,?_,by rw [ae xl]; exact ex,es,eb,kH bd (fun z => sl z.symm) (fun y z => ?_) _,by rw [ae bl]; exact hb,q1,q2,q3,q4,q5,q6,q7,fun a ha => ?_,q9⟩
 ·obtain ⟨dx',p,n,fs',rs,a,b',c,d,e',f,i,j,k⟩ := la.ex
  subst i
  have pl : p ≠ l := fun z => lF (q5 _ (by simp [z]))
  have nl : n ≠ l := fun z => lF (q5 _ (by simp [z]))
  have rl : l ∉ rs := fun z => lF (q5 _ (by simp [z]))
  exact ⟨dx',p,n,fs',rs,by rw [ae xl]; exact a,b',c,d.other rl,by rw [ae pl]; exact e',by rw [ae nl]; exact f,rfl,j,k⟩
 ·rcases bd.ex y with ⟨z1,_⟩ | ⟨a,row,z1,z2,_⟩
  ·rw [z] at z1; cases z1
  ·rw [z] at z1
   cases z1
   rw [e] at z2
   exact k1 _ (AN z2)
 ·obtain ⟨kv,w⟩ := q8 a ha
  exact ⟨kv,by rw [ae (fun z => lF (by rw [<- z]; exact ha))]; exact w⟩
theorem nh.keep {K : A0} {H H' : Hp} {g : Str -> Str -> Option Addr} {vw : Str -> Str -> Int × Int} (h : nh K H g vw) (k : ∀ a xs,H a = some (.tup xs) -> H' a = some (.tup xs)) : nh K H' g vw := ⟨fun x y t e => ⟨k _ _ (h.fr x y t e).1,(h.fr x y t e).2⟩,h.nm⟩
def ir (es : List (Str × Str × Addr)) : List (List Key × V) := es.map fun e => ([.inr e.1,.inr e.2.1],.ref e.2.2)
theorem oF (es : List (Str × Str × Addr)) : (ir es).length = es.length := A5 _
theorem oG {es : List (Str × Str × Addr)} {a b : Str} {v : V} (h : aE (ir es) [.inr a,.inr b] = some v) : ∃ t,v = .ref t /\ (a,b,t) ∈ es := by
 obtain ⟨e,he,z⟩ := AC.mp (ff h)
 cases z
 exact ⟨_,rfl,he⟩
theorem rQ {es : List (Str × Str × Addr)} {a b : Str} (h : ∀ t,(a,b,t) ∉ es) : aE (ir es) [.inr a,.inr b] = none := by
 cases e : aE (ir es) [.inr a,.inr b] with
 | none => rfl
 | some v =>
  obtain ⟨t,rfl,z⟩ := oG e
  exact absurd z (h t)
theorem l7 {es : List (Str × Str × Addr)} {a b : Str} {t : Addr} (h : (a,b,t) ∈ es) : ∃ t',aE (ir es) [.inr a,.inr b] = some (.ref t') /\ (a,b,t') ∈ es := by
 obtain ⟨w,hw⟩ := kE (kvs := ir es) (k := [.inr a,.inr b]) (v := .ref t) (AC.mpr ⟨_,h,rfl⟩)
 obtain ⟨t',rfl,z⟩ := oG hw
 exact ⟨t',hw,z⟩
theorem tQ {es : List (Str × Str × Addr)} {a b : Str} (h : ∀ t,(a,b,t) ∉ es) (t : Addr) : putK (ir es) [.inr a,.inr b] (.ref t) = ir (es ++ [(a,b,t)]) := by
 rw [L2.eQ _ (rQ h)]
 unfold ir
 rw [Ar]
 rfl
theorem xC {K : A0} {H : Hp} {x : V} {b : Bool} {i : Int} (h : Wh K H x b) (e : x = .int i) : b = true := by
 cases h with
 | mk ty h1 h2 =>
  subst e
  cases ty
  have k1 : Av K (.type "int") (.type "int") = some true := by kernel_rfl
  have k2 : Av K (.type "int") (.type "bool") = some false := by kernel_rfl
  rw [k1] at h1
  rw [k2] at h2
  cases h1
  cases h2
  rfl
theorem xD {K : A0} {H : Hp} {t : Addr} {v : V} {b : Bool} {p q : Int} (h : pH K H v b) (ev : v = .ref t) (e : H t = some (.tup [.int p,.int q])) (lo : qI p q) : b = true := by
 cases h with
 | no ty h =>
  subst ev
  cases ty with
  | tup e' =>
   have k1 : Av K (.type "tuple") (.type "tuple") = some true := by kernel_rfl
   rw [k1] at h
   cases h
  | lst e' => rw [e] at e'; cases e'
  | frz e' => rw [e] at e'; cases e'
  | dK e' => rw [e] at e'; cases e'
  | dT e' => rw [e] at e'; cases e'
  | ins e' => rw [e] at e'; cases e'
 | len e' h =>
  cases ev
  rw [e] at e'
  cases e'
  exact absurd rfl h
 | top e' h =>
  cases ev
  rw [e] at e'
  cases e'
  have := xC h rfl
  cases this
 | bot e' h h' =>
  cases ev
  rw [e] at e'
  cases e'
  have := xC h' rfl
  cases this
 | two e' =>
  cases ev
  rw [e] at e'
  cases e'
  rw [decide_eq_true (show 1 <= q from lo.pos),decide_eq_true lo.low]
  rfl
theorem v4 {K : A0} {H : Hp} {v : V} {p q : Int} (ok : m8 H v p q) (bad : hW K H v) : False := by
 rcases ok with ⟨e,_⟩ | ⟨t,rfl,et,p0,lo,_⟩
 ·exact bad.1 e
 ·rcases bad.2 with h | ⟨t',p',q',e',et',_,z⟩
  ·have := xD h rfl et lo
   cases this
  ·cases e'
   rw [et] at et'
   cases et'
   omega
theorem pX {H : Hp} {v : V} {p q p' q' : Int} (h : m8 H v p q) (k : m8 H v p' q') : p = p' /\ q = q' := by
 rcases h with ⟨e,rfl,rfl⟩ | ⟨t,e,et,_⟩
 ·rcases k with ⟨_,rfl,rfl⟩ | ⟨t',e',_⟩
  ·exact ⟨rfl,rfl⟩
  ·rw [e] at e'
   cases e'
 ·rcases k with ⟨e',_⟩ | ⟨t',e',et',_⟩
  ·rw [e] at e'
   cases e'
  ·rw [e] at e'
   cases e'
   rw [et] at et'
   cases et'
   exact ⟨rfl,rfl⟩
section
variable {K : A0} {C : Addr} {H H' : Hp} {x d : Addr} {nm : List Str} {n : Nat} {ex : List Str} {F : List Addr} {m : Nat} {g : Str -> Str -> Option Addr} {bs ns : List Str} {es : List (Str × Str × Addr)} {vw : Str -> Str -> Int × Int}
end
theorem v5 {K : A0} {H : Hp} {a b : Addr} {zs : List Str} (h1 : H a = some (.lst (zs.map V.str))) (h2 : H b = some (.lst (zs.map V.str))) : vX K H 1 (.ref a) (.ref b) :=
 .inr ⟨a,b,_,_,rfl,rfl,.inr ⟨bh.of h1,bh.of h2⟩,rO fun z hz => by obtain ⟨y,_,rfl⟩ := AC.mp hz; trivial⟩
theorem v6 {K : A0} {H : Hp} {a b : Addr} {p q : Int} (h1 : H a = some (.tup [.int p,.int q])) (h2 : H b = some (.tup [.int p,.int q])) : vX K H 1 (.ref a) (.ref b) :=
 .inr ⟨a,b,_,_,rfl,rfl,.inl ⟨cu.of h1,cu.of h2⟩,⟨rfl,trivial⟩,⟨rfl,trivial⟩,trivial⟩
end Sw
namespace L2
open PySem PySem.Spec PyProof.Rows XH Sw
section
variable {prog : Program} {w : World} {A : Around} {E : Value -> Shared -> Prop} {s : Shared}
end
section
variable {X : Cx} {tg : Expr} {hd : Option Value}
end
section
variable {X : Cx} {k j : Nat} {f C : Addr} {ps : List Str} {sp : Sp} {m : Str} {p pos apos : Pos} {e o : Expr} {es : List Expr} {ta : TE} {t : TA} {hd : Option Value}
end
section
variable {X : Cx} {x n : Str} {np pos : Pos} {b0 : Stmt} {suite : List Stmt} {rest : List ExceptHandler} {C' : Addr} {tA : Addr -> TS} {th : TH}
end
open So
section
variable {X : Cx} {e : Expr} {te : TE} {p1 p2 pos pos2 : Pos}
end
end L2
namespace Sw
open PySem L2 XH PyProof.Rows Wo Hm
section
variable (K : A0) (C : Addr)
def nv : Sp := fun vs H Q _ => ∃ (x : Addr) (z : Str) (F : List Addr) (rows : List (Str × List Str)) (m : Nat) (g : Str -> Str -> Option Addr) (bs ns : List Str),vs = [.ref x,.str z] /\ LB C F H x rows m g bs ns /\ bs.length <= 200 /\ ns.Nodup /\ ns.length <= 79 /\ Nm z /\
 ∀ H' ms,KF F H H' -> LB C F H' x rows m g (bU bs z) ms -> ms.Nodup -> (∀ y,y ∈ ms ↔ y ∈ ns ∨ y = z) -> Q .non H'
def gk : Sp := fun vs H Q _ => ∃ (x : Addr) (z : Str) (F : List Addr) (rows : List (Str × List Str)) (m : Nat) (g : Str -> Str -> Option Addr) (bs ns : List Str),vs = [.ref x,.str z] /\ LB C F H x rows m g bs ns /\ Nm z /\ ∀ H',KF F H H' -> LB C F H' x rows m g (gM bs z) ns -> Q .non H'
def gQ : Sp := fun vs H Q _ => ∃ (x : Addr) (z : Str) (F : List Addr) (rows : List (Str × List Str)) (m : Nat) (g : Str -> Str -> Option Addr) (bs ns : List Str) (ps : List (Str × Str)),vs = [.ref x,.str z] /\ LB C F H x rows m g bs ns /\ bY rows ps /\ ps.length <= 1000 /\ bs.length <= 10 /\ Nm z /\
 (∀ (H' : Hp),ay H H' -> (∀ b ∈ bs,¬ Led ps z b) -> Q .non H') /\
  ∀ (l : Addr) (H' : Hp) (c : List Str) (goal : Str),ay H H' -> H' l = some (.lst (c.map V.str)) -> Way ps z goal c -> goal ∈ bs -> Led ps z goal -> (z ∈ bs -> goal = z) -> Q (.ref l) H'
def uN : Sp := fun vs H Q _ => ∃ (x : Addr) (z : Str) (F : List Addr) (rows : List (Str × List Str)) (m : Nat) (g : Str -> Str -> Option Addr) (bs ns : List Str) (ps : List (Str × Str)) (vw : Str -> Str -> Int × Int) (U : List Str) (Rt : List Str -> Int -> Int -> Prop),vs = [.ref x,.str z] /\ LB C F H x rows m g bs ns /\ m <= 200 /\ bY rows ps /\ ps.length <= 1000 /\ bs.length <= 10 /\ Nm z /\ nh K H g vw /\ (∀ a b,kD g a b -> b ∈ U) /\ U.length <= 17 /\
 Rt [z] 1 1 /\ (∀ c p q y t r s,Rt c p q -> g (az c) y = some t -> Fr r s (p * (vw (az c) y).1) (q * (vw (az c) y).2) -> Rt (c ++ [y]) r s) /\ (∀ cs,eh (kD g) z cs cs.length (fun _ => False) -> ∃ (j : Nat) (d : List Str),cs[j]? = some d /\ ¬ Blk ps bs (az d)) /\
 ∀ cs,eh (kD g) z cs cs.length (fun _ => False) ->
  ∀ (k : Nat) (c : List Str) (t cl rl : Addr) (p q : Int) (H' : Hp),ay H H' -> cs[k]? = some c -> (∀ (j : Nat) (d : List Str),j < k -> cs[j]? = some d -> Blk ps bs (az d)) -> ¬ Blk ps bs (az c) -> H' t = some (.tup [.ref cl,.ref rl]) -> H' cl = some (.lst (c.map V.str)) -> H' rl = some (.tup [.int p,.int q]) -> Rt c p q -> Q (.ref t) H'
variable {K C} {cN cI : Addr}
theorem tR (vs : List V) (H : Hp) (Q : VK) (E : XK) (h : nv C vs H Q E) : m9 K C cN vs H Q E0 := by
 obtain ⟨x,z,F,rows,m,g,bs,ns,rfl,lb,a1,a2,a3,nz,q⟩ := h
 refine ⟨x,.str z,F,rows,m,g,bs,ns,rfl,lb,a1,a2,a3,.inl ⟨z,rfl,nz⟩,fun n => absurd ⟨z,rfl,nz⟩ n,fun y e _ => ?_⟩
 cases e
 exact q
theorem pY (vs : List V) (H : Hp) (Q : VK) (E : XK) (h : gk C vs H Q E) : iW K C cN vs H Q E0 := by
 obtain ⟨x,z,F,rows,m,g,bs,ns,rfl,lb,nz,q⟩ := h
 refine ⟨x,.str z,F,rows,m,g,bs,ns,rfl,lb,.inl ⟨z,rfl,nz⟩,fun n => absurd ⟨z,rfl,nz⟩ n,fun y e _ => ?_⟩
 cases e
 exact q
theorem nA (vs : List V) (H : Hp) (Q : VK) (E : XK) (h : gQ C vs H Q E) : fh K C cN vs H Q E0 := by
 obtain ⟨x,z,F,rows,m,g,bs,ns,ps,rfl,lb,a1,a2,a3,nz,q⟩ := h
 refine ⟨x,.str z,F,rows,m,g,bs,ns,ps,rfl,lb,a1,a2,a3,.inl ⟨z,rfl,nz⟩,fun n => absurd ⟨z,rfl,nz⟩ n,fun y e _ => ?_⟩
 cases e
 exact q
theorem v7 (vs : List V) (H : Hp) (Q : VK) (E : XK) (h : uN K C vs H Q E) : oE K C cN cI vs H Q E0 := by
 obtain ⟨x,z,F,rows,m,g,bs,ns,ps,vw,U,Rt,rfl,lb,a1,a2,a3,a4,nz,a5,a6,a7,r1,r2,fr,q⟩ := h
 refine ⟨x,.str z,F,rows,m,g,bs,ns,ps,vw,U,Rt,rfl,lb,a1,a2,a3,a4,.inl ⟨z,rfl,nz⟩,a5,a6,a7,fun y e => by cases e; exact r1,r2,fun n => absurd ⟨z,rfl,nz⟩ n,fun y e _ cs hb => ?_⟩
 cases e
 refine ⟨q cs hb,fun all => ?_⟩
 obtain ⟨j,d,hd,nb⟩ := fr cs hb
 exact absurd (all j d hd) nb
end
end Sw
namespace L2
open PySem PySem.Spec PyProof.Rows XH Sw Hm
end L2
namespace Sw
open PySem L2 XH PyProof.Rows Wo Hm
end Sw
namespace Mn
open PySem
section
variable {prog : Program} {w : World} {A : Around} {R : Result -> Shared -> Prop} {it : Addr} {fp wr : List Addr} {n : Nat} {P : Nat -> Value -> Prop} {St : Nat -> Heap -> Prop}
def rR (prog : Program) (w : World) (A : Around) (P : Nat -> Value -> Prop) (St : Nat -> Heap -> Prop) (bt : Nat -> Nat -> Bool) : Prop :=
 ∀ (i j k : Nat) (u v : Value) (s : Shared) (Q E : Value -> Shared -> Prop),St k s.heap -> P i u -> P j v -> Q (.bool (bt i j)) s -> wpAny (model prog w) A (richCompare .Lt u v) Q E s
theorem fi : (toString "min" ++ toString ".loop" : String) = "min.loop" := by decide
theorem v8 (Wk : Walks prog w A.in1 it fp wr n P St) (bt : Nat -> Nat -> Bool) (cm : rR prog w A.in1 P St bt) (box : Addr) (nb : box ∉ fp) : ∀ (k j : Nat) (s : Shared) (best : Value) (ep : Nat),
  n - (j + 1) = k -> j + 1 <= n -> St (j + 1) s.heap -> P (argBest bt j) best -> s.heap.get? box = some { cls := .type "list",dict := none,data := .seq #[best,best] ep,slots := #[] } ->
  (∀ v h' tk,P (argBest bt (n - 1)) v -> (∀ b o,b ∉ wr -> b ≠ box -> s.heap.get? b = some o -> h'.get? b = some o) -> R (.ok (.ret v)) { s with heap := h',toks := tk }) ->
  codeAny (model prog w) A (.builtin "min.loop" ⟨[.ref it,.none,.ref box],[]⟩) R s := by
 have nw : box ∉ wr := fun z => nb (Wk.sub _ z)
 intro k
 induction k with
 | zero =>
  intro j s best ep ek jn st pb gb fin
  have en : j + 1 = n := by omega
  refine PySem.codeAny_builtin PySem.F.entry_min_loop ?_
  rw [PySem.Around.under_plainId B7 _]
  refine wpAny_bind (m := seqItems? (.ref box)) (wpAny_seqItems gb rfl ?_)
  refine wpAny_bind (m := tryCatch (pyNext (.ref it)) _) (wpAny_tryCatch (Wk.done s _ _ (en ▸ st) fun h' tk kept => ?_))
  have gb' := kept box _ nw gb
  refine wpAny_bind (m := updateSeq box (fun _ => #[])) (wpAny_updateSeq gb' rfl (wpAny_bind (wpAny_letGo (wpAny_pure ?_))))
  exact fin best _ tk (by rw [<- en]; exact pb) fun b o b1 b2 e => (Heap.get?_update_other _ _ (Ne.symm b2)).trans (kept b o b1 e)
 | succ k ih =>
  intro j s best ep ek jn st pb gb fin
  have jl : j + 1 < n := by omega
  refine PySem.codeAny_builtin PySem.F.entry_min_loop ?_
  rw [PySem.Around.under_plainId B7 _]
  refine wpAny_bind (m := seqItems? (.ref box)) (wpAny_seqItems gb rfl ?_)
  refine wpAny_bind (m := tryCatch (pyNext (.ref it)) _) (wpAny_tryCatch (Wk.item (j + 1) s _ _ jl st fun v h' tk pv st' kept => ?_))
  have gb' := kept box _ nw gb
  refine wpAny_bind (m := tryCatch (holding [v,v] (richCompare .Lt v best >>= _)) _) (wpAny_tryCatch (wpAny_holding (wpAny_bind (cm (j + 1) (argBest bt j) _ v best _ _ _ st' pv pb ?_))))
  refine wpAny_bind (wpAny_holding (wpAny_truthy_bool (wpAny_bind (wpAny_letGo (wpAny_pure ?_)))))
  cases lt : bt (j + 1) (argBest bt j) with
  | true =>
   simp only [if_true]
   refine wpAny_bind (wpAny_updateSeq gb' rfl (wpAny_bind (wpAny_letGo ?_)))
   rw [fi]
   refine wpAny_pure ⟨plainId_quiet B7 _,ih (j + 1) _ v _ (by omega) jl (Wk.frame _ _ _ st' fun b bf o e => (Heap.get?_update_other _ _ (fun z : box = b => nb (by rw [z]; exact bf))).trans e) (by simp only [argBest,lt,if_true]; exact pv) (Heap.get?_update_self _ gb' rfl) fun y h2 t2 py k2 => ?_⟩
   exact fin y h2 t2 py fun b o b1 b2 e => k2 b o b1 b2 ((Heap.get?_update_other _ _ (Ne.symm b2)).trans (kept b o b1 e))
  | false =>
   simp only [Bool.false_eq_true,if_false]
   refine wpAny_bind (wpAny_letGo ?_)
   rw [fi]
   refine wpAny_pure ⟨plainId_quiet B7 _,ih (j + 1) _ best ep (by omega) jl st' (by simp only [argBest,lt,Bool.false_eq_true,if_false]; exact pb) gb' fun y h2 t2 py k2 => ?_⟩
   exact fin y h2 t2 py fun b o b1 b2 e => k2 b o b1 b2 (kept b o b1 e)
theorem pZ (Wk : Walks prog w A.in1 it fp wr n P St) (bt : Nat -> Nat -> Bool) (cm : rR prog w A.in1 P St bt) (box : Addr) (nb : box ∉ fp) (n0 : 0 < n) {s : Shared} {ep : Nat} (st : St 0 s.heap)
  (gb : s.heap.get? box = some { cls := .type "list",dict := none,data := .seq #[] ep,slots := #[] })
  (fin : ∀ v h' tk,P (argBest bt (n - 1)) v -> (∀ b o,b ∉ wr -> b ≠ box -> s.heap.get? b = some o -> h'.get? b = some o) -> R (.ok (.ret v)) { s with heap := h',toks := tk }) :
  codeAny (model prog w) A (.builtin "min.loop" ⟨[.ref it,.none,.ref box],[]⟩) R s := by
 have nw : box ∉ wr := fun z => nb (Wk.sub _ z)
 refine PySem.codeAny_builtin PySem.F.entry_min_loop ?_
 rw [PySem.Around.under_plainId B7 _]
 refine wpAny_bind (m := seqItems? (.ref box)) (wpAny_seqItems gb rfl ?_)
 refine wpAny_bind (m := tryCatch (pyNext (.ref it)) _) (wpAny_tryCatch (Wk.item 0 s _ _ n0 st fun v h' tk pv st' kept => ?_))
 have gb' := kept box _ nw gb
 refine wpAny_bind (m := updateSeq box (fun _ => #[v,v])) (wpAny_updateSeq gb' rfl ?_)
 rw [fi]
 refine wpAny_pure ⟨plainId_quiet B7 _,v8 Wk bt cm box nb _ 0 _ v _ rfl n0 (Wk.frame _ _ _ st' fun b bf o e => (Heap.get?_update_other _ _ (fun z : box = b => nb (by rw [z]; exact bf))).trans e) pv (Heap.get?_update_self _ gb' rfl) fun y h2 t2 py k2 => ?_⟩
 exact fin y h2 t2 py fun b o b1 b2 e => k2 b o b1 b2 ((Heap.get?_update_other _ _ (Ne.symm b2)).trans (kept b o b1 e))
end
end Mn
namespace Rm
open PySem PySem.SeqAt PySem.MeetsSeq
end Rm
namespace L2
open PySem PySem.Spec PyProof.Rows XH Sw So Hm
def refsOf (vs : List V) : List Addr := vs.filterMap fun v => match v with | .ref a => some a | _ => none
theorem iZ {vs : List V} {a : Addr} : a ∈ refsOf vs ↔ V.ref a ∈ vs := by
 unfold refsOf
 rw [List.mem_filterMap]
 constructor
 ·rintro ⟨v,hv,e⟩
  cases v with
  | ref b => cases e; exact hv
  | _ => cases e
 ·intro h
  exact ⟨_,h,rfl⟩
theorem nB {prog : Program} {w : World} {A : Around} (hh : A.handled = none) (it l : Addr) (ne : l ≠ it) (items : Array Value) (as : List Addr) (h0 : Heap) (na : it ∉ as) :
  Walks prog w A it (it :: l :: as) [it] items.size (fun i v => items[i]? = some v) (fun i h => (h.IsListIter it l i /\ h.IsList l items) /\ ∀ a o,a ∈ as -> h0.get? a = some o -> h.get? a = some o) where
 sub := fun b hb => by simp at hb; simp [hb]
 frame := fun i h h' st hk => ⟨(Walks.list (prog := prog) (w := w) hh it l ne items).frame i h h' st.1 (fun b hb o e => hk b (by simp at hb ⊢; rcases hb with z | z <;> simp [z]) o e),fun a o ha e => hk a (by simp [ha]) o (st.2 a o ha e)⟩
 item := fun i s Q E hi st hQ => (Walks.list (prog := prog) (w := w) hh it l ne items).item i s Q E hi st.1 fun v h' tk p st' kept => hQ v h' tk p ⟨st',fun a o ha e => kept a o (by simp; intro z; exact na (z ▸ ha)) (st.2 a o ha e)⟩ kept
 done := fun s Q E st hQ => (Walks.list (prog := prog) (w := w) hh it l ne items).done s Q E st.1 hQ
 self := fun i s Q E st q => (Walks.list (prog := prog) (w := w) hh it l ne items).self i s Q E st.1 q
end L2
namespace Hm
open PySem PySem.SeqAt PySem.MeetsSeq
theorem tS {A : Around} {s : Shared} {l b : Addr} {us ws : List Value} {xs ys : List Str} (gx : s.heap.IsList l us.toArray) (gy : s.heap.IsList b ws.toArray) (h1 : gL xs us) (h2 : gL ys ws) (hu : A.units + 1 < cLine) : EqAt A s (.ref l) (.ref b) (decide (xs = ys)) := by
 by_cases e : l = b
 ·subst e
  obtain ⟨o1,g1,c1,n1,d1⟩ := gx
  obtain ⟨o2,g2,c2,n2,d2⟩ := gy
  rw [g1] at g2
  cases g2
  rw [d1] at d2
  injection d2 with d2 _
  have eq : us = ws := by simpa using congrArg Array.toList d2
  subst eq
  have : xs = ys := by
   refine List.ext_getElem? fun j => ?_
   cases h : xs[j]? with
   | some x =>
    obtain ⟨t,ht⟩ := h1.2 j x h
    have jl : j < ys.length := by rw [h2.1]; exact (A1.mp ht).1
    obtain ⟨t',ht'⟩ := h2.2 j _ (A2 jl)
    rw [ht] at ht'
    cases ht'
    exact (A2 jl).symm
   | none =>
    have : xs.length <= j := List.getElem?_eq_none_iff.mp h
    exact (B6 (by rw [h2.1,<- h1.1]; exact this)).symm
  rw [decide_eq_true this]
  exact EqAt.same _
 ·refine EqAt.of_refs e ?_
  by_cases c : us.length = ws.length
  ·have k := RcAt.lists (A := A) (e := fun j => (xs.getD j "" == ys.getD j "")) gx gy (by simpa using c) (by omega) fun j g1 g2 => by
    have j1 : j < xs.length := by rw [h1.1]; simpa using g1
    have j2 : j < ys.length := by rw [h2.1]; simpa using g2
    obtain ⟨t1,e1⟩ := h1.2 j _ (A2 j1)
    obtain ⟨t2,e2⟩ := h2.2 j _ (A2 j2)
    have v1 : us.toArray[j] = .str xs[j] t1 := by
     have := (A1.mp e1).2
     simpa using this
    have v2 : ws.toArray[j] = .str ys[j] t2 := by
     have := (A1.mp e2).2
     simpa using this
    rw [v1,v2,AO,AO,A2 j1,A2 j2]
    exact EqAt.str_str _ _ _ _
   have ee : ((List.range us.toArray.size).all fun j => (xs.getD j "" == ys.getD j "")) = decide (xs = ys) := by
    have l1 : xs.length = ys.length := by rw [h1.1,h2.1,c]
    by_cases q : xs = ys
    ·subst q
     rw [decide_eq_true rfl]
     simp
    ·rw [decide_eq_false q]
     cases z : ((List.range us.toArray.size).all fun j => (xs.getD j "" == ys.getD j "")) with
     | false => rfl
     | true =>
      exfalso
      refine q (List.ext_getElem l1 fun j g1 g2 => ?_)
      have := BP.mp z j (by rw [List.mem_range,AG,<- h1.1]; exact g1)
      rw [AO,AO,A2 g1,A2 g2] at this
      exact eq_of_beq this
   rw [ee] at k
   exact k
  ·have q : xs ≠ ys := fun z => c (by rw [<- h1.1,<- h2.1,z])
   rw [decide_eq_false q]
   exact RcAt.lists_lengths gx gy (by simpa using c) (by omega)
theorem l8 : ∀ (c : List Str),fw c c = false
 | [] => rfl
 | x :: c => by
  unfold fw
  rw [if_pos rfl]
  exact l8 c
theorem p4 (x y l b : Addr) (i j : Int) (t t' : Tok) (us ws : List Value) (xs ys : List Str) (m1 m2 : Nat) (d1 d2 : Option Addr) (z1 z2 : Array (Option Value)) (h1 : gL xs us) (h2 : gL ys ws) :
  Meets (Builtin.«tuple.__lt__» ⟨[.ref x,.ref y],[]⟩)
   (fun A R s => s.heap.get? x = some { cls := .type "tuple",dict := d1,data := .seq #[.int i t,.ref l] m1,slots := z1 } /\ s.heap.get? y = some { cls := .type "tuple",dict := d2,data := .seq #[.int j t',.ref b] m2,slots := z2 } /\
    s.heap.IsList l us.toArray /\ s.heap.IsList b ws.toArray /\ A.units + 3 < cLine /\ R (.ok (.ret (.bool (if i = j then fw xs ys else decide (i < j))))) s) :=
 .of_wp fun prog w A R s h => by
  obtain ⟨hp,gs,dr,tk,os⟩ := s
  obtain ⟨gx,gy,hl,hb,hu,fin⟩ := h
  have sub := AutoSeq1.sub_tuple_tuple
  wp_walk using AutoSeq1.wpAny_loadPart' gx,AutoSeq1.wpAny_loadPart' gy,wpAny_forIn_list _ (fun rest b' s' => b'.1 = none /\ s' = ⟨hp,gs,dr,tk,os⟩ /\ (rest = [(.int i t,.int j t'),(.ref l,.ref b)] ∨ (i = j /\ rest = [(.ref l,.ref b)]) ∨ (i = j /\ xs = ys /\ rest = []))) _
  case turn =>
   rintro ⟨p,q⟩ rest b' s' ⟨hb',rfl,hz⟩
   rcases hz with hz | ⟨ij,hz⟩ | ⟨_,_,hz⟩
   ·injection hz with e1 e2
    injection e1 with e1 e3
    subst e1 e3 e2
    have eq := (EqGives.int i j t t').at
    refine wpAny_bind (eq _ _ prog w _ _ ?_)
    by_cases c : i = j
    ·rw [show (i == j) = true from beq_iff_eq.mpr c]
     wp_walk
     exact ⟨rfl,rfl,.inr (.inl ⟨c,rfl⟩)⟩
    ·rw [if_neg c] at fin
     rw [show (i == j) = false from beq_eq_false_iff_ne.mpr c]
     have ltr : ∀ {A : Around} {E : Value -> Shared -> Prop} {s : Shared} {Q : Value -> Shared -> Prop},Q (.bool (decide (i < j))) s -> wpAny (model prog w) A (richCompare .Lt (.int i t) (.int j t')) Q E s := fun h => wpAny_lt_int h
     wp_walk using ltr
     exact ⟨_,rfl,fin⟩
   ·injection hz with e1 e2
    injection e1 with e1 e3
    subst e1 e3 e2
    rw [if_pos ij] at fin
    have eq : ∀ A' : Around,A'.units <= A.units + 1 -> EqAt A' ⟨hp,gs,dr,tk,os⟩ (.ref l) (.ref b) (decide (xs = ys)) := fun A' h => tS hl hb h1 h2 (by omega)
    refine wpAny_bind (eq _ (by show A.units + 1 <= A.units + 1; exact A4 _) prog w _ _ ?_)
    by_cases c : xs = ys
    ·rw [decide_eq_true c]
     wp_walk
     exact ⟨rfl,rfl,.inr (.inr ⟨ij,c,rfl⟩)⟩
    ·rw [decide_eq_false c]
     have ltr : ∀ {E : Value -> Shared -> Prop} {Q : Value -> Shared -> Prop},Q (.bool (fw xs ys)) ⟨hp,gs,dr,tk,os⟩ -> wpAny (model prog w) A.in1 (richCompare .Lt (.ref l) (.ref b)) Q E ⟨hp,gs,dr,tk,os⟩ := fun h => tz hl hb h1 h2 (by show A.units + 1 < cLine; omega) h
     wp_walk using ltr
     exact ⟨_,rfl,fin⟩
   ·cases hz
  case fin =>
   rintro ⟨b1,b2⟩ s' ⟨hb',rfl,hz⟩
   simp only at hb'
   subst hb'
   rcases hz with hz | ⟨_,hz⟩ | ⟨ij,e,_⟩
   ·cases hz
   ·cases hz
   wp_walk
   refine ⟨_,rfl,?_⟩
   rw [if_pos ij,e,l8] at fin
   simpa [Builtin.Tuple.tupleCompareSizes] using fin
  case h =>
   exact ⟨rfl,rfl,.inl rfl⟩
section
variable {prog : Program} {w : World} {A : Around} {E : Value -> Shared -> Prop} {s : Shared}
theorem oH {x y l b : Addr} {i j : Int} {t t' : Tok} {us ws : List Value} {xs ys : List Str} {Q : Value -> Shared -> Prop} (gx : s.heap.IsTuple x #[.int i t,.ref l]) (gy : s.heap.IsTuple y #[.int j t',.ref b]) (hl : s.heap.IsList l us.toArray) (hb : s.heap.IsList b ws.toArray) (h1 : gL xs us) (h2 : gL ys ws) (hu : A.units + 3 < cLine) (h : Q (.bool (if i = j then fw xs ys else decide (i < j))) s) :
  wpAny (model prog w) A (compareOp .Lt (.ref x) (.ref y)) Q E s := by
 obtain ⟨⟨c1,d1,t1,z1⟩,o1,e1,m1,f1⟩ := gx
 obtain ⟨⟨c2,d2,t2,z2⟩,o2,e2,m2,f2⟩ := gy
 simp only at e1 f1 e2 f2
 subst e1 f1 e2 f2
 refine richCompare_meets_room (op := .Lt) ⟨_,o1,rfl⟩ ⟨_,o2,rfl⟩ F.slot_tuple_lt F.entry_tuple_lt (F.args_tuple_lt_2 _ _) (p4 x y l b i j t t' us ws xs ys m1 m2 d1 d2 z1 z2 h1 h2) ⟨o1,o2,hl,hb,hu,?_⟩ (by omega)
 exact (show Value.bool _ ≠ Value.notImplemented /\ Q (.bool (if i = j then fw xs ys else decide (i < j))) s from ⟨(fun z => nomatch z),h⟩)
end
end Hm
namespace L2
open PySem PySem.Spec PyProof.Rows XH Sw So Hm Wo
def LC (H : Hp) (v : V) (l : Addr) (c : List Str) : Prop := ∃ a,v = .ref a /\ H a = some (.tup [.int (c.length : Int),.ref l]) /\ H l = some (.lst (c.map V.str))
theorem LC.same {H H' : Hp} {v : V} {l : Addr} {c : List Str} (h : LC H v l c) (g : ay H H') : LC H' v l c := by
 obtain ⟨a,e,h1,h2⟩ := h
 exact ⟨a,e,g _ _ h1,g _ _ h2⟩
theorem l9 (c d : List Str) : (if (c.length : Int) = (d.length : Int) then fw c d else decide ((c.length : Int) < (d.length : Int))) = bD c d := by
 unfold bD
 by_cases e : c.length = d.length
 ·rw [if_pos (by omega),if_neg (by omega)]
 ·rw [if_neg (by omega),if_pos e]
  by_cases q : c.length < d.length
  ·rw [decide_eq_true q,decide_eq_true (by omega)]
  ·rw [decide_eq_false q,decide_eq_false (by omega)]
theorem iu {n : Int} {l : Addr} {us : List Value} (r : aM [.int n,.ref l] us) : ∃ t,us = [.int n t,.ref l] := by
 cases r with
 | cons r1 rr =>
  cases rr with
  | cons r2 rr =>
   cases rr
   obtain ⟨t,rfl⟩ := r1
   cases r2
   exact ⟨t,rfl⟩
theorem tT {X : Cx} (hu : X.A.units + 3 < cLine) : gq X (compareOp .Lt) (fun x y H Q => ∃ (l m : Addr) (c d : List Str),LC H x l c /\ LC H y m d /\ Q (.bl (bD c d)) H) := by
 intro pins s σ H x y u v Q I rx ry h
 obtain ⟨l,m,c,d,⟨a,rfl,ea,el⟩,⟨b,rfl,eb,em⟩,q⟩ := h
 cases rx
 cases ry
 obtain ⟨us1,r1,g1,_⟩ := I.tuple (cu.of ea)
 obtain ⟨us2,r2,g2,_⟩ := I.tuple (cu.of eb)
 obtain ⟨t1,rfl⟩ := iu r1
 obtain ⟨t2,rfl⟩ := iu r2
 obtain ⟨i1,v1,p1,_⟩ := I.list (bh.of el)
 obtain ⟨i2,v2,p2,_⟩ := I.list (bh.of em)
 exact oH g1 g2 p1.isList p2.isList (gi v1) (gi v2) hu ⟨.bl (bD c d),H,I,by rw [l9]; rfl,q⟩
theorem jT (g : Nat -> List Str) : ∀ k,argBest (fun i j => bD (g i) (g j)) k <= k /\ ∀ j,j <= k -> bD (g j) (g (argBest (fun i j => bD (g i) (g j)) k)) = false
 | 0 => ⟨A4 _,fun j h => by
  have : j = 0 := by omega
  subst this
  cases c : bD (g 0) (g (argBest (fun i j => bD (g i) (g j)) 0)) with
  | false => rfl
  | true => exact (aZ.irr (a := g 0) c).elim⟩
 | k + 1 => by
  obtain ⟨h1,h2⟩ := jT g k
  unfold argBest
  cases c : bD (g (k + 1)) (g (argBest (fun i j => bD (g i) (g j)) k)) with
  | true =>
   rw [if_pos rfl]
   refine ⟨A4 _,fun j hj => ?_⟩
   cases z : bD (g j) (g (k + 1)) with
   | false => rfl
   | true =>
    exfalso
    by_cases e : j = k + 1
    ·subst e
     exact aZ.irr (a := g (k + 1)) z
    ·have w := aZ.trans (a := g j) z c
     have w' : bD (g j) (g (argBest (fun i j => bD (g i) (g j)) k)) = true := w
     rw [h2 j (by omega)] at w'
     cases w'
  | false =>
   rw [if_neg (by decide)]
   refine ⟨by omega,fun j hj => ?_⟩
   by_cases e : j = k + 1
   ·subst e
    exact c
   ·exact h2 j (by omega)
def gC (vs : List V) (f : V -> List Str) (i : Nat) : List Str := (vs[i]?.map f).getD []
theorem oJ {vs : List V} {f : V -> List Str} {i : Nat} {x : V} (h : vs[i]? = some x) : gC vs f i = f x := by
 unfold gC
 rw [h]
 rfl
theorem nC {X : Cx} (hc : X.calm = true) (hu : X.A.units + 4 < cLine) : cC X (.builtin "min") (fun xs H Q => ∃ (l : Addr) (vs : List V) (f : V -> List Str) (fl : V -> Addr),xs = [.ref l] /\ H l = some (.lst vs) /\ vs ≠ [] /\ (∀ v ∈ vs,LC H v (fl v) (f v)) /\
  ∀ v ∈ vs,(∀ u ∈ vs,bD (f u) (f v) = false) -> Q v H) := by
 intro pins s σ H xs us Q I r h
 obtain ⟨l,vs,f,fl,rfl,hl,ne,th,q⟩ := h
 obtain ⟨u,rfl,ru⟩ := vals1 r
 cases ru
 obtain ⟨z,its,n,rv,hlen,hg⟩ := I.lstM hl
 have isl : s.heap.IsList l its.toArray := ⟨_,hg,rfl,n,rfl⟩
 have lt0 : l < s.heap.objs.size := Heap.lt_size hg
 have lpos : 0 < its.length := by rw [<- hlen]; exact BH.mpr ne
 refine call_function_tree PySem.F.kind_min PySem.F.plain_min PySem.F.entry_min (PySem.F.args_min1 _) ?_
 refine wpAny_bind (m := Builtin.Builtins.bindParams "min" ["key","default"] 0 ⟨[],[]⟩) (wpAny_of_eq (show Builtin.Builtins.bindParams "min" ["key","default"] 0 ⟨[],[]⟩ = pure [none,none] from rfl) ?_)
 refine wpAny_bind (m := pure (Value.ref l)) (wpAny_pure ?_)
 refine wpAny_bind (wpAny_pyIter_list isl ?_)
 refine wpAny_bind (wpAny_newObj_type ?_)
 rw [Mn.fi]
 have fr : ∀ a,a ∈ refsOf vs ++ vs.map fl -> a < s.heap.objs.size := fun a ha => by
  rcases AM.mp ha with ha | ha
  ·obtain ⟨a',e,ea,_⟩ := th _ (iZ.mp ha)
   cases e
   exact I.hok.lt ea
  ·obtain ⟨v,hv,rfl⟩ := AC.mp ha
   obtain ⟨a',e,_,el⟩ := th _ hv
   exact I.hok.lt el
 have Wk := nB (prog := X.prog) (w := X.w) (A := X.A.in1) (I.ok.hd hc) s.heap.objs.size l (AD lt0) its.toArray (refsOf vs ++ vs.map fl) s.heap (fun z => Bj _ (fr _ z))
 have at_ : ∀ {i : Nat} {u : Value},its.toArray[i]? = some u -> ∃ x,vs[i]? = some x /\ RelV x u := fun {i u} e => by
  have e' : its[i]? = some u := by simpa using e
  have il : i < vs.length := by rw [hlen]; exact (A1.mp e').1
  obtain ⟨u',h1,h2⟩ := rv.get (A2 il)
  rw [e'] at h1
  cases h1
  exact ⟨_,A2 il,h2⟩
 have cm : Mn.rR X.prog X.w X.A.in1 (fun i v => its.toArray[i]? = some v) (fun i h => (h.IsListIter s.heap.objs.size l i /\ h.IsList l its.toArray) /\ ∀ a o,a ∈ refsOf vs ++ vs.map fl -> s.heap.get? a = some o -> h.get? a = some o) (fun i j => bD (gC vs f i) (gC vs f j)) := by
  intro i j k u v s' Q' E' st hu' hv' q'
  obtain ⟨x,ex,rx⟩ := at_ hu'
  obtain ⟨y,ey,ry⟩ := at_ hv'
  replace q' : Q' (.bool (bD (gC vs f i) (gC vs f j))) s' := q'
  rw [oJ ex,oJ ey] at q'
  have mx := A8 ex
  have my := A8 ey
  obtain ⟨a,ax,ea,el⟩ := th x mx
  obtain ⟨c,cx,ec,em⟩ := th y my
  have ra : RelV (.ref a) u := by rw [<- ax]; exact rx
  have rc : RelV (.ref c) v := by rw [<- cx]; exact ry
  cases ra
  cases rc
  obtain ⟨us1,r1,⟨o1,g1,c1,n1,d1⟩,_⟩ := I.tuple (cu.of ea)
  obtain ⟨us2,r2,⟨o2,g2,c2,n2,d2⟩,_⟩ := I.tuple (cu.of ec)
  obtain ⟨t1,rfl⟩ := iu r1
  obtain ⟨t2,rfl⟩ := iu r2
  obtain ⟨i1,v1,p1,_⟩ := I.list (bh.of el)
  obtain ⟨i2,v2,p2,_⟩ := I.list (bh.of em)
  obtain ⟨o3,g3,c3,n3,d3⟩ := p1.isList
  obtain ⟨o4,g4,c4,n4,d4⟩ := p2.isList
  refine oH ⟨o1,st.2 a o1 (Au _ (iZ.mpr (by rw [<- ax]; exact mx))) g1,c1,n1,d1⟩ ⟨o2,st.2 c o2 (Au _ (iZ.mpr (by rw [<- cx]; exact my))) g2,c2,n2,d2⟩ ⟨o3,st.2 _ o3 (AJ _ (AC.mpr ⟨x,mx,rfl⟩)) g3,c3,n3,d3⟩ ⟨o4,st.2 _ o4 (AJ _ (AC.mpr ⟨y,my,rfl⟩)) g4,c4,n4,d4⟩ (gi v1) (gi v2) (by show X.A.units + 1 + 3 < cLine; omega) ?_
  rw [l9]
  exact q'
 refine wpAny_pure ⟨plainId_quiet B7 _,Mn.pZ Wk (fun i j => bD (gC vs f i) (gC vs f j)) cm _ ?_ (by simpa using lpos) ?_ (Heap.get?_push_size _ rfl) fun v h' tk pv kept => ?_⟩
 ·intro z
  have sz : (s.heap.push { cls := .type "list_iterator",data := .fields #[.ref l,.int 0 0] }).objs.size = s.heap.objs.size + 1 := Heap.size_push ..
  rcases AB.mp z with z | z
  ·exact absurd (sz.symm.trans z) (Nat.succ_ne_self _)
  ·rcases AB.mp z with z | z
   ·have e : s.heap.objs.size + 1 = l := sz.symm.trans z
    rw [<- e] at lt0
    exact Nat.not_succ_lt_self lt0
   ·have e := fr _ z
    have e2 : s.heap.objs.size + 1 < s.heap.objs.size := by rw [<- sz]; exact e
    exact Nat.not_succ_lt_self e2
 ·refine ⟨⟨⟨_,Heap.get?_push_of_some _ (Heap.get?_push_size _ rfl),rfl,rfl⟩,(isl.push _).push _⟩,fun a o _ e => Heap.get?_push_of_some _ (Heap.get?_push_of_some _ e)⟩
 ·have bm := jT (gC vs f) (its.toArray.size - 1)
  obtain ⟨x,ex,rx⟩ := at_ pv
  have hk : ∀ b o,s.heap.get? b = some o -> h'.get? b = some o := fun b o e => by
   have bl := Heap.lt_size e
   refine kept b o (by simp; exact AD bl) ?_ (Heap.get?_push_of_some _ (Heap.get?_push_of_some _ e))
   have sz : (s.heap.push { cls := .type "list_iterator",data := .fields #[.ref l,.int 0 0] }).objs.size = s.heap.objs.size + 1 := Heap.size_push ..
   intro z
   have e : b = s.heap.objs.size + 1 := z.trans sz
   rw [e] at bl
   exact Nat.not_succ_lt_self bl
  refine ⟨x,H,I.kept (h' := h') (t' := tk) hk,rx,q x (A8 ex) fun u hu' => ?_⟩
  obtain ⟨j,hj⟩ := AW.mp hu'
  have jl := (A1.mp hj).1
  have := bm.2 j (by rw [AG,<- hlen]; omega)
  rwa [oJ hj,oJ ex] at this
end L2
namespace Sw
open PySem L2 XH PyProof.Rows Wo Hm
theorem LB.part {C : Addr} {F : List Addr} {H : Hp} {x : Addr} {rows : List (Str × List Str)} {m : Nat} {g : Str -> Str -> Option Addr} {bs ns : List Str} (h : LB C F H x rows m g bs ns) : ∃ F0,LA C F0 H x rows ns /\ ∀ H' F0' rows' ms,KF F0 H H' -> FG F0 F0' H -> LA C F0' H' x rows' ms -> ∃ F',LB C F' H' x rows' m g bs ms /\ KF F H H' /\ FG F F' H := by
 obtain ⟨F0,dx,s,b,fs,dk,la,ex,es,eb,bd,hb,q1,q2,q3,q4,q5,q6,q7,q8,q9⟩ := h.ex
 have inn : ∀ F0' (a : Addr),a ∈ F -> a ∉ F0 -> a ∈ F.filter (fun a => decide (a ∉ F0)) ++ F0' := fun F0' a h1 h2 => Au _ (BO.mpr ⟨h1,decide_eq_true h2⟩)
 refine ⟨F0,la,fun H' F0' rows' ms k fg la' => ⟨F.filter (fun a => decide (a ∉ F0)) ++ F0',?_,fun a o n e => k a o (fun z => n (q5 a z)) e,fun a ha => ?_⟩⟩
 ·have xn : x ∉ F0 := la.not ex (fun _ z => nomatch z)
  have out : ∀ a o,H a = some o -> a ∉ F0 -> a ∉ F0' := fun a o e n z => by
   rcases fg a z with w | w
   ·exact n w
   ·rw [e] at w; cases w
  refine ⟨F0',dx,s,b,fs,dk,la',k _ _ xn ex,es,eb,⟨k _ _ q2 bd.at_,bd.few,bd.inj,fun y => ?_⟩,k _ _ q3 hb,q1,out _ _ bd.at_ q2,out _ _ hb q3,fun y a e => ⟨?_,(q4 y a e).2⟩,fun a ha => AJ _ ha,inn _ _ q6 q2,inn _ _ q7 q3,fun a ha => ?_,q9⟩
  ·rcases bd.ex y with z | ⟨a,row,z1,z2,z3,z4⟩
   ·exact .inl z
   ·have na := (q4 y a z1).1
    exact .inr ⟨a,row,z1,k _ _ na z2,eM.mpr (inn _ _ (eM.mp z3) na),z4⟩
  ·rcases bd.ex y with ⟨z1,_⟩ | ⟨a',row,z1,z2,_⟩
   ·rw [e] at z1; cases z1
   ·rw [e] at z1
    cases z1
    exact out _ _ z2 (q4 y a e).1
  ·rcases AM.mp ha with w | w
   ·obtain ⟨w1,w2⟩ := BO.mp w
    obtain ⟨kv,e⟩ := q8 a w1
    exact ⟨kv,k _ _ (of_decide_eq_true w2) e⟩
   ·exact la'.dict w
 ·rcases AM.mp ha with w | w
  ·exact .inl (BO.mp w).1
  ·rcases fg a w with z | z
   ·exact .inl (q5 a z)
   ·exact .inr z
def jU (ps : List (Str × Str)) : List (List Key × V) := ps.map fun p => ([.inr p.1,.inr p.2],.bl true)
def kL (ps : List (Str × Str)) (a b : Str) : List (Str × Str) := if (a,b) ∈ ps then ps else ps ++ [(a,b)]
theorem oK (ps : List (Str × Str)) : (jU ps).length = ps.length := A5 _
theorem rS {ps : List (Str × Str)} {a b : Str} {p : Str × Str} : p ∈ kL ps a b ↔ p ∈ ps ∨ p = (a,b) := by
 unfold kL
 split
 ·rename_i h
  constructor
  ·exact .inl
  ·rintro (z | rfl)
   ·exact z
   ·exact h
 ·rw [AM,A3]
theorem rT (ps : List (Str × Str)) (a b : Str) : (kL ps a b).length <= ps.length + 1 := by
 unfold kL
 split
 ·omega
 ·rw [A7,AF]
  omega
theorem kM {ps : List (Str × Str)} {a b : Str} {k : List Key} {v : V} (h : (k,v) ∈ jU ps) (e : k = [.inr a,.inr b]) : v = .bl true /\ (a,b) ∈ ps := by
 obtain ⟨p,hp,z⟩ := AC.mp h
 cases z
 injection e with e1 e2
 injection e1 with e1
 injection e2 with e2 _
 injection e2 with e2
 exact ⟨rfl,by rw [<- e1,<- e2]; exact hp⟩
theorem oM {ps : List (Str × Str)} {a b : Str} : (aE (jU ps) [.inr a,.inr b]).isSome = decide ((a,b) ∈ ps) := by
 by_cases c : (a,b) ∈ ps
 ·rw [decide_eq_true c]
  obtain ⟨w,hw⟩ := kE (kvs := jU ps) (k := [.inr a,.inr b]) (v := .bl true) (AC.mpr ⟨_,c,rfl⟩)
  rw [hw]
  rfl
 ·rw [decide_eq_false c]
  cases e : aE (jU ps) [.inr a,.inr b] with
  | none => rfl
  | some v => exact absurd (kM (ff e) rfl).2 c
theorem tU (ps : List (Str × Str)) (a b : Str) : putK (jU ps) [.inr a,.inr b] (.bl true) = jU (kL ps a b) := by
 unfold kL
 by_cases c : (a,b) ∈ ps
 ·rw [if_pos c]
  have h : (jU ps).any (fun kv => decide (kv.1 = [.inr a,.inr b])) = true := by
   rw [d5,oM,decide_eq_true c]
  unfold putK
  rw [if_pos h]
  refine (List.map_congr_left fun p hp => ?_).trans (List.map_id _)
  by_cases e : p.1 = [.inr a,.inr b]
  ·rw [if_pos e]
   obtain ⟨v,_⟩ := kM (k := p.1) (v := p.2) hp e
   show (p.1,V.bl true) = p
   rw [<- v]
  ·rw [if_neg e]
   rfl
 ·rw [if_neg c,L2.eQ _ (by
   cases e : aE (jU ps) [.inr a,.inr b] with
   | none => rfl
   | some v => exact absurd (kM (ff e) rfl).2 c)]
  unfold jU
  rw [Ar]
  rfl
theorem wa {ps : List (Str × Str)} {i : Nat} {k : List Key} {x : V} (h : (jU ps)[i]? = some (k,x)) : ∃ a b : Str,k = [.inr a,.inr b] /\ ps[i]? = some (a,b) := by
 unfold jU at h
 rw [AK] at h
 cases e : ps[i]? with
 | none => rw [e] at h; cases h
 | some p =>
  rw [e] at h
  cases h
  exact ⟨p.1,p.2,rfl,rfl⟩
theorem bY.addP {rows : List (Str × List Str)} {ps : List (Str × Str)} (h : bY rows ps) (a b : Str) : bY (aP rows a b) (Sw.kL ps a b) := by
 unfold Sw.kL
 split
 ·rename_i c
  rw [gh h.keys ((h.mem a b).mpr c)]
  exact h
 ·exact h.add (a,b)
theorem i3 (ks : List Str) : ∀ bs : List Str,(((aO bs (.bl true)).filter fun e => tf ks e.1).map fun e => kV e.1) = (bs.filter fun y => decide (y ∈ ks)).map V.str
 | [] => rfl
 | b :: bs => by
  have ih := i3 ks bs
  unfold aO at ih ⊢
  rw [Ap,BK,BK]
  by_cases c : b ∈ ks
  ·rw [if_pos (show tf ks (.inr b) = true from decide_eq_true c),if_pos (decide_eq_true c),Ap,Ap,ih]
   rfl
  ·rw [if_neg (by rw [show tf ks (.inr b) = false from decide_eq_false c]; decide),if_neg (by rw [decide_eq_false c]; decide),ih]
theorem rV {bs : List Str} {i : Nat} {k : Key} {x : V} (h : (aO bs (.bl true))[i]? = some (k,x)) : ∃ y : Str,k = .inr y := by
 unfold aO at h
 rw [AK] at h
 cases e : bs[i]? with
 | none => rw [e] at h; cases h
 | some p =>
  rw [e] at h
  cases h
  exact ⟨p,rfl⟩
def kN : Sp := fun vs H Q _ => ∃ (dp db : Addr) (good : Str) (ps : List (Str × Str)) (bs : List Str),vs = [.ref dp,.ref db,.str good] /\ H dp = some (.dT (jU ps)) /\ ps.length <= 900 /\ H db = some (.dK (aO bs (.bl true))) /\ bs.length <= 900 /\
 ∀ (H' : Hp) (b : Bool),ay H H' -> (b = true ↔ ¬ Blk ps bs good) -> Q (.bl b) H'
inductive fD (R : Str -> Str -> Prop) (good : Str) : List Str -> Prop where
 | one : fD R good [good]
 | snoc {c : List Str} {y : Str} : fD R good c -> R (az c) y -> fD R good (c ++ [y])
theorem jV : ∀ {a b : List Str},a.length = b.length -> fw a b = false -> fw b a = false -> a = b
 | [],[],_,_,_ => rfl
 | [],_ :: _,e,_,_ => by simp at e
 | _ :: _,[],e,_,_ => by simp at e
 | x :: a,y :: b,e,h1,h2 => by
  rw [dC] at h1 h2
  by_cases c : x = y
  ·subst c
   rw [if_pos rfl] at h1 h2
   rw [jV (by simpa using e) h1 h2]
  ·rw [if_neg c] at h1
   rw [if_neg (fun z => c z.symm)] at h2
   exfalso
   have n1 := of_decide_eq_false h1
   have n2 := of_decide_eq_false h2
   exact c (So.lT (show So.pP x y from n2) (show So.pP y x from n1))
theorem dL {a b : List Str} (h1 : ¬ aZ a b) (h2 : ¬ aZ b a) : a = b := by
 have e : a.length = b.length := by
  rcases Nat.lt_trichotomy a.length b.length with z | z | z
  ·exact absurd (cE z) h1
  ·exact z
  ·exact absurd (cE z) h2
 refine jV e ?_ ?_
 ·cases c : fw a b with
  | false => rfl
  | true => exact absurd (dD e c) h1
 ·cases c : fw b a with
  | false => rfl
  | true => exact absurd (dD e.symm c) h2
section
variable {R : Str -> Str -> Prop} {good : Str} {cs : List (List Str)}
theorem eh.least (h : eh R good cs cs.length (fun _ => False)) {p : List Str} (hp : fD R good p) : ∃ (k : Nat) (d : List Str),cs[k]? = some d /\ az d = az p /\ ¬ aZ p d := by
 induction hp with
 | one => exact ⟨0,[good],h.first,rfl,fun z => z.irr⟩
 | @snoc c y hc r ih =>
  obtain ⟨k,d,hd,e,na⟩ := ih
  have kl := (A1.mp hd).1
  obtain ⟨k2,d2,hd2,e2,na2⟩ := h.shut k d y kl hd (by rw [e]; exact r)
  refine ⟨k2,d2,hd2,by rw [e2,bz],fun z => na2 ?_⟩
  by_cases eq : c = d
  ·rw [<- eq]; exact z
  ·have dc : aZ d c := Classical.byContradiction fun w => eq (dL na w)
   exact (dc.app y y).trans z
theorem eh.path (h : eh R good cs cs.length (fun _ => False)) : ∀ (k : Nat) (d : List Str),cs[k]? = some d -> fD R good d := by
 intro k
 induction k using Nat.strongRecOn with
 | _ k ih =>
  intro d hd
  by_cases c : k = 0
  ·subst c
   rw [h.first] at hd
   cases hd
   exact .one
  ·obtain ⟨j,c',x,jk,_,hj,rfl,r,_⟩ := h.from_ k d (by omega) hd
   exact .snoc (ih j jk c' hj) r
end
end Sw
namespace L2
open PySem PySem.Spec PyProof.Rows XH
theorem p5 {a : Addr} {o : Obj} {kvs : List (Key × V)} {js : List Nat} {tc : TT} {te : TE} {σ : L2.St} {H1 : Hp} {Q : VK} (pr : Nat -> Bool) (P : Hp -> Nat -> V -> Prop) (mono : ∀ H H' i v,ay H H' -> P H i v -> P H' i v) (keep : ∀ H p xs ys i v,H1 p = none -> H p = some (.lst xs) -> P H i v -> P (aq H p (.lst ys)) i v) (hf : H1 a = some (.frz o (.dK kvs))) (hz : kvs.length <= sizeLine)
  (step : ∀ (i : Nat) (k : Key) (x : V),kvs[i]? = some (k,x) -> ∀ H3,ay H1 H3 -> (∀ R : Bool -> Hp -> Prop,(∀ H4,ay H3 H4 -> R (pr i) H4) -> tc (some (kV k) :: bP js σ) H3 R) /\ ∀ H4,ay H3 H4 -> ∀ R : VK,(∀ v H5,ay H4 H5 -> P H5 i v -> R v H5) -> te (some (kV k) :: bP js σ) H4 R)
  (fin : ∀ p H' vs,H1 p = none -> ay H1 H' -> H' p = some (.lst vs) -> vs.length <= kvs.length -> (∀ v ∈ vs,∃ i,i < kvs.length /\ pr i = true /\ P H' i v) -> (∀ i,i < kvs.length -> pr i = true -> ∃ v ∈ vs,P H' i v) -> Q (.ref p) H') : iQ js tc te σ Q (vP a o kvs) H1 := by
 intro p hp
 refine ⟨fun i m ys H2 => i <= kvs.length /\ m = kvs.length - i /\ ys.length <= i /\ ay H1 H2 /\ H2 p = some (.lst ys) /\ (∀ v ∈ ys,∃ j,j < i /\ pr j = true /\ P H2 j v) /\ (∀ j,j < i -> pr j = true -> ∃ v ∈ ys,P H2 j v),⟨kvs.length,AZ _,rfl,A4 _,Sw.aj hp _,ac,fun v hv => (by cases hv),fun j hj => absurd hj (Nat.not_lt_zero _)⟩,?_⟩
 rintro i m ys H2 ⟨hi,rfl,yl,g,e,h1,h2⟩
 refine ⟨e,?_⟩
 have f2 := g _ _ hf
 by_cases hin : i < kvs.length
 ·refine .inr ⟨⟨f2,hin⟩,by omega,fun x H3 hy => ?_⟩
  obtain ⟨rfl,k,v,hk,rfl⟩ := hy
  obtain ⟨st,se⟩ := step i k v hk H3 g
  refine st _ fun H4 g4 => ?_
  cases hpr : pr i with
  | true =>
   rw [if_pos rfl]
   refine se H4 g4 _ fun y H5 g5 py => ?_
   have e5 := g5 _ _ (g4 _ _ e)
   have old : ∀ j w,P H3 j w -> P (aq H5 p (.lst (ys ++ [y]))) j w := fun j w z => keep _ _ _ _ _ _ hp e5 (mono _ _ _ _ (g4.trans g5) z)
   refine ⟨e5,kvs.length - (i + 1),by omega,hin,rfl,by rw [A7,AF]; omega,Sw.fK ((g.trans g4).trans g5) hp _,ac,fun w hw => ?_,fun j hj pj => ?_⟩
   ·rcases AM.mp hw with z | z
    ·obtain ⟨j,jl,pj,q⟩ := h1 w z
     exact ⟨j,by omega,pj,old j w q⟩
    ·rw [A3.mp z]
     exact ⟨i,by omega,hpr,keep _ _ _ _ _ _ hp e5 py⟩
   ·rcases AY.mp hj with z | rfl
    ·obtain ⟨w,hw,q⟩ := h2 j z pj
     exact ⟨w,Au _ hw,old j w q⟩
    ·exact ⟨y,by simp,keep _ _ _ _ _ _ hp e5 py⟩
  | false =>
   rw [if_neg (by decide)]
   refine ⟨kvs.length - (i + 1),by omega,hin,rfl,by omega,g.trans g4,g4 _ _ e,fun w hw => ?_,fun j hj pj => ?_⟩
   ·obtain ⟨j,jl,pj,q⟩ := h1 w hw
    exact ⟨j,by omega,pj,mono _ _ _ _ g4 q⟩
   ·rcases AY.mp hj with z | rfl
    ·obtain ⟨w,hw,q⟩ := h2 j z pj
     exact ⟨w,hw,mono _ _ _ _ g4 q⟩
    ·rw [hpr] at pj
     cases pj
 ·have e2 : i = kvs.length := by omega
  subst e2
  exact .inl ⟨⟨f2,rfl⟩,fin p H2 ys hp g e yl h1 h2⟩
end L2
namespace Sw
open PySem L2 XH PyProof.Rows Wo Hm
def gn (es : List (Str × Str × Addr)) (a b : Str) : Prop := ∃ t,(a,b,t) ∈ es
theorem eX : ∀ {a b : List Str},a.map V.str = b.map V.str -> a = b
 | [],[],_ => rfl
 | [],_ :: _,h => by cases h
 | _ :: _,[],h => by cases h
 | x :: a,y :: b,h => by
  injection h with h1 h2
  injection h1 with h1
  rw [h1,eX h2]
def Ent (H : Hp) (row : List (Str × Addr)) (y : Str) (c : List Str) : Prop := ∃ a,(y,a) ∈ row /\ H a = some (.lst (c.map V.str))
structure jg (R : Str -> Str -> Prop) (good : Str) (H : Hp) (row : List (Str × Addr)) (B : Nat) : Prop where
 nd : (row.map (·.1)).Nodup
 ok : ∀ y a,(y,a) ∈ row -> ∃ c,H a = some (.lst (c.map V.str)) /\ fD R good c /\ az c = y /\ c.length <= B
def Kp (H : Hp) (row : List (Str × Addr)) (p : List Str) (y : Str) : Prop := ∃ c,Ent H row y c /\ ¬ aZ p c
def KL (H H' : Hp) : Prop := ∀ a xs,H a = some (.lst xs) -> H' a = some (.lst xs)
theorem KL.of {H H' : Hp} (g : ay H H') : KL H H' := fun a xs e => g a _ e
theorem KL.put {H : Hp} {d : Addr} {o u : HO} (e : H d = some o) (n : ∀ xs,o ≠ .lst xs) : KL H (aq H d u) := fun a xs h => by
 rw [ae (fun z => by rw [z,e] at h; exact n xs (AN h))]
 exact h
theorem Ent.same {H H' : Hp} {row : List (Str × Addr)} {y : Str} {c : List Str} (h : Ent H row y c) (g : KL H H') : Ent H' row y c := by
 obtain ⟨a,h1,h2⟩ := h
 exact ⟨a,h1,g _ _ h2⟩
theorem Kp.same {H H' : Hp} {row : List (Str × Addr)} {p : List Str} {y : Str} (h : Kp H row p y) (g : KL H H') : Kp H' row p y := by
 obtain ⟨c,h1,h2⟩ := h
 exact ⟨c,h1.same g,h2⟩
theorem jg.same {R : Str -> Str -> Prop} {good : Str} {H H' : Hp} {row : List (Str × Addr)} {B : Nat} (h : jg R good H row B) (g : KL H H') : jg R good H' row B :=
 ⟨h.nd,fun y a m => by
  obtain ⟨c,e,z⟩ := h.ok y a m
  exact ⟨c,g _ _ e,z⟩⟩
theorem jg.mono {R : Str -> Str -> Prop} {good : Str} {H : Hp} {row : List (Str × Addr)} {B B' : Nat} (h : jg R good H row B) (l : B <= B') : jg R good H row B' :=
 ⟨h.nd,fun y a m => by
  obtain ⟨c,e,z1,z2,z3⟩ := h.ok y a m
  exact ⟨c,e,z1,z2,AR z3 l⟩⟩
theorem tV {row : List (Str × Addr)} (nd : (row.map (·.1)).Nodup) {y : Str} {a b : Addr} (h1 : (y,a) ∈ row) (h2 : (y,b) ∈ row) : a = b := by
 have e1 := c7 nd h1
 rw [c7 nd h2] at e1
 injection e1 with e1
 injection e1 with e1
 exact e1.symm
theorem jg.one {R : Str -> Str -> Prop} {good : Str} {H : Hp} {row : List (Str × Addr)} {B : Nat} (h : jg R good H row B) {y : Str} {c d : List Str} (h1 : Ent H row y c) (h2 : Ent H row y d) : c = d := by
 obtain ⟨a,m1,e1⟩ := h1
 obtain ⟨b,m2,e2⟩ := h2
 have := tV h.nd m1 m2
 subst this
 rw [e1] at e2
 injection e2 with e2
 injection e2 with e2
 exact eX e2
theorem Ent.is {R : Str -> Str -> Prop} {good : Str} {H : Hp} {row : List (Str × Addr)} {B : Nat} (h : jg R good H row B) {y : Str} {c : List Str} (k : Ent H row y c) : fD R good c /\ az c = y /\ c.length <= B := by
 obtain ⟨a,m,e⟩ := k
 obtain ⟨d,e',z⟩ := h.ok y a m
 rw [e] at e'
 injection e' with e'
 injection e' with e'
 rw [eX e']
 exact z
theorem ma {H : Hp} {row : List (Str × Addr)} {y : Str} {v : V} (h : aE (bN row) (.inr y) = some v) : ∃ a,v = .ref a /\ (y,a) ∈ row := by
 obtain ⟨p,hp,e⟩ := AC.mp (ff h)
 injection e with e1 e2
 injection e1 with e1
 exact ⟨p.2,e2.symm,by rw [<- e1]; exact hp⟩
structure gu (R : Str -> Str -> Prop) (good : Str) (H : Hp) (row : List (Str × Addr)) (n : Nat) (T : Str -> Str -> Prop) : Prop where
 lo : ∀ p,fD R good p -> p.length <= n -> Kp H row p (az p)
 up : ∀ p x,fD R good p -> p.length <= n -> T (az p) x -> Kp H row (p ++ [x]) x
section
variable {R : Str -> Str -> Prop} {good : Str} {H H' : Hp} {row row' : List (Str × Addr)} {n B : Nat} {T T' : Str -> Str -> Prop}
theorem gu.same (h : gu R good H row n T) (g : KL H H') : gu R good H' row n T := ⟨fun p a b => (h.lo p a b).same g,fun p x a b c => (h.up p x a b c).same g⟩
theorem fD.ne {c : List Str} (h : fD R good c) : c ≠ [] := by cases h <;> simp
theorem gu.start {a : Addr} (e : H a = some (.lst ([good].map V.str))) : jg R good H [(good,a)] 1 /\ gu R good H [(good,a)] 1 (fun _ _ => False) := by
 refine ⟨⟨by simp,fun y b m => ?_⟩,⟨fun p hp l => ?_,fun p x _ _ z => z.elim⟩⟩
 ·rw [A3] at m
  cases m
  exact ⟨[good],e,.one,rfl,A4 _⟩
 ·cases hp with
  | one => exact ⟨[good],⟨a,by simp [az],e⟩,fun z => z.irr⟩
  | snoc hc _ =>
   have := BH.mpr hc.ne
   rw [A7,AF] at l
   omega
def wp (H : Hp) (row : List (Str × Addr)) (H' : Hp) (row' : List (Str × Addr)) : Prop := ∀ y c,Ent H row y c -> ∃ c',Ent H' row' y c' /\ (c' = c ∨ aZ c' c)
theorem wp.kp (d : wp H row H' row') {p : List Str} {y : Str} (h : Kp H row p y) : Kp H' row' p y := by
 obtain ⟨c,h1,h2⟩ := h
 obtain ⟨c',e,z⟩ := d y c h1
 refine ⟨c',e,fun w => h2 ?_⟩
 rcases z with rfl | z
 ·exact w
 ·exact w.trans z
theorem wp.inn (d : wp H row H' row') (h : gu R good H row n T) : gu R good H' row' n T := ⟨fun p a b => d.kp (h.lo p a b),fun p x a b c => d.kp (h.up p x a b c)⟩
theorem gu.next (h : gu R good H row n T) (n1 : 1 <= n) (t : ∀ a b,R a b -> T a b) : gu R good H row (n + 1) (fun _ _ => False) := by
 refine ⟨fun p hp l => ?_,fun p x _ _ z => z.elim⟩
 cases hp with
 | one => exact h.lo _ .one (by simpa using n1)
 | snoc hc r =>
  rw [A7,AF] at l
  rw [bz]
  exact h.up _ _ hc (by omega) (t _ _ r)
theorem jW {p c : List Str} {w : Str} (h : ¬ aZ p c) {k : List Str} (n : ¬ aZ (c ++ [w]) k) : ¬ aZ (p ++ [w]) k := fun z => by
 by_cases e : p = c
 ·subst e
  exact n z
 ·have cp : aZ c p := Classical.byContradiction fun q => e (dL h q)
  exact n ((cp.app w w).trans z)
theorem gu.skip {u w : Str} (h : gu R good H row n T) (nu : u ∉ row.map (·.1)) : gu R good H row n (fun a b => T a b ∨ (a = u /\ b = w)) := by
 refine ⟨h.lo,fun p x hp l z => ?_⟩
 rcases z with z | ⟨z,rfl⟩
 ·exact h.up p x hp l z
 ·obtain ⟨c,⟨a,m,_⟩,_⟩ := h.lo p hp l
  rw [z] at m
  exact absurd (AC.mpr ⟨_,m,rfl⟩) nu
theorem gu.keep {u w : Str} {c k : List Str} (h : gu R good H row n T) (L : jg R good H row B) (hc : Ent H row u c) (hk : Ent H row w k) (na : ¬ aZ (c ++ [w]) k) : gu R good H row n (fun a b => T a b ∨ (a = u /\ b = w)) := by
 refine ⟨h.lo,fun p x hp l z => ?_⟩
 rcases z with z | ⟨z,rfl⟩
 ·exact h.up p x hp l z
 ·obtain ⟨c',e,q⟩ := h.lo p hp l
  rw [z] at e
  rw [L.one e hc] at q
  exact ⟨k,hk,jW q na⟩
theorem jg.put {u w : Str} {c : List Str} {a : Addr} (L : jg R good H row B) (hc : Ent H row u c) (r : R u w) (ha : H a = some (.lst ((c ++ [w]).map V.str))) (better : ∀ k,Ent H row w k -> aZ (c ++ [w]) k) : jg R good H (cK row w a) (B + 1) /\ wp H row H (cK row w a) /\ Ent H (cK row w a) w (c ++ [w]) := by
 obtain ⟨p1,p2,p3⟩ := gj row w a L.nd
 obtain ⟨q1,q2,q3⟩ := hc.is L
 have me : Ent H (cK row w a) w (c ++ [w]) := ⟨a,(p3 w a).mpr (by rw [if_pos rfl]),ha⟩
 refine ⟨⟨p1,fun y b m => ?_⟩,fun y k e => ?_,me⟩
 ·have m' := (p3 y b).mp m
  by_cases e : y = w
  ·subst e
   rw [if_pos rfl] at m'
   subst m'
   exact ⟨c ++ [y],ha,.snoc q1 (by rw [q2]; exact r),bz _ _,by rw [A7,AF]; omega⟩
  ·rw [if_neg e] at m'
   obtain ⟨d,z1,z2,z3,z4⟩ := L.ok y b m'
   exact ⟨d,z1,z2,z3,by omega⟩
 ·by_cases z : y = w
  ·subst z
   exact ⟨_,me,.inr (better k e)⟩
  ·obtain ⟨b,m,eb⟩ := e
   exact ⟨k,⟨b,(p3 y b).mpr (by rw [if_neg z]; exact m),eb⟩,.inl rfl⟩
theorem gu.put {u w : Str} {c : List Str} (h : gu R good H row n T) (L : jg R good H row B) (hc : Ent H row u c) (d : wp H row H' row') (me : Ent H' row' w (c ++ [w])) : gu R good H' row' n (fun a b => T a b ∨ (a = u /\ b = w)) := by
 have h2 := d.inn h
 refine ⟨h2.lo,fun p x hp l z => ?_⟩
 rcases z with z | ⟨z,rfl⟩
 ·exact h2.up p x hp l z
 ·obtain ⟨c',e,q⟩ := h.lo p hp l
  rw [z] at e
  rw [L.one e hc] at q
  exact ⟨_,me,jW q fun z => z.irr⟩
theorem fD.pre {c : List Str} (h : fD R good c) : ∀ {y : Str},y ∈ c -> ∃ q,fD R good q /\ az q = y /\ q.length <= c.length /\ (c.Nodup -> q.Nodup) := by
 induction h with
 | one => exact fun {y} hy => ⟨[good],.one,by rw [A3.mp hy]; rfl,A4 _,id⟩
 | @snoc c z hc r ih =>
  intro y hy
  rcases AM.mp hy with w | w
  ·obtain ⟨q,q1,q2,q3,q4⟩ := ih w
   exact ⟨q,q1,q2,by rw [A7]; omega,fun n => q4 (B8.mp n).1⟩
  ·rw [A3] at w
   subst w
   exact ⟨_,.snoc hc r,bz _ _,A4 _,id⟩
theorem fD.short {p : List Str} (h : fD R good p) : ∃ q,fD R good q /\ az q = az p /\ q.Nodup /\ (q = p ∨ q.length < p.length) := by
 induction h with
 | one => exact ⟨[good],.one,rfl,by simp,.inl rfl⟩
 | @snoc c z hc r ih =>
  obtain ⟨q,q1,q2,q3,q4⟩ := ih
  by_cases w : z ∈ q
  ·obtain ⟨q',a1,a2,a3,a4⟩ := q1.pre w
   refine ⟨q',a1,by rw [a2,bz],a4 q3,.inr ?_⟩
   rw [A7,AF]
   rcases q4 with rfl | q4 <;> omega
  ·refine ⟨q ++ [z],.snoc q1 (by rw [q2]; exact r),by rw [bz,bz],?_,?_⟩
   ·rw [B8]
    refine ⟨q3,by simp,fun a ha b hb e => w ?_⟩
    rw [<- A3.mp hb,<- e]
    exact ha
   ·rcases q4 with rfl | q4
    ·exact .inl rfl
    ·refine .inr ?_
     rw [A7,A7]
     simp
     exact q4
theorem fD.in {p : List Str} (h : fD R good p) {U : List Str} (hU : ∀ a b,R a b -> b ∈ U) : ∀ y ∈ p,y ∈ good :: U := by
 induction h with
 | one => intro y hy; rw [A3.mp hy]; simp
 | snoc hc r ih =>
  intro y hy
  rcases AM.mp hy with w | w
  ·exact ih y w
  ·rw [A3.mp w]
   exact AV _ (hU _ _ r)
theorem gu.done (h : gu R good H row n T) {U : List Str} (hU : ∀ a b,R a b -> b ∈ U) (l : U.length + 1 <= n) {p : List Str} (hp : fD R good p) : Kp H row p (az p) := by
 obtain ⟨q,q1,q2,q3,q4⟩ := hp.short
 have ql : q.length <= n := AR (Wo.c6 q3 (q1.in hU)) (by simpa using l)
 obtain ⟨c,e,na⟩ := h.lo q q1 ql
 refine ⟨c,by rw [<- q2]; exact e,fun z => na ?_⟩
 rcases q4 with rfl | q4
 ·exact z
 ·exact (cE q4).trans z
theorem jg.few (L : jg R good H row B) {U : List Str} (hU : ∀ a b,R a b -> b ∈ U) : row.length <= U.length + 1 := by
 have := Wo.c6 (m := good :: U) L.nd fun y hy => by
  obtain ⟨p,hp,rfl⟩ := AC.mp hy
  obtain ⟨c,_,z1,z2,_⟩ := L.ok p.1 p.2 hp
  have ne := z1.ne
  refine z1.in hU _ ?_
  rw [<- z2]
  unfold az
  rw [List.getLastD_eq_getLast?,List.getLast?_eq_some_getLast ne]
  exact List.getLast_mem ne
 rw [A5] at this
 exact this
end
structure tW (R : Str -> Str -> Prop) (good : Str) (H : Hp) (row : List (Str × Addr)) (B : Nat) : Prop where
 ls : jg R good H row B
 all : ∀ p,fD R good p -> Kp H row p (az p)
theorem tX {es : List (Str × Str × Addr)} {i : Nat} {k : List Key} {x : V} (h : (ir es)[i]? = some (k,x)) : ∃ (a b : Str) (t : Addr),k = [.inr a,.inr b] /\ es[i]? = some (a,b,t) := by
 unfold ir at h
 rw [AK] at h
 cases e : es[i]? with
 | none => rw [e] at h; cases h
 | some p =>
  rw [e] at h
  cases h
  exact ⟨p.1,p.2.1,p.2.2,rfl,rfl⟩
def uO (es : List (Str × Str × Addr)) (i : Nat) (a b : Str) : Prop := ∃ j,j < i /\ ∃ t,es[j]? = some (a,b,t)
theorem uO.all {es : List (Str × Str × Addr)} {a b : Str} (h : gn es a b) : uO es es.length a b := by
 obtain ⟨t,h⟩ := h
 obtain ⟨j,hj⟩ := AW.mp h
 exact ⟨j,(A1.mp hj).1,t,hj⟩
theorem uO.succ {es : List (Str × Str × Addr)} {i : Nat} {u w : Str} {t : Addr} (h : es[i]? = some (u,w,t)) {a b : Str} (k : uO es (i + 1) a b) : uO es i a b ∨ (a = u /\ b = w) := by
 obtain ⟨j,jl,t',e⟩ := k
 rcases AY.mp jl with z | rfl
 ·exact .inl ⟨j,z,t',e⟩
 ·rw [h] at e
  cases e
  exact .inr ⟨rfl,rfl⟩
theorem gu.less {R : Str -> Str -> Prop} {good : Str} {H : Hp} {row : List (Str × Addr)} {n : Nat} {T T' : Str -> Str -> Prop} (h : gu R good H row n T) (k : ∀ a b,T' a b -> T a b) : gu R good H row n T' := ⟨h.lo,fun p x a b c => h.up p x a b (k _ _ c)⟩
theorem i4 (row : List (Str × Addr)) : (bN row).length = row.length := A5 _
def kO : Sp := fun vs H Q _ => ∃ (ds : Addr) (good : Str) (es : List (Str × Str × Addr)) (U : List Str),vs = [.ref ds,.str good] /\ H ds = some (.dT (ir es)) /\ es.length <= 100 /\ (∀ a b,gn es a b -> b ∈ U) /\ U.length <= 6 /\
 ∀ (d : Addr) (H' : Hp) (row : List (Str × Addr)),ay H H' -> H' d = some (.dK (bN row)) -> tW (gn es) good H' row 1000 -> Q (.ref d) H'
def xE (H : Hp) (es : List (Str × Str × Addr)) (vw : Str -> Str -> Int × Int) : Prop := ∀ a b t,(a,b,t) ∈ es -> H t = some (.tup [.int (vw a b).1,.int (vw a b).2]) /\ 0 < (vw a b).1 /\ qI (vw a b).1 (vw a b).2 /\ Bd 200 (vw a b).1 /\ Bd 200 (vw a b).2
structure D6 (H : Hp) (dp ds db : Addr) (nm : List Str) (ps : List (Str × Str)) (es : List (Str × Str × Addr)) (bs : List Str) (vw : Str -> Str -> Int × Int) : Prop where
 ep : H dp = some (.dT (jU ps))
 ee : H ds = some (.dT (ir es))
 eb : H db = some (.dK (aO bs (.bl true)))
 val : xE H es vw
 inn : ∀ a b t,(a,b,t) ∈ es -> a ∈ nm /\ b ∈ nm /\ a ≠ b
 bnd : bs.Nodup
 binn : ∀ b ∈ bs,b ∈ nm
 few : ps.length <= 70 /\ es.length <= 70 /\ nm.length <= 6
 ne : dp ≠ ds
theorem D6.same {H H' : Hp} {dp ds db : Addr} {nm : List Str} {ps : List (Str × Str)} {es : List (Str × Str × Addr)} {bs : List Str} {vw : Str -> Str -> Int × Int} (h : D6 H dp ds db nm ps es bs vw) (g : ay H H') : D6 H' dp ds db nm ps es bs vw :=
 ⟨g _ _ h.ep,g _ _ h.ee,g _ _ h.eb,fun a b t m => ⟨g _ _ (h.val a b t m).1,(h.val a b t m).2⟩,h.inn,h.bnd,h.binn,h.few,h.ne⟩
theorem D6.bars {H : Hp} {dp ds db : Addr} {nm : List Str} {ps : List (Str × Str)} {es : List (Str × Str × Addr)} {bs : List Str} {vw : Str -> Str -> Int × Int} (h : D6 H dp ds db nm ps es bs vw) : bs.length <= 6 := AR (Wo.c6 h.bnd h.binn) h.few.2.2
def rW (es : List (Str × Str × Addr)) (ps : List (Str × Str)) (bs : List Str) (good : Str) (c : List Str) : Prop := fD (gn es) good c /\ ¬ Blk ps bs (az c) /\ ∀ p,fD (gn es) good p -> ¬ Blk ps bs (az p) -> ¬ aZ p c
def kP : Sp := fun vs H Q _ => ∃ (dp ds db : Addr) (good : Str) (nm : List Str) (ps : List (Str × Str)) (es : List (Str × Str × Addr)) (bs : List Str) (vw : Str -> Str -> Int × Int),vs = [.ref dp,.ref ds,.ref db,.str good] /\ D6 H dp ds db nm ps es bs vw /\
 (∀ H',ay H H' -> (∀ p,fD (gn es) good p -> Blk ps bs (az p)) -> Q .non H') /\
 (∀ (t cl rl : Addr) (c : List Str) (p q : Int) (H' : Hp),ay H H' -> rW es ps bs good c -> H' t = some (.tup [.ref cl,.ref rl]) -> H' cl = some (.lst (c.map V.str)) -> H' rl = some (.tup [.int p,.int q]) -> Fr p q (fz vw c (c.length - 1)).1 (fz vw c (c.length - 1)).2 -> 0 < (fz vw c (c.length - 1)).2 -> Q (.ref t) H')
theorem rW.len {es : List (Str × Str × Addr)} {ps : List (Str × Str)} {bs : List Str} {good : Str} {c : List Str} (h : rW es ps bs good c) {U : List Str} (hU : ∀ a b,gn es a b -> b ∈ U) : c.length <= U.length + 1 := by
 obtain ⟨q,q1,q2,q3,q4⟩ := h.1.short
 rcases q4 with rfl | q4
 ·simpa using Wo.c6 q3 (q1.in hU)
 ·exact absurd (cE q4) (h.2.2 q q1 (by rw [q2]; exact h.2.1))
theorem fD.link {R : Str -> Str -> Prop} {good : Str} {c : List Str} (h : fD R good c) : c[0]? = some good /\ ∀ (j : Nat) (x y : Str),c[j]? = some x -> c[j + 1]? = some y -> R x y := by
 induction h with
 | one => exact ⟨rfl,fun j x y _ h => by simp at h⟩
 | @snoc c z hc r ih =>
  obtain ⟨h0,hl⟩ := ih
  have c1 := BH.mpr hc.ne
  refine ⟨by rw [AA c1]; exact h0,fun j x y hx hy => ?_⟩
  have jl := (A1.mp hy).1
  rw [A7,AF] at jl
  rw [AA (by omega)] at hx
  by_cases k : j + 1 < c.length
  ·rw [AA k] at hy
   exact hl j x y hx hy
  ·have e : j + 1 = c.length := by omega
   rw [AT (by omega),e,Nat.sub_self] at hy
   cases hy
   have : az c = x := by
    unfold az
    rw [List.getLastD_eq_getLast?,List.getLast?_eq_getElem?,show c.length - 1 = j by omega,hx]
    rfl
   rw [<- this]
   exact r
theorem wb {R : Str -> Str -> Prop} {es : List (Str × Str × Addr)} {ps : List (Str × Str)} {bs : List Str} {good : Str} {cs : List (List Str)} (hR : ∀ a b,R a b ↔ gn es a b) (h : eh R good cs cs.length (fun _ => False)) {k : Nat} {c e : List Str} (hk : cs[k]? = some c) (bl : ∀ (j : Nat) (d : List Str),j < k -> cs[j]? = some d -> Blk ps bs (az d)) (nb : ¬ Blk ps bs (az c)) (d : rW es ps bs good e) : e = c := by
 have eR : R = gn es := by funext a b; exact propext (hR a b)
 subst eR
 obtain ⟨d1,d2,d3⟩ := d
 obtain ⟨j,d',hd,el,na⟩ := eh.least h d1
 refine dL (fun z => na ?_) (d3 c (eh.path h k c hk) nb)
 rcases Nat.lt_trichotomy j k with w | w | w
 ·exact absurd (bl j d' w hd) (by rw [el]; exact d2)
 ·subst w
  rw [hk] at hd
  cases hd
  exact z
 ·exact z.trans (h.lt hk hd w)
theorem rX {R : Str -> Str -> Prop} {es : List (Str × Str × Addr)} {ps : List (Str × Str)} {bs : List Str} {good : Str} {cs : List (List Str)} (hR : ∀ a b,R a b ↔ gn es a b) (h : eh R good cs cs.length (fun _ => False)) (all : ∀ (j : Nat) (d : List Str),cs[j]? = some d -> Blk ps bs (az d)) (p : List Str) (hp : fD (gn es) good p) : Blk ps bs (az p) := by
 have eR : R = gn es := by funext a b; exact propext (hR a b)
 subst eR
 obtain ⟨j,d',hd,el,na⟩ := eh.least h hp
 rw [<- el]
 exact all j d' hd
noncomputable def yK (ps : List (Str × Str)) (bs : List Str) (y : Str) : Bool := @decide (¬ Blk ps bs y) (Classical.propDecidable _)
theorem i5 {ps : List (Str × Str)} {bs : List Str} {y : Str} : yK ps bs y = true ↔ ¬ Blk ps bs y := @decide_eq_true_iff _ (Classical.propDecidable _)
theorem wc {ps : List (Str × Str)} {bs : List Str} {y : Str} {b : Bool} (h : b = true ↔ ¬ Blk ps bs y) : b = yK ps bs y := BU.mpr (h.trans i5.symm)
theorem tW.ndb {R : Str -> Str -> Prop} {good : Str} {H : Hp} {row : List (Str × Addr)} {B : Nat} {d db : Addr} {bs : List Str} (h : tW R good H row B) (e1 : H d = some (.dK (bN row))) (e2 : H db = some (.dK (aO bs (.bl true)))) : db ≠ d := fun z => by
 subst z
 rw [e1] at e2
 injection e2 with e2
 injection e2 with e2
 obtain ⟨c,⟨a,m,_⟩,_⟩ := h.all [good] .one
 cases row with
 | nil => cases m
 | cons r row =>
  cases bs with
  | nil => cases e2
  | cons b bs =>
   injection e2 with e2 _
   injection e2 with _ e2
   cases e2
theorem rY {H : Hp} {v : V} {l d : Addr} {c : List Str} {o u : HO} (h : LC H v l c) (e : H d = some o) (n1 : ∀ xs,o ≠ .lst xs) (n2 : ∀ xs,o ≠ .tup xs) : LC (aq H d u) v l c := by
 obtain ⟨a,rfl,h1,h2⟩ := h
 refine ⟨a,rfl,?_,?_⟩
 ·rw [ae (fun z => by rw [z,e] at h1; exact n2 _ (AN h1))]
  exact h1
 ·rw [ae (fun z => by rw [z,e] at h2; exact n1 _ (AN h2))]
  exact h2
theorem wd {H : Hp} {v : V} {l m : Addr} {c d : List Str} (h : LC H v l c) (k : LC H v m d) : l = m /\ c = d := by
 obtain ⟨a,rfl,h1,h2⟩ := h
 obtain ⟨b,e,k1,k2⟩ := k
 cases e
 rw [h1] at k1
 injection k1 with k1
 injection k1 with k1
 injection k1 with _ k1
 injection k1 with k1 _
 injection k1 with k1
 subst k1
 rw [h2] at k2
 injection k2 with k2
 injection k2 with k2
 exact ⟨rfl,eX k2⟩
theorem tY {row : List (Str × Addr)} {i : Nat} {k : Key} {x : V} (h : (bN row)[i]? = some (k,x)) : ∃ y a,k = .inr y /\ row[i]? = some (y,a) := by
 unfold bN at h
 rw [AK] at h
 cases e : row[i]? with
 | none => rw [e] at h; cases h
 | some p =>
  rw [e] at h
  cases h
  exact ⟨p.1,p.2,rfl,rfl⟩
noncomputable def xF (ps : List (Str × Str)) (bs : List Str) (row : List (Str × Addr)) (i : Nat) : Bool := match row[i]? with
 | some p => yK ps bs p.1
 | none => false
def we (row : List (Str × Addr)) (H1 H : Hp) (i : Nat) (v : V) : Prop := ∃ y a c,row[i]? = some (y,a) /\ LC H v a c /\ H1 a = some (.lst (c.map V.str))
def gR : Sp := fun vs H Q _ => ∃ c : Int,vs = [.int c] /\ ∀ p q : Int,0 < p -> qI p q -> Bd 200 p -> Bd 200 q -> Pair H Q p q
theorem LB.farN {C : Addr} {F : List Addr} {H : Hp} {x l : Addr} {rows : List (Str × List Str)} {m : Nat} {g : Str -> Str -> Option Addr} {bs ns : List Str} {o : HO} (h : LB C F H x rows m g bs ns) (e : H l = some o) (lF : l ∉ F) (k2 : ∀ C dx fs,o ≠ .ins C dx fs) (u : HO) : LB C F (aq H l u) x rows m g bs ns := by
 obtain ⟨F0,dx,s,b,fs,dk,la,ex,es,eb,bd,hb,q1,q2,q3,q4,q5,q6,q7,q8,q9⟩ := h.ex
 have xl : x ≠ l := fun z => by
  rw [z,e] at ex
  exact k2 _ _ _ (AN ex)
 have sl : s ≠ l := fun z => lF (by rw [<- z]; exact q6)
 have bl : b ≠ l := fun z => lF (by rw [<- z]; exact q7)
 refine ⟨F0,dx,s,b,fs,dk,?_,by rw [ae xl]; exact ex,es,eb,kH bd (fun z => sl z.symm) (fun y z => ?_) _,by rw [ae bl]; exact hb,q1,q2,q3,q4,q5,q6,q7,fun a ha => ?_,q9⟩
 ·obtain ⟨dx',p,n,fs',rs,a,b',c,d,e',f,i,j,k⟩ := la.ex
  subst i
  have pl : p ≠ l := fun z => lF (q5 _ (by simp [z]))
  have nl : n ≠ l := fun z => lF (q5 _ (by simp [z]))
  have rl : l ∉ rs := fun z => lF (q5 _ (by simp [z]))
  exact ⟨dx',p,n,fs',rs,by rw [ae xl]; exact a,b',c,d.other rl,by rw [ae pl]; exact e',by rw [ae nl]; exact f,rfl,j,k⟩
 ·rcases bd.ex y with ⟨z1,_⟩ | ⟨a,row,z1,z2,z3,_⟩
  ·rw [z] at z1; cases z1
  ·rw [z] at z1
   cases z1
   exact lF (eM.mp z3)
 ·obtain ⟨kv,w⟩ := q8 a ha
  exact ⟨kv,by rw [ae (fun z => lF (by rw [<- z]; exact ha))]; exact w⟩
section
variable (K : A0) (C : Addr)
def kQ : Sp := fun vs H Q _ => ∃ (x : Addr) (zg zo : Str) (F : List Addr) (rows : List (Str × List Str)) (m : Nat) (g : Str -> Str -> Option Addr) (bs ns : List Str) (ps : List (Str × Str)),vs = [.ref x,.str zg,.str zo] /\ LB C F H x rows m g bs ns /\ bY rows ps /\ ps.length <= 900 /\ ns.Nodup /\ ns.length <= 78 /\ Nm zg /\ Nm zo /\ ¬ Led ps zo zg /\
 ∀ F' H' ms,KF F H H' -> FG F F' H -> LB C F' H' x (aP rows zg zo) m g bs ms -> ms.Nodup -> (∀ y,y ∈ ms ↔ y ∈ ns ∨ y = zg ∨ y = zo) -> Q .non H'
def i6 : Sp := fun vs H Q _ => ∃ (x r : Addr) (zg zo : Str) (p q : Int) (F : List Addr) (rows : List (Str × List Str)) (m : Nat) (g : Str -> Str -> Option Addr) (bs ns : List Str),vs = [.ref x,.str zg,.str zo,.ref r] /\ LB C F H x rows m g bs ns /\ m <= 1000 /\ ns.Nodup /\ ns.length <= 78 /\ Nm zg /\ Nm zo /\ H r = some (.tup [.int p,.int q]) /\ 0 < p /\ qI p q /\ Bd 200 p /\ Bd 200 q /\ zg ≠ zo /\ ¬ kD g zg zo /\
 ∀ (F' : List Addr) (H' : Hp) (ms : List Str),KF F H H' -> FG F F' H -> LB C F' H' x rows (m + 2) (kI g zg zo r) bs ms -> H' r = some (.tup [.int p,.int q]) -> ms.Nodup -> (∀ y,y ∈ ms ↔ y ∈ ns ∨ y = zg ∨ y = zo) -> Q .non H'
variable {K C} {cN cI cS : Addr}
theorem rZ (vs : List V) (H : Hp) (Q : VK) (E : XK) (h : kQ C vs H Q E) : kC K C cN cI vs H Q E0 := by
 obtain ⟨x,zg,zo,F,rows,m,g,bs,ns,ps,rfl,lb,ok,few,nd,n78,ng,no,nl,q⟩ := h
 obtain ⟨F0,la,back⟩ := lb.part
 refine ⟨x,.str zg,.str zo,F0,rows,ns,ps,rfl,la,ok,few,nd,n78,.inl ⟨zg,rfl,ng⟩,.inl ⟨zo,rfl,no⟩,fun n => absurd ⟨⟨zg,rfl,ng⟩,⟨zo,rfl,no⟩⟩ n,fun a b e1 e2 _ _ => ?_⟩
 cases e1
 cases e2
 refine ⟨fun z => absurd z nl,fun _ F0' H' ms k fg la' nd' hs => ?_⟩
 obtain ⟨F',lb',k',fg'⟩ := back H' F0' _ ms k fg la'
 exact q F' H' ms k' fg' lb' nd' hs
theorem p6 (vs : List V) (H : Hp) (Q : VK) (E : XK) (h : i6 C vs H Q E) : iX K C cN cS vs H Q E0 := by
 obtain ⟨x,r,zg,zo,p,q',F,rows,m,g,bs,ns,rfl,lb,m1,nd,n78,ng,no,er,p0,lo,b1,b2,ne,ns',q⟩ := h
 have ok : m8 H (.ref r) p q' := .inr ⟨r,rfl,er,p0,lo,b1,b2⟩
 refine ⟨x,.str zg,.str zo,.ref r,F,rows,m,g,bs,ns,rfl,lb,m1,nd,n78,.inl ⟨zg,rfl,ng⟩,.inl ⟨zo,rfl,no⟩,.inl ⟨p,q',ok⟩,fun n => absurd ⟨⟨zg,rfl,ng⟩,⟨zo,rfl,no⟩⟩ n,fun a b e1 e2 _ _ => ?_⟩
 cases e1
 cases e2
 refine ⟨fun z => ?_,fun _ _ p2 q2 ok2 F' H' ms t k fg lb' et hr nd' hs => ?_⟩
 ·rcases z with z | z | z
  ·exact absurd z ne
  ·exact absurd z ns'
  ·exact (v4 ok z).elim
 ·obtain ⟨rfl,rfl⟩ := pX ok ok2
  have := hr r rfl
  subst this
  exact q F' H' ms k fg lb' et nd' hs
end
def KD (H H' : Hp) : Prop := ∀ a o,(∀ kv,o ≠ .dK kv) -> (∀ kv,o ≠ .dT kv) -> H a = some o -> H' a = some o
theorem KD.trans {H H' H'' : Hp} (h : KD H H') (k : KD H' H'') : KD H H'' := fun a o n z e => k a o n z (h a o n z e)
theorem KD.of {H H' : Hp} (h : ay H H') : KD H H' := fun a o _ _ e => h a o e
theorem KD.putK {H : Hp} {d : Addr} {kv : List (Key × V)} (e : H d = some (.dK kv)) (u : HO) : KD H (aq H d u) := fun a o n _ h => by
 rw [ae (fun z => by rw [z,e] at h; exact n kv (AN h).symm)]
 exact h
theorem KD.putT {H : Hp} {d : Addr} {kv : List (List Key × V)} (e : H d = some (.dT kv)) (u : HO) : KD H (aq H d u) := fun a o _ n h => by
 rw [ae (fun z => by rw [z,e] at h; exact n kv (AN h).symm)]
 exact h
theorem KD.kf {C : Addr} {F : List Addr} {H H' : Hp} {x : Addr} {rows : List (Str × List Str)} {m : Nat} {g : Str -> Str -> Option Addr} {bs ns : List Str} (lb : LB C F H x rows m g bs ns) (k : KF F H H') : KD H H' := fun a o z _ e => k a o (lb.not e z) e
structure S6 (K : A0) (C : Addr) (H : Hp) (x dp ds db : Addr) (nm : List Str) (n : Nat) (F : List Addr) (rows : List (Str × List Str)) (m : Nat) (g : Str -> Str -> Option Addr) (bs ns : List Str) (ps : List (Str × Str)) (es : List (Str × Str × Addr)) (vw : Str -> Str -> Int × Int) : Prop where
 d6 : D6 H dp ds db nm ps es bs vw
 lb : LB C F H x rows m g bs ns
 ok : bY rows ps
 st : ∀ a b,kD g a b ↔ gn es a b
 ra : nh K H g vw
 up : ∀ a b,(a,b) ∈ ps -> ∃ i j : Nat,i < j /\ nm[i]? = some a /\ nm[j]? = some b
 nn : ns.Nodup
 nsm : ∀ y ∈ ns,y ∈ nm
 dbF : db ∉ F
 cnt : m <= 2 * n /\ ps.length <= n /\ es.length <= n
section
variable {K : A0} {C : Addr} {H H' : Hp} {x dp ds db : Addr} {nm : List Str} {n : Nat} {F : List Addr} {rows : List (Str × List Str)} {m : Nat} {g : Str -> Str -> Option Addr} {bs ns : List Str} {ps : List (Str × Str)} {es : List (Str × Str × Addr)} {vw : Str -> Str -> Int × Int}
theorem S6.same (h : S6 K C H x dp ds db nm n F rows m g bs ns ps es vw) (e : ay H H') : S6 K C H' x dp ds db nm n F rows m g bs ns ps es vw :=
 ⟨h.d6.same e,h.lb.same e,h.ok,h.st,h.ra.keep fun a xs z => e _ _ z,h.up,h.nn,h.nsm,h.dbF,h.cnt⟩
theorem S6.more (h : S6 K C H x dp ds db nm n F rows m g bs ns ps es vw) : S6 K C H x dp ds db nm (n + 1) F rows m g bs ns ps es vw := ⟨h.d6,h.lb,h.ok,h.st,h.ra,h.up,h.nn,h.nsm,h.dbF,by have := h.cnt; omega⟩
theorem S6.len (h : S6 K C H x dp ds db nm n F rows m g bs ns ps es vw) : ns.length <= 6 := AR (Wo.c6 h.nn h.nsm) h.d6.few.2.2
theorem S6.hU (h : S6 K C H x dp ds db nm n F rows m g bs ns ps es vw) (a b : Str) (z : kD g a b) : b ∈ nm := by
 obtain ⟨t,z⟩ := (h.st a b).mp z
 exact (h.d6.inn a b t z).2.1
theorem S6.d6k (h : S6 K C H x dp ds db nm n F rows m g bs ns ps es vw) (k : KF F H H') : D6 H' dp ds db nm ps es bs vw :=
 ⟨k _ _ (h.lb.not h.d6.ep (fun _ z => nomatch z)) h.d6.ep,k _ _ (h.lb.not h.d6.ee (fun _ z => nomatch z)) h.d6.ee,k _ _ h.dbF h.d6.eb,fun a b t z => ⟨k _ _ (h.lb.not (h.d6.val a b t z).1 (fun _ z => nomatch z)) (h.d6.val a b t z).1,(h.d6.val a b t z).2⟩,h.d6.inn,h.d6.bnd,h.d6.binn,h.d6.few,h.d6.ne⟩
theorem S6.rak (h : S6 K C H x dp ds db nm n F rows m g bs ns ps es vw) (k : KF F H H') : nh K H' g vw := h.ra.keep fun a xs z => k _ _ (h.lb.not z (fun _ z => nomatch z)) z
end
def qa (K : A0) (C : Addr) (H : Hp) (x dp ds db : Addr) (nm : List Str) (n : Nat) : Prop := ∃ F rows m g bs ns ps es vw,S6 K C H x dp ds db nm n F rows m g bs ns ps es vw
def Ao (nm : List Str) : Prop := nm.Nodup /\ ∀ z ∈ nm,Nm z
def fj (c1 : Addr) : Sp := fun vs H Q _ => ∃ (a dd : Addr),vs = [.ref a] /\ Am H a c1 (some dd) /\ ∀ H',ay H H' -> Q (.bl true) H'
def i7 (K : A0) (C : Addr) : Sp := fun vs H Q _ => ∃ (x dp ds db : Addr) (z : Str) (nm : List Str) (n : Nat) (F : List Addr) (rows : List (Str × List Str)) (m : Nat) (g : Str -> Str -> Option Addr) (bs ns : List Str) (ps : List (Str × Str)) (es : List (Str × Str × Addr)) (vw : Str -> Str -> Int × Int),vs = [.ref x,.str z] /\ S6 K C H x dp ds db nm n F rows m g bs ns ps es vw /\ n <= 63 /\ Nm z /\
 ∀ cs,eh (kD g) z cs cs.length (fun _ => False) ->
  (∀ (k : Nat) (c : List Str) (t cl rl : Addr) (p q : Int) (H' : Hp),ay H H' -> cs[k]? = some c -> (∀ (j : Nat) (d : List Str),j < k -> cs[j]? = some d -> Blk ps bs (az d)) -> ¬ Blk ps bs (az c) -> H' t = some (.tup [.ref cl,.ref rl]) -> H' cl = some (.lst (c.map V.str)) -> H' rl = some (.tup [.int p,.int q]) -> wn vw c p q -> Q (.ref t) H') /\
  ((∀ (j : Nat) (d : List Str),cs[j]? = some d -> Blk ps bs (az d)) -> ∀ (H' : Hp),ay H H' -> Q .non H')
def cQ (K : A0) (C : Addr) : Sp := fun vs H Q _ => ∃ (x dp ds db : Addr) (z : Str) (nm : List Str) (n : Nat),vs = [.ref x,.ref dp,.ref ds,.ref db,.str z] /\ qa K C H x dp ds db nm n /\ n <= 63 /\ Nm z /\ ∀ H',ay H H' -> Q (.bl true) H'
def eY (K : A0) (C : Addr) : Sp := fun vs H Q _ => ∃ (x dp ds db : Addr) (z : Str) (nm : List Str) (n : Nat),vs = [.ref x,.ref dp,.ref db,.str z] /\ qa K C H x dp ds db nm n /\ n <= 63 /\ Nm z /\ ∀ H',ay H H' -> Q (.bl true) H'
def kR (K : A0) (C : Addr) : Sp := fun vs H Q _ => ∃ (x dp ds db l : Addr) (c : Int) (nm : List Str) (n : Nat),vs = [.ref x,.ref dp,.ref ds,.ref db,.ref l,.int c] /\ qa K C H x dp ds db nm n /\ n <= 63 /\ H l = some (.lst (nm.map V.str)) /\ 2 <= nm.length /\ Ao nm /\
 ∀ H',KD H H' -> qa K C H' x dp ds db nm (n + 1) -> Q .non H'
section
variable {K : A0} {C : Addr} {H H1 H2 : Hp} {x dp ds db : Addr} {nm : List Str} {n : Nat} {F F' : List Addr} {rows : List (Str × List Str)} {m : Nat} {g : Str -> Str -> Option Addr} {bs ns ms : List Str} {ps : List (Str × Str)} {es : List (Str × Str × Addr)} {vw : Str -> Str -> Int × Int}
theorem FG.out {a : Addr} {o : HO} (fg : FG F F' H) (e : H a = some o) (n : a ∉ F) : a ∉ F' := fun z => by
 rcases fg a z with w | w
 ·exact n w
 ·rw [e] at w; cases w
theorem iw {d : Addr} {o : HO} (e : H d = some o) (n : ∀ xs,o ≠ .tup xs) (u : HO) (a : Addr) (xs : List V) (h : H a = some (.tup xs)) : aq H d u a = some (.tup xs) := by
 rw [ae (fun z => by rw [z,e] at h; exact n xs (AN h))]
 exact h
theorem gp {d a : Addr} {o o' u : HO} (e : H d = some o) (h : H a = some o') (n : o ≠ o') : aq H d u a = some o' := by
 rw [ae (fun z => by rw [z,e] at h; exact n (AN h))]
 exact h
theorem S6.part (s : S6 K C H x dp ds db nm n F rows m g bs ns ps es vw) {a b : Str} {i j : Nat} (k : KF F H H1) (fg : FG F F' H) (lb : LB C F' H1 x (aP rows a b) m g bs ms) (nd : ms.Nodup) (hs : ∀ y,y ∈ ms ↔ y ∈ ns ∨ y = a ∨ y = b) (g2 : ay H1 H2) (ij : i < j) (ha : nm[i]? = some a) (hb : nm[j]? = some b) (n60 : n < 70) :
  S6 K C (aq H2 dp (.dT (putK (jU ps) [.inr a,.inr b] (.bl true)))) x dp ds db nm (n + 1) F' (aP rows a b) m g bs ms (kL ps a b) es vw := by
 have d1 := (s.d6k k).same g2
 have lb2 := lb.same g2
 have ra2 := (s.rak k).keep fun a xs z => g2 _ _ z
 have cnt := s.cnt
 have al := rT ps a b
 have few := s.d6.few
 refine ⟨⟨by rw [ac,tU],by rw [ae (Ne.symm d1.ne)]; exact d1.ee,gp d1.ep d1.eb (fun z => nomatch z),fun u v t z => ⟨iw d1.ep (fun _ z => nomatch z) _ _ _ (d1.val u v t z).1,(d1.val u v t z).2⟩,d1.inn,d1.bnd,d1.binn,by omega,d1.ne⟩,lb2.far d1.ep (fun _ z => nomatch z) (fun _ _ _ z => nomatch z) _,s.ok.addP a b,s.st,ra2.keep (iw d1.ep (fun _ z => nomatch z) _),fun u v z => ?_,nd,fun y hy => ?_,fg.out s.d6.eb s.dbF,by omega⟩
 ·rcases rS.mp z with z | z
  ·exact s.up u v z
  ·cases z
   exact ⟨i,j,ij,ha,hb⟩
 ·rcases (hs y).mp hy with z | rfl | rfl
  ·exact s.nsm y z
  ·exact A8 ha
  ·exact A8 hb
theorem S6.noring (s : S6 K C H x dp ds db nm n F rows m g bs ns ps es vw) (hn : nm.Nodup) {a b : Str} {i j : Nat} (ij : i < j) (ha : nm[i]? = some a) (hb : nm[j]? = some b) : ¬ Led ps b a := fun l => by
 have one : ∀ {u v : Nat} {y : Str},nm[u]? = some y -> nm[v]? = some y -> u = v := fun {u v y} h1 h2 => (List.getElem?_inj (A1.mp h1).1 hn).mp (h1.trans h2.symm)
 have : ∃ k,j <= k /\ nm[k]? = some a := l.closed (S := fun y => ∃ k,j <= k /\ nm[k]? = some y) ⟨j,A4 _,hb⟩ fun u v ⟨k,jk,hk⟩ z => by
  obtain ⟨p,q,pq,hp,hq⟩ := s.up u v z
  have := one hp hk
  exact ⟨q,by omega,hq⟩
 obtain ⟨k,jk,hk⟩ := this
 have := one ha hk
 omega
theorem S6.stand (s : S6 K C H x dp ds db nm n F rows m g bs ns ps es vw) {a b : Str} {r : Addr} {p q : Int} (k : KF F H H1) (fg : FG F F' H) (lb : LB C F' H1 x rows (m + 2) (kI g a b r) bs ms) (er : H1 r = some (.tup [.int p,.int q])) (p0 : 0 < p) (lo : qI p q) (b1 : Bd 200 p) (b2 : Bd 200 q) (na : Nm a) (nb : Nm b) (nd : ms.Nodup) (hs : ∀ y,y ∈ ms ↔ y ∈ ns ∨ y = a ∨ y = b) (g2 : ay H1 H2) (ai : a ∈ nm) (bi : b ∈ nm) (ab : a ≠ b) (new : ∀ t,(a,b,t) ∉ es) (n60 : n < 70) :
  S6 K C (aq H2 ds (.dT (putK (ir es) [.inr a,.inr b] (.ref r)))) x dp ds db nm (n + 1) F' rows (m + 2) (kI g a b r) bs ms ps (es ++ [(a,b,r)]) (fun u v => if u = a /\ v = b then (p,q) else vw u v) := by
 have d1 := (s.d6k k).same g2
 have lb2 := lb.same g2
 have ra2 := (s.rak k).keep fun a xs z => g2 _ _ z
 have cnt := s.cnt
 have few := s.d6.few
 have tp := iw d1.ee (fun _ z => nomatch z) (.dT (putK (ir es) [.inr a,.inr b] (.ref r)))
 have er2 := tp _ _ (g2 _ _ er)
 refine ⟨⟨by rw [ae d1.ne]; exact d1.ep,by rw [ac,tQ new],gp d1.ee d1.eb (fun z => nomatch z),fun u v t z => ?_,fun u v t z => ?_,d1.bnd,d1.binn,by rw [A7,AF]; omega,d1.ne⟩,lb2.far d1.ee (fun _ z => nomatch z) (fun _ _ _ z => nomatch z) _,s.ok,fun u v => ?_,⟨fun u v t z => ?_,fun u v t z => ?_⟩,s.up,nd,fun y hy => ?_,fg.out s.d6.eb s.dbF,by rw [A7,AF]; omega⟩
 ·rcases AM.mp z with z | z
  ·have c : ¬ (u = a /\ v = b) := fun c => new t (by rw [<- c.1,<- c.2]; exact z)
   simp only [if_neg c]
   exact ⟨tp _ _ (d1.val u v t z).1,(d1.val u v t z).2⟩
  ·rw [A3] at z
   cases z
   simp only [and_self,if_true]
   exact ⟨er2,p0,lo,b1,b2⟩
 ·rcases AM.mp z with z | z
  ·exact d1.inn u v t z
  ·rw [A3] at z
   cases z
   exact ⟨ai,bi,ab⟩
 ·unfold kD kI
  by_cases c : u = a /\ v = b
  ·rw [c.1,c.2]
   exact ⟨fun _ => ⟨r,by simp⟩,fun _ => ⟨r,by simp⟩⟩
  ·simp only [if_neg c]
   refine (s.st u v).trans ⟨fun ⟨w,z⟩ => ⟨w,Au _ z⟩,fun ⟨w,z⟩ => ?_⟩
   rcases AM.mp z with z | z
   ·exact ⟨w,z⟩
   ·rw [A3] at z
    cases z
    exact absurd ⟨rfl,rfl⟩ c
 ·unfold kI at z
  by_cases c : u = a /\ v = b
  ·rw [if_pos c] at z
   cases z
   simp only [if_pos c]
   exact ⟨er2,p0,lo,b1,b2⟩
  ·rw [if_neg c] at z
   simp only [if_neg c]
   obtain ⟨f1,f2⟩ := ra2.fr u v t z
   exact ⟨tp _ _ f1,f2⟩
 ·unfold kI at z
  by_cases c : u = a /\ v = b
  ·rw [c.1,c.2]
   exact ⟨na,nb⟩
  ·rw [if_neg c] at z
   exact ra2.nm u v t z
 ·rcases (hs y).mp hy with z | rfl | rfl
  ·exact s.nsm y z
  ·exact ai
  ·exact bi
theorem S6.barred (s : S6 K C H x dp ds db nm n F rows m g bs ns ps es vw) {bs' : List Str} (k : KF F H H1) (lb : LB C F H1 x rows m g bs' ms) (nd : ms.Nodup) (hs : ∀ y ∈ ms,y ∈ nm) (bn : bs'.Nodup) (bi : ∀ y ∈ bs',y ∈ nm) :
  S6 K C (aq H1 db (.dK (aO bs' (.bl true)))) x dp ds db nm n F rows m g bs' ms ps es vw := by
 have d1 := s.d6k k
 have ra2 := s.rak k
 have tp := iw d1.eb (fun _ z => nomatch z) (.dK (aO bs' (.bl true)))
 exact ⟨⟨gp d1.eb d1.ep (fun z => nomatch z),gp d1.eb d1.ee (fun z => nomatch z),ac,fun u v t z => ⟨tp _ _ (d1.val u v t z).1,(d1.val u v t z).2⟩,d1.inn,bn,bi,d1.few,d1.ne⟩,lb.farN d1.eb s.dbF (fun _ _ _ z => nomatch z) _,s.ok,s.st,ra2.keep tp,s.up,nd,hs,s.dbF,s.cnt⟩
theorem i8 {bs : List Str} {z y : Str} : y ∈ gM bs z ↔ y ∈ bs /\ y ≠ z := by
 unfold gM
 rw [BO]
 exact ⟨fun h => ⟨h.1,of_decide_eq_true h.2⟩,fun h => ⟨h.1,decide_eq_true h.2⟩⟩
theorem i9 {bs : List Str} {z : Str} (h : bs.Nodup) : (gM bs z).Nodup := h.filter _
theorem S6.start (lb : LB C F H x [] 0 (fun _ _ => none) [] []) (ep : H dp = some (.dT [])) (ee : H ds = some (.dT [])) (eb : H db = some (.dK [])) (dF : db ∉ F) (ne : dp ≠ ds) (n6 : nm.length <= 6) : S6 K C H x dp ds db nm 0 F [] 0 (fun _ _ => none) [] [] [] [] (fun _ _ => (1,1)) :=
 ⟨⟨ep,ee,eb,fun a b t h => (by cases h),fun a b t h => (by cases h),List.nodup_nil,fun b h => (by cases h),⟨by simp,by simp,n6⟩,ne⟩,lb,bY.nil,fun a b => ⟨fun ⟨t,h⟩ => (by cases h),fun ⟨t,h⟩ => (by cases h)⟩,⟨fun a b t h => (by cases h),fun a b t h => (by cases h)⟩,fun a b h => (by cases h),List.nodup_nil,fun y h => (by cases h),dF,by simp⟩
theorem KD.seq {H' : Hp} {a : Addr} {xs : List V} (e : KD H H') (h : bh K H a xs) : bh K H' a xs := by
 rcases h with (h | ⟨o,h⟩) | h
 ·exact .inl (.inl (e _ _ (fun _ z => nomatch z) (fun _ z => nomatch z) h))
 ·exact .inl (.inr ⟨o,e _ _ (fun _ z => nomatch z) (fun _ z => nomatch z) h⟩)
 ·exact .inr h
theorem tZ (ks : List Str) (v : V) : (aO ks v).map (·.1) = ks.map fun y => (.inr y : Key) := by
 unfold aO
 rw [Be]
 rfl
theorem qa.same {H' : Hp} (h : qa K C H x dp ds db nm n) (g : ay H H') : qa K C H' x dp ds db nm n := by
 obtain ⟨F,rows,m,g',bs,ns,ps,es,vw,s⟩ := h
 exact ⟨F,rows,m,g',bs,ns,ps,es,vw,s.same g⟩
theorem r6 {ys bs : List Str} {i : Nat} {z : Str} (nd : ys.Nodup) (hz : ys[i]? = some z) (h : ∀ y,y ∈ bs ↔ y ∈ ys.drop i) (y : Str) : y ∈ gM bs z ↔ y ∈ ys.drop (i + 1) := by
 have il := (A1.mp hz).1
 have e : ys.drop i = z :: ys.drop (i + 1) := by
  rw [List.drop_eq_getElem_cons il]
  congr 1
  rw [A2 il] at hz
  exact AN hz
 have nd2 : (z :: ys.drop (i + 1)).Nodup := by rw [<- e]; exact nd.sublist (List.drop_sublist _ _)
 rw [i8,h y,e,AB]
 constructor
 ·rintro ⟨w | w,n⟩
  ·exact absurd w n
  ·exact w
 ·intro w
  exact ⟨.inr w,fun z' => (AQ.mp nd2).1 (by rw [<- z']; exact w)⟩
end
end Sw
namespace Lk26
open PySem L2 Sw XH PyProof.Rows Hm Wo
def top (i : Nat) : Stmt := PySem.Challenge.pw_stovework_k26_stand_in.main.body.getD i (.Pass ⟨0,0,0,0⟩)
def clsAt (s : Stmt) (i : Nat) : Stmt := match s with | .ClassDef _ _ _ body _ _ _ _ _ _ _ => body.getD i (.Pass ⟨0,0,0,0⟩) | _ => s
abbrev yL : Stmt := top 28
abbrev zF : Stmt := top 28
abbrev yM : Stmt := top 29
abbrev yN : Stmt := top 31
abbrev kS : Stmt := top 32
abbrev yO : Stmt := top 33
abbrev yP : Stmt := top 35
abbrev yQ : Stmt := top 22
abbrev yR : Stmt := top 38
abbrev yS : Stmt := top 25
abbrev t6 : Stmt := top 26
abbrev t8 : Stmt := top 24
abbrev t9 : Stmt := clsAt (top 39) 0
abbrev ua : Stmt := clsAt (top 39) 9
abbrev ub : Stmt := clsAt (top 39) 1
abbrev uc : Stmt := clsAt (top 39) 7
abbrev ud : Stmt := clsAt (top 39) 3
abbrev ue : Stmt := clsAt (top 39) 4
abbrev uf : Stmt := clsAt (top 39) 2
abbrev ug : Stmt := clsAt (top 39) 8
abbrev uh : Stmt := top 41
abbrev ui : Stmt := top 42
abbrev uj : Stmt := top 43
abbrev uk : Stmt := top 44
abbrev um : Stmt := top 45
abbrev uo : Stmt := top 46
abbrev uq : Stmt := top 47
abbrev ur : Stmt := top 48
abbrev ut : Stmt := top 49
abbrev uu : Stmt := top 50
abbrev uw : Stmt := top 51
abbrev ux : Stmt := top 52
abbrev uy : Stmt := top 53
abbrev uz : Stmt := top 54
abbrev kU : Stmt := top 55
abbrev cG : Stmt := clsAt (top 12) 0
abbrev d9 : Stmt := clsAt (top 11) 0
structure Bn (K : A0) (mg : Str -> Option Value) (c_EmptyHeap c_InRing c_Larder c_NoAmount c_NoDish c_NoName c_NoNet c_NoNumber c_NoPack c_NoPlan c_NoRow c_NoStand c_NoStandIn c_NoStep c_StoveError c_TooFew c_TooMany c_Twice f_Z12 f_Z13 f_Z14 f_Z15 f_Z16 f_Z17 f_Z18 f_Z19 : Addr) : Prop where
 g_LETTERS : ∃ t,mg "LETTERS" = some (.str "abcdefghijklmnopqrstuvwxyz" t)
 g_MOST_LETTERS : ∃ t,mg "MOST_LETTERS" = some (.int 12 t)
 g_MOST_NAMES : ∃ t,mg "MOST_NAMES" = some (.int 80 t)
 b_abs : mg "abs" = none
 b_bool : mg "bool" = none
 b_enumerate : mg "enumerate" = none
 b_int : mg "int" = none
 b_isinstance : mg "isinstance" = none
 b_len : mg "len" = none
 b_list : mg "list" = none
 b_max : mg "max" = none
 b_min : mg "min" = none
 b_range : mg "range" = none
 b_reversed : mg "reversed" = none
 b_sorted : mg "sorted" = none
 b_str : mg "str" = none
 b_tuple : mg "tuple" = none
 m_EmptyHeap : mg "EmptyHeap" = some (.ref c_EmptyHeap)
 m_InRing : mg "InRing" = some (.ref c_InRing)
 m_Larder : mg "Larder" = some (.ref c_Larder)
 m_NoAmount : mg "NoAmount" = some (.ref c_NoAmount)
 m_NoDish : mg "NoDish" = some (.ref c_NoDish)
 m_NoName : mg "NoName" = some (.ref c_NoName)
 m_NoNet : mg "NoNet" = some (.ref c_NoNet)
 m_NoNumber : mg "NoNumber" = some (.ref c_NoNumber)
 m_NoPack : mg "NoPack" = some (.ref c_NoPack)
 m_NoPlan : mg "NoPlan" = some (.ref c_NoPlan)
 m_NoRow : mg "NoRow" = some (.ref c_NoRow)
 m_NoStand : mg "NoStand" = some (.ref c_NoStand)
 m_NoStandIn : mg "NoStandIn" = some (.ref c_NoStandIn)
 m_NoStep : mg "NoStep" = some (.ref c_NoStep)
 m_StoveError : mg "StoveError" = some (.ref c_StoveError)
 m_TooFew : mg "TooFew" = some (.ref c_TooFew)
 m_TooMany : mg "TooMany" = some (.ref c_TooMany)
 m_Twice : mg "Twice" = some (.ref c_Twice)
 x_NoName : BN K c_NoName p9 "ValueError.__new__" = true
 i_NoName : XI K c_NoName
 x_NoStand : BN K c_NoStand p9 "ValueError.__new__" = true
 i_NoStand : XI K c_NoStand
 x_NoNumber : BN K c_NoNumber p9 "ValueError.__new__" = true
 i_NoNumber : XI K c_NoNumber
 t_NoStandIn : XT K c_NoStandIn
 s_NoStandIn_NoStandIn : PySem.W.subIn K (.ref c_NoStandIn) (.ref c_NoStandIn) = some true
 k_NoStandIn_StoveError : Av K (.ref c_NoStandIn) (.ref c_StoveError) = some true
 a_NoStandIn : XA K c_NoStandIn c_StoveError
 n_NoStandIn : AH K (.ref c_NoStandIn) "good" = some none
 a_InRing : XA K c_InRing c_StoveError
 n_InRing : AH K (.ref c_InRing) "ring" = some none
 i_NoStandIn : XI K c_NoStandIn
 i_InRing : XI K c_InRing
 ka_NoStandIn_1 : PySem.W.kitAny K (.ref c_NoStandIn) [.ref c_EmptyHeap,.ref c_InRing,.ref c_NoAmount,.ref c_NoDish,.ref c_NoName,.ref c_NoNet,.ref c_NoNumber,.ref c_NoPack,.ref c_NoPlan,.ref c_NoRow] = some false
 ka_NoStandIn_2 : PySem.W.kitAny K (.ref c_NoStandIn) [.ref c_NoStand,.ref c_NoStep,.ref c_TooFew,.ref c_TooMany,.ref c_Twice] = some false
 cl_Larder : nJ K c_Larder
 mk_Larder : Mk K c_Larder f_Z12
 me_Z14 : eB K c_Larder "part" f_Z14
 me_Z18 : eB K c_Larder "stand" f_Z18
 me_Z16 : eB K c_Larder "bar" f_Z16
 me_Z17 : eB K c_Larder "allow" f_Z17
 me_Z15 : eB K c_Larder "barred" f_Z15
 me_Z19 : eB K c_Larder "stand_in" f_Z19
 me_Z13 : eB K c_Larder "learn" f_Z13
 na_Larder_parts : b5 K c_Larder "parts"
 na_Larder_stands : b5 K c_Larder "stands"
 na_Larder_bars : b5 K c_Larder "bars"
 na_Larder_names : b5 K c_Larder "names"
section
variable {P : Program} {w : World} {K : A0} {mg : Str -> Option Value} {base : Heap} {f : Addr} {fd : FuncData} {c_EmptyHeap c_InRing c_Larder c_NoAmount c_NoDish c_NoName c_NoNet c_NoNumber c_NoPack c_NoPlan c_NoRow c_NoStand c_NoStandIn c_NoStep c_StoveError c_TooFew c_TooMany c_Twice f_Z12 f_Z13 f_Z14 f_Z15 f_Z16 f_Z17 f_Z18 f_Z19 : Addr}
theorem kW : aA ["self","good"] ["self","good"] (ap cG) := ⟨rfl,rfl,rfl,by decide +kernel,rfl,by decide +kernel,by decide +kernel⟩
theorem kX {dV : Value} (F : bK K "__init__" "NoStandIn.__init__" cG dV f fd) (B : Bn K mg c_EmptyHeap c_InRing c_Larder c_NoAmount c_NoDish c_NoName c_NoNet c_NoNumber c_NoPack c_NoPlan c_NoRow c_NoStand c_NoStandIn c_NoStep c_StoveError c_TooFew c_TooMany c_Twice f_Z12 f_Z13 f_Z14 f_Z15 f_Z16 f_Z17 f_Z18 f_Z19) : bg P w K mg base a9 1 f fd ["self","good"] (fL c_NoStandIn "good") := by
 have sc := kW
 refine F.ok sc (fun vs H Q E h => ?_) (fun cdv A outer s H vs Q E hr h => ?_)
 ·obtain ⟨a,y,n,rfl,_⟩ := h
  rfl
 obtain ⟨a,y,n,rfl,e,q⟩ := h
 exact ⟨_,(ak (nY (K := K) rfl (pv 0) (pv 1) rfl)),y,rfl,_,rfl,a,c_NoStandIn,c_StoveError,n,rfl,e,B.a_NoStandIn,B.n_NoStandIn,q⟩
theorem p7 : aA ["self","ring"] ["self","ring"] (ap d9) := ⟨rfl,rfl,rfl,by decide +kernel,rfl,by decide +kernel,by decide +kernel⟩
theorem p8 {dV : Value} (F : bK K "__init__" "InRing.__init__" d9 dV f fd) (B : Bn K mg c_EmptyHeap c_InRing c_Larder c_NoAmount c_NoDish c_NoName c_NoNet c_NoNumber c_NoPack c_NoPlan c_NoRow c_NoStand c_NoStandIn c_NoStep c_StoveError c_TooFew c_TooMany c_Twice f_Z12 f_Z13 f_Z14 f_Z15 f_Z16 f_Z17 f_Z18 f_Z19) : bg P w K mg base a9 1 f fd ["self","ring"] (fL c_InRing "ring") := by
 have sc := p7
 refine F.ok sc (fun vs H Q E h => ?_) (fun cdv A outer s H vs Q E hr h => ?_)
 ·obtain ⟨a,y,n,rfl,_⟩ := h
  rfl
 obtain ⟨a,y,n,rfl,e,q⟩ := h
 exact ⟨_,(ak (nY (K := K) rfl (pv 0) (pv 1) rfl)),y,rfl,_,rfl,a,c_InRing,c_StoveError,n,rfl,e,B.a_InRing,B.n_InRing,q⟩
theorem zG : aA ["thing"] ["thing"] (ap yL) := ⟨rfl,rfl,rfl,by decide +kernel,rfl,by decide +kernel,by decide +kernel⟩
set_option maxHeartbeats 4000000 in
theorem zH {dV : Value} (F : bK K "is_whole" "is_whole" yL dV f fd) (B : Bn K mg c_EmptyHeap c_InRing c_Larder c_NoAmount c_NoDish c_NoName c_NoNet c_NoNumber c_NoPack c_NoPlan c_NoRow c_NoStand c_NoStandIn c_NoStep c_StoveError c_TooFew c_TooMany c_Twice f_Z12 f_Z13 f_Z14 f_Z15 f_Z16 f_Z17 f_Z18 f_Z19)  : bg P w K mg base a9 1 f fd ["thing"] kj := by
 have sc := zG
 refine F.ok sc (fun vs H Q E h => ?_) (fun cdv A outer s H vs Q E hr h => ?_)
 ·obtain ⟨v,rfl,_⟩ := h
  rfl
 obtain ⟨v,rfl,q⟩ := h
 refine ⟨_,(ak (aH (j3 (ar lG rfl B.b_isinstance boot_isinstance (aa (pv 0) (aa (cf (v := .ty "int") rfl B.b_int boot_int rfl) ag))) (j0 (mi (ar lG rfl B.b_isinstance boot_isinstance (aa (pv 0) (aa (cf (v := .ty "bool") rfl B.b_bool boot_bool rfl) ag)))))))),?_⟩
 refine ⟨_,rfl,_,_,_,rfl,.ii v,_,rfl,de ⟨_,rfl,_,_,_,rfl,.ib v,_,rfl,q⟩⟩
theorem zI : aA ["thing"] ["thing"] (ap zF) := ⟨rfl,rfl,rfl,by decide +kernel,rfl,by decide +kernel,by decide +kernel⟩
set_option maxHeartbeats 4000000 in
theorem zJ {dV : Value} (F : bK K "is_whole" "is_whole" zF dV f fd) (B : Bn K mg c_EmptyHeap c_InRing c_Larder c_NoAmount c_NoDish c_NoName c_NoNet c_NoNumber c_NoPack c_NoPlan c_NoRow c_NoStand c_NoStandIn c_NoStep c_StoveError c_TooFew c_TooMany c_Twice f_Z12 f_Z13 f_Z14 f_Z15 f_Z16 f_Z17 f_Z18 f_Z19)  : bg P w K mg base a9 1 f fd ["thing"] (vD K) := by
 have sc := zI
 refine F.ok sc (fun vs H Q E h => ?_) (fun cdv A outer s H vs Q E hr h => ?_)
 ·obtain ⟨x,b,rfl,_⟩ := h
  rfl
 obtain ⟨x,b,rfl,wh,q⟩ := h
 refine ⟨_,(ak (aH (j3 (ar (bW (K := K) rfl) rfl B.b_isinstance boot_isinstance (aa (pv 0) (aa (cf (v := .ty "int") rfl B.b_int boot_int rfl) ag))) (j0 (mi (ar (bW (K := K) rfl) rfl B.b_isinstance boot_isinstance (aa (pv 0) (aa (cf (v := .ty "bool") rfl B.b_bool boot_bool rfl) ag)))))))),?_⟩
 cases wh with
 | @mk t b1 b2 ty k1 k2 =>
  refine ⟨_,rfl,x,t,"int",b1,rfl,ty,k1,b1,rfl,?_⟩
  cases b1 with
  | false => exact bS q
  | true => exact de ⟨_,rfl,x,t,"bool",b2,rfl,ty,k2,b2,rfl,q⟩
theorem zK : aA ["one","other","greater","lesser","rest"] ["one","other"] (ap yM) := ⟨rfl,rfl,rfl,by decide +kernel,rfl,by decide +kernel,by decide +kernel⟩
set_option maxHeartbeats 4000000 in
theorem zL {dV : Value} (F : bK K "divisor" "divisor" yM dV f fd) (B : Bn K mg c_EmptyHeap c_InRing c_Larder c_NoAmount c_NoDish c_NoName c_NoNet c_NoNumber c_NoPack c_NoPlan c_NoRow c_NoStand c_NoStandIn c_NoStep c_StoveError c_TooFew c_TooMany c_Twice f_Z12 f_Z13 f_Z14 f_Z15 f_Z16 f_Z17 f_Z18 f_Z19)  : bg P w K mg base a9 1 f fd ["one","other"] nQ := by
 have sc := zK
 refine F.ok sc (fun vs H Q E h => ?_) (fun cdv A outer s H vs Q E hr h => ?_)
 ·obtain ⟨a,b,rfl,_⟩ := h
  rfl
 obtain ⟨a,b,rfl,q⟩ := h
 refine ⟨_,(af (au (i := 2) sc.nd rfl (Or.inl rfl) (ar iB rfl B.b_abs boot_abs (aa (pv 0) ag))) (af (au (i := 3) sc.nd rfl (Or.inl rfl) (ar iB rfl B.b_abs boot_abs (aa (pv 1) ag))) (af (dU PassesOwn.never (aB iz (pv 3) am (aG _)) (af (au (i := 4) sc.nd rfl (Or.inl rfl) (aD bx (pv 2) (pv 3))) (af (au (i := 2) sc.nd rfl (Or.inl rfl) (pv 3)) (ak (au (i := 3) sc.nd rfl (Or.inl rfl) (pv 4)))))) (ak (aH (pv 2)))))),?_⟩
 refine ⟨_,rfl,_,rfl,_,rfl,_,rfl,?_⟩
 refine dZ (fun σ H' => H' = H /\ ∃ (g l : Int) (r : Option V),σ = [some (.int a),some (.int b),some (.int g),some (.int l),r] /\ 0 <= g /\ 0 <= l /\ bI g l = bI a b)
  (fun (σ : L2.St) (_ : Hp) => match σ[3]? with | some (some (V.int l)) => l.toNat | _ => 0) ⟨rfl,_,_,_,rfl,nP a,nP b,qH a b⟩ ?_ (fun σ H Q Q' m ⟨v,e,s,k,hk,h2⟩ => ⟨v,e,s,k,hk,m _ _ h2⟩)
 rintro σ H' ⟨rfl,g,l,r,rfl,g0,l0,inv⟩
 refine ⟨_,rfl,rfl,_,rfl,yI (fun c => ?_) (fun c => ?_)⟩
 ·have lp : 0 < l := by omega
  refine ⟨_,rfl,_,rfl,_,_,rfl,rfl,c,_,rfl,_,rfl,⟨rfl,l,g.fmod l,_,rfl,l0,AI g lp,?_⟩,?_⟩
  ·rw [jA lp]; exact inv
  ·have h1 := AU g lp
   have h2 := AI g lp
   show (g.fmod l).toNat < l.toNat
   omega
 ·subst c
  rw [jB g0] at inv
  rw [<- inv] at q
  exact ⟨_,rfl,q⟩
theorem zM : aA ["top","bottom","common"] ["top","bottom"] (ap yN) := ⟨rfl,rfl,rfl,by decide +kernel,rfl,by decide +kernel,by decide +kernel⟩
set_option maxHeartbeats 4000000 in
theorem zN {dV : Value} (F : bK K "fraction" "fraction" yN dV f fd) (B : Bn K mg c_EmptyHeap c_InRing c_Larder c_NoAmount c_NoDish c_NoName c_NoNet c_NoNumber c_NoPack c_NoPlan c_NoRow c_NoStand c_NoStandIn c_NoStep c_StoveError c_TooFew c_TooMany c_Twice f_Z12 f_Z13 f_Z14 f_Z15 f_Z16 f_Z17 f_Z18 f_Z19) (DZ0 : Dx P w K mg base a9 1 "is_whole" ["thing"] [] kj) (DZ2 : Dx P w K mg base a9 1 "divisor" ["one","other"] [] nQ) : bg P w K mg base (dz P w) 2 f fd ["top","bottom"] (n9 c_NoNumber) := by
 have sc := zM
 refine F.okX sc (fun vs H Q E h => ?_) (fun cdv A outer s H vs Q E hr h => ?_)
 ·obtain ⟨a,b,rfl,_⟩ := h
  rfl
 obtain ⟨a,b,rfl,hb,q,qe⟩ := h
 refine ⟨_,(af (aX (PW.pt (dv (cc (bG (aS DZ0 hr (by decide) rfl (aa (pv 0) ag)))) (du (cc (bG (aS DZ0 hr (by decide) rfl (aa (pv 1) ag))))))) (ak (d7 B.x_NoNumber rfl B.m_NoNumber rfl cW (aa eO ag))) aI) (af (aX (aB eP (pv 1) am (aG _)) (ak (d7 B.x_NoNumber rfl B.m_NoNumber rfl cW (aa eO ag))) aI) (af (au (i := 2) sc.nd rfl (Or.inl rfl) (aS DZ2 hr (by decide) rfl (aa (pv 0) (aa (pv 1) ag)))) (af (aX (aB jo (pv 1) am (aG _)) (ak (au (i := 2) sc.nd rfl (Or.inl rfl) (k7 iy (pv 2)))) aI) (ak (aH (cy (aa (aD bM (pv 0) (pv 2)) (aa (aD bM (pv 1) (pv 2)) ag))))))))),?_⟩
 refine ⟨_,rfl,_,rfl,true,rfl,bS ⟨_,rfl,_,rfl,true,rfl,bS ?_⟩⟩
 refine ⟨_,rfl,rfl,_,rfl,wk (fun z => ⟨by show 1 <= sizeLine; decide,qe z⟩) (fun b0 => ?_)⟩
 have c0 := mJ (a := a) b0
 have cb := qJ (a := a) b0 hb
 have f := uH (a := a) b0
 have q := q b0
 refine ⟨_,rfl,_,rfl,_,_,rfl,?_⟩
 refine ⟨_,rfl,_,_,rfl,rfl,_,rfl,d2 (fun c => ?_) (fun c => ?_)⟩
 ·have e : jb a b = -bI a b := if_pos c
  rw [e] at c0 cb f
  exact ⟨_,rfl,_,rfl,_,rfl,_,rfl,_,_,rfl,rfl,⟨c0,cb.div c0⟩,_,rfl,_,rfl,_,_,rfl,rfl,⟨c0,cb.div c0⟩,(by show 2 <= sizeLine; decide),fun t ht => q _ _ f t _ (aj ht _) ac⟩
 ·have e : jb a b = bI a b := if_neg c
  rw [e] at c0 cb f
  exact ⟨_,rfl,_,rfl,_,_,rfl,rfl,⟨c0,cb.div c0⟩,_,rfl,_,rfl,_,_,rfl,rfl,⟨c0,cb.div c0⟩,(by show 2 <= sizeLine; decide),fun t ht => q _ _ f t _ (aj ht _) ac⟩
theorem zO : aA ["thing"] ["thing"] (ap kS) := ⟨rfl,rfl,rfl,by decide +kernel,rfl,by decide +kernel,by decide +kernel⟩
set_option maxHeartbeats 4000000 in
theorem zP {dV : Value} (F : bK K "is_fraction" "is_fraction" kS dV f fd) (B : Bn K mg c_EmptyHeap c_InRing c_Larder c_NoAmount c_NoDish c_NoName c_NoNet c_NoNumber c_NoPack c_NoPlan c_NoRow c_NoStand c_NoStandIn c_NoStep c_StoveError c_TooFew c_TooMany c_Twice f_Z12 f_Z13 f_Z14 f_Z15 f_Z16 f_Z17 f_Z18 f_Z19) (DZ1 : Dx P w K mg base a9 1 "is_whole" ["thing"] [] (vD K)) (DZ2 : Dx P w K mg base a9 1 "divisor" ["one","other"] [] nQ) : bg P w K mg base a9 2 f fd ["thing"] (mQ K) := by
 have sc := zO
 refine F.ok sc (fun vs H Q E h => ?_) (fun cdv A outer s H vs Q E hr h => ?_)
 ·obtain ⟨x,b,rfl,_⟩ := h
  rfl
 obtain ⟨x,b,rfl,fk,q⟩ := h
 refine ⟨_,(af (aX (PW.pt (dv (cc (bG (ar (bW (K := K) rfl) rfl B.b_isinstance boot_isinstance (aa (pv 0) (aa (cf (v := .ty "tuple") rfl B.b_tuple boot_tuple rfl) ag))))) (du (aB iz (ar aN rfl B.b_len boot_len (aa (pv 0) ag)) am (aG _))))) (ak (aH bZ)) aI) (af (aX (PW.pt (dv (cc (bG (aS DZ1 hr (by decide) rfl (aa (aR bX (pv 0) am (fun _ _ => rfl)) ag)))) (du (cc (bG (aS DZ1 hr (by decide) rfl (aa (aR bX (pv 0) am (fun _ _ => rfl)) ag))))))) (ak (aH bZ)) aI) (ak (aH (j3 (dH wJ (aR bX (pv 0) am (fun _ _ => rfl)) am (aG _)) (j0 (dH eP (aS DZ2 hr (by decide) rfl (aa (aR bX (pv 0) am (fun _ _ => rfl)) (aa (aR bX (pv 0) am (fun _ _ => rfl)) ag))) am (aG _)))))))),?_⟩
 cases fk with
 | @no _ t ty k => exact ⟨_,rfl,x,t,"tuple",false,rfl,ty,k,false,rfl,de q⟩
 | @len a ys e n =>
  refine ⟨_,rfl,_,_,"tuple",true,rfl,.tup e,io K,true,rfl,bS ?_⟩
  exact ⟨_,rfl,a,ys,rfl,.inr (cu.of e),rfl,_,rfl,Al n q⟩
 | @top a y z e k =>
  refine ⟨_,rfl,_,_,"tuple",true,rfl,.tup e,io K,true,rfl,bS ?_⟩
  refine ⟨_,rfl,a,_,rfl,.inr (cu.of e),rfl,_,rfl,wX rfl ?_⟩
  exact ⟨_,rfl,_,_,_,_,rfl,rfl,(cu.of e),rfl,y,false,rfl,k,false,rfl,de q⟩
 | @bot a y z e k k' =>
  refine ⟨_,rfl,_,_,"tuple",true,rfl,.tup e,io K,true,rfl,bS ?_⟩
  refine ⟨_,rfl,a,_,rfl,.inr (cu.of e),rfl,_,rfl,wX rfl ?_⟩
  exact ⟨_,rfl,_,_,_,_,rfl,rfl,(cu.of e),rfl,y,true,rfl,k,true,rfl,bS ⟨_,rfl,_,_,_,_,rfl,rfl,(cu.of e),rfl,z,false,rfl,k',false,rfl,de q⟩⟩
 | @two a p q' e =>
  refine ⟨_,rfl,_,_,"tuple",true,rfl,.tup e,io K,true,rfl,bS ?_⟩
  refine ⟨_,rfl,a,_,rfl,.inr (cu.of e),rfl,_,rfl,wX rfl ?_⟩
  refine ⟨_,rfl,_,_,_,_,rfl,rfl,(cu.of e),rfl,_,true,rfl,qW p,true,rfl,bS ⟨_,rfl,_,_,_,_,rfl,rfl,(cu.of e),rfl,_,true,rfl,qW q',true,rfl,bS ?_⟩⟩
  refine ⟨_,rfl,_,_,_,_,rfl,rfl,(cu.of e),rfl,_,_,rfl,rfl,_,rfl,d2 (fun c => ?_) (fun c => ?_)⟩
  ·refine ⟨_,rfl,_,_,_,_,rfl,rfl,(cu.of e),rfl,_,rfl,_,_,_,_,rfl,rfl,(cu.of e),rfl,_,_,rfl,rfl,?_⟩
   have d : Q (.bl (decide (V.int (bI p q') = V.int 1))) H := by
    have e2 : decide (V.int (bI p q') = V.int 1) = (decide (1 <= q') && decide (bI p q' = 1)) := by
     rw [decide_eq_true c,Bool.true_and]
     by_cases k : bI p q' = 1
     ·rw [decide_eq_true k,decide_eq_true (vi k)]
     ·rw [decide_eq_false k,decide_eq_false fun z => k (vj z)]
    rw [e2]
    exact q
   exact d
  ·have d : Q (.bl false) H := by
    have e2 : false = (decide (1 <= q') && decide (bI p q' = 1)) := by
     rw [decide_eq_false c,Bool.false_and]
    rw [e2]
    exact q
   exact d
theorem zQ : aA ["one","other"] ["one","other"] (ap yO) := ⟨rfl,rfl,rfl,by decide +kernel,rfl,by decide +kernel,by decide +kernel⟩
set_option maxHeartbeats 4000000 in
theorem zR {dV : Value} (F : bK K "product" "product" yO dV f fd) (B : Bn K mg c_EmptyHeap c_InRing c_Larder c_NoAmount c_NoDish c_NoName c_NoNet c_NoNumber c_NoPack c_NoPlan c_NoRow c_NoStand c_NoStandIn c_NoStep c_StoveError c_TooFew c_TooMany c_Twice f_Z12 f_Z13 f_Z14 f_Z15 f_Z16 f_Z17 f_Z18 f_Z19) (DZ3 : Dx P w K mg base a9 2 "fraction" ["top","bottom"] [.int 1] sH) : bg P w K mg base a9 3 f fd ["one","other"] (mL K) := by
 have sc := zQ
 refine F.ok sc (fun vs H Q E h => ?_) (fun cdv A outer s H vs Q E hr h => ?_)
 ·obtain ⟨t,t2,p,q,p2,q2,rfl,_⟩ := h
  rfl
 obtain ⟨t,t',p,q,p',q',rfl,h1,h2,qq⟩ := h
 refine ⟨_,(ak (aH (aS DZ3 hr (by decide) rfl (aa (aD cU (aR bX (pv 0) am (fun _ _ => rfl)) (aR bX (pv 1) am (fun _ _ => rfl))) (aa (aD cU (aR bX (pv 0) am (fun _ _ => rfl)) (aR bX (pv 1) am (fun _ _ => rfl))) ag))))),?_⟩
 exact ⟨_,rfl,_,_,_,_,rfl,rfl,h1.at_,rfl,_,rfl,_,_,_,_,rfl,rfl,h2.at_,rfl,_,_,rfl,rfl,h1.bp.ok h2.bp,_,rfl,_,_,_,_,rfl,rfl,h1.at_,rfl,_,rfl,_,_,_,_,rfl,rfl,h2.at_,rfl,_,_,rfl,rfl,h1.bq.ok h2.bq,_,_,rfl,vm h1.pos h2.pos,(h1.bq.mul h2.bq).mono (by decide),qq⟩
theorem zS : aA ["stands","good","pairs","reached","place","chain","ratio","others","name"] ["stands","good"] (ap yP) := ⟨rfl,rfl,rfl,by decide +kernel,rfl,by decide +kernel,by decide +kernel⟩
set_option maxHeartbeats 4000000 in
theorem zT {dV : Value} (F : bK K "ways_out" "ways_out" yP dV f fd) (B : Bn K mg c_EmptyHeap c_InRing c_Larder c_NoAmount c_NoDish c_NoName c_NoNet c_NoNumber c_NoPack c_NoPlan c_NoRow c_NoStand c_NoStandIn c_NoStep c_StoveError c_TooFew c_TooMany c_Twice f_Z12 f_Z13 f_Z14 f_Z15 f_Z16 f_Z17 f_Z18 f_Z19) (DZ3 : Dx P w K mg base a9 2 "fraction" ["top","bottom"] [.int 1] sH) (DZ5 : Dx P w K mg base a9 3 "product" ["one","other"] [] (mL K)) : bg P w K mg base a9 4 f fd ["stands","good"] (rP K) := by
 have sc := zS
 refine F.ok sc (fun vs H Q E h => ?_) (fun cdv A outer s H vs Q E hr h => ?_)
 ·obtain ⟨d,good,b,m,vw,g,U,Rt,rfl,_⟩ := h
  rfl
 obtain ⟨d,good,b,m,vw,g,U,Rt,rfl,hd,hU,lU,m1,b1,bm,rt0,rts,q⟩ := h
 refine ⟨_,(af (au (i := 2) sc.nd rfl (Or.inl rfl) (bH (aa (cy (aa (bH (aa (pv 1) ag)) (aa (sR DZ3 hr (by decide) rfl (aa am ag)) ag))) ag))) (af (au (i := 3) sc.nd rfl (Or.inl rfl) (im (fW (pv 1) bZ ik) rfl rfl (by simp) (by decide))) (af (au (i := 4) sc.nd rfl (Or.inl rfl) am) (af (dU PassesOwn.never (aB jo (pv 4) (ar aN rfl B.b_len boot_len (aa (pv 2) ag)) (aG _)) (af (au (i := 5) sc.nd rfl (Or.inl rfl) (aR bX (aR aW (pv 2) (pv 4) (fun _ _ => rfl)) am (fun _ _ => rfl))) (af (au (i := 6) sc.nd rfl (Or.inl rfl) (aR bX (aR aW (pv 2) (pv 4) (fun _ _ => rfl)) am (fun _ _ => rfl))) (af (au (i := 7) sc.nd rfl (Or.inl rfl) (iH (bL hr) (pv 0) (aR aW (pv 5) (k7 iy am) (fun _ _ => rfl)) cA ⟨rfl,rfl,rfl,rfl⟩)) (af (cv PassesOwn.never rfl (eA (ar (hV rfl) rfl B.b_sorted PyProof.Rows.Boot.«sorted» (aa (pv 7) ag))) (bA (i := 8) sc.nd rfl (Or.inl rfl)) (ak (aX (dM (dq (bL hr) (pv 8) (pv 3)) (by with_unfolding_all rfl)) (af (cJ (bL hr) (pv 3) (pv 8) bZ rfl) (ak (a8 (fS Az B4 B3 cg (pv 2) (aa (cy (aa (aD mE (pv 5) (bH (aa (pv 8) ag))) (aa (aS DZ5 hr (by decide) rfl (aa (pv 6) (aa (eZ (bL hr) (pv 7) (pv 8) (fun _ _ => rfl)) ag))) ag))) ag))))) aI))) (ak (uX (i := 4) sc.nd rfl (Or.inl rfl) am uY))))))) (ak (aH (pv 2))))))),?_⟩
 have sl : sizeLine = 16777216 := sizeLine_eq
 refine ⟨_,rfl,(by show 1 <= sizeLine; decide),fun c0 n0 => ⟨1,1,rfl,by decide,(by unfold Bd; decide),fun p0 q0 f0 r0 H1 g1 e1 => ⟨(by show 2 <= sizeLine; decide),fun t0 nt0 => ⟨(by show 1 <= sizeLine; decide),fun l nl => ?_⟩⟩⟩⟩
 obtain ⟨rfl,rfl⟩ := vW f0
 have gA := aj n0 (.lst [V.str good])
 have gB := gA.trans g1
 have gC := gB.trans (aj nt0 (.tup [.ref c0,.ref r0]))
 have gD := gC.trans (aj nl (.lst [.ref t0]))
 have nlH : H l = none := gC.free nl
 have wt : mf K b Rt (fun c => H c = none) (aq (aq H1 t0 (.tup [.ref c0,.ref r0])) l (.lst [.ref t0])) [t0] [[good]] := by
  have k1 := aj nt0 (.tup [.ref c0,.ref r0])
  have k2 := aj nl (.lst [.ref t0])
  refine mf.snoc (ts := []) (cs := []) ⟨rfl,fun i t c h => nomatch h⟩ (k2 _ _ ac) (k2 _ _ (k1 _ _ (g1 _ _ ac))) ?_ rt0 n0 (k2 _ _ (k1 _ _ e1))
  have b2 : 0 < b * 1 := by omega
  have b3 : Bd (b * 1) 1 := by unfold Bd; exact Nat.one_lt_two_pow (by omega)
  exact ⟨cu.of (k2 _ _ (k1 _ _ e1)),by decide,b3,b3⟩
 have el : aq (aq H1 t0 (.tup [.ref c0,.ref r0])) l (.lst [.ref t0]) l = some (.lst (([t0] : List Addr).map V.ref)) := ac
 generalize aq (aq H1 t0 (.tup [.ref c0,.ref r0])) l (.lst [.ref t0]) = H2 at gD wt el ⊢
 refine fun rd nr => ⟨_,rfl,ac,[(.inr good,.bl true)],rfl,(by show 1 <= 15; decide),?_⟩
 have g3 : ay H2 (aq (aq H2 rd (.dK [])) rd (.dK (b8 [] [((.inr good : Key),V.bl true)]))) := by
  rw [jY]
  exact aj nr _
 have er : (aq (aq H2 rd (.dK [])) rd (.dK (b8 [] [((.inr good : Key),V.bl true)]))) rd = some (.dK (aO [good] (.bl true))) := ac
 generalize aq (aq H2 rd (.dK [])) rd (.dK (b8 [] [((.inr good : Key),V.bl true)])) = H3 at g3 er ⊢
 have nrH : H rd = none := gD.free nr
 have gE := gD.trans g3
 have wt3 := wt.same g3
 have el3 := g3 _ _ el
 clear gA gB gC gD g3 wt el nt0 nl n0 g1 e1 nr f0
 try dsimp only [bC,bE]
 refine cut (fun σ H' => H3 = H' /\ σ = [some (.ref d),some (.str good),some (.ref l),some (.ref rd),some (.int 0),none,none,none,none]) (fun N hN => hN _ _ ⟨rfl,rfl⟩) ?_
 rintro σ _ ⟨rfl,rfl⟩
 refine dZ (fun σ H' => ay H H' /\ ∃ (i : Nat) (cs : List (List Str)) (ts : List Addr) (ks : List Str) (o5 o6 o7 o8 : Option V),σ = [some (.ref d),some (.str good),some (.ref l),some (.ref rd),some (.int i),o5,o6,o7,o8] /\ H' l = some (.lst (ts.map V.ref)) /\ mf K b Rt (fun c => H c = none) H' ts cs /\ eh (kD g) good cs i (fun _ => False) /\ H' rd = some (.dK (aO ks (.bl true))) /\ (∀ x,x ∈ ks ↔ x ∈ cs.map az) /\ ks.length <= cs.length /\ i <= cs.length)
  (fun (σ : L2.St) (_ : Hp) => match σ[4]? with | some (some (V.int i)) => U.length + 2 - i.toNat | _ => 0) ⟨gE,0,[[good]],[t0],[good],none,none,none,none,rfl,el3,wt3,eh.start,er,fun x => Iff.rfl,A4 _,AZ _⟩ ?_ (fun σ H Q Q' mm h => ?_)
 ·rintro σ H4 ⟨g4,i,cs,ts,ks,o5,o6,o7,o8,rfl,el4,wt4,bf,er4,hk,lk,ic⟩
  have few := bf.few hU
  have lt : (ts.map V.ref).length = cs.length := by rw [A5,wt4.1]
  refine ⟨_,rfl,_,rfl,l,_,rfl,.inl (bh.of el4),_,_,rfl,rfl,_,rfl,d2 (fun c => ?_) (fun c => ?_)⟩
  ·have il : i < cs.length := by omega
   have hc := A2 il
   generalize cs[i] = ch at hc
   have ht := A2 (show i < ts.length by rw [wt4.1]; exact il)
   generalize ts[i]'(by rw [wt4.1]; exact il) = t at ht
   obtain ⟨cl,rl,p,q',et,ecl,frl,rtc,_⟩ := wt4.2 i t ch ht hc
   have at1 : fo (ts.map V.ref) (i : Int) = some (.ref t) := bV (dP ht)
   have cn := bf.ne hc
   have clen := bf.long i ch hc
   refine ⟨_,rfl,_,rfl,l,_,_,_,rfl,rfl,bh.of el4,at1,t,_,_,_,rfl,rfl,cu.of et,rfl,?_⟩
   refine ⟨_,rfl,_,rfl,l,_,_,_,rfl,rfl,bh.of el4,at1,t,_,_,_,rfl,rfl,cu.of et,rfl,?_⟩
   try dsimp only [bC,bE]
   refine cut (fun σ H' => ay H4 H' /\ ∃ (oa : Addr) (row : List (Str × Addr)),σ = [some (.ref d),some (.str good),some (.ref l),some (.ref rd),some (.int i),some (.ref cl),some (.ref rl),some (.ref oa),o8] /\ H' oa = some (.dK (bN row)) /\ (row.map (·.1)).Nodup /\ row.length <= 200 /\ ∀ y t,g (az ch) y = some t ↔ (y,t) ∈ row) (fun N hN => ?_) ?_
   ·obtain ⟨kvs,ed,hx⟩ := (hd.same g4).ex
    refine ⟨_,rfl,d,rfl,.inl ⟨_,.inl ed⟩,_,rfl,_,rfl,cl,_,_,_,rfl,rfl,bh.of ecl,jQ cn,fun pn hn => ⟨_,b7.k (k := .inr (az ch)) (aj hn _ _ _ ed),?_⟩⟩
    rcases hx (az ch) with ⟨z1,z2⟩ | ⟨a,row,q1,q2,q3,q4,q5⟩
    ·rw [z1]
     exact hN _ _ ⟨aj hn _,pn,[],rfl,ac,by simp,AZ _,fun y t => by rw [z2]; simp⟩
    ·rw [q1]
     exact hN _ _ ⟨aj hn _,a,row,rfl,aj hn _ _ _ q2,q3,q4,q5⟩
   rintro σ H5 ⟨g5,oa,row,rfl,eoa,nd,lr,hrow⟩
   try dsimp only [bC,bE]
   refine cut (fun σ H' => ay H H' /\ ∃ (cs' : List (List Str)) (ts' : List Addr) (ks' : List Str) (o8 : Option V),σ = [some (.ref d),some (.str good),some (.ref l),some (.ref rd),some (.int i),some (.ref cl),some (.ref rl),some (.ref oa),o8] /\ H' l = some (.lst (ts'.map V.ref)) /\ mf K b Rt (fun c => H c = none) H' ts' cs' /\ eh (kD g) good cs' (i + 1) (fun _ => False) /\ H' rd = some (.dK (aO ks' (.bl true))) /\ (∀ x,x ∈ ks' ↔ x ∈ cs'.map az) /\ ks'.length <= cs'.length /\ i < cs'.length) (fun N hN => ?_) ?_
   ·refine ⟨_,rfl,oa,_,_,rfl,eoa,pU row,nd,(by have := Wo.c6 nd (fun y hy => by obtain ⟨⟨y',t'⟩,h,e⟩ := AC.mp hy; cases e; exact hU _ _ ⟨t',(hrow _ _).mpr h⟩); omega),fun sp ys nsp perm srt => ⟨sp,rfl,⟨_,bh.of ac⟩,?_⟩⟩
    have g6 := g5.trans (aj nsp (.lst (ys.map V.str)))
    have spl : sp ≠ l := fun e => by rw [e,g5 _ _ el4] at nsp; cases nsp
    have spr : sp ≠ rd := fun e => by rw [e,g5 _ _ er4] at nsp; cases nsp
    have esp : aq H5 sp (.lst (ys.map V.str)) sp = some (.lst (ys.map V.str)) := ac
    have eoa6 := aj nsp (.lst (ys.map V.str)) _ _ eoa
    generalize aq H5 sp (.lst (ys.map V.str)) = H6 at g6 esp eoa6 ⊢
    have g46 := g4.trans g6
    have el6 := g6 _ _ el4
    have er6 := g6 _ _ er4
    have ecl6 := g6 _ _ ecl
    have frl6 := frl.same g6
    have wt6 := wt4.same g6
    have kn : ks ≠ [] := fun e => by
     have := (hk good).mpr (AC.mpr ⟨[good],A8 bf.first,rfl⟩)
     rw [e] at this
     cases this
    have oal : oa ≠ l := b9 eoa6 el6 (fun z => nomatch z)
    have oar : oa ≠ rd := b9 eoa6 er6 (fun z => by injection z with z; exact tG kn z)
    have cll : cl ≠ l := b9 ecl6 el6 (fun z => by injection z with z; exact jP cn z)
    have clr : cl ≠ rd := b9 ecl6 er6 (fun z => nomatch z)
    have pw := So.pS srt
    have yin : ∀ y,y ∈ ys ↔ y ∈ row.map (·.1) := fun y => perm.mem_iff
    refine dX (xs := ys.map V.str) (fun j σ H' => ay H H' /\ cF l rd H6 H' /\ ∃ (cs' : List (List Str)) (ts' : List Addr) (ks' : List Str) (o8 : Option V),σ = [some (.ref d),some (.str good),some (.ref l),some (.ref rd),some (.int i),some (.ref cl),some (.ref rl),some (.ref oa),o8] /\ H' l = some (.lst (ts'.map V.ref)) /\ mf K b Rt (fun c => H c = none) H' ts' cs' /\ eh (kD g) good cs' i (fun z => z ∈ ys.take j) /\ cs'[i]? = some ch /\ H' rd = some (.dK (aO ks' (.bl true))) /\ (∀ x,x ∈ ks' ↔ x ∈ cs'.map az) /\ ks'.length <= cs'.length) ?_ ?_ ?_ ?_
    ·refine ⟨g46,cF.refl _ _ _,cs,ts,ks,o8,rfl,el6,wt6,?_,hc,er6,hk,lk⟩
     rw [show (fun z => z ∈ ys.take 0) = (fun _ : Str => False) by funext z; simp]
     exact bf
    ·rintro j σ H' hj ⟨_,sb,_⟩
     exact bh.of (sb _ _ spl spr esp)
    ·rintro j x σ H7 hx ⟨g7,sb,cs',ts',ks',o8,rfl,el7,wt7,bf7,hc7,er7,hk7,lk7⟩
     rw [AK] at hx
     obtain ⟨y,hy,rfl⟩ := B1.mp hx
     have ym := A8 hy
     obtain ⟨⟨y',t'⟩,ht',e⟩ := AC.mp ((yin y).mp ym)
     cases e
     have gy := (hrow y' t').mpr ht'
     have tk : (fun z => z ∈ ys.take (j + 1)) = fun z => z ∈ ys.take j ∨ z = y' := by
      funext z
      rw [List.take_add_one,hy]
      simp
     have few7 := bf7.few hU
     refine ⟨_,rfl,_,rfl,rd,_,rfl,b7.k (k := .inr y') er7,_,rfl,?_⟩
     rw [cX]
     by_cases hin : y' ∈ ks'
     ·rw [if_pos hin]
      refine bS ⟨g7,sb,cs',ts',ks',_,rfl,el7,wt7,?_,hc7,er7,hk7,lk7⟩
      rw [tk]
      exact bf7.seen hc7 ((hk7 y').mp hin)
     ·rw [if_neg hin]
      have hny : y' ∉ cs'.map az := fun z => hin ((hk7 y').mpr z)
      refine de ⟨_,rfl,_,rfl,rd,_,rfl,dO.k (k := .inr y') er7 (by rw [bR]; omega),?_⟩
      rw [dA]
      have lrd : l ≠ rd := b9 el7 er7 (fun z => nomatch z)
      have nz : ∀ c ∈ cs',c ≠ [] := fun c hc' => by
       obtain ⟨k,hk'⟩ := AW.mp hc'
       exact bf7.ne hk'
      have el8 : aq H7 rd (.dK (aO (bU ks' y') (.bl true))) l = some (.lst (ts'.map V.ref)) := by rw [ae lrd]; exact el7
      have er8 : aq H7 rd (.dK (aO (bU ks' y') (.bl true))) rd = some (.dK (aO (bU ks' y') (.bl true))) := ac
      have sb8 := sb.putR (.dK (aO (bU ks' y') (.bl true)))
      have g8 := fK (o := .dK (aO (bU ks' y') (.bl true))) g7 nrH
      have wt8 := wt7.keep nz ((cF.refl l rd H7).putR (.dK (aO (bU ks' y') (.bl true)))) el7 er7
      generalize aq H7 rd (.dK (aO (bU ks' y') (.bl true))) = H8 at el8 er8 sb8 g8 wt8 ⊢
      have ecl8 := sb8 _ _ cll clr ecl6
      have eoa8 := sb8 _ _ oal oar eoa6
      have frl8 := sb8.fr el6 er6 frl6
      have lch : (ch.map V.str).length = ch.length := A5 _
      have lts : (ts'.map V.ref).length = cs'.length := by rw [A5,wt7.1]
      refine ⟨_,rfl,.inl ⟨rfl,_,bh.of el8⟩,_,rfl,_,rfl,(by show 1 <= sizeLine; decide),fun l3 n3 => ⟨cl,l3,_,_,rfl,rfl,aj n3 _ _ _ ecl8,ac,by rw [lch]; show ch.length + 1 <= sizeLine; omega,fun c2 nc2 => ?_⟩⟩
      have nc2H := (g8.trans (aj n3 (.lst [V.str y']))).free nc2
      have k3 := (aj n3 (.lst [V.str y'])).trans (aj nc2 (.lst (ch.map V.str ++ [V.str y'])))
      have ec2 : aq (aq H8 l3 (.lst [V.str y'])) c2 (.lst (ch.map V.str ++ [V.str y'])) c2 = some (.lst ((ch ++ [y']).map V.str)) := by rw [ac,Ar]; rfl
      generalize aq (aq H8 l3 (.lst [V.str y'])) c2 (.lst (ch.map V.str ++ [V.str y'])) = H9 at k3 ec2 ⊢
      have dg : b7 H9 oa (.str y') (some (.ref t')) := by
       rw [<- c7 nd ht']
       exact b7.k (k := .inr y') (k3 _ _ eoa8)
      have fu := hd.fr (az ch) y' t' gy
      have c4 : b * ch.length + b <= 4000 := by
       have := Nat.mul_le_mul_left b (show ch.length + 1 <= m + 2 by omega)
       rw [Nat.mul_succ] at this
       omega
      refine ⟨_,rfl,_,rfl,_,rfl,oa,.ref t',rfl,dg,rl,t',p,q',(vw (az ch) y').1,(vw (az ch) y').2,rfl,(frl8.same k3).mono (by omega),((fu.same g8).same k3).mono (by omega),fun r s fr tr H10 g10 e10 => ⟨(by show 2 <= sizeLine; decide),fun t5 n5 => ?_⟩⟩
      have k11 := (k3.trans g10).trans (aj n5 (.tup [.ref c2,.ref tr]))
      have w11 : mf K b Rt (fun c => H c = none) (aq H10 t5 (.tup [.ref c2,.ref tr])) (ts' ++ [t5]) (cs' ++ [ch ++ [y']]) := by
       refine mf.snoc (wt8.same k11) ac (aj n5 _ _ _ (g10 _ _ ec2)) ?_ (rts ch p q' y' t' r s rtc gy fr) nc2H (aj n5 _ _ _ e10)
       have e : b * (ch ++ [y']).length = b * ch.length + b := by rw [A7,AF,Nat.mul_succ]
       rw [e]
       exact ⟨cu.of (aj n5 _ _ _ e10),fr.pos,(frl.bp.mul fu.bp).of_le fr.bt,(frl.bq.mul fu.bq).of_le fr.bb⟩
      have el11 := k11 _ _ el8
      have er11 := k11 _ _ er8
      generalize aq H10 t5 (.tup [.ref c2,.ref tr]) = H11 at k11 w11 el11 er11 ⊢
      refine ⟨l,_,_,rfl,rfl,el11,by omega,?_⟩
      have nz2 : ∀ c ∈ cs' ++ [ch ++ [y']],c ≠ [] := fun c hc' => by
       rcases AM.mp hc' with z | z
       ·exact nz c z
       ·rw [A3.mp z]; simp
      refine ⟨fK (g8.trans k11) nlH _,(sb8.thenS k11).putL _,cs' ++ [ch ++ [y']],ts' ++ [t5],bU ks' y',_,rfl,by rw [ac,Ar]; rfl,w11.keep nz2 ((cF.refl l rd H11).putL _) el11 er11,?_,?_,by rw [ae (Ne.symm lrd)]; exact er11,fun x => ?_,?_⟩
      ·rw [tk]
       refine bf7.more hc7 hny ⟨t',gy⟩ fun z hz zn => xz ?_ zn
       have sp2 : (ys.take j ++ ys.drop j).Pairwise So.pP := by rw [List.take_append_drop]; exact pw
       refine (List.pairwise_append.mp sp2).2.2 z hz y' (A8 (i := 0) ?_)
       rw [List.getElem?_drop]
       exact hy
      ·rw [AA (A1.mp hc7).1]
       exact hc7
      ·rw [b4,Ar,AM,hk7 x,List.map_singleton,bz,A3]
      ·have := (cY ks' y').2.2
       rw [A7,AF]
       omega
    ·rintro σ H7 ⟨g7,sb,cs',ts',ks',o8,rfl,el7,wt7,bf7,hc7,er7,hk7,lk7⟩
     rw [A5,List.take_length] at bf7
     refine hN _ _ ⟨g7,cs',ts',ks',o8,rfl,el7,wt7,bf7.next hc7 (fun y hy => ?_),er7,hk7,lk7,(A1.mp hc7).1⟩
     obtain ⟨t',gy⟩ := hy
     exact (yin y).mpr (AC.mpr ⟨_,(hrow y t').mp gy,rfl⟩)
   rintro σ H8 ⟨g8,cs',ts',ks',o8,rfl,el8,wt8,bf8,er8,hk8,lk8,il8⟩
   refine ⟨_,rfl,_,_,rfl,rfl,⟨g8,i + 1,cs',ts',ks',_,_,_,_,rfl,el8,wt8,bf8,er8,hk8,lk8,il8⟩,?_⟩
   show U.length + 2 - ((i : Int) + 1).toNat < U.length + 2 - (i : Int).toNat
   omega
  ·have e : i = cs.length := by omega
   subst e
   exact ⟨_,rfl,q l cs H4 g4 nlH ⟨ts,el4,wt4⟩ bf⟩
 ·obtain ⟨v,e,w,e2,p,ys,e3,s,i,j,e4,e5,b',hb,h2⟩ := h
  exact ⟨v,e,w,e2,p,ys,e3,s,i,j,e4,e5,b',hb,mm _ _ h2⟩
theorem zU : aA ["thing","sign"] ["thing"] (ap yQ) := ⟨rfl,rfl,rfl,by decide +kernel,rfl,by decide +kernel,by decide +kernel⟩
set_option maxHeartbeats 4000000 in
theorem zV {dV : Value} (F : bK K "is_name" "is_name" yQ dV f fd) (B : Bn K mg c_EmptyHeap c_InRing c_Larder c_NoAmount c_NoDish c_NoName c_NoNet c_NoNumber c_NoPack c_NoPlan c_NoRow c_NoStand c_NoStandIn c_NoStep c_StoveError c_TooFew c_TooMany c_Twice f_Z12 f_Z13 f_Z14 f_Z15 f_Z16 f_Z17 f_Z18 f_Z19)  : bg P w K mg base a9 1 f fd ["thing"] (iO K) := by
 have sc := zU
 refine F.ok sc (fun vs H Q E h => ?_) (fun cdv A outer s H vs Q E hr h => ?_)
 ·obtain ⟨x,rfl,_⟩ := h
  rfl
 obtain ⟨x,rfl,h⟩ := h
 refine ⟨_,(af (aX (PW.pt (dv (cc (bG (ar (bW (K := K) rfl) rfl B.b_isinstance boot_isinstance (aa (pv 0) (aa (cf (v := .ty "str") rfl B.b_str boot_str rfl) ag))))) (dv (aB jo (ar fR rfl B.b_len boot_len (aa (pv 0) ag)) am (aG _)) (du (aB k8 (ar fR rfl B.b_len boot_len (aa (pv 0) ag)) (lL rfl B.g_MOST_LETTERS) (aG _)))))) (ak (aH bZ)) aI) (af (cv PassesOwn.never rfl (vI (pv 0)) (bA (i := 1) sc.nd rfl (Or.inl rfl)) (ak (aX (aB kb (pv 1) (rg rfl B.g_LETTERS) (by with_unfolding_all rfl)) (ak (aH bZ)) aI))) (ak (aH bZ)))),?_⟩
 rcases h with ⟨z,rfl,hz,q1,q0⟩ | ⟨ty,hty,hk,q⟩
 ·have hz' : z.length <= sizeLine := AR hz (by decide)
  have hl := ky z
  try dsimp only [bC,bE]
  refine cut (fun σ H' => H = H' /\ σ = [some (.str z),none] /\ 1 <= z.length /\ z.length <= 12) (fun N hN => ?_) ?_
  ·refine ⟨_,rfl,_,_,_,true,rfl,.str _,rfl,_,rfl,bS ⟨_,rfl,z,rfl,hz',_,_,rfl,rfl,_,rfl,d2 (fun c => ?_) (fun c1 => ⟨_,rfl,z,rfl,hz',_,_,rfl,rfl,_,rfl,d2 (fun c => ?_) (fun c2 => ?_)⟩)⟩⟩
   ·exact q0 fun n => by have := n.1; omega
   ·exact q0 fun n => by have := n.2.1; omega
   ·exact hN _ _ ⟨rfl,rfl,by omega,by omega⟩
  rintro σ _ ⟨rfl,rfl,l1,l2⟩
  refine ⟨_,rfl,z,rfl,sT (fun i σ H2 => H = H2 /\ (∃ o,σ = [some (.str z),o]) /\ ∀ j c,j < i -> z.cps[j]? = some c -> 97 <= c /\ c <= 122) ⟨rfl,⟨_,rfl⟩,fun j c h => absurd h (by omega)⟩ (fun i c σ H2 hc hP => ?_) (fun σ H2 hP => ?_)⟩
  ·obtain ⟨rfl,⟨o,rfl⟩,hP⟩ := hP
   refine ⟨_,rfl,_,_,rfl,rfl,_,rfl,Ab (fun e => ?_) (fun e => ?_)⟩
   ·have e' := (oj c).symm.trans e
    refine q0 fun n => ?_
    have := n.2.2 c (A8 (show (sL z)[i]? = some c by rw [<- hc]; exact BA))
    rw [decide_eq_true this] at e'
    cases e'
   ·have e' := (oj c).symm.trans e
    refine ⟨rfl,⟨_,rfl⟩,fun j c' hj hc' => ?_⟩
    rcases AY.mp hj with k | k
    ·exact hP j c' k hc'
    ·subst k
     rw [hc] at hc'
     cases hc'
     exact of_decide_eq_true e'
  ·obtain ⟨rfl,⟨o,rfl⟩,hP⟩ := hP
   refine q1 ⟨by omega,by omega,fun c hc => ?_⟩
   obtain ⟨i,hi⟩ := AW.mp hc
   have hi' : z.cps[i]? = some c := by rw [<- hi]; exact BA.symm
   exact hP i c (by have := (Array.getElem?_eq_some_iff.mp hi').1; exact this) hi'
 ·exact ⟨_,rfl,_,_,_,false,rfl,hty,hk,_,rfl,de q⟩
theorem zW : aA ["things","thing"] ["things"] (ap yR) := ⟨rfl,rfl,rfl,by decide +kernel,rfl,by decide +kernel,by decide +kernel⟩
set_option maxHeartbeats 4000000 in
theorem zX {dV : Value} (F : bK K "refuse_no_names" "refuse_no_names" yR dV f fd) (B : Bn K mg c_EmptyHeap c_InRing c_Larder c_NoAmount c_NoDish c_NoName c_NoNet c_NoNumber c_NoPack c_NoPlan c_NoRow c_NoStand c_NoStandIn c_NoStep c_StoveError c_TooFew c_TooMany c_Twice f_Z12 f_Z13 f_Z14 f_Z15 f_Z16 f_Z17 f_Z18 f_Z19) (DZ7 : Dx P w K mg base a9 1 "is_name" ["thing"] [] (iO K)) : bg P w K mg base (dz P w) 2 f fd ["things"] (eG K c_NoName) := by
 have sc := zW
 refine F.okX sc (fun vs H Q E h => ?_) (fun cdv A outer s H vs Q E hr h => ?_)
 ·obtain ⟨l,xs,rfl,_⟩ := h
  rfl
 obtain ⟨l,xs,rfl,hl,ho,kt,kf⟩ := h
 refine ⟨_,(ak (cv (qQ rfl rfl) rfl (eA (pv 0)) (bA (i := 1) sc.nd rfl (Or.inl rfl)) (ak (aX (cc (bG (aS DZ7 hr (by decide) rfl (aa (pv 1) ag)))) (ak (d7 B.x_NoName rfl B.m_NoName rfl cW (aa eO ag))) aI)))),?_⟩
 refine ⟨_,rfl,l,rfl,⟨_,bh.of hl⟩,dX (xs := xs) (fun i σ H' => H = H' /\ (∃ o,σ = [some (.ref l),o]) /\ ∀ (j : Nat) x,j < i -> xs[j]? = some x -> iP x) ⟨rfl,⟨_,rfl⟩,fun j x h => absurd h (Nat.not_lt_zero _)⟩ (fun i σ H' _ h => by rw [<- h.1]; exact bh.of hl) ?_ ?_⟩
 ·rintro i x σ H' hx ⟨rfl,⟨o,rfl⟩,hP⟩
  by_cases hn : iP x
  ·obtain ⟨z,rfl,nz⟩ := id hn
   refine ⟨_,rfl,_,rfl,.inl ⟨z,rfl,vN nz,fun _ => ?_,fun n => absurd nz n⟩⟩
   refine ⟨_,rfl,?_⟩
   exact ⟨rfl,⟨_,rfl⟩,fun j y hj hy => by
    rcases AY.mp hj with q | q
    ·exact hP j y q hy
    ·subst q; rw [hx] at hy; cases hy; exact hn⟩
  ·have bad : ¬ ∀ x ∈ xs,iP x := fun a => hn (a x (A8 hx))
   rcases (ho x (A8 hx)).resolve_left hn with ⟨z,rfl,lz,nz⟩ | ⟨ty,h1,h2⟩
   ·refine ⟨_,rfl,_,rfl,.inl ⟨z,rfl,lz,fun n => absurd n nz,fun _ => ?_⟩⟩
    exact ⟨_,rfl,(by show 1 <= sizeLine; decide),kf bad _ fun _ _ e => e⟩
   ·refine ⟨_,rfl,_,rfl,.inr ⟨ty,h1,h2,?_⟩⟩
    exact ⟨_,rfl,(by show 1 <= sizeLine; decide),kf bad _ fun _ _ e => e⟩
 ·rintro σ H' ⟨rfl,⟨o,rfl⟩,hP⟩
  exact kt fun x hx => by
   obtain ⟨j,hj⟩ := AW.mp hx
   exact hP j x (A1.mp hj).1 hj
theorem zY : aA ["parts","good","ahead","waiting","name","part"] ["parts","good"] (ap yS) := ⟨rfl,rfl,rfl,by decide +kernel,rfl,by decide +kernel,by decide +kernel⟩
set_option maxHeartbeats 4000000 in
theorem zZ {dV : Value} (F : bK K "names_ahead" "names_ahead" yS dV f fd) (B : Bn K mg c_EmptyHeap c_InRing c_Larder c_NoAmount c_NoDish c_NoName c_NoNet c_NoNumber c_NoPack c_NoPlan c_NoRow c_NoStand c_NoStandIn c_NoStep c_StoveError c_TooFew c_TooMany c_Twice f_Z12 f_Z13 f_Z14 f_Z15 f_Z16 f_Z17 f_Z18 f_Z19)  : bg P w K mg base a9 1 f fd ["parts","good"] kA := by
 have sc := zY
 refine F.ok sc (fun vs H Q E h => ?_) (fun cdv A outer s H vs Q E hr h => ?_)
 ·obtain ⟨d,good,rows,ps,rfl,_⟩ := h
  rfl
 obtain ⟨d,good,rows,ps,rfl,dd,ok,few,q⟩ := h
 obtain ⟨rs,dr,ed,ndr,dnr⟩ := dd.ex
 refine ⟨_,(af (au (i := 2) sc.nd rfl (Or.inl rfl) (im (fW (pv 1) cr ik) rfl rfl (by simp) (by decide))) (af (au (i := 3) sc.nd rfl (Or.inl rfl) (bH (aa (pv 1) ag))) (af (dU PassesOwn.never (aB k8 (ar aN rfl B.b_len boot_len (aa (pv 3) ag)) am (aG _)) (af (au (i := 4) sc.nd rfl (Or.inl rfl) (u5 Az PySem.F.slot_list_pop PySem.F.type_list_pop u7 (pv 3))) (ak (mS (cv PassesOwn.never rfl (ip (iH (bL hr) (pv 0) (pv 4) cA ⟨rfl,rfl,rfl,rfl⟩)) (bA (i := 5) sc.nd rfl (Or.inl rfl)) (ak (aX (dM (dq (bL hr) (pv 5) (pv 2)) (by with_unfolding_all rfl)) (af (cJ (bL hr) (pv 2) (pv 5) (pv 4) rfl) (ak (a8 (fS Az B4 B3 cg (pv 3) (aa (pv 5) ag))))) aI))))))) (ak (aH (pv 2)))))),?_⟩
 have slt : (6000 : Nat) < sizeLine := by decide
 refine fun ah na => ⟨_,rfl,ac,[(.inr good,.non)],rfl,(by show 1 <= 15; decide),?_⟩
 have ga : ay H (aq (aq H ah (.dK [])) ah (.dK (b8 [] [((.inr good : Key),V.non)]))) := by
  rw [jY]
  exact aj na _
 have ea : (aq (aq H ah (.dK [])) ah (.dK (b8 [] [((.inr good : Key),V.non)]))) ah = some (.dK (aT [(good,none)])) := ac
 generalize aq (aq H ah (.dK [])) ah (.dK (b8 [] [((.inr good : Key),V.non)])) = H0 at ga ea ⊢
 refine ⟨_,rfl,(by show 1 <= sizeLine; decide),fun wt nw => ?_⟩
 have nwH : H wt = none := ga.free nw
 have g0 := ga.trans (aj nw (.lst [.str good]))
 have e0 : aq H0 wt (.lst [.str good]) ah = some (.dK (aT [(good,none)])) := aj nw _ _ _ ea
 have aw : ah ≠ wt := fun z => by rw [z,nw] at ea; cases ea
 try dsimp only [bC,bE]
 refine dZ (fun σ H' => ay H H' /\ ∃ (es : List (Str × Option Str)) (ws : List Str) (o4 o5 : Option V),σ = [some (.ref d),some (.str good),some (.ref ah),some (.ref wt),o4,o5] /\ H' ah = some (.dK (aT es)) /\ H' wt = some (.lst (ws.map V.str)) /\ cZ ps good es /\ (∀ y ∈ ws,y ∈ aL es) /\ (∀ y ∈ aL es,y ∉ ws -> ∀ b,(y,b) ∈ ps -> b ∈ aL es) /\ 2 * (1002 - (aL es).length) + ws.length <= 5000)
  (fun (σ : L2.St) (H' : Hp) => match H' ah,H' wt with | some (.dK kvs),some (.lst xs) => 2 * (1002 - kvs.length) + xs.length | _,_ => 0)
  ⟨g0,[(good,none)],[good],none,none,rfl,e0,ac,.start ps good few,fun y hy => by simpa [aL] using hy,fun y hy n => absurd (by simpa [aL] using hy) n,by show 2 * (1002 - 1) + 1 <= 5000; decide⟩ ?_
  (fun σ H Q Q' m ⟨v,e,a,ys,e1,e2,i,j,e3,e4,k,hk,h2⟩ => ⟨v,e,a,ys,e1,e2,i,j,e3,e4,k,hk,m _ _ h2⟩)
 rintro σ H1 ⟨g1,es,ws,o4,o5,rfl,e1,w1,ab,wsub,cl,mes⟩
 refine ⟨_,rfl,wt,_,rfl,.inl (bh.of w1),_,_,rfl,rfl,_,rfl,d2 (fun c => ?_) (fun c => ?_)⟩
 ·rcases List.eq_nil_or_concat ws with rfl | ⟨ws0,nm,rfl⟩
  ·simp at c
  rw [List.concat_eq_append] at *
  have nmk : nm ∈ aL es := wsub nm (by simp)
  have wl : (ws0 ++ [nm]).length = ws0.length + 1 := by simp
  refine ⟨_,rfl,.inl ⟨rfl,_,bh.of w1⟩,wt,_,.str nm,rfl,rfl,w1,(by simp),?_⟩
  have w2 : ((ws0 ++ [nm]).map V.str).dropLast = ws0.map V.str := by simp
  rw [w2]
  have g2 := fK (o := .lst (ws0.map V.str)) g1 nwH
  have e2 : aq H1 wt (.lst (ws0.map V.str)) ah = some (.dK (aT es)) := by rw [ae aw]; exact e1
  have w2' : aq H1 wt (.lst (ws0.map V.str)) wt = some (.lst (ws0.map V.str)) := ac
  generalize aq H1 wt (.lst (ws0.map V.str)) = H2 at g2 e2 w2' ⊢
  refine ⟨_,rfl,d,rfl,.inl ⟨_,.inl (g2 _ _ ed)⟩,_,rfl,fun pn hn => ⟨_,b7.k (k := .inr nm) (aj hn _ _ _ (g2 _ _ ed)),?_⟩⟩
  have g3 := g2.trans (aj hn (.dK []))
  have e3 := aj hn (.dK []) _ _ e2
  have w3 := aj hn (.dK []) _ _ w2'
  have hnH : H pn = none := g2.free hn
  obtain ⟨rw_,ys,hx,hr,hH,ysl,ym,ra,rw1⟩ : ∃ (r : Addr) (ys : List Str),(aE (df rows rs) (.inr nm)).getD (.ref pn) = .ref r /\ (aq H2 pn (.dK [])) r = some (.dK (aO ys (.bl true))) /\ (H r = none ∨ H r = some (.dK (aO ys (.bl true)))) /\ ys.length <= 1000 /\ (∀ b,b ∈ ys ↔ (nm,b) ∈ ps) /\ r ≠ ah /\ r ≠ wt := by
   rcases vS (x := nm) dr ndr ok with ⟨hv,no⟩ | ⟨r,ys,hv,_,hH,hl,_,hm⟩
   ·rw [hv]
    exact ⟨pn,[],rfl,ac,.inl hnH,by simp,fun b => ⟨fun h => by simp at h,fun h => absurd h (no b)⟩,(fun z => by rw [z,e2] at hn; cases hn),(fun z => by rw [z,w2'] at hn; cases hn)⟩
   ·rw [hv]
    exact ⟨r,ys,rfl,g3 _ _ hH,.inr hH,by omega,hm,(fun z => by rw [z,na] at hH; cases hH),(fun z => by rw [z,nwH] at hH; cases hH)⟩
  rw [hx]
  generalize aq H2 pn (.dK []) = H3 at g3 e3 w3 hr ⊢
  refine ⟨rw_,_,rfl,hr,fun o nf => ?_⟩
  have fah : aq H rw_ (.frz o (.dK (aO ys (.bl true)))) ah = none := by rw [ae (Ne.symm ra)]; exact na
  have fwt : aq H rw_ (.frz o (.dK (aO ys (.bl true)))) wt = none := by rw [ae (Ne.symm rw1)]; exact nwH
  refine rj (kvs := aO ys (.bl true)) (fun i σ H4 => ay (aq H rw_ (.frz o (.dK (aO ys (.bl true))))) H4 /\ ∃ (es' : List (Str × Option Str)) (ws' : List Str) (o5 : Option V),σ = [some (.ref d),some (.str good),some (.ref ah),some (.ref wt),some (.str nm),o5] /\ H4 ah = some (.dK (aT es')) /\ H4 wt = some (.lst (ws'.map V.str)) /\ cZ ps good es' /\ nm ∈ aL es' /\ (∀ y ∈ ws',y ∈ aL es') /\ (∀ y ∈ aL es',y ≠ nm -> y ∉ ws' -> ∀ b,(y,b) ∈ ps -> b ∈ aL es') /\ (∀ (j : Nat) (b : Str),j < i -> ys[j]? = some b -> b ∈ aL es') /\ 2 * (1002 - (aL es').length) + ws'.length <= 2 * (1002 - (aL es).length) + ws0.length)
   ⟨rA g3 _ _,es,ws0,o5,rfl,by rw [ae (Ne.symm ra)]; exact e3,by rw [ae (Ne.symm rw1)]; exact w3,ab,nmk,fun y hy => wsub y (by simp [hy]),fun y hy hn hw => cl y hy (by simp [hn,hw]),fun j b h => absurd h (by omega),A4 _⟩
   (fun i σ H4 _ h => h.1 _ _ ac) ?_ ?_
  ·rintro i k x σ H4 hk ⟨g4,es',ws',o5,rfl,e4,w4,ab',nm',wsub',cl',pr',mes'⟩
   obtain ⟨b,hb,rfl⟩ := sY hk
   have hbp : (nm,b) ∈ ps := (ym b).mp (A8 hb)
   have rm := ab'.room
   refine ⟨_,rfl,_,rfl,ah,_,rfl,b7.k (k := .inr b) e4,_,rfl,?_⟩
   rw [gJ]
   refine Ab (fun hf => ?_) (fun ht => ?_)
   ·have nb := of_decide_eq_false hf
    refine ⟨_,rfl,_,rfl,_,rfl,ah,_,rfl,dO.k (k := .inr b) e4 (by rw [eJ]; omega),?_⟩
    rw [pN nb]
    have w5 : aq H4 ah (.dK (aT (es' ++ [(b,some nm)]))) wt = some (.lst (ws'.map V.str)) := by rw [ae (Ne.symm aw)]; exact w4
    have g5 := fK (o := .dK (aT (es' ++ [(b,some nm)]))) g4 fah
    have nk := eK es' b (some nm)
    refine ⟨_,rfl,.inl ⟨rfl,_,bh.of w5⟩,_,rfl,wt,_,_,rfl,rfl,w5,(by rw [A5]; omega),?_⟩
    refine ⟨fK g5 fwt _,es' ++ [(b,some nm)],ws' ++ [b],_,rfl,by rw [ae aw]; exact ac,by rw [ac,Ar]; rfl,ab'.add nm' nb hbp,by rw [nk]; simp [nm'],fun y hy => ?_,fun y hy hn hw c hc => ?_,fun j c hj hc => ?_,?_⟩
    ·rw [nk]
     rcases AM.mp hy with k | k
     ·simp [wsub' y k]
     ·simp at k
      simp [k]
    ·rw [nk] at hy ⊢
     simp at hw
     rcases AM.mp hy with k | k
     ·simp [cl' y k hn hw.1 c hc]
     ·simp at k
      exact absurd k hw.2
    ·rw [nk]
     rcases AY.mp hj with k | rfl
     ·simp [pr' j c k hc]
     ·rw [hb] at hc
      cases hc
      simp
    ·rw [nk]
     simp only [A7,As,Bk]
     omega
   ·have ib := of_decide_eq_true ht
    refine ⟨g4,es',ws',_,rfl,e4,w4,ab',nm',wsub',cl',fun j c hj hc => ?_,mes'⟩
    rcases AY.mp hj with k | rfl
    ·exact pr' j c k hc
    ·rw [hb] at hc
     cases hc
     exact ib
  ·rintro σ H4 ⟨g4,es',ws',o5,rfl,e4,w4,ab',nm',wsub',cl',pr',mes'⟩
   rw [bR] at pr'
   have e5 : aq H4 rw_ (.dK (aO ys (.bl true))) ah = some (.dK (aT es')) := by rw [ae (Ne.symm ra)]; exact e4
   have w5 : aq H4 rw_ (.dK (aO ys (.bl true))) wt = some (.lst (ws'.map V.str)) := by rw [ae (Ne.symm rw1)]; exact w4
   refine ⟨rw_,o,aO ys (.bl true),g4 _ _ ac,nf,⟨fun b' u hb' => ?_,es',ws',_,o5,rfl,e5,w5,ab',wsub',fun y hy hw b hb => ?_,by simp only [A7,As,Bk] at mes; omega⟩,?_⟩
   ·by_cases z : b' = rw_
    ·subst z
     rcases hH with k | k
     ·rw [k] at hb'; cases hb'
     ·rw [k] at hb'
      cases hb'
      exact ac
    ·rw [ae z]
     exact g4 _ _ (by rw [ae z]; exact hb')
   ·by_cases z : y = nm
    ·subst z
     obtain ⟨j,hj⟩ := AW.mp ((ym b).mpr hb)
     exact pr' j b (A1.mp hj).1 hj
    ·exact cl' y hy z hw b hb
   ·rw [e5,w5,e1,w1]
    show 2 * (1002 - (aT es').length) + (ws'.map V.str).length < 2 * (1002 - (aT es).length) + ((ws0 ++ [nm]).map V.str).length
    rw [eJ,eJ,A5,A5,A7]
    simp only [As,Bk]
    omega
 ·have wz : ws = [] := by
   rw [A5] at c
   exact List.eq_nil_of_length_eq_zero (by omega)
  subst wz
  exact ⟨_,rfl,q ah H1 es g1 e1 ⟨ab,fun y => ⟨ab.led y,fun l => l.closed (S := fun y => y ∈ aL es) ab.good fun a b ha hab => cl a ha (by simp) b hab⟩⟩⟩
theorem xG : aA ["ahead","goal","chain","name"] ["ahead","goal"] (ap t6) := ⟨rfl,rfl,rfl,by decide +kernel,rfl,by decide +kernel,by decide +kernel⟩
set_option maxHeartbeats 4000000 in
theorem xH {dV : Value} (F : bK K "chain_to" "chain_to" t6 dV f fd) (B : Bn K mg c_EmptyHeap c_InRing c_Larder c_NoAmount c_NoDish c_NoName c_NoNet c_NoNumber c_NoPack c_NoPlan c_NoRow c_NoStand c_NoStandIn c_NoStep c_StoveError c_TooFew c_TooMany c_Twice f_Z12 f_Z13 f_Z14 f_Z15 f_Z16 f_Z17 f_Z18 f_Z19)  : bg P w K mg base a9 1 f fd ["ahead","goal"] vT := by
 have sc := xG
 refine F.ok sc (fun vs H Q E h => ?_) (fun cdv A outer s H vs Q E hr h => ?_)
 ·obtain ⟨ah,goal,good,ps,es,rfl,_⟩ := h
  rfl
 obtain ⟨ah,goal,good,ps,es,rfl,ea,ab,hg,q⟩ := h
 refine ⟨_,(af (au (i := 2) sc.nd rfl (Or.inl rfl) (bH ag)) (af (au (i := 3) sc.nd rfl (Or.inl rfl) (pv 1)) (af (dU PassesOwn.never (aB j5 (pv 3) cr (aG _)) (af (a8 (fS Az B4 B3 cg (pv 2) (aa (pv 3) ag))) (ak (au (i := 3) sc.nd rfl (Or.inl rfl) (eZ (bL hr) (pv 0) (pv 3) (fun _ _ => rfl)))))) (ak (aH (mU rfl rfl B.b_list rfl B.b_reversed boot_list PyProof.Rows.Boot.«reversed» (pv 2))))))),?_⟩
 have slt : (3000 : Nat) < sizeLine := by decide
 have kl : (aL es).length = es.length := by simp [aL]
 have rm := ab.room
 refine ⟨(by show 0 <= sizeLine; omega),fun lc nl => ?_⟩
 have g0 := aj nl (.lst [])
 refine ⟨_,rfl,?_⟩
 try dsimp only [bC,bE]
 refine dZ (fun σ H' => ay H H' /\ ∃ (rc : List Str) (o : Option Str),σ = [some (.ref ah),some (.str goal),some (.ref lc),some (mV o)] /\ H' lc = some (.lst (rc.map V.str)) /\ Back ps good goal es rc o)
  (fun (σ : L2.St) (H' : Hp) => lO es σ[3]?)
  ⟨g0,[],some goal,rfl,ac,.start hg⟩ ?_
  (fun σ H Q Q' m ⟨v,e,e2,b,hb,h2⟩ => ⟨v,e,e2,b,hb,m _ _ h2⟩)
 rintro σ H1 ⟨g1,rc,o,rfl,e1,bk⟩
 refine ⟨_,rfl,rfl,_,rfl,?_⟩
 cases o with
 | none =>
  refine bS ⟨_,rfl,lc,_,rfl,bh.of e1,fun p hp => q p _ rc.reverse (g1.trans (aj hp _)) (by rw [ac,List.map_reverse]) (bk.way ab)⟩
 | some y =>
  obtain ⟨i,oy,hi,_,_,hl⟩ := bk.nxt y rfl
  have al : ah ≠ lc := fun z => by rw [z,nl] at ea; cases ea
  refine de ⟨_,rfl,.inl ⟨rfl,_,bh.of e1⟩,_,rfl,lc,_,_,rfl,rfl,e1,(by rw [A5]; omega),?_⟩
  refine ⟨_,rfl,_,rfl,ah,_,rfl,(by rw [<- rq ab.nd hi]; exact b7.k (k := .inr y) (by rw [ae al]; exact g1 _ _ ea)),⟨fK g1 nl _,rc ++ [y],oy,rfl,by rw [ac,Ar]; rfl,bk.step ab hi⟩,rB ab hi⟩
theorem xI : aA ["parts","good","goals","ahead","found"] ["parts","good","goals"] (ap t8) := ⟨rfl,rfl,rfl,by decide +kernel,rfl,by decide +kernel,by decide +kernel⟩
set_option maxHeartbeats 4000000 in
theorem xJ {dV : Value} (F : bK K "chain_down" "chain_down" t8 dV f fd) (B : Bn K mg c_EmptyHeap c_InRing c_Larder c_NoAmount c_NoDish c_NoName c_NoNet c_NoNumber c_NoPack c_NoPlan c_NoRow c_NoStand c_NoStandIn c_NoStep c_StoveError c_TooFew c_TooMany c_Twice f_Z12 f_Z13 f_Z14 f_Z15 f_Z16 f_Z17 f_Z18 f_Z19) (DZ9 : Dx P w K mg base a9 1 "names_ahead" ["parts","good"] [] kA) (DZ10 : Dx P w K mg base a9 1 "chain_to" ["ahead","goal"] [] vT) : bg P w K mg base a9 2 f fd ["parts","good","goals"] fc := by
 have sc := xI
 refine F.ok sc (fun vs H Q E h => ?_) (fun cdv A outer s H vs Q E hr h => ?_)
 ·obtain ⟨d,lg,good,rows,ps,gs,rfl,_⟩ := h
  rfl
 obtain ⟨d,lg,good,rows,ps,gs,rfl,dd,ok,few,hg,q1,q2⟩ := h
 refine ⟨_,(af (au (i := 3) sc.nd rfl (Or.inl rfl) (aS DZ9 hr (by decide) rfl (aa (pv 0) (aa (pv 1) ag)))) (af (mS (gK sc.nd (i := 4) rfl rfl (own := "name") (ys := ["goals"]) (js := [2]) rfl (xj (wm xh) (.cons rfl .nil) (by decide) rfl rfl rfl rfl rfl rfl rfl rfl) (ip (pv 3)) (fun C fp s H => (aB (vU (K := K) rfl) (pv 0) (pv 1) (by with_unfolding_all rfl))) (fun C fp s H => (pv 0)))) (af (aX (aB eP (ar aN rfl B.b_len boot_len (aa (pv 4) ag)) am (aG _)) (ak (aH cr)) aI) (ak (aH (aS DZ10 hr (by decide) rfl (aa (pv 3) (aa (aR aW (pv 4) am (fun _ _ => rfl)) ag)))))))),?_⟩
 have slt : (3000 : Nat) < sizeLine := by decide
 refine ⟨_,rfl,_,rfl,d,good,rows,ps,rfl,dd,ok,few,fun ah H1 es g1 e1 ao => ?_⟩
 have rm := ao.base.room
 have kl := eJ es
 have l1 := g1 _ _ hg.seq
 have la : lg ≠ ah := fun z => by rw [z,e1] at l1; cases l1
 refine ⟨_,rfl,ah,_,rfl,e1,fun o nf => ?_⟩
 refine hG (tf gs) ac (by omega) (fun i k x hk H3 g3 R hR => ?_) (fun p H' g' e' => ?_)
 ·have hk' := hk
  unfold aT at hk'
  rw [AK] at hk'
  cases he : es[i]? with
  | none => rw [he] at hk'; cases hk'
  | some e =>
   rw [he] at hk'
   cases hk'
   refine ⟨_,rfl,_,rfl,lg,_,rfl,.inl (bh.of (g3 _ _ (by rw [ae la]; exact l1))),rfl,pO gs,_,rfl,?_⟩
   show R (wO (.str e.1) (gs.map V.str)) H3
   rw [tj]
   exact hR
 ·have fa := g' _ _ ac
  have pa : p ≠ ah := fun z => by rw [z,fa] at e'; cases e'
  have g2 : ay H (aq H' ah (.dK (aT es))) := fun b u hb => by
   by_cases z : b = ah
   ·subst z
    have := (g1 _ _ hb).symm.trans e1
    cases this
    exact ac
   ·rw [ae z]
    exact g' _ _ (by rw [ae z]; exact g1 _ _ hb)
  have e2 : aq H' ah (.dK (aT es)) ah = some (.dK (aT es)) := ac
  rw [lR] at e'
  have p2 : aq H' ah (.dK (aT es)) p = some (.lst (((aL es).filter fun y => decide (y ∈ gs)).map V.str)) := by rw [ae pa]; exact e'
  refine ⟨ah,o,aT es,fa,nf,?_⟩
  generalize aq H' ah (.dK (aT es)) = H2 at g2 e2 p2 ⊢
  clear g' e' fa
  have mem : ∀ y,y ∈ ((aL es).filter fun y => decide (y ∈ gs)) ↔ y ∈ aL es /\ y ∈ gs := fun y => by simp [BO]
  have hd : good ∈ gs -> ∃ r,((aL es).filter fun y => decide (y ∈ gs)) = good :: r := fun hin => by
   have k0 := f6 ao.base.first
   cases ek : aL es with
   | nil => rw [ek] at k0; simp at k0
   | cons c r =>
    rw [ek] at k0
    simp at k0
    subst k0
    exact ⟨_,List.filter_cons_of_pos (by exact decide_eq_true hin)⟩
  generalize ((aL es).filter fun y => decide (y ∈ gs)) = fs at p2 mem hd
  refine ⟨_,rfl,p,_,rfl,.inl (bh.of p2),rfl,_,rfl,?_⟩
  cases fs with
  | nil => exact de (q1 H2 g2 fun y hy l => by simpa using (mem y).mpr ⟨(ao.all y).mpr l,hy⟩)
  | cons c r =>
   have hc := (mem c).mp (BC)
   refine dF (p := V.int (((c :: r).map V.str).length : Int) = V.int 0) (fun z => by injection z with z; simp at z; omega) ?_
   refine ⟨_,rfl,_,rfl,p,_,0,.str c,rfl,rfl,bh.of p2,(show fo ((c :: r).map V.str) ((0 : Nat) : Int) = some (.str c) from bV rfl),ah,c,good,ps,es,rfl,e2,ao.base,hc.1,fun l H3 cs g3 e3 wy => ?_⟩
   exact q2 l H3 cs c (g2.trans g3) e3 wy hc.2 ((ao.all c).mp hc.1) fun hin => by
    obtain ⟨r',hr'⟩ := hd hin
    cases hr'
    rfl
theorem xK : aA ["self"] ["self"] (ap t9) := ⟨rfl,rfl,rfl,by decide +kernel,rfl,by decide +kernel,by decide +kernel⟩
set_option maxHeartbeats 4000000 in
theorem xL {dV : Value} (F : bK K "__init__" "Larder.__init__" t9 dV f fd) (B : Bn K mg c_EmptyHeap c_InRing c_Larder c_NoAmount c_NoDish c_NoName c_NoNet c_NoNumber c_NoPack c_NoPlan c_NoRow c_NoStand c_NoStandIn c_NoStep c_StoveError c_TooFew c_TooMany c_Twice f_Z12 f_Z13 f_Z14 f_Z15 f_Z16 f_Z17 f_Z18 f_Z19)  : bg P w K mg base a9 1 f fd ["self"] (gP c_Larder) := by
 have sc := xK
 refine F.ok sc (fun vs H Q E h => ?_) (fun cdv A outer s H vs Q E hr h => ?_)
 ·obtain ⟨x,dx,rfl,_⟩ := h
  rfl
 obtain ⟨x,dx,rfl,e0,q⟩ := h
 refine ⟨_,(af (j6 (pv 0) cA rfl) (af (j6 (pv 0) cA rfl) (af (j6 (pv 0) cA rfl) (ak (j6 (pv 0) cA rfl))))),?_⟩
 have k0 : jf x H H := fun _ _ _ e => e
 have l0 : ([] : List (Str × V)).length <= 0 := A4 _
 intro p np
 have xp : x ≠ p := fun z => by rw [<- z,e0] at np; cases np
 refine ⟨_,rfl,x,_,dx,_,rfl,(by rw [ae xp]; exact e0),B.cl_Larder,B.na_Larder_parts,(by omega),?_⟩
 have e1 : (aq (aq H p (.dK [])) x (.ins c_Larder dx (aC "parts" (.ref p) []))) x = some (.ins c_Larder dx (aC "parts" (.ref p) [])) := ac
 have k1 : jf x H (aq (aq H p (.dK [])) x (.ins c_Larder dx (aC "parts" (.ref p) []))) := k0.trans (jf.step (.dK []) np)
 have vp : (aq (aq H p (.dK [])) x (.ins c_Larder dx (aC "parts" (.ref p) []))) p = some (.dK []) := by rw [ae (Ne.symm xp)]; exact ac
 have l1 : ((aC "parts" (.ref p) []) : List (Str × V)).length <= 1 := by have := cD "parts" (.ref p) []; omega
 have fp : H p = none := by
  cases h : H p with
  | none => rfl
  | some ob => rw [k0 p ob (Ne.symm xp) h] at np; cases np
 generalize (aq (aq H p (.dK [])) x (.ins c_Larder dx (aC "parts" (.ref p) []))) = H1 at e1 k1 vp ⊢
 intro st nst
 have xst : x ≠ st := fun z => by rw [<- z,e1] at nst; cases nst
 refine ⟨_,rfl,x,_,dx,_,rfl,(by rw [ae xst]; exact e1),B.cl_Larder,B.na_Larder_stands,(by omega),?_⟩
 have e2 : (aq (aq H1 st (.dK [])) x (.ins c_Larder dx (aC "stands" (.ref st) (aC "parts" (.ref p) [])))) x = some (.ins c_Larder dx (aC "stands" (.ref st) (aC "parts" (.ref p) []))) := ac
 have k2 : jf x H (aq (aq H1 st (.dK [])) x (.ins c_Larder dx (aC "stands" (.ref st) (aC "parts" (.ref p) [])))) := k1.trans (jf.step (.dK []) nst)
 have vst : (aq (aq H1 st (.dK [])) x (.ins c_Larder dx (aC "stands" (.ref st) (aC "parts" (.ref p) [])))) st = some (.dK []) := by rw [ae (Ne.symm xst)]; exact ac
 have l2 : ((aC "stands" (.ref st) (aC "parts" (.ref p) [])) : List (Str × V)).length <= 2 := by have := cD "stands" (.ref st) (aC "parts" (.ref p) []); omega
 have fst : H st = none := by
  cases h : H st with
  | none => rfl
  | some ob => rw [k1 st ob (Ne.symm xst) h] at nst; cases nst
 have wpst : p ≠ st := fun z => by rw [<- z,vp] at nst; cases nst
 replace vp : (aq (aq H1 st (.dK [])) x (.ins c_Larder dx (aC "stands" (.ref st) (aC "parts" (.ref p) [])))) p = some (.dK []) := jf.step (.dK []) nst p _ (Ne.symm xp) vp
 generalize (aq (aq H1 st (.dK [])) x (.ins c_Larder dx (aC "stands" (.ref st) (aC "parts" (.ref p) [])))) = H2 at e2 k2 vst vp ⊢
 intro b nb
 have xb : x ≠ b := fun z => by rw [<- z,e2] at nb; cases nb
 refine ⟨_,rfl,x,_,dx,_,rfl,(by rw [ae xb]; exact e2),B.cl_Larder,B.na_Larder_bars,(by omega),?_⟩
 have e3 : (aq (aq H2 b (.dK [])) x (.ins c_Larder dx (aC "bars" (.ref b) (aC "stands" (.ref st) (aC "parts" (.ref p) []))))) x = some (.ins c_Larder dx (aC "bars" (.ref b) (aC "stands" (.ref st) (aC "parts" (.ref p) [])))) := ac
 have k3 : jf x H (aq (aq H2 b (.dK [])) x (.ins c_Larder dx (aC "bars" (.ref b) (aC "stands" (.ref st) (aC "parts" (.ref p) []))))) := k2.trans (jf.step (.dK []) nb)
 have vb : (aq (aq H2 b (.dK [])) x (.ins c_Larder dx (aC "bars" (.ref b) (aC "stands" (.ref st) (aC "parts" (.ref p) []))))) b = some (.dK []) := by rw [ae (Ne.symm xb)]; exact ac
 have l3 : ((aC "bars" (.ref b) (aC "stands" (.ref st) (aC "parts" (.ref p) []))) : List (Str × V)).length <= 3 := by have := cD "bars" (.ref b) (aC "stands" (.ref st) (aC "parts" (.ref p) [])); omega
 have fb : H b = none := by
  cases h : H b with
  | none => rfl
  | some ob => rw [k2 b ob (Ne.symm xb) h] at nb; cases nb
 have wpb : p ≠ b := fun z => by rw [<- z,vp] at nb; cases nb
 have wstb : st ≠ b := fun z => by rw [<- z,vst] at nb; cases nb
 replace vp : (aq (aq H2 b (.dK [])) x (.ins c_Larder dx (aC "bars" (.ref b) (aC "stands" (.ref st) (aC "parts" (.ref p) []))))) p = some (.dK []) := jf.step (.dK []) nb p _ (Ne.symm xp) vp
 replace vst : (aq (aq H2 b (.dK [])) x (.ins c_Larder dx (aC "bars" (.ref b) (aC "stands" (.ref st) (aC "parts" (.ref p) []))))) st = some (.dK []) := jf.step (.dK []) nb st _ (Ne.symm xst) vst
 generalize (aq (aq H2 b (.dK [])) x (.ins c_Larder dx (aC "bars" (.ref b) (aC "stands" (.ref st) (aC "parts" (.ref p) []))))) = H3 at e3 k3 vb vp vst ⊢
 intro n nn
 have xn : x ≠ n := fun z => by rw [<- z,e3] at nn; cases nn
 refine ⟨_,rfl,x,_,dx,_,rfl,(by rw [ae xn]; exact e3),B.cl_Larder,B.na_Larder_names,(by omega),?_⟩
 have e4 : (aq (aq H3 n (.dK [])) x (.ins c_Larder dx (aC "names" (.ref n) (aC "bars" (.ref b) (aC "stands" (.ref st) (aC "parts" (.ref p) [])))))) x = some (.ins c_Larder dx (aC "names" (.ref n) (aC "bars" (.ref b) (aC "stands" (.ref st) (aC "parts" (.ref p) []))))) := ac
 have k4 : jf x H (aq (aq H3 n (.dK [])) x (.ins c_Larder dx (aC "names" (.ref n) (aC "bars" (.ref b) (aC "stands" (.ref st) (aC "parts" (.ref p) [])))))) := k3.trans (jf.step (.dK []) nn)
 have vn : (aq (aq H3 n (.dK [])) x (.ins c_Larder dx (aC "names" (.ref n) (aC "bars" (.ref b) (aC "stands" (.ref st) (aC "parts" (.ref p) [])))))) n = some (.dK []) := by rw [ae (Ne.symm xn)]; exact ac
 have l4 : ((aC "names" (.ref n) (aC "bars" (.ref b) (aC "stands" (.ref st) (aC "parts" (.ref p) [])))) : List (Str × V)).length <= 4 := by have := cD "names" (.ref n) (aC "bars" (.ref b) (aC "stands" (.ref st) (aC "parts" (.ref p) []))); omega
 have fn : H n = none := by
  cases h : H n with
  | none => rfl
  | some ob => rw [k3 n ob (Ne.symm xn) h] at nn; cases nn
 have wpn : p ≠ n := fun z => by rw [<- z,vp] at nn; cases nn
 have wstn : st ≠ n := fun z => by rw [<- z,vst] at nn; cases nn
 have wbn : b ≠ n := fun z => by rw [<- z,vb] at nn; cases nn
 replace vp : (aq (aq H3 n (.dK [])) x (.ins c_Larder dx (aC "names" (.ref n) (aC "bars" (.ref b) (aC "stands" (.ref st) (aC "parts" (.ref p) [])))))) p = some (.dK []) := jf.step (.dK []) nn p _ (Ne.symm xp) vp
 replace vst : (aq (aq H3 n (.dK [])) x (.ins c_Larder dx (aC "names" (.ref n) (aC "bars" (.ref b) (aC "stands" (.ref st) (aC "parts" (.ref p) [])))))) st = some (.dK []) := jf.step (.dK []) nn st _ (Ne.symm xst) vst
 replace vb : (aq (aq H3 n (.dK [])) x (.ins c_Larder dx (aC "names" (.ref n) (aC "bars" (.ref b) (aC "stands" (.ref st) (aC "parts" (.ref p) [])))))) b = some (.dK []) := jf.step (.dK []) nn b _ (Ne.symm xb) vb
 generalize (aq (aq H3 n (.dK [])) x (.ins c_Larder dx (aC "names" (.ref n) (aC "bars" (.ref b) (aC "stands" (.ref st) (aC "parts" (.ref p) [])))))) = H4 at e4 k4 vn vp vst vb ⊢
 have la : LA c_Larder [p,n] H4 x [] [] := ⟨dx,p,n,f8 (.ref p) (.ref st) (.ref b) (.ref n),[],e4,kB.1,kB.2.1,trivial,vp,vn,rfl,by simp [wpn],kB.2.2⟩
 refine q H4 [p,n,st,b] k4 (fun a ha => ?_) ⟨[p,n],dx,st,b,f8 (.ref p) (.ref st) (.ref b) (.ref n),[],la,e4,iV.1,iV.2.1,v3 vst,vb,wstb,?_,?_,fun y a e => (by cases e),fun a ha => ?_,by simp,by simp,fun a ha => ?_,iV.2.2⟩
 ·simp only [AB,BB,or_false] at ha
  rcases ha with rfl | rfl | rfl | rfl
  ·exact fp
  ·exact fn
  ·exact fst
  ·exact fb
 ·simp only [AB,BB,or_false]
  exact fun z => z.elim (fun z => wpst z.symm) (fun z => wstn z)
 ·simp only [AB,BB,or_false]
  exact fun z => z.elim (fun z => wpb z.symm) (fun z => wbn z)
 ·simp only [AB,BB,or_false] at ha ⊢
  rcases ha with rfl | rfl
  ·exact .inl rfl
  ·exact .inr (.inl rfl)
 ·simp only [AB,BB,or_false] at ha
  rcases ha with rfl | rfl | rfl | rfl
  ·exact ⟨_,vp⟩
  ·exact ⟨_,vn⟩
  ·exact ⟨_,vst⟩
  ·exact ⟨_,vb⟩
theorem xM : aA ["self","told","fresh","name"] ["self","told"] (ap ua) := ⟨rfl,rfl,rfl,by decide +kernel,rfl,by decide +kernel,by decide +kernel⟩
set_option maxHeartbeats 4000000 in
theorem xN {dV : Value} (F : bK K "learn" "Larder.learn" ua dV f fd) (B : Bn K mg c_EmptyHeap c_InRing c_Larder c_NoAmount c_NoDish c_NoName c_NoNet c_NoNumber c_NoPack c_NoPlan c_NoRow c_NoStand c_NoStandIn c_NoStep c_StoveError c_TooFew c_TooMany c_Twice f_Z12 f_Z13 f_Z14 f_Z15 f_Z16 f_Z17 f_Z18 f_Z19)  : bg P w K mg base a9 1 f fd ["self","told"] (f9 c_Larder) := by
 have sc := xM
 refine F.ok sc (fun vs H Q E h => ?_) (fun cdv A outer s H vs Q E hr h => ?_)
 ·obtain ⟨x,l,F0,rows,ns,xs,rfl,_⟩ := h
  rfl
 obtain ⟨x,l,F0,rows,ns,xs,rfl,la,el,room,nd,q⟩ := h
 refine ⟨_,(af (gK sc.nd (i := 2) rfl rfl (own := "name") (ys := ["self"]) (js := [0]) rfl (xj (wm xh) (.cons rfl .nil) (by decide) rfl rfl rfl rfl rfl rfl rfl rfl) (eA (pv 1)) (fun C fp s H => (dM (dq (by exact bL hr) (pv 0) (tq (K := K) rfl (pv 1) rfl)) (by with_unfolding_all rfl))) (fun C fp s H => (pv 0))) (af (aX (aB k8 (aD dw (ar gH rfl B.b_len boot_len (aa (c8 (pv 0) rfl) ag)) (ar aN rfl B.b_len boot_len (aa (pv 2) ag))) (lL rfl B.g_MOST_NAMES) (aG _)) (ak qi) aI) (ak (cv PassesOwn.never rfl (eA (pv 2)) (bA (i := 3) sc.nd rfl (Or.inl rfl)) (ak (cJ (bL hr) (c8 (pv 0) rfl) (pv 3) bZ rfl)))))),?_⟩
 obtain ⟨dx,p,n,fs,ex,fp,fn,dd,en,_,_,fm⟩ := la.dd
 have slt : (3000 : Nat) < sizeLine := by decide
 refine ⟨_,rfl,l,rfl,⟨_,bh.of el⟩,lQ (xs := xs.map V.str) (fun v => match v with | .str y => !decide (y ∈ ns) | _ => false) (bh.of el) (by rw [A5]; omega) (fun v hv H3 g3 R hR => ?_) (fun p1 H1 g1 e1 => ?_)⟩
 ·obtain ⟨y,hy,rfl⟩ := AC.mp hv
  refine ⟨_,rfl,_,rfl,x,_,dx,_,_,rfl,g3 _ _ ex,B.cl_Larder,B.na_Larder_names,fn,n,_,rfl,b7.k (k := .inr y) (g3 _ _ en),_,rfl,?_⟩
  rw [cX]
  by_cases h : y ∈ ns
  ·rw [if_pos h]
   have hR' : R (!decide (y ∈ ns)) H3 := hR
   rw [decide_eq_true h] at hR'
   exact hR'
  ·rw [if_neg h]
   have hR' : R (!decide (y ∈ ns)) H3 := hR
   rw [decide_eq_false h] at hR'
   exact hR'
 ·have fe : ∀ l : List Str,(l.map V.str).filter (fun v => match v with | .str y => !decide (y ∈ ns) | _ => false) = (l.filter fun y => !decide (y ∈ ns)).map V.str := by
   intro l
   induction l with
   | nil => rfl
   | cons c l ih =>
    rw [Ap,BK,BK,ih]
    by_cases h : c ∈ ns
    ·simp [h]
    ·simp [h]
  rw [fe] at e1
  have fl := BV (fun y => !decide (y ∈ ns)) xs
  have fmem : ∀ y,y ∈ ns ∨ y ∈ (xs.filter fun y => !decide (y ∈ ns)) ↔ y ∈ ns ∨ y ∈ xs := by
   intro y
   rw [BO]
   by_cases h : y ∈ ns <;> simp [h]
  generalize (xs.filter fun y => !decide (y ∈ ns)) = fr at e1 fl fmem
  try dsimp only [bC,bE]
  refine cut (fun σ H' => H1 = H' /\ σ = [some (.ref x),some (.ref l),some (.ref p1),none]) (fun N hN => ?_) ?_
  ·refine ⟨_,rfl,x,_,dx,_,_,rfl,g1 _ _ ex,B.cl_Larder,B.na_Larder_names,fn,n,_,rfl,.inl (g1 _ _ en),_,rfl,p1,_,rfl,.inl (bh.of e1),_,_,rfl,rfl,_,_,rfl,rfl,_,rfl,d2 (fun c => ?_) (fun c => hN _ _ ⟨rfl,rfl⟩)⟩
   rw [bR,A5] at c
   omega
  rintro σ _ ⟨rfl,rfl⟩
  refine ⟨_,rfl,p1,rfl,⟨_,bh.of e1⟩,dX (xs := fr.map V.str) (fun i σ H' => KF F0 H1 H' /\ (∃ o,σ = [some (.ref x),some (.ref l),some (.ref p1),o]) /\ LA c_Larder F0 H' x rows (eV ns (fr.take i))) ⟨KF.refl,⟨_,rfl⟩,la.same g1⟩ (fun i σ H' _ h => bh.of (h.1 _ _ ((la.same g1).not e1 (fun _ z => nomatch z)) e1)) ?_ ?_⟩
  ·rintro i v σ H' hx ⟨k,⟨o,rfl⟩,la'⟩
   rw [AK] at hx
   cases hc : fr[i]? with
   | none => rw [hc] at hx; cases hx
   | some y =>
    rw [hc] at hx
    cases hx
    obtain ⟨dx',p',n',fs',ex',fp',fn',dd',en',_,_,fm'⟩ := la'.dd
    have il := (A1.mp hc).1
    have tl := jL (fr.take i) ns
    rw [BJ] at tl
    have tk : fr.take (i + 1) = fr.take i ++ [y] := by rw [List.take_succ,hc]; rfl
    refine ⟨_,rfl,x,_,dx',_,_,rfl,ex',B.cl_Larder,B.na_Larder_names,fn',_,rfl,n',_,rfl,dO.k (k := .inr y) en' (by rw [bR]; omega),?_⟩
    rw [dA,<- mX,<- tk]
    obtain ⟨la2,k2,_⟩ := la'.learn (ms := eV ns (fr.take (i + 1))) ex' fn'
    exact ⟨k.trans k2,⟨_,rfl⟩,la2⟩
  ·rintro σ H' ⟨k,⟨o,rfl⟩,la'⟩
   rw [A5,List.take_length] at la'
   exact q H' _ ((KF.of g1).trans k) la' (hJ nd) fun y => jK.trans (fmem y)
theorem xO : aA ["self","good","other","back","inside"] ["self","good","other"] (ap ub) := ⟨rfl,rfl,rfl,by decide +kernel,rfl,by decide +kernel,by decide +kernel⟩
set_option maxHeartbeats 4000000 in
theorem xP {dV : Value} (F : bK K "part" "Larder.part" ub dV f fd) (B : Bn K mg c_EmptyHeap c_InRing c_Larder c_NoAmount c_NoDish c_NoName c_NoNet c_NoNumber c_NoPack c_NoPlan c_NoRow c_NoStand c_NoStandIn c_NoStep c_StoveError c_TooFew c_TooMany c_Twice f_Z12 f_Z13 f_Z14 f_Z15 f_Z16 f_Z17 f_Z18 f_Z19) (DZ11 : Dx P w K mg base a9 2 "chain_down" ["parts","good","goals"] [] fc) (DZ13 : ft P w K mg base a9 1 f_Z13 ["self","told"] [] (f9 c_Larder)) (XZ8 : Dx P w K mg base (dz P w) 2 "refuse_no_names" ["things"] [] (eG K c_NoName)) (I_InRing : xg P w K mg base 1 c_InRing ["self","ring"] (fL c_InRing "ring")) : bg P w K mg base (dz P w) 3 f fd ["self","good","other"] (kC K c_Larder c_NoName c_InRing) := by
 have sc := xO
 refine F.okX sc (fun vs H Q E h => ?_) (fun cdv A outer s H vs Q E hr h => ?_)
 ·obtain ⟨x,g,o,F0,rows,ns,ps,rfl,_⟩ := h
  rfl
 obtain ⟨x,g,o,F0,rows,ns,ps,rfl,la,ok,few,nd,n78,hg,ho,eN,qq⟩ := h
 refine ⟨_,(af (a8 (gG XZ8 hr (by decide) rfl cW (aa (bH (aa (pv 1) (aa (pv 2) ag))) ag))) (af (au (i := 3) sc.nd rfl (Or.inl rfl) (aS DZ11 hr (by decide) rfl (aa (c8 (pv 0) rfl) (aa (pv 2) (aa (bH (aa (pv 1) ag)) ag))))) (af (aX (aB j5 (pv 3) cr (aG _)) (ak (og I_InRing hr (by decide) rfl B.m_InRing rfl cW (aa (aD mE (bH (aa (pv 1) ag)) (cH nN (pv 3) dI (cR (k7 iy am)))) ag))) aI) (af (a8 (eE (pv 0) DZ13 hr (by decide) (aa (bH (aa (pv 1) (aa (pv 2) ag))) ag))) (af (au (i := 4) sc.nd rfl (Or.inl rfl) (fS BE PySem.F.slot_dict_setdefault PySem.F.type_dict_setdefault jG (c8 (pv 0) rfl) (aa (pv 1) (aa cA ag)))) (ak (cJ (bL hr) (pv 4) (pv 2) bZ rfl))))))),?_⟩
 have slt : (3000 : Nat) < sizeLine := by decide
 refine ⟨_,rfl,_,rfl,(by show 2 <= sizeLine; decide),fun l0 n0 => ?_⟩
 have g1 := aj n0 (.lst [g,o])
 refine ⟨l0,_,rfl,ac,(fun y hy => ?_),fun nn => ?_,fun nn H' gg => eN (fun z => nn fun y hy => ?_) H' (g1.trans gg)⟩
 ·rcases AB.mp hy with rfl | hy
  ·exact hg.imp id (d8.same g1)
  ·rw [A3.mp hy]
   exact ho.imp id (d8.same g1)
 rotate_left
 ·rcases AB.mp hy with rfl | hy
  ·exact z.1
  ·rw [A3.mp hy]
   exact z.2
 obtain ⟨zg,rfl,mg'⟩ := nn g (by simp)
 obtain ⟨zo,rfl,mo'⟩ := nn o (by simp)
 obtain ⟨qR,qD⟩ := qq zg zo rfl rfl mg' mo'
 have la1 := la.same g1
 generalize aq H l0 (.lst [.str zg,.str zo]) = H1 at g1 la1 ⊢
 obtain ⟨dx,p,n,fs,ex,fp,fn,dd,en,_,_,fm⟩ := la1.dd
 refine ⟨_,rfl,x,_,dx,_,_,rfl,ex,B.cl_Larder,B.na_Larder_parts,fp,_,rfl,_,rfl,(by show 1 <= sizeLine; decide),fun l2 n2 => ?_⟩
 have g2 := aj n2 (.lst [.str zg])
 refine ⟨p,l2,zo,rows,ps,[zg],rfl,dd.same g2,ok,by omega,⟨ac,by simp⟩,fun H3 g3 nl => ?_,fun lb H3 c goal g3 eb wy gm gl ga => ?_⟩
 ·have g13 := g2.trans g3
  have la3 := la1.same g13
  try dsimp only [bC,bE]
  refine ⟨_,rfl,rfl,_,rfl,bS ?_⟩
  obtain ⟨dx,p,n,fs,ex,fp,fn,dd,en,_,_,fm⟩ := la3.dd
  refine ⟨_,rfl,x,_,dx,_,rfl,ex,B.cl_Larder,B.me_Z13,fm _ (by simp),_,rfl,_,rfl,(by show 2 <= sizeLine; decide),fun l4 n4 => ?_⟩
  have g4 := aj n4 (.lst [.str zg,.str zo])
  refine ⟨x,l4,F0,rows,ns,[zg,zo],rfl,la3.same g4,ac,(by simp; omega),nd,fun H5 ms k5 la5 nd5 m5 => ?_⟩
  have k05 : KF F0 H H5 := (KF.of ((g1.trans g13).trans g4)).trans k5
  obtain ⟨dx,p,n,fs,rs,ex,fp,fn,dr,ed,en,eF,ndF,fm⟩ := la5.ex
  have rf := ok.few
  have dl := dr.len
  have nl' : ¬ Led ps zo zg := nl zg (by simp)
  refine ⟨_,rfl,x,_,dx,_,_,rfl,ex,B.cl_Larder,B.na_Larder_parts,fp,.inr (.inr (.inl ⟨rfl,.inl ⟨_,ed⟩⟩)),_,rfl,fun pn hn => ?_⟩
  have g6 := aj hn (.dK [])
  refine ⟨p,_,.inr zg,.ref pn,rfl,rfl,g6 _ _ ed,by omega,fun w hw => ?_,fun hw => ?_⟩
  ·obtain ⟨r,ys,rfl,hm,hH,la6,k6⟩ := (la5.same g6).put_some (y := zo) (g6 _ _ ex) fp (g6 _ _ ed) hw
   have ysl := (ok.small _ hm).1
   refine ⟨_,rfl,_,rfl,r,_,rfl,dO.k (k := .inr zo) hH (by rw [bR]; have : ys.length <= ps.length := ysl; omega),?_⟩
   rw [dA]
   exact qD nl' F0 _ ms ((k05.trans (KF.of g6)).trans k6) FG.refl la6 nd5 fun y => (m5 y).trans (by simp)
  ·have pd : pn ≠ p := fun z => by rw [z,ed] at hn; cases hn
   obtain ⟨la6,k6⟩ := la5.put_none (y := zo) ex fp ed hn hw
   refine ⟨_,rfl,_,rfl,pn,_,rfl,dO.k (k := .inr zo) (kvs := []) (by rw [ae pd]; exact ac) (by show 0 < sizeLine; omega),?_⟩
   refine qD nl' (F0 ++ [pn]) _ ms (k05.trans k6) (fun a ha => ?_) la6 nd5 fun y => (m5 y).trans (by simp)
   rcases AM.mp ha with ha | ha
   ·exact .inl ha
   ·rw [A3.mp ha]
    refine .inr ?_
    cases hp : H pn with
    | none => rfl
    | some ob => rw [k05 _ _ (la5.free hn) hp] at hn; cases hn
 ·obtain rfl := A3.mp gm
  try dsimp only [bC,bE]
  have c1 : 1 <= c.length := by
   have := wy.first
   cases c with
   | nil => cases this
   | cons _ _ => simp
  refine ⟨_,rfl,rfl,_,rfl,de ?_⟩
  refine ⟨_,rfl,(by show 1 <= sizeLine; decide),fun l4 n4 => ?_⟩
  have g4 := aj n4 (.lst [.str goal])
  refine ⟨_,rfl,_,rfl,_,rfl,lb,_,rfl,bh.of (g4 _ _ eb),fun l5 n5 => ?_⟩
  rw [pK (by rw [A5]; exact c1),<- List.map_dropLast]
  have g5 := aj n5 (.lst (c.dropLast.map V.str))
  have lf := wy.few
  refine ⟨l4,l5,_,_,rfl,rfl,g5 _ _ ac,ac,(by rw [A5,List.length_dropLast]; show 1 + _ <= _; omega),fun l6 n6 => ?_⟩
  have g6 := aj n6 (.lst ([.str goal] ++ c.dropLast.map V.str))
  have gA := ((((g1.trans g2).trans g3).trans g4).trans g5).trans g6
  refine ⟨(by show 1 <= sizeLine; decide),fun xa na => oh na fun d H2 g ea ed ne gd edd => ⟨rfl,d,ea,?_⟩⟩
  exact qR gl d l6 _ c (gA.trans gd) (gd _ _ ac) edd wy
theorem xQ : aA ["self","good"] ["self","good"] (ap uc) := ⟨rfl,rfl,rfl,by decide +kernel,rfl,by decide +kernel,by decide +kernel⟩
set_option maxHeartbeats 4000000 in
theorem xR {dV : Value} (F : bK K "barred" "Larder.barred" uc dV f fd) (B : Bn K mg c_EmptyHeap c_InRing c_Larder c_NoAmount c_NoDish c_NoName c_NoNet c_NoNumber c_NoPack c_NoPlan c_NoRow c_NoStand c_NoStandIn c_NoStep c_StoveError c_TooFew c_TooMany c_Twice f_Z12 f_Z13 f_Z14 f_Z15 f_Z16 f_Z17 f_Z18 f_Z19) (DZ11 : Dx P w K mg base a9 2 "chain_down" ["parts","good","goals"] [] fc) (XZ8 : Dx P w K mg base (dz P w) 2 "refuse_no_names" ["things"] [] (eG K c_NoName)) : bg P w K mg base (dz P w) 3 f fd ["self","good"] (fh K c_Larder c_NoName) := by
 have sc := xQ
 refine F.okX sc (fun vs H Q E h => ?_) (fun cdv A outer s H vs Q E hr h => ?_)
 ·obtain ⟨x,v,F0,rows,m,g,bs,ns,ps,rfl,_⟩ := h
  rfl
 obtain ⟨x,v,F1,rows,m,g,bs,ns,ps,rfl,lb,ok,few,b10,hv,eN,qq⟩ := h
 refine ⟨_,(af (a8 (gG XZ8 hr (by decide) rfl cW (aa (bH (aa (pv 1) ag)) ag))) (ak (aH (aS DZ11 hr (by decide) rfl (aa (c8 (pv 0) rfl) (aa (pv 1) (aa (oX (m7 rfl) rfl B.b_list boot_list (aa (c8 (pv 0) rfl) ag)) ag))))))),?_⟩
 refine ⟨_,rfl,(by show 1 <= sizeLine; decide),fun l0 n0 => ?_⟩
 have g1 := aj n0 (.lst [v])
 refine ⟨l0,_,rfl,ac,(fun y hy => by rw [A3.mp hy]; exact hv.imp id (d8.same g1)),fun nn => ?_,fun nn H' gg => eN (fun z => nn fun y hy => by rw [A3.mp hy]; exact z) H' (g1.trans gg)⟩
 obtain ⟨z,rfl,mz⟩ := nn v (by simp)
 have qz := qq z rfl mz
 have lb1 := lb.same g1
 generalize aq H l0 (.lst [.str z]) = H1 at g1 lb1 ⊢
 obtain ⟨F0,la,sub,back⟩ := lb1.la
 obtain ⟨dx',p,n,fs',ex',fp,fn,dd,en,_,_,fm'⟩ := la.dd
 obtain ⟨dx,s,b,fs,dk,ex,es,eb,bd,hb,fm,sF,bF,pb⟩ := lb1.at_
 refine ⟨_,rfl,x,_,dx',_,_,rfl,ex',B.cl_Larder,B.na_Larder_parts,fp,_,rfl,_,rfl,x,_,dx,_,_,rfl,ex,B.cl_Larder,B.na_Larder_bars,eb,b,_,rfl,hb,fun l2 n2 => ?_⟩
 have kk : (aO bs (.bl true)).map (fun p => kV p.1) = bs.map V.str := by
  unfold aO
  rw [Be]
  rfl
 rw [kk]
 have g2 := aj n2 (.lst (bs.map V.str))
 exact ⟨p,l2,z,rows,ps,bs,rfl,dd.same g2,ok,few,⟨ac,b10⟩,fun H3 g3 nl => qz.1 H3 ((g1.trans g2).trans g3) nl,fun l H3 c goal g3 el wy gm gl ga => qz.2 l H3 c goal ((g1.trans g2).trans g3) el wy gm gl ga⟩
theorem xS : aA ["self","good"] ["self","good"] (ap ud) := ⟨rfl,rfl,rfl,by decide +kernel,rfl,by decide +kernel,by decide +kernel⟩
set_option maxHeartbeats 4000000 in
theorem xT {dV : Value} (F : bK K "bar" "Larder.bar" ud dV f fd) (B : Bn K mg c_EmptyHeap c_InRing c_Larder c_NoAmount c_NoDish c_NoName c_NoNet c_NoNumber c_NoPack c_NoPlan c_NoRow c_NoStand c_NoStandIn c_NoStep c_StoveError c_TooFew c_TooMany c_Twice f_Z12 f_Z13 f_Z14 f_Z15 f_Z16 f_Z17 f_Z18 f_Z19) (DZ13 : ft P w K mg base a9 1 f_Z13 ["self","told"] [] (f9 c_Larder)) (XZ8 : Dx P w K mg base (dz P w) 2 "refuse_no_names" ["things"] [] (eG K c_NoName)) : bg P w K mg base (dz P w) 3 f fd ["self","good"] (m9 K c_Larder c_NoName) := by
 have sc := xS
 refine F.okX sc (fun vs H Q E h => ?_) (fun cdv A outer s H vs Q E hr h => ?_)
 ·obtain ⟨x,v,F0,rows,m,g,bs,ns,rfl,_⟩ := h
  rfl
 obtain ⟨x,v,F1,rows,m,g,bs,ns,rfl,lb,b200,nd,n79,hv,eN,qq⟩ := h
 refine ⟨_,(af (a8 (gG XZ8 hr (by decide) rfl cW (aa (bH (aa (pv 1) ag)) ag))) (af (a8 (eE (pv 0) DZ13 hr (by decide) (aa (bH (aa (pv 1) ag)) ag))) (ak (cJ (bL hr) (c8 (pv 0) rfl) (pv 1) bZ rfl)))),?_⟩
 have slt : (3000 : Nat) < sizeLine := by decide
 refine ⟨_,rfl,(by show 1 <= sizeLine; decide),fun l0 n0 => ?_⟩
 have g1 := aj n0 (.lst [v])
 refine ⟨l0,_,rfl,ac,(fun y hy => by rw [A3.mp hy]; exact hv.imp id (d8.same g1)),fun nn => ?_,fun nn H' gg => eN (fun z => nn fun y hy => by rw [A3.mp hy]; exact z) H' (g1.trans gg)⟩
 obtain ⟨z,rfl,mz⟩ := nn v (by simp)
 have qz := qq z rfl mz
 have lb1 := lb.same g1
 generalize aq H l0 (.lst [.str z]) = H1 at g1 lb1 ⊢
 obtain ⟨F0,la,sub,back⟩ := lb1.la
 obtain ⟨dx,s,b,fs,dk,ex,es,eb,bd,hb,fm,sF,bF,pb⟩ := lb1.at_
 refine ⟨_,rfl,x,_,dx,_,rfl,ex,B.cl_Larder,B.me_Z13,fm _ (by decide),_,rfl,(by show 1 <= sizeLine; decide),fun l4 n4 => ?_⟩
 have g4 := aj n4 (.lst [.str z])
 obtain ⟨F0,la,sub,back⟩ := (lb1.same g4).la
 refine ⟨x,l4,F0,rows,ns,[z],rfl,la,ac,(by simp; omega),nd,fun H5 ms k5 la5 nd5 m5 => ?_⟩
 have lb5 := back _ _ _ la5 k5
 have kF : KF F1 H H5 := (KF.of (g1.trans g4)).trans fun a o n e => k5 a o (fun z => n (sub a z)) e
 obtain ⟨dx,s,b,fs,dk,ex,es,eb,bd,hb,fm,sF,bF,pb⟩ := lb5.at_
 refine ⟨_,rfl,x,_,dx,_,_,rfl,ex,B.cl_Larder,B.na_Larder_bars,eb,_,rfl,b,_,rfl,dO.k (k := .inr z) hb (by rw [bR]; omega),?_⟩
 rw [dA]
 obtain ⟨lb6,k6⟩ := pb (bU bs z)
 exact qz _ ms (kF.trans k6) lb6 nd5 fun y => (m5 y).trans (by simp)
theorem xU : aA ["self","good"] ["self","good"] (ap ue) := ⟨rfl,rfl,rfl,by decide +kernel,rfl,by decide +kernel,by decide +kernel⟩
set_option maxHeartbeats 4000000 in
theorem xV {dV : Value} (F : bK K "allow" "Larder.allow" ue dV f fd) (B : Bn K mg c_EmptyHeap c_InRing c_Larder c_NoAmount c_NoDish c_NoName c_NoNet c_NoNumber c_NoPack c_NoPlan c_NoRow c_NoStand c_NoStandIn c_NoStep c_StoveError c_TooFew c_TooMany c_Twice f_Z12 f_Z13 f_Z14 f_Z15 f_Z16 f_Z17 f_Z18 f_Z19) (XZ8 : Dx P w K mg base (dz P w) 2 "refuse_no_names" ["things"] [] (eG K c_NoName)) : bg P w K mg base (dz P w) 3 f fd ["self","good"] (iW K c_Larder c_NoName) := by
 have sc := xU
 refine F.okX sc (fun vs H Q E h => ?_) (fun cdv A outer s H vs Q E hr h => ?_)
 ·obtain ⟨x,v,F0,rows,m,g,bs,ns,rfl,_⟩ := h
  rfl
 obtain ⟨x,v,F1,rows,m,g,bs,ns,rfl,lb,hv,eN,qq⟩ := h
 refine ⟨_,(af (a8 (gG XZ8 hr (by decide) rfl cW (aa (bH (aa (pv 1) ag)) ag))) (ak (a8 (lA (c8 (pv 0) rfl) (pv 1) cr ⟨rfl,rfl,rfl,rfl⟩)))),?_⟩
 refine ⟨_,rfl,(by show 1 <= sizeLine; decide),fun l0 n0 => ?_⟩
 have g1 := aj n0 (.lst [v])
 refine ⟨l0,_,rfl,ac,(fun y hy => by rw [A3.mp hy]; exact hv.imp id (d8.same g1)),fun nn => ?_,fun nn H' gg => eN (fun z => nn fun y hy => by rw [A3.mp hy]; exact z) H' (g1.trans gg)⟩
 obtain ⟨z,rfl,mz⟩ := nn v (by simp)
 have qz := qq z rfl mz
 have lb1 := lb.same g1
 generalize aq H l0 (.lst [.str z]) = H1 at g1 lb1 ⊢
 obtain ⟨dx,s,b,fs,dk,ex,es,eb,bd,hb,fm,sF,bF,pb⟩ := lb1.at_
 refine ⟨_,rfl,x,_,dx,_,_,rfl,ex,B.cl_Larder,B.na_Larder_bars,eb,b,rfl,.inl ⟨_,.inl hb⟩,_,rfl,_,.inr z,hb,rfl,fun w hw => ?_,fun hw => ?_⟩
 ·rw [gO]
  obtain ⟨lb6,k6⟩ := pb (gM bs z)
  exact qz _ ((KF.of g1).trans k6) lb6
 ·rw [cX] at hw
  have nz : z ∉ bs := fun h => by rw [if_pos h] at hw; cases hw
  exact qz _ (KF.of g1) (by rw [jR nz]; exact lb1)
theorem xW : aA ["self","good","other","ratio","others"] ["self","good","other","ratio"] (ap uf) := ⟨rfl,rfl,rfl,by decide +kernel,rfl,by decide +kernel,by decide +kernel⟩
set_option maxHeartbeats 4000000 in
theorem xX {dV : Value} (F : bK K "stand" "Larder.stand" uf dV f fd) (B : Bn K mg c_EmptyHeap c_InRing c_Larder c_NoAmount c_NoDish c_NoName c_NoNet c_NoNumber c_NoPack c_NoPlan c_NoRow c_NoStand c_NoStandIn c_NoStep c_StoveError c_TooFew c_TooMany c_Twice f_Z12 f_Z13 f_Z14 f_Z15 f_Z16 f_Z17 f_Z18 f_Z19) (Dis_Z3 : Dx P w K mg base a9 2 "is_fraction" ["thing"] [] (mQ K)) (DZ13 : ft P w K mg base a9 1 f_Z13 ["self","told"] [] (f9 c_Larder)) (XZ3 : Dx P w K mg base (dz P w) 2 "fraction" ["top","bottom"] [.int 1] (n9 c_NoNumber)) (XZ8 : Dx P w K mg base (dz P w) 2 "refuse_no_names" ["things"] [] (eG K c_NoName)) : bg P w K mg base (dz P w) 3 f fd ["self","good","other","ratio"] (iX K c_Larder c_NoName c_NoStand) := by
 have sc := xW
 refine F.okX sc (fun vs H Q E h => ?_) (fun cdv A outer s H vs Q E hr h => ?_)
 ·obtain ⟨x,v,w,r,F0,rows,m,g,bs,ns,rfl,_⟩ := h
  rfl
 obtain ⟨x,v,w,r,F1,rows,m,g,bs,ns,rfl,lb,m1000,nd,n78,hv,hw,hr0,eN,qq⟩ := h
 refine ⟨_,(af (a8 (gG XZ8 hr (by decide) rfl cW (aa (bH (aa (pv 1) (aa (pv 2) ag))) ag))) (af (aX (aB fG (pv 3) cr (aG _)) (ak (au (i := 3) sc.nd rfl (Or.inl rfl) (sS XZ3 hr (by decide) rfl cW (aa am ag)))) aI) (af (aX (aB eP (pv 1) (pv 2) (aG _)) (ak (d7 B.x_NoStand rfl B.m_NoStand rfl cW (aa eO ag))) aI) (af (aX (dM (kg (bL hr) (pv 2) (iH (bL hr) (c8 (pv 0) rfl) (pv 1) cA ⟨rfl,rfl,rfl,rfl⟩)) (by with_unfolding_all rfl)) (ak (d7 B.x_NoStand rfl B.m_NoStand rfl cW (aa eO ag))) aI) (af (aX (PW.pt (dv (cc (bG (aS Dis_Z3 hr (by decide) rfl (aa (pv 3) ag)))) (du (aB uB (aR bX (pv 3) am (fun _ _ => rfl)) am (aG _))))) (ak (d7 B.x_NoStand rfl B.m_NoStand rfl cW (aa eO ag))) aI) (af (a8 (eE (pv 0) DZ13 hr (by decide) (aa (bH (aa (pv 1) (aa (pv 2) ag))) ag))) (af (au (i := 4) sc.nd rfl (Or.inl rfl) (fS BE PySem.F.slot_dict_setdefault PySem.F.type_dict_setdefault jG (c8 (pv 0) rfl) (aa (pv 1) (aa cA ag)))) (ak (cJ (bL hr) (pv 4) (pv 2) (pv 3) rfl))))))))),?_⟩
 have slt : (3000 : Nat) < sizeLine := by decide
 refine ⟨_,rfl,_,rfl,(by show 2 <= sizeLine; decide),fun l0 n0 => ?_⟩
 have g1 := aj n0 (.lst [v,w])
 refine ⟨l0,_,rfl,ac,(fun y hy => ?_),fun nn => ?_,fun nn H' gg => eN (fun z => nn fun y hy => ?_) H' (g1.trans gg)⟩
 ·rcases AB.mp hy with rfl | hy
  ·exact hv.imp id (d8.same g1)
  ·rw [A3.mp hy]
   exact hw.imp id (d8.same g1)
 rotate_left
 ·rcases AB.mp hy with rfl | hy
  ·exact z.1
  ·rw [A3.mp hy]
   exact z.2
 obtain ⟨zg,rfl,mg'⟩ := nn v (by simp)
 obtain ⟨zo,rfl,mo'⟩ := nn w (by simp)
 obtain ⟨qS,qD⟩ := qq zg zo rfl rfl mg' mo'
 have lb1 := lb.same g1
 generalize aq H l0 (.lst [.str zg,.str zo]) = H1 at g1 lb1 ⊢
 try dsimp only [bC,bE]
 refine cut (fun σ H' => ∃ r' : V,σ = [some (.ref x),some (.str zg),some (.str zo),some r',none] /\ ay H1 H' /\ ((∃ (p q : Int) (t : Addr),r' = .ref t /\ H' t = some (.tup [.int p,.int q]) /\ 0 < p /\ qI p q /\ Bd 200 p /\ Bd 200 q /\ m8 H r p q /\ ∀ r2,r = .ref r2 -> t = r2) ∨ (hW K H' r' /\ hW K H r))) (fun N hN => ?_) ?_
 ·rcases hr0 with ⟨p,q,⟨rfl,rfl,rfl⟩ | ⟨t,rfl,et,p0,lo,bp,bq⟩⟩ | bad
  ·refine ⟨_,rfl,rfl,_,rfl,dT rfl ⟨1,1,rfl,Bd.one.mono (by decide),fun _ p' q' f t H2 g2 e2 => ?_,fun z => absurd z (by decide)⟩⟩
   obtain ⟨rfl,rfl⟩ := rC f
   exact hN _ _ ⟨_,rfl,g2,.inl ⟨1,1,t,rfl,e2,by decide,⟨by decide,rfl⟩,Bd.one.mono (by decide),Bd.one.mono (by decide),.inl ⟨rfl,rfl,rfl⟩,fun r2 z => (by cases z)⟩⟩
  ·exact ⟨_,rfl,rfl,_,rfl,dF nofun (hN _ _ ⟨.ref t,rfl,.refl _,.inl ⟨p,q,t,rfl,g1 _ _ et,p0,lo,bp,bq,.inr ⟨t,rfl,et,p0,lo,bp,bq⟩,fun r2 z => (by cases z; rfl)⟩⟩)⟩
  ·exact ⟨_,rfl,rfl,_,rfl,dF bad.1 (hN _ _ ⟨r,rfl,.refl _,.inr ⟨bad.same g1,bad⟩⟩)⟩
 rintro σ H2 ⟨r',rfl,g2,hr2⟩
 have k2 := g1.trans g2
 have lb2 := lb1.same g2
 refine ⟨_,rfl,_,rfl,rfl,_,rfl,d2 (fun c => ⟨(by show 1 <= sizeLine; decide),qS (.inl (by injection c)) _ k2⟩) (fun c => ?_)⟩
 have zne : zg ≠ zo := fun z => c (by rw [z])
 obtain ⟨dx,s,b,fs,dk,ex,es,eb,bd,hb,fm,sF,bF,pb⟩ := lb2.at_
 try dsimp only [bC,bE]
 refine cut (fun σ H' => σ = [some (.ref x),some (.str zg),some (.str zo),some r',none] /\ ay H2 H' /\ ¬ kD g zg zo) (fun N hN => ?_) ?_
 ·refine ⟨_,rfl,_,rfl,x,_,dx,_,_,rfl,ex,B.cl_Larder,B.na_Larder_stands,es,s,rfl,.inl ⟨_,.inl bd.at_⟩,_,rfl,fun pn hn => ?_⟩
  have g3 := aj hn (.dK [])
  refine ⟨_,b7.k (k := .inr zg) (g3 _ _ bd.at_),?_⟩
  rcases bd.ex zg with ⟨e1,e2⟩ | ⟨a,row,e1,e2,e3,e4,e5,e6,e7⟩
  ·rw [e1]
   exact ⟨pn,_,rfl,b7.k (k := .inr zo) ac,_,rfl,bS (hN _ _ ⟨rfl,g3,fun ⟨t,z⟩ => (by rw [e2] at z; cases z)⟩)⟩
  ·rw [e1]
   refine ⟨a,_,rfl,b7.k (k := .inr zo) (g3 _ _ e2),_,rfl,?_⟩
   cases hg : g zg zo with
   | none =>
    have : aE (bN row) (.inr zo) = none := by
     cases hx : aE (bN row) (.inr zo) with
     | none => rfl
     | some u =>
      obtain ⟨⟨y,t⟩,hm,e⟩ := AC.mp (show (.inr zo,u) ∈ bN row from ff hx)
      cases e
      have := (e7 _ _).mpr hm
      rw [hg] at this
      cases this
    rw [this]
    exact bS (hN _ _ ⟨rfl,g3,fun ⟨t,z⟩ => (by rw [hg] at z; cases z)⟩)
   | some t =>
    rw [c7 e5 ((e7 zo t).mp hg)]
    exact de ⟨(by show 1 <= sizeLine; decide),qS (.inr (.inl ⟨t,hg⟩)) _ (k2.trans g3)⟩
 rintro σ H3 ⟨rfl,g3,nst⟩
 have k3 := k2.trans g3
 have lb3 := lb2.same g3
 clear ex es eb bd hb fm sF bF pb
 rcases hr2 with ⟨p,q,t,rfl,et,p0,lo,bp,bq,rok,tr⟩ | ⟨bad,bad0⟩
 rotate_left
 ·have bad3 := bad.same g3
  obtain ⟨_,f | ⟨t,p,q,rfl,et,f,pz⟩⟩ := bad3
  ·exact ⟨_,rfl,r',false,rfl,f,_,rfl,de ⟨(by show 1 <= sizeLine; decide),qS (.inr (.inr bad0)) _ k3⟩⟩
  ·exact ⟨_,rfl,_,true,rfl,f,_,rfl,bS ⟨_,rfl,t,_,_,_,rfl,rfl,cu.of et,rfl,_,_,rfl,rfl,_,rfl,dT pz ⟨(by show 1 <= sizeLine; decide),qS (.inr (.inr bad0)) _ k3⟩⟩⟩
 have et3 := g3 _ _ et
 refine ⟨_,rfl,_,true,rfl,vE et3 (by rw [decide_eq_true (show 1 <= q by have := lo.pos; omega),decide_eq_true lo.low]; rfl),_,rfl,bS ⟨_,rfl,t,_,_,_,rfl,rfl,cu.of et3,rfl,_,_,rfl,rfl,_,rfl,dF (by omega) ?_⟩⟩
 obtain ⟨dx,s,b,fs,dk,ex,es,eb,bd,hb,fm,sF,bF,pb⟩ := lb3.at_
 refine ⟨_,rfl,x,_,dx,_,rfl,ex,B.cl_Larder,B.me_Z13,fm _ (by decide),_,rfl,_,rfl,(by show 2 <= sizeLine; decide),fun l4 n4 => ?_⟩
 have g4 := aj n4 (.lst [.str zg,.str zo])
 obtain ⟨F0,la,sub,back⟩ := (lb3.same g4).la
 refine ⟨x,l4,F0,rows,ns,[zg,zo],rfl,la,ac,(by simp; omega),nd,fun H5 ms k5 la5 nd5 m5 => ?_⟩
 have lb5 := back _ _ _ la5 k5
 have kF : KF F1 H H5 := (KF.of (k3.trans g4)).trans fun a o n e => k5 a o (fun z => n (sub a z)) e
 have et5 : H5 t = some (.tup [.int p,.int q]) := k5 _ _ (fun z => (lb3.same g4).not (g4 _ _ et3) (fun _ z => nomatch z) (sub t z)) (g4 _ _ et3)
 clear ex es eb bd hb fm sF bF pb
 obtain ⟨dx,s,b,fs,dk,ex,es,eb,bd,hb,fm,sF,bF,pb⟩ := lb5.at_
 have dF : ∀ a ∈ F1,∃ kv,H5 a = some (.dK kv) := fun a ha => by
  obtain ⟨_,_,_,_,_,_,_,_,_,_,_,_,_,_,_,_,_,_,_,q8,_⟩ := lb5.ex
  exact q8 a ha
 refine ⟨_,rfl,x,_,dx,_,_,rfl,ex,B.cl_Larder,B.na_Larder_stands,es,.inr (.inr (.inl ⟨rfl,.inl ⟨_,bd.at_⟩⟩)),_,rfl,fun pn hn => ?_⟩
 have g6 := aj hn (.dK [])
 have dkl := bd.few
 have m5' : ∀ y,y ∈ ms ↔ y ∈ ns ∨ y = zg ∨ y = zo := fun y => (m5 y).trans (by simp)
 refine ⟨s,_,.inr zg,.ref pn,rfl,rfl,g6 _ _ bd.at_,by omega,fun w hw => ?_,fun hw => ?_⟩
 ·rcases bd.ex zg with ⟨e1,_⟩ | ⟨a,row,e1,e2,e3,e4,e5,e6,e7⟩
  ·rw [hw] at e1; cases e1
  rw [hw] at e1
  cases e1
  have aF := eM.mp e3
  have lb6 := lb5.same g6
  have bd6 := bd.same g6
  have bd7 := BD.put (g' := kI g zg zo t) bd6 hw (g6 _ _ e2) (fun _ _ => rfl)
  refine ⟨_,rfl,_,rfl,_,rfl,a,_,rfl,dO.k (k := .inr zo) (g6 _ _ e2) (by unfold bN; rw [A5]; omega),?_⟩
  refine qD zne nst p q rok F1 _ ms t ((kF.trans (KF.of g6)).trans (KF.put _ aF)) FG.refl (LB.stands (r := a) (u := .dK []) lb6 (g6 _ _ ex) es (fun _ h => h) (fun b' o n e => KF.put _ aF b' o n e) (fun b' o e ns' ni => ?_) (bd7.mono (by omega)) (fun dk2 e y b' z => ?_) (fun b' hb' => ?_)) (by rw [ae (fun z => by rw [z] at et5; rw [et5] at e2; cases e2)]; exact g6 _ _ et5) tr nd5 m5'
  ·rw [ae (fun z => ni dk bd6.at_ zg (by rw [z]; exact hw))]
   exact e
  ·rw [bd6.at_] at e
   cases e
   exact .inl z
  ·by_cases c : b' = a
   ·exact ⟨_,by rw [c]; exact ac⟩
   ·obtain ⟨kv,e⟩ := dF b' hb'
    exact ⟨kv,by rw [ae c]; exact g6 _ _ e⟩
 ·have ps : pn ≠ s := fun z => by rw [z,bd.at_] at hn; cases hn
  have pF : pn ∉ F1 := lb5.free hn
  have new : ∀ y,aE dk (.inr y) ≠ some (.ref pn) := fun y => bd.new hn y
  have bd6 := tL (F' := F1 ++ [pn]) (bd.same g6) (fun a h => Au _ h)
  have bd7 := BD.open (x0 := zg) bd6 hw (show aq H5 pn (.dK []) pn = some (.dK (bN [])) from ac) (eM.mpr (by simp)) ps new
  have hv7 : aE (putK dk (.inr zg) (.ref pn)) (.inr zg) = some (V.ref pn) := by rw [fT,if_pos rfl]
  have ep7 : aq (aq H5 pn (.dK [])) s (.dK (putK dk (.inr zg) (.ref pn))) pn = some (.dK (bN [])) := by rw [ae ps]; exact ac
  have bd8 := BD.put (g' := kI g zg zo t) bd7 hv7 ep7 (fun _ _ => rfl)
  refine ⟨_,rfl,_,rfl,_,rfl,pn,_,rfl,dO.k (k := .inr zo) (kvs := []) ep7 (by show 0 < sizeLine; omega),?_⟩
  have tp : t ≠ pn := fun z => by rw [z,hn] at et5; cases et5
  have ts : t ≠ s := fun z => by rw [z,bd.at_] at et5; cases et5
  refine qD zne nst p q rok (F1 ++ [pn]) _ ms t (kF.trans fun b' o n e => ?_) (fun a ha => ?_) (LB.stands (r := s) (u := .dK []) lb5 ex es (fun a h => Au _ h) (fun b' o n e => ?_) (fun b' o e ns' ni => ?_) bd8 (fun dk2 e y b' z => ?_) (fun b' hb' => ?_)) (by rw [ae tp,ae ts,ae tp]; exact et5) tr nd5 m5'
  ·rw [ae (fun z => by rw [z,hn] at e; cases e),ae (fun z => n (by rw [z]; exact sF)),ae (fun z => by rw [z,hn] at e; cases e)]
   exact e
  ·rcases AM.mp ha with h | h
   ·exact .inl h
   ·rw [A3.mp h]
    refine .inr ?_
    cases hp : H pn with
    | none => rfl
    | some ob => rw [kF _ _ pF hp] at hn; cases hn
  ·rw [ae (fun z => by rw [z,hn] at e; cases e),ae (fun z => n (Au _ (by rw [z]; exact sF))),ae (fun z => by rw [z,hn] at e; cases e)]
   exact e
  ·rw [ae (fun z => by rw [z,hn] at e; cases e),ae ns',ae (fun z => by rw [z,hn] at e; cases e)]
   exact e
  ·rw [bd.at_] at e
   cases e
   rw [fT] at z
   split at z
   ·cases z
    exact .inr hn
   ·exact .inl z
  ·by_cases c1 : b' = pn
   ·exact ⟨_,by rw [c1]; exact ac⟩
   ·by_cases c2 : b' = s
    ·exact ⟨_,by rw [ae c1,c2]; exact ac⟩
    ·rcases AM.mp hb' with h | h
     ·obtain ⟨kv,e⟩ := dF b' h
      exact ⟨kv,by rw [ae c1,ae c2,ae c1]; exact e⟩
     ·exact absurd (A3.mp h) c1
theorem xY : aA ["self","good","pair"] ["self","good"] (ap ug) := ⟨rfl,rfl,rfl,by decide +kernel,rfl,by decide +kernel,by decide +kernel⟩
set_option maxHeartbeats 4000000 in
theorem xZ {dV : Value} (F : bK K "stand_in" "Larder.stand_in" ug dV f fd) (B : Bn K mg c_EmptyHeap c_InRing c_Larder c_NoAmount c_NoDish c_NoName c_NoNet c_NoNumber c_NoPack c_NoPlan c_NoRow c_NoStand c_NoStandIn c_NoStep c_StoveError c_TooFew c_TooMany c_Twice f_Z12 f_Z13 f_Z14 f_Z15 f_Z16 f_Z17 f_Z18 f_Z19) (DZ6 : Dx P w K mg base a9 4 "ways_out" ["stands","good"] [] (rP K)) (XZ8 : Dx P w K mg base (dz P w) 2 "refuse_no_names" ["things"] [] (eG K c_NoName)) (XZ15 : ft P w K mg base (dz P w) 3 f_Z15 ["self","good"] [] (fh K c_Larder c_NoName)) (I_NoStandIn : xg P w K mg base 1 c_NoStandIn ["self","good"] (fL c_NoStandIn "good")) : bg P w K mg base (dz P w) 5 f fd ["self","good"] (oE K c_Larder c_NoName c_NoStandIn) := by
 have sc := xY
 refine F.okX sc (fun vs H Q E h => ?_) (fun cdv A outer s H vs Q E hr h => ?_)
 ·obtain ⟨x,v,F0,rows,m,g,bs,ns,ps,vw,U,Rt,rfl,_⟩ := h
  rfl
 obtain ⟨x,v,F1,rows,m,g,bs,ns,ps,vw,U,Rt,rfl,lb,m200,ok,few,b10,hv,ra,hU,u17,rt0,rts,eN,qq⟩ := h
 refine ⟨_,(af (a8 (gG XZ8 hr (by decide) rfl cW (aa (bH (aa (pv 1) ag)) ag))) (af (cv (qQ rfl rfl) rfl (eA (aS DZ6 hr (by decide) rfl (aa (c8 (pv 0) rfl) (aa (pv 1) ag)))) (bA (i := 2) sc.nd rfl (Or.inl rfl)) (ak (aX (aB fG (rb XZ15 hr (by decide) cW (pv 0) (aa (aR aW (aR bX (pv 2) am (fun _ _ => rfl)) (k7 iy am) (fun _ _ => rfl)) ag)) cr (aG _)) (ak (aH (pv 2))) aI))) (ak (og I_NoStandIn hr (by decide) rfl B.m_NoStandIn rfl cW (aa (pv 1) ag))))),?_⟩
 refine ⟨_,rfl,(by show 1 <= sizeLine; decide),fun l0 n0 => ?_⟩
 have g1 := aj n0 (.lst [v])
 refine ⟨l0,_,rfl,ac,(fun y hy => by rw [A3.mp hy]; exact hv.imp id (d8.same g1)),fun nn => ?_,fun nn H' gg => eN (fun z => nn fun y hy => by rw [A3.mp hy]; exact z) H' (g1.trans gg)⟩
 obtain ⟨z,rfl,mz⟩ := nn v (by simp)
 have qz := qq z rfl mz
 have lb1 := lb.same g1
 generalize aq H l0 (.lst [.str z]) = H1 at g1 lb1 ⊢
 have ra1 : ∀ a b t,g a b = some t -> fq K 200 H1 t (vw a b).1 (vw a b).2 := fun a b t e => ⟨cu.of (g1 _ _ (ra.fr a b t e).1),(ra.fr a b t e).2.2.1.pos,(ra.fr a b t e).2.2.2.1,(ra.fr a b t e).2.2.2.2⟩
 obtain ⟨dx,s,b,fs,dk,ex,es,eb,bd,hb,fm,sF,bF,pb⟩ := lb1.at_
 refine ⟨_,rfl,x,_,dx,_,_,rfl,ex,B.cl_Larder,B.na_Larder_stands,es,_,rfl,s,z,200,17,vw,g,U,Rt,rfl,bd.done m200 ra1,hU,u17,by decide,by decide,by decide,rt0 z rfl,rts,fun l cs H2 g2 nl wo bf => ?_⟩
 obtain ⟨q1,q2⟩ := qz cs bf
 obtain ⟨ts,el,lt,each⟩ := wo.ex
 have lst : ∀ (j : Nat) (d : List Str),cs[j]? = some d -> Nm (az d) := fun j d hd => by
  by_cases c0 : j = 0
  ·subst c0
   rw [bf.first] at hd
   cases hd
   exact mz
  ·obtain ⟨i,c,y,_,_,_,e,⟨t,ht⟩,_⟩ := bf.from_ j d (by omega) hd
   rw [e]
   have : az (c ++ [y]) = y := by unfold az; simp
   rw [this]
   exact (ra.nm _ _ _ ht).2
 refine ⟨l,rfl,⟨_,bh.of el⟩,dX (xs := ts.map V.ref) (fun k σ H' => (∃ o2 : Option V,σ = [some (.ref x),some (.str z),o2]) /\ ay H2 H' /\ ∀ (j : Nat) (d : List Str),j < k -> cs[j]? = some d -> Blk ps bs (az d)) ⟨⟨none,rfl⟩,.refl _,fun j d h => absurd h (Nat.not_lt_zero _)⟩ (fun k σ H' _ h => bh.of (h.2.1 _ _ el)) ?_ ?_⟩
 ·rintro k y σ H3 hy ⟨⟨o2,rfl⟩,g3,bl⟩
  rw [AK] at hy
  obtain ⟨t,ht,rfl⟩ := B1.mp hy
  have kl : k < cs.length := by rw [<- lt]; exact (A1.mp ht).1
  have hc := A2 kl
  generalize cs[k] = c at hc
  obtain ⟨cl,rl,p,q,e1,e2,_,rt,_,e3⟩ := each k t c ht hc
  have nl := lst k c hc
  have k3 := g2.trans g3
  have c1 : 1 <= c.length := by
   cases c with
   | nil => exact absurd nl.1 (by show ¬ 1 <= (sL "").length; decide)
   | cons _ _ => simp
  have al : fo (c.map V.str) (-1) = some (.str (az c)) := jQ (fun z => by rw [z] at c1; simp at c1)
  have lb3 := lb1.same k3
  obtain ⟨dx3,s3,b3,fs3,dk3,ex3,es3,eb3,bd3,hb3,fm3,sF3,bF3,pb3⟩ := lb3.at_
  refine ⟨_,rfl,x,_,dx3,_,rfl,ex3,B.cl_Larder,B.me_Z15,fm3 _ (by decide),_,rfl,t,_,_,_,rfl,rfl,cu.of (g3 _ _ e1),rfl,_,rfl,cl,_,_,_,rfl,rfl,bh.of (g3 _ _ e2),al,x,.str (az c),F1,rows,m,g,bs,ns,ps,rfl,lb3,ok,few,b10,.inl ⟨_,rfl,nl⟩,fun z' => absurd ⟨_,rfl,nl⟩ z',fun z' ez' mz' => ?_⟩
  injection ez' with ez'
  subst ez'
  refine ⟨fun H4 g4 nb => ?_,fun lw H4 cw goal g4 ew wy gm gl ga => ?_⟩
  ·exact ⟨rfl,_,rfl,dT rfl ⟨_,rfl,q1 k c t cl rl p q H4 ((g1.trans k3).trans g4) hc bl (fun ⟨b',h1,h2⟩ => nb b' h1 h2) (g4 _ _ (g3 _ _ e1)) (g4 _ _ (g3 _ _ e2)) (g4 _ _ (g3 _ _ e3)) rt⟩⟩
  ·refine ⟨rfl,_,rfl,dF nofun ⟨⟨_,rfl⟩,g3.trans g4,fun j d hj hd => ?_⟩⟩
   by_cases cj : j = k
   ·subst cj
    rw [hc] at hd
    cases hd
    exact ⟨goal,gm,gl⟩
   ·exact bl j d (by omega) hd
 ·rintro σ H3 ⟨⟨o2,rfl⟩,g3,bl⟩
  rw [A5,lt] at bl
  refine ⟨_,rfl,(by show 1 <= sizeLine; decide),fun xa na => oh na fun d H4 gx ea ed ne gd edd => ⟨rfl,d,ea,?_⟩⟩
  exact q2 (fun j d hd => bl j d (A1.mp hd).1 hd) d _ (((g1.trans g2).trans g3).trans gd) edd
theorem x2 : aA ["_law_script","_law_k"] ["_law_script","_law_k"] (ap uh) := ⟨rfl,rfl,rfl,by decide +kernel,rfl,by decide +kernel,by decide +kernel⟩
set_option maxHeartbeats 4000000 in
theorem x3 {dV : Value} (F : bK K "_law_cell_at" "_law_cell_at" uh dV f fd) (B : Bn K mg c_EmptyHeap c_InRing c_Larder c_NoAmount c_NoDish c_NoName c_NoNet c_NoNumber c_NoPack c_NoPlan c_NoRow c_NoStand c_NoStandIn c_NoStep c_StoveError c_TooFew c_TooMany c_Twice f_Z12 f_Z13 f_Z14 f_Z15 f_Z16 f_Z17 f_Z18 f_Z19)  : bg P w K mg base a9 1 f fd ["_law_script","_law_k"] (mK K) := by
 have sc := x2
 refine F.ok sc (fun vs H Q E h => ?_) (fun cdv A outer s H vs Q E hr h => ?_)
 ·obtain ⟨a,ns,k,rfl,_⟩ := h
  rfl
 obtain ⟨a,ns,k,rfl,hS,h0,q⟩ := h
 refine ⟨_,(af (aX (aB jo (pv 1) (ar aN rfl B.b_len boot_len (aa (pv 0) ag)) (aG _)) (ak (aH (aR aW (pv 0) (pv 1) (fun _ _ => rfl)))) aI) (ak (aH am))),?_⟩
 refine ⟨_,rfl,_,rfl,a,_,rfl,.inl hS,_,_,rfl,rfl,_,rfl,d2 (fun c => ?_) (fun c => ?_)⟩
 ·obtain ⟨v,hv⟩ := sE h0 c
  exact ⟨_,rfl,_,rfl,a,_,_,_,rfl,rfl,hS,hv,q v⟩
 ·exact q 0
theorem x4 : aA ["_law_number","_law_many","_law_cell","_law_letters","_law_base","_law_k","_law_at","_law_size","_law_step","_law_core","_law_names_here","_law_sign"] ["_law_number","_law_many"] (ap ui) := ⟨rfl,rfl,rfl,by decide +kernel,rfl,by decide +kernel,by decide +kernel⟩
set_option maxHeartbeats 4000000 in
theorem x5 {dV : Value} (F : bK K "_law_names" "_law_names" ui dV f fd) (B : Bn K mg c_EmptyHeap c_InRing c_Larder c_NoAmount c_NoDish c_NoName c_NoNet c_NoNumber c_NoPack c_NoPlan c_NoRow c_NoStand c_NoStandIn c_NoStep c_StoveError c_TooFew c_TooMany c_Twice f_Z12 f_Z13 f_Z14 f_Z15 f_Z16 f_Z17 f_Z18 f_Z19)  : bg P w K mg base a9 1 f fd ["_law_number","_law_many"] iY := by
 have sc := x4
 refine F.ok sc (fun vs H Q E h => ?_) (fun cdv A outer s H vs Q E hr h => ?_)
 ·obtain ⟨n,m,rfl,_⟩ := h
  rfl
 obtain ⟨nb,many,rfl,m0,m1,q⟩ := h
 refine ⟨_,(af (au (i := 2) sc.nd rfl (Or.inl rfl) (aD bx (pv 0) am)) (af (au (i := 3) sc.nd rfl (Or.inl rfl) eO) (af (au (i := 4) sc.nd rfl (Or.inl rfl) eO) (af (cv PassesOwn.never rfl (dW rfl B.b_range (aa am ag)) (bA (i := 5) sc.nd rfl (Or.inl rfl)) (ak (au (i := 4) sc.nd rfl (Or.inl rfl) (aD cB (pv 4) (aR mC (pv 3) (aD bx (aD bx (aD cU (aD dw (pv 2) am) (aD dw (aD dw (aD cU (pv 5) (pv 5)) (aD cU am (pv 5))) am)) am) am) (fun _ _ => rfl)))))) (af (au (i := 6) sc.nd rfl (Or.inl rfl) (aD bx (aD bM (pv 2) am) am)) (af (au (i := 7) sc.nd rfl (Or.inl rfl) (aD bx (aD bM (pv 2) am) am)) (af (au (i := 8) sc.nd rfl (Or.inl rfl) (aR aW (bH (aa am (aa am (aa am (aa am (aa am (aa am (aa am (aa am ag))))))))) (aD bx (aD bM (pv 2) am) am) (fun _ _ => rfl))) (af (au (i := 9) sc.nd rfl (Or.inl rfl) (cH fM (pv 4) dI (cR (pv 7)))) (af (au (i := 10) sc.nd rfl (Or.inl rfl) (bH ag)) (af (cv PassesOwn.never rfl (dW rfl B.b_range (aa (pv 1) ag)) (bA (i := 5) sc.nd rfl (Or.inl rfl)) (af (au (i := 11) sc.nd rfl (Or.inl rfl) (aR mC (pv 3) (aD bx (aD dw (aD bM (pv 2) am) (aD cU (pv 5) (pv 8))) am) (fun _ _ => rfl))) (ak (aX (aB k8 (pv 1) am (aG _)) (ak (a8 (fS Az B4 B3 cg (pv 10) (aa (aD cB (aD cB (aD cB (cH fM (pv 9) dI (cR (pv 6))) (aR mC (pv 3) (aD bM (pv 5) am) (fun _ _ => rfl))) (pv 11)) (cH fM (pv 9) (cR (pv 6)) dI)) ag)))) (ak (aX (PW.pt (fF (aB eP (aD bx (pv 2) am) am (aG _)) (fO (aB uB (pv 1) am (aG _))))) (ak (a8 (fS Az B4 B3 cg (pv 10) (aa (cH fM (pv 4) dI (cR (aD dw (pv 5) am))) ag)))) (ak (aX (aB eP (aD bx (pv 2) am) am (aG _)) (ak (a8 (fS Az B4 B3 cg (pv 10) (aa (aD cB (cH fM (pv 4) dI (cR (aD bx (pv 5) am))) (pv 11)) ag)))) (ak (a8 (fS Az B4 B3 cg (pv 10) (aa (aD cB (aD cB (cH fM (pv 9) dI (cR (pv 6))) (pv 11)) (cH fM (pv 9) (cR (pv 6)) dI)) ag)))))))))))) (ak (aH (pv 10))))))))))))),?_⟩
 refine ⟨_,rfl,_,_,rfl,rfl,(by show (1000003 : Int) ≠ 0; decide),?_⟩
 have c0 := AI nb (show (0 : Int) < 1000003 by decide)
 have c1 := AU nb (show (0 : Int) < 1000003 by decide)
 have s9 : (9000 : Nat) <= sizeLine := by decide
 have one : ∀ c : Nat,(⟨#[c]⟩ : Str).length = 1 := fun _ => rfl
 have sm : ∀ (x : Int),0 <= x -> x < 2 ^ 30 -> Bd 30 x := fun x h0 h1 => by unfold Bd; omega
 have bd3 : Bd 30 (3 : Int) := by unfold Bd; decide
 try dsimp only [bC,bE]
 refine cut (fun σ H' => H = H' /\ ∃ c : Int,0 <= c /\ c < 1000003 /\ σ = [some (.int nb),some (.int many),some (.int c),some (.str dB),none,none,none,none,none,none,none,none]) (fun N hN => hN _ _ ⟨rfl,_,c0,c1,rfl⟩) ?_
 clear c0 c1
 rintro σ _ ⟨rfl,c,c0,c1,rfl⟩
 refine cut (fun σ H' => H = H' /\ σ = [some (.int nb),some (.int many),some (.int c),some (.str dB),some (.str ""),none,none,none,none,none,none,none]) (fun N hN => hN _ _ ⟨rfl,rfl⟩) ?_
 rintro σ _ ⟨rfl,rfl⟩
 refine cut (fun σ H' => H = H' /\ ∃ (b : Str) (o5 : Option V),σ = [some (.int nb),some (.int many),some (.int c),some (.str dB),some (.str b),o5,none,none,none,none,none,none] /\ b.length = 12 /\ Lt b) (fun N hN => ?_) ?_
 ·refine ⟨_,rfl,(by decide),(by decide),dY (fun i σ H' => H = H' /\ ∃ (b : Str) (o5 : Option V),σ = [some (.int nb),some (.int many),some (.int c),some (.str dB),some (.str b),o5,none,none,none,none,none,none] /\ b.length = i /\ Lt b) ⟨rfl,_,none,rfl,rfl,Lt.nil⟩ (fun i σ H' hi hP => ?_) (fun σ H' hP => ?_)⟩
  ·obtain ⟨rfl,b,o5,rfl,hb,hL⟩ := hP
   have hi' : i < 12 := hi
   have bk : Bd 30 (0 + (i : Int)) := sm _ (by omega) (by omega)
   have b1 : Bd 60 ((0 + (i : Int)) * (0 + (i : Int))) := bk.mul bk
   have b2 : Bd 60 (3 * (0 + (i : Int))) := bd3.mul bk
   have b3 : Bd 62 ((0 + (i : Int)) * (0 + (i : Int)) + 3 * (0 + (i : Int)) + 7) := (b1.add b2).add ((show Bd 61 (7 : Int) by unfold Bd; decide))
   have i0 := AI (((c + 1) * ((0 + (i : Int)) * (0 + (i : Int)) + 3 * (0 + (i : Int)) + 7)).fmod 1013) (show (0 : Int) < 26 by decide)
   have i1 := AU (((c + 1) * ((0 + (i : Int)) * (0 + (i : Int)) + 3 * (0 + (i : Int)) + 7)).fmod 1013) (show (0 : Int) < 26 by decide)
   obtain ⟨ch,hch,hq⟩ := rD i0 i1
   refine ⟨_,rfl,_,rfl,_,rfl,_,_,rfl,rfl,_,rfl,_,rfl,_,_,rfl,rfl,bk.ok bk,_,rfl,_,_,rfl,rfl,bd3.ok bk,_,_,rfl,rfl,_,_,rfl,rfl,_,_,rfl,rfl,(sm (c + 1) (by omega) (by omega)).ok b3,_,_,rfl,rfl,(by show (1013 : Int) ≠ 0; decide),_,_,rfl,rfl,(by show (26 : Int) ≠ 0; decide),dB,_,ch,rfl,rfl,(by decide),hch,_,_,rfl,rfl,?_,?_⟩
   ·rw [one]; omega
   ·exact ⟨rfl,_,_,rfl,by rw [Str.length_append,one,hb],hL.app (Lt.one hq)⟩
  ·obtain ⟨rfl,b,o5,rfl,hb,hL⟩ := hP
   exact hN _ _ ⟨rfl,b,o5,rfl,by rw [hb]; rfl,hL⟩
 rintro σ _ ⟨rfl,b,o5,rfl,hb12,hL⟩
 have hb : b.length <= 12 := by omega
 have hz : b.length <= sizeLine := by omega
 have a0 := AI (c.fdiv 3) (show (0 : Int) < 11 by decide)
 have z0 := AI (c.fdiv 40) (show (0 : Int) < 11 by decide)
 have t0 := AI (c.fdiv 500) (show (0 : Int) < 8 by decide)
 have t1 := AU (c.fdiv 500) (show (0 : Int) < 8 by decide)
 refine ⟨_,rfl,_,_,rfl,rfl,⟨by show (3 : Int) ≠ 0; decide,Aq (by decide)⟩,_,_,rfl,rfl,(by show (11 : Int) ≠ 0; decide),?_⟩
 refine ⟨_,rfl,_,_,rfl,rfl,⟨by show (40 : Int) ≠ 0; decide,Aq (by decide)⟩,_,_,rfl,rfl,(by show (11 : Int) ≠ 0; decide),?_⟩
 refine ⟨(by show 8 <= sizeLine; decide),fun ls ns => ?_⟩
 have g1 := aj ns (.lst [.int 1,.int 3,.int 5,.int 7,.int 9,.int 11,.int 15,.int 17])
 obtain ⟨v,hv,ev⟩ := vL (xs := [V.int 1,V.int 3,V.int 5,V.int 7,V.int 9,V.int 11,V.int 15,V.int 17]) t0 (by show (c.fdiv 500).fmod 8 < ((8 : Nat) : Int); exact t1)
 obtain ⟨st,rfl,st0,st1,sto⟩ : ∃ y : Int,v = .int y /\ 0 <= y /\ y < 20 /\ kJ y := by
  simp at hv
  rcases hv with rfl | rfl | rfl | rfl | rfl | rfl | rfl | rfl
  all_goals exact ⟨_,rfl,by decide,by decide,by unfold kJ; decide⟩
 refine ⟨_,rfl,_,_,rfl,rfl,⟨by show (500 : Int) ≠ 0; decide,Aq (by decide)⟩,_,_,rfl,rfl,(by show (8 : Int) ≠ 0; decide),ls,_,_,_,rfl,rfl,bh.of ac,ev,?_⟩
 refine ⟨_,rfl,_,rfl,_,rfl,b,rfl,hz,?_⟩
 have hc : (dj b none (some ((c.fdiv 40).fmod 11))).length <= 12 := AR (dJ _ _ _) hb
 refine ⟨(by show 0 <= sizeLine; decide),fun lp np => ?_⟩
 have z1 := AU (c.fdiv 40) (show (0 : Int) < 11 by decide)
 have a1 := AU (c.fdiv 3) (show (0 : Int) < 11 by decide)
 have hc10 : (dj b none (some ((c.fdiv 40).fmod 11))).length <= 10 := by rw [gc z0]; omega
 have hcL := hL.cut none (some ((c.fdiv 40).fmod 11))
 generalize dj b none (some ((c.fdiv 40).fmod 11)) = core at *
 have cz : core.length <= sizeLine := by omega
 have g2 := g1.trans (aj np (.lst []))
 have cl : ∀ lo hi,(dj core lo hi).length <= 12 := fun lo hi => AR (dJ _ _ _) hc
 have bl : ∀ lo hi,(dj b lo hi).length <= 12 := fun lo hi => AR (dJ _ _ _) hb
 try dsimp only [bC,bE]
 refine cut (fun σ H' => ay H H' /\ ∃ (zs : List Str) (o5 o11 : Option V),σ = [some (.int nb),some (.int many),some (.int c),some (.str dB),some (.str b),o5,some (.int ((c.fdiv 3).fmod 11)),some (.int ((c.fdiv 40).fmod 11)),some (.int st),some (.str core),some (.ref lp),o11] /\ (zs.length : Int) = many /\ H' lp = some (.lst (zs.map V.str)) /\ ∀ (k : Nat) (z : Str),zs[k]? = some z -> Nm z /\ tP (c.fmod 3) (dj core none (some ((c.fdiv 3).fmod 11))).cps.toList (dj core (some ((c.fdiv 3).fmod 11)) none).cps.toList k (sgn (c.fdiv 7) st k) z) (fun N hN => ?_) ?_
 ·refine ⟨_,rfl,_,rfl,(by omega),(by omega),dY (fun i σ H' => ay H H' /\ ∃ (zs : List Str) (o5 o11 : Option V),σ = [some (.int nb),some (.int many),some (.int c),some (.str dB),some (.str b),o5,some (.int ((c.fdiv 3).fmod 11)),some (.int ((c.fdiv 40).fmod 11)),some (.int st),some (.str core),some (.ref lp),o11] /\ zs.length = i /\ H' lp = some (.lst (zs.map V.str)) /\ ∀ (k : Nat) (z : Str),zs[k]? = some z -> Nm z /\ tP (c.fmod 3) (dj core none (some ((c.fdiv 3).fmod 11))).cps.toList (dj core (some ((c.fdiv 3).fmod 11)) none).cps.toList k (sgn (c.fdiv 7) st k) z) ⟨g2,[],o5,none,rfl,rfl,ac,fun k z h => by simp at h⟩ (fun i σ H' hi hP => ?_) (fun σ H' hP => ?_)⟩
  ·obtain ⟨g,zs,o5,o11,rfl,hl,e,nz⟩ := hP
   have hi' : (i : Int) < many := by have : i < many.toNat := hi; omega
   have i0 := AI (c.fdiv 7 + (0 + (i : Int)) * st) (show (0 : Int) < 26 by decide)
   have i1 := AU (c.fdiv 7 + (0 + (i : Int)) * st) (show (0 : Int) < 26 by decide)
   have hch := tN i0 i1
   have hq : 97 <= sgn (c.fdiv 7) st i /\ sgn (c.fdiv 7) st i <= 122 := by unfold sgn; omega
   rw [show 97 + ((c.fdiv 7 + (0 + (i : Int)) * st).fmod 26).toNat = sgn (c.fdiv 7) st i from rfl] at hch
   have k0 : 0 <= (0 + (i : Int)).fdiv 26 := by rw [Int.fdiv_eq_ediv_of_nonneg _ (by decide)]; omega
   have k1 : (0 + (i : Int)).fdiv 26 < 26 := by rw [Int.fdiv_eq_ediv_of_nonneg _ (by decide)]; omega
   obtain ⟨ch2,hch2⟩ := om k0 k1
   have app : ∀ (z : Str),ay H (aq H' lp (.lst (zs.map V.str ++ [.str z]))) /\ aq H' lp (.lst (zs.map V.str ++ [.str z])) lp = some (.lst ((zs ++ [z]).map V.str)) := fun z => ⟨fK g (g1.free np) _,by rw [ac,Ar]; rfl⟩
   have lnp : (zs.map V.str).length < sizeLine := by rw [A5,hl]; omega
   refine ⟨_,rfl,_,rfl,_,_,rfl,rfl,⟨by show (7 : Int) ≠ 0; decide,Aq (by decide)⟩,_,rfl,_,rfl,_,_,rfl,rfl,(sm _ (by omega) (by omega)).ok (sm st (by omega) (by omega)),_,_,rfl,rfl,_,_,rfl,rfl,(by show (26 : Int) ≠ 0; decide),dB,_,sgn (c.fdiv 7) st i,rfl,rfl,(by decide),hch,?_⟩
   have sn : ∀ z,Nm z /\ tP (c.fmod 3) (dj core none (some ((c.fdiv 3).fmod 11))).cps.toList (dj core (some ((c.fdiv 3).fmod 11)) none).cps.toList i (sgn (c.fdiv 7) st i) z -> ∀ (k : Nat) (y : Str),(zs ++ [z])[k]? = some y -> Nm y /\ tP (c.fmod 3) (dj core none (some ((c.fdiv 3).fmod 11))).cps.toList (dj core (some ((c.fdiv 3).fmod 11)) none).cps.toList k (sgn (c.fdiv 7) st k) y := fun z hz' k y hy => by
    by_cases ck : k < zs.length
    ·rw [AA ck] at hy
     exact nz k y hy
    ·rw [AT (by omega)] at hy
     have : k - zs.length = 0 := by
      cases hk : k - zs.length with
      | zero => rfl
      | succ n => rw [hk] at hy; simp at hy
     rw [this] at hy
     cases hy
     have : k = i := by omega
     rw [this]
     exact hz'
   have q0 := AI (0 + (i : Int)) (show (0 : Int) < 11 by decide)
   have q1 := AU (0 + (i : Int)) (show (0 : Int) < 11 by decide)
   refine ⟨_,rfl,_,_,rfl,rfl,_,rfl,d2 (fun z26 => absurd m1 (by omega)) (fun _ => ?_)⟩
   ·refine ⟨_,rfl,_,_,rfl,rfl,(by show (3 : Int) ≠ 0; decide),rfl,_,rfl,wk (fun m1c => ⟨_,rfl,_,_,rfl,rfl,_,rfl,d2 (fun _ => ?_) (fun z12 => absurd m1 (by omega))⟩) (fun m1n => ?_)⟩
    ·refine ⟨_,rfl,.inl ⟨rfl,_,bh.of e⟩,_,rfl,_,rfl,_,_,rfl,rfl,_,rfl,b,rfl,hz,lp,_,_,rfl,rfl,e,lnp,(app _).1,_,_,_,rfl,by rw [A7,hl]; rfl,(app _).2,sn _ ?_⟩
     refine ⟨(hL.cut _ _).nm ?_ ?_,?_⟩
     ·rw [gc (by omega)]; omega
     ·exact bl _ _
     ·unfold tP
      rw [if_pos m1c,gc (by omega)]
      omega
    ·refine ⟨_,rfl,_,_,rfl,rfl,(by show (3 : Int) ≠ 0; decide),rfl,_,rfl,wk (fun m2c => ?_) (fun m2n => ?_)⟩
     ·refine ⟨_,rfl,.inl ⟨rfl,_,bh.of e⟩,_,rfl,_,rfl,_,_,rfl,rfl,(by show (11 : Int) ≠ 0; decide),_,rfl,b,rfl,hz,_,rfl,_,_,rfl,rfl,?_,lp,_,_,rfl,rfl,e,lnp,(app _).1,_,_,_,rfl,by rw [A7,hl]; rfl,(app _).2,sn _ ?_⟩
      ·(simp only [Str.length_append,one]; have l3 := bl none (some ((0 + (i : Int)).fmod 11)); omega)
      ·refine ⟨((hL.cut _ _).app (Lt.one hq)).nm ?_ ?_,?_⟩
       ·rw [Str.length_append,one]; omega
       ·rw [Str.length_append,one,gc q0]; omega
       ·unfold tP
        rw [if_neg m1n,if_pos m2c]
        exact ⟨_,kK _ _⟩
     ·refine ⟨_,rfl,.inl ⟨rfl,_,bh.of e⟩,_,rfl,_,rfl,_,rfl,core,rfl,cz,_,rfl,_,_,rfl,rfl,?_,_,rfl,_,rfl,_,rfl,core,rfl,cz,_,_,rfl,rfl,?_,lp,_,_,rfl,rfl,e,lnp,(app _).1,_,_,_,rfl,by rw [A7,hl]; rfl,(app _).2,sn _ ?_⟩
      ·(simp only [Str.length_append,one]; have l1 := cl none (some ((c.fdiv 3).fmod 11)); have l2 := cl (some ((c.fdiv 3).fmod 11)) none; omega)
      ·(simp only [Str.length_append,one]; have l1 := cl none (some ((c.fdiv 3).fmod 11)); have l2 := cl (some ((c.fdiv 3).fmod 11)) none; omega)
      ·refine ⟨(((hcL.cut _ _).app (Lt.one hq)).app (hcL.cut _ _)).nm ?_ ?_,?_⟩
       ·rw [Str.length_append,Str.length_append,one]; omega
       ·rw [Str.length_append,Str.length_append,one,gc a0,tw a0]; omega
       ·unfold tP
        rw [if_neg m1n,if_neg m2n,kK,kK,List.append_assoc]
        rfl
  ·obtain ⟨g,zs,o5,o11,rfl,hl,e,nz⟩ := hP
   exact hN _ _ ⟨g,zs,o5,o11,rfl,by omega,e,nz⟩
 rintro σ H1 ⟨g,zs,o5',o11,rfl,hl,e,nz⟩
 exact ⟨_,rfl,q lp H1 zs g e hl (fun z hz => by obtain ⟨k,hk⟩ := AW.mp hz; exact (nz k z hk).1) (pW sto (by omega) nz)⟩
theorem x6 : aA ["_law_one","_law_other"] ["_law_one","_law_other"] (ap uj) := ⟨rfl,rfl,rfl,by decide +kernel,rfl,by decide +kernel,by decide +kernel⟩
set_option maxHeartbeats 4000000 in
theorem x8 {dV : Value} (F : bK K "_law_divisor_of" "_law_divisor_of" uj dV f fd) (B : Bn K mg c_EmptyHeap c_InRing c_Larder c_NoAmount c_NoDish c_NoName c_NoNet c_NoNumber c_NoPack c_NoPlan c_NoRow c_NoStand c_NoStandIn c_NoStep c_StoveError c_TooFew c_TooMany c_Twice f_Z12 f_Z13 f_Z14 f_Z15 f_Z16 f_Z17 f_Z18 f_Z19)  : bg P w K mg base a9 1 f fd ["_law_one","_law_other"] nj := by
 have sc := x6
 refine F.ok sc (fun vs H Q E h => ?_) (fun cdv A outer s H vs Q E hr h => ?_)
 ·obtain ⟨a,b,rfl,_⟩ := h
  rfl
 obtain ⟨a,b,rfl,b0,q⟩ := h
 refine ⟨_,(af (dU PassesOwn.never (aB iz (pv 1) am (aG _)) (ak (uW (i := 0) (j := 1) rfl sc.nd rfl rfl (by decide) rfl rfl (aa (pv 1) (aa (aD bx (pv 0) (pv 1)) ag)) rfl))) (ak (aH (ar iB rfl B.b_abs boot_abs (aa (pv 0) ag))))),?_⟩
 refine dZ (fun σ H' => H = H' /\ ∃ (g l : Int),σ = [some (.int g),some (.int l)] /\ (l = 0 -> 0 <= g) /\ 0 <= l /\ bI g l = bI a b)
  (fun (σ : L2.St) (_ : Hp) => match σ[1]? with | some (some (V.int l)) => l.toNat | _ => 0) ⟨rfl,_,_,rfl,fun z => by omega,by omega,rfl⟩ ?_ (fun σ H Q Q' m ⟨v,e,s,k,hk,h2⟩ => ⟨v,e,s,k,hk,m _ _ h2⟩)
 rintro σ H' ⟨rfl,g,l,rfl,g0,l0,inv⟩
 refine ⟨_,rfl,rfl,_,rfl,yI (fun c => ?_) (fun c => ?_)⟩
 ·have lp : 0 < l := by omega
  refine ⟨_,rfl,_,rfl,_,rfl,_,_,rfl,rfl,c,_,_,rfl,⟨rfl,l,g.fmod l,rfl,fun _ => l0,AI g lp,?_⟩,?_⟩
  ·rw [jA lp]; exact inv
  ·have h1 := AU g lp
   have h2 := AI g lp
   show (g.fmod l).toNat < l.toNat
   omega
 ·have g1 := g0 c
  subst c
  rw [jB g1] at inv
  rw [<- inv] at q
  refine ⟨_,rfl,_,rfl,?_⟩
  rw [if_neg (show ¬ g < 0 by omega)]
  exact q
theorem x9 : aA ["_law_top","_law_bottom","_law_by"] ["_law_top","_law_bottom"] (ap uk) := ⟨rfl,rfl,rfl,by decide +kernel,rfl,by decide +kernel,by decide +kernel⟩
set_option maxHeartbeats 4000000 in
theorem ya {dV : Value} (F : bK K "_law_lowest" "_law_lowest" uk dV f fd) (B : Bn K mg c_EmptyHeap c_InRing c_Larder c_NoAmount c_NoDish c_NoName c_NoNet c_NoNumber c_NoPack c_NoPlan c_NoRow c_NoStand c_NoStandIn c_NoStep c_StoveError c_TooFew c_TooMany c_Twice f_Z12 f_Z13 f_Z14 f_Z15 f_Z16 f_Z17 f_Z18 f_Z19) (DZ22 : Dx P w K mg base a9 1 "_law_divisor_of" ["_law_one","_law_other"] [] nj) : bg P w K mg base a9 2 f fd ["_law_top","_law_bottom"] nS := by
 have sc := x9
 refine F.ok sc (fun vs H Q E h => ?_) (fun cdv A outer s H vs Q E hr h => ?_)
 ·obtain ⟨a,b,rfl,_⟩ := h
  rfl
 obtain ⟨a,b,rfl,b0,hb,q⟩ := h
 refine ⟨_,(af (au (i := 2) sc.nd rfl (Or.inl rfl) (aS DZ22 hr (by decide) rfl (aa (pv 0) (aa (pv 1) ag)))) (ak (aH (cy (aa (aD bM (pv 0) (pv 2)) (aa (aD bM (pv 1) (pv 2)) ag)))))),?_⟩
 have c0 := mJ (a := a) (show b ≠ 0 by omega)
 have cb := qJ (a := a) (show b ≠ 0 by omega) hb
 have f := uH (a := a) (show b ≠ 0 by omega)
 rw [sG b0] at c0 cb f
 exact ⟨_,rfl,_,rfl,a,b,rfl,b0,_,rfl,_,rfl,_,_,rfl,rfl,⟨c0,cb.div c0⟩,_,rfl,_,rfl,_,_,rfl,rfl,⟨c0,cb.div c0⟩,(by show 2 <= sizeLine; decide),fun t ht => q _ _ f t _ (aj ht _) ac⟩
theorem yb : aA ["_law_cell","_law_number"] ["_law_cell"] (ap um) := ⟨rfl,rfl,rfl,by decide +kernel,rfl,by decide +kernel,by decide +kernel⟩
set_option maxHeartbeats 4000000 in
theorem yc {dV : Value} (F : bK K "_law_ratio" "_law_ratio" um dV f fd) (B : Bn K mg c_EmptyHeap c_InRing c_Larder c_NoAmount c_NoDish c_NoName c_NoNet c_NoNumber c_NoPack c_NoPlan c_NoRow c_NoStand c_NoStandIn c_NoStep c_StoveError c_TooFew c_TooMany c_Twice f_Z12 f_Z13 f_Z14 f_Z15 f_Z16 f_Z17 f_Z18 f_Z19) (DZ23 : Dx P w K mg base a9 2 "_law_lowest" ["_law_top","_law_bottom"] [] nS) : bg P w K mg base a9 3 f fd ["_law_cell"] gR := by
 have sc := yb
 refine F.ok sc (fun vs H Q E h => ?_) (fun cdv A outer s H vs Q E hr h => ?_)
 ·obtain ⟨c,rfl,_⟩ := h
  rfl
 obtain ⟨c,rfl,q⟩ := h
 refine ⟨_,(af (au (i := 1) sc.nd rfl (Or.inl rfl) (aD bx (aD cU (aD bx (pv 0) am) am) am)) (ak (aH (aS DZ23 hr (by decide) rfl (aa (aD dw am (pv 1)) (aa (aD dw am (aD bx (aD cU (pv 1) am) am)) ag)))))),?_⟩
 refine ⟨_,rfl,_,_,rfl,rfl,(by show (1000003 : Int) ≠ 0; decide),_,_,rfl,rfl,IntMulOk.of_right (by decide),_,_,rfl,rfl,(by show (999983 : Int) ≠ 0; decide),?_⟩
 have n0 := AI (c.fmod 1000003 * 48271) (show (0 : Int) < 999983 by decide)
 have n1 := AU (c.fmod 1000003 * 48271) (show (0 : Int) < 999983 by decide)
 have m0 := AI ((c.fmod 1000003 * 48271).fmod 999983 * 31) (show (0 : Int) < 997 by decide)
 have m1 := AU ((c.fmod 1000003 * 48271).fmod 999983 * 31) (show (0 : Int) < 997 by decide)
 refine ⟨_,rfl,_,_,rfl,rfl,_,rfl,_,_,rfl,rfl,IntMulOk.of_right (by decide),_,_,rfl,rfl,(by show (997 : Int) ≠ 0; decide),_,_,rfl,rfl,_,_,rfl,by omega,?_,fun p' q' f => q p' q' (tm f.same (by omega) f.pos (by omega)) f.to ?_ ?_⟩
 ·unfold Bd; omega
 ·have := f.bt; unfold Bd; omega
 ·have := f.bb; unfold Bd; omega
theorem yd : aA ["_law_pairs","_law_bars","_law_good","_law_known","_law_grows","_law_before","_law_one","_law_other"] ["_law_pairs","_law_bars","_law_good"] (ap uo) := ⟨rfl,rfl,rfl,by decide +kernel,rfl,by decide +kernel,by decide +kernel⟩
set_option maxHeartbeats 4000000 in
theorem ye {dV : Value} (F : bK K "_law_free" "_law_free" uo dV f fd) (B : Bn K mg c_EmptyHeap c_InRing c_Larder c_NoAmount c_NoDish c_NoName c_NoNet c_NoNumber c_NoPack c_NoPlan c_NoRow c_NoStand c_NoStandIn c_NoStep c_StoveError c_TooFew c_TooMany c_Twice f_Z12 f_Z13 f_Z14 f_Z15 f_Z16 f_Z17 f_Z18 f_Z19)  : bg P w K mg base a9 1 f fd ["_law_pairs","_law_bars","_law_good"] kN := by
 have sc := yd
 refine F.ok sc (fun vs H Q E h => ?_) (fun cdv A outer s H vs Q E hr h => ?_)
 ·obtain ⟨dp,db,good,ps,bs,rfl,_⟩ := h
  rfl
 obtain ⟨dp,db,good,ps,bs,rfl,ep,few,eb,fb,q⟩ := h
 refine ⟨_,(af (au (i := 3) sc.nd rfl (Or.inr rfl) (im (fW (pv 2) bZ ik) rfl rfl (by simp) (by decide))) (af (au (i := 4) sc.nd rfl (Or.inl rfl) bZ) (af (dU PassesOwn.never (bG (pv 4)) (af (au (i := 5) sc.nd rfl (Or.inl rfl) (ar gH rfl B.b_len boot_len (aa (pv 3) ag))) (af (ow (cv PassesOwn.never rfl (lW (pv 0)) (mj rfl (dS (bA (i := 6) sc.nd rfl (Or.inl rfl)) (dS (bA (i := 7) sc.nd rfl (Or.inl rfl)) j4))) (ak (aX (dM (kg (bL hr) (pv 6) (pv 3)) (by with_unfolding_all rfl)) (ak (cJ (bL hr) (pv 3) (pv 7) bZ rfl)) aI)))) (ak (au (i := 4) sc.nd rfl (Or.inl rfl) (dH k8 (ar gH rfl B.b_len boot_len (aa (pv 3) ag)) (pv 5) (aG _))))))) (ak (aH (dH (iT hr.units0) (vQ (jF (own := "_law_name") (ys := ["_law_known"]) (js := [3]) rfl (xj (wm xh) (.cons rfl .nil) (by decide) rfl rfl rfl rfl rfl rfl rfl rfl) (ip (pv 1)) (fun C fp s H => (dM (kg (by exact bL hr) (pv 0) (pv 1)) (by with_unfolding_all rfl))) (fun C fp s H => (pv 0)))) (bH ag) (aG _))))))),?_⟩
 refine fun d nd => ⟨_,rfl,ac,[(.inr good,.bl true)],rfl,(by show 1 <= 15; decide),?_⟩
 have g0 : ay H (aq (aq H d (.dK [])) d (.dK (b8 [] [((.inr good : Key),V.bl true)]))) := by
  rw [jY]
  exact aj nd _
 have e0 : (aq (aq H d (.dK [])) d (.dK (b8 [] [((.inr good : Key),V.bl true)]))) d = some (.dK (aO [good] (.bl true))) := ac
 generalize aq (aq H d (.dK [])) d (.dK (b8 [] [((.inr good : Key),V.bl true)])) = H0 at g0 e0 ⊢
 have slt : (3000 : Nat) < sizeLine := by decide
 have dpd : d ≠ dp := fun z => by rw [z,ep] at nd; cases nd
 have dbd : db ≠ d := fun z => by rw [<- z,eb] at nd; cases nd
 try dsimp only [bC,bE]
 refine cut (fun σ H' => H' = H0 /\ σ = [some (.ref dp),some (.ref db),some (.str good),some (.ref d),some (.bl true),none,none,none]) (fun N hN => hN _ _ ⟨rfl,rfl⟩) ?_
 rintro σ _ ⟨rfl,rfl⟩
 refine cut (fun σ H' => ay H H' /\ ∃ (ks : List Str) (o4 o5 o6 : Option V),σ = [some (.ref dp),some (.ref db),some (.str good),some (.ref d),some (.bl false),o4,o5,o6] /\ H' d = some (.dK (aO ks (.bl true))) /\ ks.length <= 1001 /\ ∀ y,y ∈ ks ↔ Led ps good y) (fun N hN => ?_) ?_
 ·refine dZ (fun σ H' => ay H H' /\ ∃ (ks : List Str) (g : Bool) (o4 o5 o6 : Option V),σ = [some (.ref dp),some (.ref db),some (.str good),some (.ref d),some (.bl g),o4,o5,o6] /\ H' d = some (.dK (aO ks (.bl true))) /\ ks.Nodup /\ good ∈ ks /\ (∀ y ∈ ks,Led ps good y) /\ ks.length + fZ (ps.map (·.2)) ks <= 1001 /\ (g = false -> ∀ a b,a ∈ ks -> (a,b) ∈ ps -> b ∈ ks))
   (fun (σ : L2.St) (H' : Hp) => match σ[4]?,H' d with | some (some (V.bl g)),some (.dK kvs) => 2 * (1002 - kvs.length) + (if g = true then 1 else 0) | _,_ => 0)
   ⟨g0,[good],true,none,none,none,rfl,e0,by simp,by simp,fun y hy => by simp at hy; subst hy; exact .self,?_,fun z => nomatch z⟩ ?_ (fun σ H Q Q' m ⟨v,e,b,hb,h2⟩ => ⟨v,e,b,hb,m _ _ h2⟩)
  ·have := g9 (ps.map (·.2)) [good]
   rw [A5] at this
   show 1 + _ <= _
   omega
  rintro σ H1 ⟨g1,ks,gr,o4,o5,o6,rfl,e1,nd1,hg,hL,room,cl⟩
  refine ⟨_,rfl,gr,rfl,?_⟩
  cases gr with
  | false => exact bS (hN _ _ ⟨g1,ks,o4,o5,o6,rfl,e1,by omega,fun y => ⟨hL y,fun l => l.closed (S := fun y => y ∈ ks) hg (cl rfl)⟩⟩)
  | true =>
   refine de ⟨_,rfl,d,_,rfl,.inl e1,?_⟩
   try dsimp only [bC,bE]
   refine cut (fun σ H' => ay H H' /\ ∃ (ks' : List Str) (o5 o6 : Option V),σ = [some (.ref dp),some (.ref db),some (.str good),some (.ref d),some (.bl true),some (.int ((aO ks (V.bl true)).length)),o5,o6] /\ H' d = some (.dK (aO ks' (.bl true))) /\ ks'.Nodup /\ (∀ y ∈ ks,y ∈ ks') /\ (∀ y ∈ ks',Led ps good y) /\ ks'.length + fZ (ps.map (·.2)) ks' <= 1001 /\ ks.length <= ks'.length /\ (ks'.length = ks.length -> ∀ y ∈ ks',y ∈ ks) /\ (∀ a b,a ∈ ks -> (a,b) ∈ ps -> b ∈ ks')) (fun N' hN' => ?_) ?_
   ·refine ⟨_,rfl,dp,_,rfl,g1 _ _ ep,fun o nf => ?_⟩
    have gf : ay (aq H dp (.frz o (.dT (jU ps)))) (aq H1 dp (.frz o (.dT (jU ps)))) := fun a u z => by
     by_cases c : a = dp
     ·rw [c,ac] at z
      cases z
      rw [c]
      exact ac
     ·rw [ae c] at z ⊢
      exact g1 _ _ z
    have nf' : aq H dp (.frz o (.dT (jU ps))) d = none := by rw [ae dpd]; exact nd
    refine jO (fun i σ H' => ay (aq H dp (.frz o (.dT (jU ps)))) H' /\ ∃ (ks' : List Str) (o5 o6 : Option V),σ = [some (.ref dp),some (.ref db),some (.str good),some (.ref d),some (.bl true),some (.int ((aO ks (V.bl true)).length)),o5,o6] /\ H' d = some (.dK (aO ks' (.bl true))) /\ ks'.Nodup /\ (∀ y ∈ ks,y ∈ ks') /\ (∀ y ∈ ks',Led ps good y) /\ ks'.length + fZ (ps.map (·.2)) ks' <= 1001 /\ ks.length <= ks'.length /\ (ks'.length = ks.length -> ∀ y ∈ ks',y ∈ ks) /\ (∀ (j : Nat) (a b : Str),j < i -> ps[j]? = some (a,b) -> a ∈ ks -> b ∈ ks'))
     ⟨gf,ks,o5,o6,rfl,by rw [ae dpd]; exact e1,nd1,fun _ z => z,hL,room,A4 _,fun _ _ z => z,fun j a b h => absurd h (by omega)⟩ (fun i σ H' _ h => h.1 _ _ ac) ?_ ?_
    ·rintro i k v b σ H2 hk eb2 ⟨g2,ks',o5,o6,rfl,e2,nd2,sub,hL2,room2,le2,eq2,cl2⟩
     obtain ⟨p1,p2,rfl,hpi⟩ := wa hk
     have pm : (p1,p2) ∈ ps := A8 hpi
     have pm2 : p2 ∈ ps.map (·.2) := AC.mpr ⟨_,pm,rfl⟩
     refine ⟨b,_,rfl,cu.of eb2,rfl,_,_,rfl,_,_,rfl,rfl,?_⟩
     refine ⟨_,rfl,_,rfl,d,_,rfl,b7.k (k := .inr p1) e2,_,rfl,?_⟩
     rw [cX]
     by_cases hin : p1 ∈ ks'
     ·rw [if_pos hin]
      refine de ⟨_,rfl,_,rfl,d,_,rfl,dO.k (k := .inr p2) e2 (by rw [bR]; omega),?_⟩
      have gN := fK (o := .dK (putK (aO ks' (.bl true)) (.inr p2) (.bl true))) g2 nf'
      refine ⟨gN,bU ks' p2,_,_,rfl,by rw [ac,dA],cO nd2,fun y hy => b4.mpr (.inl (sub y hy)),fun y hy => ?_,AR (jH pm2) room2,AR le2 (cY ks' p2).1,fun e y hy => ?_,fun j u v hj hv hu => ?_⟩
      ·rcases b4.mp hy with k | rfl
       ·exact hL2 y k
       ·exact .step (hL2 _ hin) pm
      ·have k1 := (cY ks' p2).1
       have e' : ks'.length = ks.length := by omega
       rcases b4.mp hy with k | rfl
       ·exact eq2 e' y k
       ·exact eq2 e' _ ((cY ks' _).2.1 (by omega))
      ·rcases AY.mp hj with k | rfl
       ·exact b4.mpr (.inl (cl2 j u v k hv hu))
       ·rw [hpi] at hv
        cases hv
        exact b4.mpr (.inr rfl)
     ·rw [if_neg hin]
      refine bS ⟨g2,ks',_,_,rfl,e2,nd2,sub,hL2,room2,le2,eq2,fun j u v hj hv hu => ?_⟩
      rcases AY.mp hj with k | rfl
      ·exact cl2 j u v k hv hu
      ·rw [hpi] at hv
       cases hv
       exact absurd (sub _ hu) hin
    ·rintro σ H2 ⟨g2,ks',o5,o6,rfl,e2,nd2,sub,hL2,room2,le2,eq2,cl2⟩
     refine ⟨dp,o,_,g2 _ _ ac,nf,hN' _ _ ⟨oz ep g2,ks',o5,o6,rfl,by rw [ae dpd]; exact e2,nd2,sub,hL2,room2,le2,eq2,fun a b ha hab => ?_⟩⟩
     obtain ⟨j,hj⟩ := AW.mp hab
     have jl := (A1.mp hj).1
     exact cl2 j a b (by rw [oK]; exact jl) hj ha
   rintro σ H2 ⟨g2,ks',o5,o6,rfl,e2,nd2,sub,hL2,room2,le2,eq2,cl2⟩
   refine ⟨_,rfl,d,_,rfl,.inl e2,_,rfl,_,_,rfl,rfl,⟨g2,ks',_,_,o5,o6,rfl,e2,nd2,sub good hg,hL2,room2,fun hf a b ha hab => ?_⟩,?_⟩
   ·have nlt := of_decide_eq_false hf
    rw [bR,bR] at nlt
    exact cl2 a b (eq2 (by omega) a ha) hab
   ·show (match (some (some (V.bl (decide (_ : Prop))))),H2 d with | some (some (V.bl g)),some (.dK kvs) => 2 * (1002 - kvs.length) + (if g = true then 1 else 0) | _,_ => 0) < (match (some (some (V.bl true))),H1 d with | some (some (V.bl g)),some (.dK kvs) => 2 * (1002 - kvs.length) + (if g = true then 1 else 0) | _,_ => 0)
    rw [e1,e2]
    show 2 * (1002 - (aO ks' (V.bl true)).length) + (if decide (_ : Prop) = true then 1 else 0) < 2 * (1002 - (aO ks (V.bl true)).length) + (if true = true then 1 else 0)
    rw [bR,bR,if_pos rfl]
    by_cases c : ((ks.length : Nat) : Int) < ((ks'.length : Nat) : Int)
    ·rw [decide_eq_true c,if_pos rfl]
     omega
    ·rw [decide_eq_false c,if_neg (by decide)]
     omega
 rintro σ H1 ⟨g1,ks,o4,o5,o6,rfl,e1,kl,mem⟩
 have eb1 := g1 _ _ eb
 refine ⟨_,rfl,db,_,rfl,eb1,fun o nf => hG (tf ks) ac (by rw [bR]; omega) (fun i k x hk H3 g3 R hR => ?_) (fun p H' g' e' => ?_)⟩
 ·obtain ⟨y,rfl⟩ := rV hk
  refine ⟨_,rfl,_,rfl,d,_,rfl,b7.k (k := .inr y) (g3 _ _ (by rw [ae (Ne.symm dbd)]; exact e1)),_,rfl,?_⟩
  rw [cX]
  by_cases c : y ∈ ks
  ·rw [if_pos c]
   rw [show tf ks (.inr y) = true from decide_eq_true c] at hR
   exact hR
  ·rw [if_neg c]
   rw [show tf ks (.inr y) = false from decide_eq_false c] at hR
   exact hR
 ·have fa := g' _ _ ac
  have pa : p ≠ db := fun z => by rw [z,fa] at e'; cases e'
  have g2 := g1.trans (oz eb1 g')
  rw [i3] at e'
  refine ⟨db,o,_,fa,nf,(by show 0 <= sizeLine; decide),fun l0 n0 => ⟨p,l0,_,rfl,rfl,bh.of (aj n0 _ _ _ (by rw [ae pa]; exact e')),bh.of ac,q _ _ (g2.trans (aj n0 _)) ?_⟩⟩
  rw [List.isEmpty_iff,List.map_eq_nil_iff,List.filter_eq_nil_iff]
  constructor
  ·rintro h ⟨b,hb,l⟩
   exact h b hb (decide_eq_true ((mem b).mpr l))
  ·intro h b hb w
   exact h ⟨b,hb,(mem b).mp (of_decide_eq_true w)⟩
theorem yf : aA ["_law_stands","_law_good","_law_least_here","_law_k","_law_one","_law_other","_law_chain","_law_kept"] ["_law_stands","_law_good"] (ap uq) := ⟨rfl,rfl,rfl,by decide +kernel,rfl,by decide +kernel,by decide +kernel⟩
set_option maxHeartbeats 4000000 in
theorem yg {dV : Value} (F : bK K "_law_least" "_law_least" uq dV f fd) (B : Bn K mg c_EmptyHeap c_InRing c_Larder c_NoAmount c_NoDish c_NoName c_NoNet c_NoNumber c_NoPack c_NoPlan c_NoRow c_NoStand c_NoStandIn c_NoStep c_StoveError c_TooFew c_TooMany c_Twice f_Z12 f_Z13 f_Z14 f_Z15 f_Z16 f_Z17 f_Z18 f_Z19)  : bg P w K mg base a9 1 f fd ["_law_stands","_law_good"] kO := by
 have sc := yf
 refine F.ok sc (fun vs H Q E h => ?_) (fun cdv A outer s H vs Q E hr h => ?_)
 ·obtain ⟨ds,good,es,U,rfl,_⟩ := h
  rfl
 obtain ⟨ds,good,es,U,rfl,ed,few,hU,u6,q⟩ := h
 refine ⟨_,(af (au (i := 2) sc.nd rfl (Or.inl rfl) (im (fW (pv 1) (bH (aa (pv 1) ag)) ik) rfl rfl (by simp) (by decide))) (af (cv PassesOwn.never rfl (dW rfl B.b_range (aa am ag)) (bA (i := 3) sc.nd rfl (Or.inl rfl)) (ak (ow (cv PassesOwn.never rfl (lW (pv 0)) (mj rfl (dS (bA (i := 4) sc.nd rfl (Or.inl rfl)) (dS (bA (i := 5) sc.nd rfl (Or.inl rfl)) j4))) (ak (aX (dM (kg (bL hr) (pv 4) (pv 2)) (by with_unfolding_all rfl)) (af (au (i := 6) sc.nd rfl (Or.inl rfl) (aD mE (eZ (bL hr) (pv 2) (pv 4) (fun _ _ => rfl)) (bH (aa (pv 5) ag)))) (af (au (i := 7) sc.nd rfl (Or.inl rfl) (qC (bL hr) (pv 2) (pv 5) ⟨rfl,rfl,rfl,rfl⟩)) (ak (aX (PW.pt (dv (aB fG (pv 7) cr (aG _)) (du (aB (tT (Nat.lt_trans (Nat.add_lt_add_left (by decide : 3 < 64) _) hr.units)) (cy (aa (ar aN rfl B.b_len boot_len (aa (pv 6) ag)) (aa (pv 6) ag))) (cy (aa (ar aN rfl B.b_len boot_len (aa (pv 7) ag)) (aa (pv 7) ag))) (aG _))))) (ak (cJ (bL hr) (pv 2) (pv 5) (pv 6) rfl)) aI)))) aI)))))) (ak (aH (pv 2))))),?_⟩
 have slt : (3000 : Nat) < sizeLine := by decide
 refine fun d nd => ⟨_,rfl,_,rfl,(by show 1 <= sizeLine; decide),fun l0 n0 => ⟨aj n0 _ _ _ ac,[(.inr good,.ref l0)],rfl,(by show 1 <= 15; decide),?_⟩⟩
 have ld : l0 ≠ d := fun z => by rw [z,ac] at n0; cases n0
 have g0 : ay H (aq (aq (aq H d (.dK [])) l0 (.lst [.str good])) d (.dK (b8 [] [((.inr good : Key),V.ref l0)]))) := fun a o e => by
  have ad : a ≠ d := fun z => by rw [z,nd] at e; cases e
  rw [ae ad]
  exact aj n0 _ _ _ (by rw [ae ad]; exact e)
 have e0 : (aq (aq (aq H d (.dK [])) l0 (.lst [.str good])) d (.dK (b8 [] [((.inr good : Key),V.ref l0)]))) d = some (.dK (bN [(good,l0)])) := ac
 have el0 : (aq (aq (aq H d (.dK [])) l0 (.lst [.str good])) d (.dK (b8 [] [((.inr good : Key),V.ref l0)]))) l0 = some (.lst ([good].map V.str)) := by rw [ae ld]; exact ac
 generalize aq (aq (aq H d (.dK [])) l0 (.lst [.str good])) d (.dK (b8 [] [((.inr good : Key),V.ref l0)])) = H0 at g0 e0 el0 ⊢
 have dd : d ≠ ds := fun z => by rw [z,ed] at nd; cases nd
 clear n0 ld
 try dsimp only [bC,bE]
 refine cut (fun σ H' => ay H H' /\ ∃ (row : List (Str × Addr)) (o3 o4 o5 o6 o7 : Option V),σ = [some (.ref ds),some (.str good),some (.ref d),o3,o4,o5,o6,o7] /\ H' d = some (.dK (bN row)) /\ tW (gn es) good H' row 1000) (fun N hN => ?_) ?_
 ·refine ⟨6,rfl,(by decide),(by decide),dY (tb := fun D σ H => wG _ _ _ (uM _ D) σ H) (fun k σ H' => ay H H' /\ ∃ (row : List (Str × Addr)) (o3 o4 o5 o6 o7 : Option V),σ = [some (.ref ds),some (.str good),some (.ref d),o3,o4,o5,o6,o7] /\ H' d = some (.dK (bN row)) /\ jg (gn es) good H' row (1 + k * 100) /\ gu (gn es) good H' row (k + 1) (fun _ _ => False)) ⟨g0,[(good,l0)],none,none,none,none,none,rfl,e0,gu.start (R := gn es) el0⟩ ?_ ?_⟩
  ·rintro k σ H1 hk ⟨g1,row,o3,o4,o5,o6,o7,rfl,e1,ls1,in1⟩
   refine ⟨_,rfl,ds,_,rfl,g1 _ _ ed,fun o nf => ?_⟩
   have k6 : k < 6 := hk
   have gf : ay (aq H ds (.frz o (.dT (ir es)))) (aq H1 ds (.frz o (.dT (ir es)))) := fun a u z => by
    by_cases c : a = ds
    ·rw [c,ac] at z
     cases z
     rw [c]
     exact ac
    ·rw [ae c] at z ⊢
     exact g1 _ _ z
   have nf' : aq H ds (.frz o (.dT (ir es))) d = none := by rw [ae dd]; exact nd
   have kl : KL H1 (aq H1 ds (.frz o (.dT (ir es)))) := KL.put (g1 _ _ ed) (fun _ z => nomatch z)
   refine jO (fun i σ H' => ay (aq H ds (.frz o (.dT (ir es)))) H' /\ ∃ (row : List (Str × Addr)) (o4 o5 o6 o7 : Option V),σ = [some (.ref ds),some (.str good),some (.ref d),some (.int (0 + (k : Int))),o4,o5,o6,o7] /\ H' d = some (.dK (bN row)) /\ jg (gn es) good H' row (1 + k * 100 + i) /\ gu (gn es) good H' row (k + 1) (uO es i))
    ⟨gf,row,o4,o5,o6,o7,rfl,by rw [ae dd]; exact e1,ls1.same kl,(in1.same kl).less (fun a b z => by obtain ⟨j,jl,_⟩ := z; omega)⟩ (fun i σ H' _ h => h.1 _ _ ac) ?_ ?_
   ·rintro i kk v b σ H2 hk eb2 ⟨g2,row,o4,o5,o6,o7,rfl,e2,ls2,in2⟩
    obtain ⟨p1,p2,pt,rfl,hpi⟩ := tX hk
    have il : i < es.length := (A1.mp hpi).1
    have pR : gn es p1 p2 := ⟨pt,A8 hpi⟩
    have rl := ls2.few hU
    have eb3 : H2 b = some (.tup [.str p1,.str p2]) := eb2
    clear eb2
    refine ⟨b,_,rfl,cu.of eb3,rfl,_,_,rfl,_,_,rfl,rfl,?_⟩
    refine ⟨_,rfl,_,rfl,d,_,rfl,b7.k (k := .inr p1) e2,_,rfl,?_⟩
    cases hv : aE (bN row) (.inr p1) with
    | none =>
     refine bS ⟨g2,row,_,_,o6,o7,rfl,e2,ls2.mono (by omega),(in2.skip (u := p1) (w := p2) fun z => ?_).less fun a b z => z.succ hpi⟩
     obtain ⟨r,hr',er⟩ := AC.mp z
     have := c7 ls2.nd (y := r.1) (t := r.2) hr'
     rw [er,hv] at this
     cases this
    | some v =>
     obtain ⟨a1,rfl,m1⟩ := ma (H := H2) hv
     obtain ⟨c,ec,pc,lc,bc⟩ := ls2.ok p1 a1 m1
     have hc : Ent H2 row p1 c := ⟨a1,m1,ec⟩
     refine de ⟨_,rfl,_,rfl,d,.ref a1,rfl,(by rw [<- hv]; exact b7.k (k := .inr p1) e2),_,rfl,(by show 1 <= sizeLine; decide),fun l1 n1 => ⟨a1,l1,_,_,rfl,rfl,aj n1 _ _ _ ec,ac,(by rw [A5]; show c.length + 1 <= _; omega),fun p np => ?_⟩⟩
     have g3 := (aj n1 (.lst [.str p2])).trans (aj np (.lst (c.map V.str ++ [.str p2])))
     have ep : aq (aq H2 l1 (.lst [.str p2])) p (.lst (c.map V.str ++ [.str p2])) p = some (.lst ((c ++ [p2]).map V.str)) := by rw [ac,Ar]; rfl
     generalize aq (aq H2 l1 (.lst [.str p2])) p (.lst (c.map V.str ++ [.str p2])) = H3 at g3 ep ⊢
     clear np n1
     have e3 := g3 _ _ e2
     have ls3 := ls2.same (KL.of g3)
     have in3 := in2.same (KL.of g3)
     have hc3 := hc.same (KL.of g3)
     try dsimp only [bC,bE]
     refine ⟨_,rfl,d,rfl,.inl ⟨_,.inl e3⟩,_,rfl,_,b7.k (k := .inr p2) e3,?_⟩
     have fin : ∀ H4,ay H3 H4 -> (∀ k',Ent H4 row p2 k' -> aZ (c ++ [p2]) k') -> ay (aq H ds (.frz o (.dT (ir es)))) (aq H4 d (.dK (putK (bN row) (.inr p2) (.ref p)))) /\ aq H4 d (.dK (putK (bN row) (.inr p2) (.ref p))) d = some (.dK (bN (cK row p2 p))) /\ jg (gn es) good (aq H4 d (.dK (putK (bN row) (.inr p2) (.ref p)))) (cK row p2 p) (1 + k * 100 + (i + 1)) /\ gu (gn es) good (aq H4 d (.dK (putK (bN row) (.inr p2) (.ref p)))) (cK row p2 p) (k + 1) (uO es (i + 1)) := fun H4 g4 better => by
      have ls4 := ls3.same (KL.of g4)
      have hc4 := hc3.same (KL.of g4)
      obtain ⟨l4,dm,me⟩ := ls4.put hc4 pR (g4 _ _ ep) better
      have kl4 : KL H4 (aq H4 d (.dK (putK (bN row) (.inr p2) (.ref p)))) := KL.put (g4 _ _ e3) (fun _ z => nomatch z)
      exact ⟨fK ((g2.trans g3).trans g4) nf' _,by rw [ac,lY],l4.same kl4,(((in3.same (KL.of g4)).put ls4 hc4 dm me).same kl4).less fun a b z => z.succ hpi⟩
     have rz : (bN row).length < sizeLine := by rw [i4]; omega
     cases hv2 : aE (bN row) (.inr p2) with
     | none =>
      refine ⟨_,rfl,rfl,_,rfl,de ⟨_,rfl,_,rfl,_,rfl,d,_,rfl,dO.k (k := .inr p2) e3 rz,?_⟩⟩
      obtain ⟨f1,f2,f3,f4⟩ := fin H3 (.refl _) fun k' ⟨a',m',_⟩ => by
       have := c7 ls3.nd m'
       rw [hv2] at this
       cases this
      exact ⟨f1,_,_,_,_,_,rfl,f2,f3,f4⟩
     | some v =>
      obtain ⟨a2,rfl,m2⟩ := ma (H := H3) hv2
      obtain ⟨k',ek,pk,lk,bk⟩ := ls3.ok p2 a2 m2
      rw [Option.getD_some]
      refine ⟨_,rfl,rfl,_,rfl,bS ⟨_,rfl,p,_,rfl,.inl (bh.of ep),_,rfl,(by show 2 <= sizeLine; decide),fun t1 n1 => ⟨_,rfl,a2,_,rfl,.inl (bh.of (aj n1 _ _ _ ek)),_,rfl,(by show 2 <= sizeLine; decide),fun t2 n2 => ?_⟩⟩⟩
      have g4 := (aj n1 (.tup [.int (((c ++ [p2]).map V.str).length : Int),.ref p])).trans (aj n2 (.tup [.int ((k'.map V.str).length : Int),.ref a2]))
      have et1 := aj n2 (.tup [.int ((k'.map V.str).length : Int),.ref a2]) t1 _ ac
      have et2 : aq (aq H3 t1 (.tup [.int (((c ++ [p2]).map V.str).length : Int),.ref p])) t2 (.tup [.int ((k'.map V.str).length : Int),.ref a2]) t2 = some (.tup [.int ((k'.map V.str).length : Int),.ref a2]) := ac
      generalize aq (aq H3 t1 (.tup [.int (((c ++ [p2]).map V.str).length : Int),.ref p])) t2 (.tup [.int ((k'.map V.str).length : Int),.ref a2]) = H4 at g4 et1 et2 ⊢
      rw [A5] at et1 et2
      refine ⟨p,a2,c ++ [p2],k',⟨t1,rfl,et1,g4 _ _ ep⟩,⟨t2,rfl,et2,g4 _ _ ek⟩,_,rfl,?_⟩
      have hk4 : Ent H4 row p2 k' := ⟨a2,m2,g4 _ _ ek⟩
      have ls4 := ls3.same (KL.of g4)
      cases ha : bD (c ++ [p2]) k' with
      | true =>
       refine de ⟨_,rfl,_,rfl,_,rfl,d,_,rfl,dO.k (k := .inr p2) (g4 _ _ e3) rz,?_⟩
       obtain ⟨f1,f2,f3,f4⟩ := fin H4 g4 fun k2 z => by rw [ls4.one z hk4]; exact ha
       exact ⟨f1,_,_,_,_,_,rfl,f2,f3,f4⟩
      | false =>
       refine bS ⟨(g2.trans g3).trans g4,row,_,_,_,_,rfl,g4 _ _ e3,ls4.mono (by omega),((in3.same (KL.of g4)).keep ls4 (hc3.same (KL.of g4)) hk4 (fun z => ?_)).less fun a b z => z.succ hpi⟩
       rw [show bD (c ++ [p2]) k' = true from z] at ha
       cases ha
   ·rintro σ H2 ⟨g2,row,o4,o5,o6,o7,rfl,e2,ls2,in2⟩
    have kl2 : KL H2 (aq H2 ds (.dT (ir es))) := KL.put (g2 _ _ ac) (fun _ z => nomatch z)
    rw [oF] at ls2 in2
    refine ⟨ds,o,_,g2 _ _ ac,nf,oz ed g2,row,_,o4,o5,o6,o7,rfl,by rw [ae dd]; exact e2,(ls2.same kl2).mono (by omega),(in2.same kl2).next (by omega) fun a b z => uO.all z⟩
  ·rintro σ H1 ⟨g1,row,o3,o4,o5,o6,o7,rfl,e1,ls1,in1⟩
   exact hN _ _ ⟨g1,row,o3,o4,o5,o6,o7,rfl,e1,ls1.mono (by show 1 + 6 * 100 <= 1000; decide),fun p hp => in1.done hU (by show U.length + 1 <= 6 + 1; omega) hp⟩
 rintro σ H1 ⟨g1,row,o3,o4,o5,o6,o7,rfl,e1,bs1⟩
 exact ⟨_,rfl,q d H1 row g1 e1 bs1⟩
theorem yh : aA ["_law_pairs","_law_stands","_law_bars","_law_good","_law_least_here","_law_free_here","_law_chain","_law_top","_law_bottom","_law_k","_law_ratio_here"] ["_law_pairs","_law_stands","_law_bars","_law_good"] (ap ur) := ⟨rfl,rfl,rfl,by decide +kernel,rfl,by decide +kernel,by decide +kernel⟩
set_option maxHeartbeats 4000000 in
theorem yi {dV : Value} (F : bK K "_law_due" "_law_due" ur dV f fd) (B : Bn K mg c_EmptyHeap c_InRing c_Larder c_NoAmount c_NoDish c_NoName c_NoNet c_NoNumber c_NoPack c_NoPlan c_NoRow c_NoStand c_NoStandIn c_NoStep c_StoveError c_TooFew c_TooMany c_Twice f_Z12 f_Z13 f_Z14 f_Z15 f_Z16 f_Z17 f_Z18 f_Z19) (DZ23 : Dx P w K mg base a9 2 "_law_lowest" ["_law_top","_law_bottom"] [] nS) (DZ25 : Dx P w K mg base a9 1 "_law_free" ["_law_pairs","_law_bars","_law_good"] [] kN) (DZ26 : Dx P w K mg base a9 1 "_law_least" ["_law_stands","_law_good"] [] kO) : bg P w K mg base a9 3 f fd ["_law_pairs","_law_stands","_law_bars","_law_good"] kP := by
 have sc := yh
 refine F.ok sc (fun vs H Q E h => ?_) (fun cdv A outer s H vs Q E hr h => ?_)
 ·obtain ⟨dp,ds,db,good,nm,ps,es,bs,vw,rfl,_⟩ := h
  rfl
 obtain ⟨dp,ds,db,good,nm,ps,es,bs,vw,rfl,d6,qN,qS⟩ := h
 refine ⟨_,(af (au (i := 4) sc.nd rfl (Or.inr rfl) (aS DZ26 hr (by decide) rfl (aa (pv 1) (aa (pv 3) ag)))) (af (mS (gK sc.nd (i := 5) rfl rfl (own := "_law_name") (ys := ["_law_pairs","_law_bars","_law_least_here"]) (js := [0,2,4]) rfl (xj (wm (wm (wm xh))) (.cons rfl (.cons rfl (.cons rfl .nil))) (by decide) rfl rfl rfl rfl rfl rfl rfl rfl) (ip (pv 4)) (fun C fp s H => (bG (aS DZ25 hr (by decide) rfl (aa (pv 1) (aa (pv 2) (aa (pv 0) ag)))))) (fun C fp s H => (cy (aa (ar jS rfl B.b_len boot_len (aa (eZ (bL hr) (pv 3) (pv 0) (fun _ _ => rfl)) ag)) (aa (eZ (bL hr) (pv 3) (pv 0) (fun _ _ => rfl)) ag)))))) (af (aX (aB (iT hr.units0) (pv 5) (bH ag) (aG _)) (ak (aH cr)) aI) (af (au (i := 6) sc.nd rfl (Or.inl rfl) (aR bX (ar (nC rfl (Nat.lt_trans (Nat.add_lt_add_left (by decide : 4 < 64) _) hr.units)) rfl B.b_min boot_min (aa (pv 5) ag)) am (fun _ _ => rfl))) (af (au (i := 7) sc.nd rfl (Or.inl rfl) am) (af (au (i := 8) sc.nd rfl (Or.inl rfl) am) (af (cv PassesOwn.never rfl (dW rfl B.b_range (aa (aD qm (ar jS rfl B.b_len boot_len (aa (pv 6) ag)) am) ag)) (bA (i := 9) sc.nd rfl (Or.inl rfl)) (af (au (i := 10) sc.nd rfl (Or.inl rfl) (eZ (bL hr) (pv 1) (cy (aa (aR aW (pv 6) (pv 9) (fun _ _ => rfl)) (aa (aR aW (pv 6) (aD dw (pv 9) am) (fun _ _ => rfl)) ag))) (fun _ _ => rfl))) (af (au (i := 7) sc.nd rfl (Or.inl rfl) (aD cU (pv 7) (aR bX (pv 10) am (fun _ _ => rfl)))) (ak (au (i := 8) sc.nd rfl (Or.inl rfl) (aD cU (pv 8) (aR bX (pv 10) am (fun _ _ => rfl)))))))) (ak (aH (cy (aa (pv 6) (aa (aS DZ23 hr (by decide) rfl (aa (pv 7) (aa (pv 8) ag))) ag)))))))))))),?_⟩
 have slt : (3000 : Nat) < sizeLine := by decide
 have few := d6.few
 have b6 := d6.bars
 have hU : ∀ a b,gn es a b -> b ∈ nm := fun a b z => by obtain ⟨t,z⟩ := z; exact (d6.inn a b t z).2.1
 refine ⟨_,rfl,_,rfl,ds,good,es,nm,rfl,d6.ee,by omega,hU,by omega,fun d H1 row g1 e1 best => ?_⟩
 have d61 := d6.same g1
 have rl := best.ls.few hU
 have ddp : dp ≠ d := fun z => by rw [<- z,d61.ep] at e1; cases e1
 have dds : ds ≠ d := fun z => by rw [<- z,d61.ee] at e1; cases e1
 try dsimp only [bC,bE]
 refine cut (fun σ H' => ∃ (lf : Addr) (vs : List V) (f : V -> Addr × List Str),σ = [some (.ref dp),some (.ref ds),some (.ref db),some (.str good),some (.ref d),some (.ref lf),none,none,none,none,none] /\ ay H H' /\ H' lf = some (.lst vs) /\ (∀ v ∈ vs,LC H' v (f v).1 (f v).2 /\ fD (gn es) good (f v).2 /\ ¬ Blk ps bs (az (f v).2)) /\ (∀ p,fD (gn es) good p -> ¬ Blk ps bs (az p) -> ∃ v ∈ vs,¬ aZ p (f v).2)) (fun N hN => ?_) ?_
 ·have ddb := best.ndb e1 d61.eb
  refine ⟨_,rfl,d,_,rfl,e1,fun o nf => p5 (xF ps bs row) (we row H1) (fun HH HH' i v gg => ?_) (fun HH p xs ys i v np eHp => ?_) ac (by rw [i4]; omega) (fun i k x hk H3 g3 => ?_) (fun p H' vs np g' e' vl h1 h2 => ?_)⟩
  ·rintro ⟨y,a,c,m1,m2,m3⟩
   exact ⟨y,a,c,m1,m2.same gg,m3⟩
  ·rintro ⟨y,a,c,m1,⟨t,rfl,z1,z2⟩,m3⟩
   refine ⟨y,a,c,m1,⟨t,rfl,?_,?_⟩,m3⟩
   ·rw [ae (fun z => by rw [z,eHp] at z1; cases z1)]
    exact z1
   ·rw [ae (fun z => by
     rw [<- z] at np
     by_cases w : a = d
     ·rw [w,ac] at np; cases np
     ·rw [ae w,m3] at np; cases np)]
    exact z2
  ·obtain ⟨y,a,rfl,hrow⟩ := tY hk
   have pi : xF ps bs row i = yK ps bs y := by unfold xF; rw [hrow]
   have hm := A8 hrow
   obtain ⟨c,ec,pc,lc,bc⟩ := best.ls.ok y a hm
   have fr := g3 _ _ (ac (H := H1) (a := d) (o := .frz o (.dK (bN row))))
   have kp : ∀ a' o',H1 a' = some o' -> a' ≠ d -> H3 a' = some o' := fun a' o' e n => g3 _ _ (by rw [ae n]; exact e)
   have ad : a ≠ d := fun z => by rw [z,e1] at ec; cases ec
   refine ⟨fun R hR => ?_,fun H4 g4 R hR => ?_⟩
   ·rw [pi] at hR
    exact ⟨_,rfl,_,rfl,_,rfl,dp,db,y,ps,bs,rfl,kp _ _ d61.ep ddp,by omega,kp _ _ d61.eb ddb,by omega,fun H4 b g4 hb => ⟨b,rfl,by rw [wc hb]; exact hR H4 g4⟩⟩
   ·have dg : ∀ H5 : Hp,ay H3 H5 -> b7 H5 d (.str y) (some (.ref a)) := fun H5 g5 => by
     rw [<- c7 best.ls.nd hm]
     exact .inl ⟨_,.inr y,.inr ⟨o,g5 _ _ fr⟩,rfl,rfl⟩
    have ec4 := g4 _ _ (kp _ _ ec ad)
    refine ⟨_,rfl,_,rfl,d,.ref a,rfl,dg _ g4,a,_,rfl,ec4,_,rfl,_,rfl,d,.ref a,rfl,dg _ g4,(by show 2 <= sizeLine; decide),fun t nt => hR _ _ (aj nt _) ⟨y,a,c,hrow,⟨t,rfl,?_,aj nt _ _ _ ec4⟩,ec⟩⟩
    rw [<- A5 (as := c) V.str]
    exact ac
  ·have fa := g' _ _ ac
   have g2 := oz e1 g'
   have pd : p ≠ d := fun z => by rw [z,fa] at e'; cases e'
   have ex : ∀ v,∃ x : Addr × List Str,v ∈ vs -> LC (aq H' d (.dK (bN row))) v x.1 x.2 /\ fD (gn es) good x.2 /\ ¬ Blk ps bs (az x.2) := fun v => by
    by_cases hv : v ∈ vs
    ·obtain ⟨i,il,pi,y,a,c,m1,m2,m3⟩ := h1 v hv
     obtain ⟨z1,z2,z3⟩ := Ent.is best.ls ⟨a,A8 m1,m3⟩
     refine ⟨(a,c),fun _ => ⟨rY m2 fa (fun _ z => nomatch z) (fun _ z => nomatch z),z1,?_⟩⟩
     unfold xF at pi
     rw [m1] at pi
     rw [z2]
     exact i5.mp pi
    ·exact ⟨(0,[]),fun z => absurd z hv⟩
   obtain ⟨f,hf⟩ := Classical.axiomOfChoice ex
   refine ⟨d,o,_,fa,nf,hN _ _ ⟨p,vs,f,rfl,g1.trans g2,by rw [ae pd]; exact e',hf,fun q hq nb => ?_⟩⟩
   obtain ⟨c,⟨a,hm,ec⟩,na⟩ := best.all q hq
   obtain ⟨i,hi⟩ := AW.mp hm
   have il := (A1.mp hi).1
   obtain ⟨v,hv,y',a',c',m1,m2,m3⟩ := h2 i (by rw [i4]; exact il) (by unfold xF; rw [hi]; exact i5.mpr nb)
   rw [hi] at m1
   cases m1
   rw [ec] at m3
   injection m3 with m3
   injection m3 with m3
   have := eX m3
   subst this
   refine ⟨v,hv,?_⟩
   rw [(wd (hf v hv).1 (rY m2 fa (fun _ z => nomatch z) (fun _ z => nomatch z))).2]
   exact na
 rintro σ H2 ⟨lf,vs,f,rfl,g2,ef,hv,hall⟩
 have d62 := d6.same g2
 refine ⟨_,rfl,(by show 0 <= sizeLine; decide),fun l0 n0 => ⟨lf,l0,vs,rfl,rfl,bh.of (aj n0 _ _ _ ef),bh.of ac,_,rfl,?_⟩⟩
 have k0 := aj n0 (.lst [])
 generalize aq H2 l0 (.lst []) = H3 at k0 ⊢
 cases vs with
 | nil =>
  refine de (qN _ (g2.trans k0) fun p hp => Classical.byContradiction fun nb => ?_)
  obtain ⟨v,hv',_⟩ := hall p hp nb
  cases hv'
 | cons v0 vr =>
 refine bS ?_
 generalize hvs : v0 :: vr = vs at hv hall ef
 have vne : vs ≠ [] := by rw [<- hvs]; exact List.cons_ne_nil _ _
 refine ⟨_,rfl,lf,vs,fun v => (f v).2,fun v => (f v).1,rfl,k0 _ _ ef,vne,fun v hv' => (hv v hv').1.same k0,fun v hv' hmin => ?_⟩
 obtain ⟨⟨tv,rfl,etv,ecl⟩,pc,nb⟩ := hv v hv'
 have due : rW es ps bs good (f (.ref tv)).2 := ⟨pc,nb,fun p hp np z => by
  obtain ⟨u,hu,na⟩ := hall p hp np
  have mu := hmin u hu
  have : aZ (f u).2 (f (.ref tv)).2 := by
   by_cases e : p = (f u).2
   ·rw [<- e]; exact z
   ·exact (Classical.byContradiction fun w => e (dL na w) : aZ (f u).2 p).trans z
  rw [show bD (f u).2 (f (.ref tv)).2 = true from this] at mu
  cases mu⟩
 generalize (f (.ref tv)).2 = c at due ecl pc nb etv
 generalize (f (.ref tv)).1 = cl at ecl etv
 have cl7 := due.len hU
 have lcm : (c.map V.str).length = c.length := A5 _
 have c1 := BH.mpr pc.ne
 obtain ⟨_,lnk⟩ := pc.link
 clear hmin hv' hall hv ef hvs vne
 refine ⟨tv,_,_,_,rfl,rfl,cu.of (k0 _ _ etv),rfl,?_⟩
 have d63 := d62.same k0
 have ec := k0 _ _ ecl
 have g3 := g2.trans k0
 have bd1 : Bd (200 * 0 + 1) 1 := by rw [Nat.mul_zero]; unfold Bd; decide
 try dsimp only [bC,bE]
 refine cut (fun σ H' => H3 = H' /\ σ = [some (.ref dp),some (.ref ds),some (.ref db),some (.str good),some (.ref d),some (.ref lf),some (.ref cl),  some (.int 1),none,none,none]) (fun N hN => hN _ _ ⟨rfl,rfl⟩) ?_
 rintro σ _ ⟨rfl,rfl⟩
 refine cut (fun σ H' => H3 = H' /\ σ = [some (.ref dp),some (.ref ds),some (.ref db),some (.str good),some (.ref d),some (.ref lf),some (.ref cl),  some (.int 1),some (.int 1),none,none]) (fun N hN => hN _ _ ⟨rfl,rfl⟩) ?_
 rintro σ _ ⟨rfl,rfl⟩
 refine ⟨_,rfl,cl,_,rfl,ec,_,_,rfl,rfl,_,rfl,by omega,by omega,dY (fun i σ H' => ∃ o4 o5 : Option V,σ = [some (.ref dp),some (.ref ds),some (.ref db),some (.str good),some (.ref d),some (.ref lf),some (.ref cl),  some (.int (fz vw c i).1),some (.int (fz vw c i).2),o4,o5] /\ ay H3 H' /\ Bd (200 * i + 1) (fz vw c i).1 /\ Bd (200 * i + 1) (fz vw c i).2 /\ 0 < (fz vw c i).2) ⟨none,none,rfl,.refl _,bd1,bd1,(by show (0 : Int) < 1; decide)⟩ ?_ ?_⟩
 ·rintro i σ H4 hi ⟨o4,o5,rfl,g4,bT,bB,B0⟩
  have i1 : i + 1 < c.length := by omega
  have hx := A2 (show i < c.length by omega)
  have hy := A2 i1
  generalize c[i] = x at hx
  generalize c[i + 1] = y at hy
  obtain ⟨t',ht'⟩ := lnk i x y hx hy
  obtain ⟨t,hv,ht⟩ := l7 ht'
  obtain ⟨et,p0,lo,bp,bq⟩ := d63.val x y t ht
  have at1 : fo (c.map V.str) (0 + (i : Int)) = some (.str x) := by rw [show 0 + (i : Int) = (i : Int) by omega]; exact bV (dP hx)
  have at2 : fo (c.map V.str) (0 + (i : Int) + 1) = some (.str y) := by rw [show 0 + (i : Int) + 1 = ((i + 1 : Nat) : Int) by omega]; exact bV (dP hy)
  refine ⟨_,rfl,_,rfl,_,rfl,cl,_,_,_,rfl,rfl,bh.of (g4 _ _ ec),at1,_,rfl,_,rfl,_,_,rfl,rfl,cl,_,_,_,rfl,rfl,bh.of (g4 _ _ ec),at2,(by show 2 <= sizeLine; decide),fun tt ntt => ?_⟩
  have k2 := aj ntt (.tup [.str x,.str y])
  have dg : b7 (aq H4 tt (.tup [.str x,.str y])) ds (.ref tt) (some (.ref t)) := by
   rw [<- hv]
   exact b7.t (k := [.inr x,.inr y]) (k2 _ _ (g4 _ _ d63.ee)) ac
  refine ⟨ds,.ref t,rfl,dg,?_⟩
  have et2 := k2 _ _ (g4 _ _ et)
  have big : 200 * i + 1 + 200 <= 134217728 := by omega
  refine ⟨_,rfl,_,rfl,t,_,_,_,rfl,rfl,cu.of et2,rfl,_,_,rfl,rfl,bT.ok bp big,?_⟩
  refine ⟨_,rfl,_,rfl,t,_,_,_,rfl,rfl,cu.of et2,rfl,_,_,rfl,rfl,bB.ok bq big,?_⟩
  have pr : fz vw c (i + 1) = ((fz vw c i).1 * (vw x y).1,(fz vw c i).2 * (vw x y).2) := by
   show ((fz vw c i).1 * (vw (c.getD i "") (c.getD (i + 1) "")).1,(fz vw c i).2 * (vw (c.getD i "") (c.getD (i + 1) "")).2) = _
   rw [AO,AO,hx,hy]
   rfl
  have bi : 200 * (i + 1) + 1 = 200 * i + 1 + 200 := by omega
  refine ⟨some (.int (0 + (i : Int))),some (.ref t),(by rw [pr]; rfl),g4.trans k2,?_,?_,?_⟩
  ·rw [pr,bi]; exact bT.mul bp
  ·rw [pr,bi]; exact bB.mul bq
  ·rw [pr]; exact Int.mul_pos B0 lo.pos
 ·rintro σ H4 ⟨o4,o5,rfl,g4,bT,bB,B0⟩
  have e : ((((c.map V.str).length : Nat) : Int) - 1).toNat = c.length - 1 := by omega
  rw [e] at bT bB B0
  rw [e]
  refine ⟨_,rfl,_,rfl,_,rfl,_,_,rfl,B0,bB.mono (by omega),fun p q' f' t2 H5 g5 e5 => ⟨(by show 2 <= sizeLine; decide),fun t nt => ?_⟩⟩
  have k5 := aj nt (.tup [.ref cl,.ref t2])
  exact qS t cl t2 c p q' _ (((g3.trans g4).trans g5).trans k5) due ac (k5 _ _ (g5 _ _ (g4 _ _ ec))) (k5 _ _ e5) f' B0
theorem yj : aA ["_law_e"] ["_law_e"] (ap ut) := ⟨rfl,rfl,rfl,by decide +kernel,rfl,by decide +kernel,by decide +kernel⟩
set_option maxHeartbeats 4000000 in
theorem yk {dV : Value} {hd : Option Value} (F : bK K "_law_alone" "_law_alone" ut dV f fd) (B : Bn K mg c_EmptyHeap c_InRing c_Larder c_NoAmount c_NoDish c_NoName c_NoNet c_NoNumber c_NoPack c_NoPlan c_NoRow c_NoStand c_NoStandIn c_NoStep c_StoveError c_TooFew c_TooMany c_Twice f_Z12 f_Z13 f_Z14 f_Z15 f_Z16 f_Z17 f_Z18 f_Z19)  : uK hd P w K mg base 1 f fd ["_law_e"] (fj c_NoStandIn) := by
 have sc := yj
 refine F.okH sc (fun vs H Q E h => ?_) (fun cdv A outer s H vs Q E hr h => ?_)
 ·obtain ⟨a,dd,rfl,_⟩ := h
  rfl
 obtain ⟨a,dd,rfl,⟨⟨n,e⟩,xd⟩,q⟩ := h
 refine ⟨_,(af (aX (bG (ar (iU (K := K) rfl) rfl B.b_isinstance boot_isinstance (aa (pv 0) (aa (cy (aa (bO (v := V.ref c_EmptyHeap) rfl B.m_EmptyHeap rfl) (aa (bO (v := V.ref c_InRing) rfl B.m_InRing rfl) (aa (bO (v := V.ref c_NoAmount) rfl B.m_NoAmount rfl) (aa (bO (v := V.ref c_NoDish) rfl B.m_NoDish rfl) (aa (bO (v := V.ref c_NoName) rfl B.m_NoName rfl) (aa (bO (v := V.ref c_NoNet) rfl B.m_NoNet rfl) (aa (bO (v := V.ref c_NoNumber) rfl B.m_NoNumber rfl) (aa (bO (v := V.ref c_NoPack) rfl B.m_NoPack rfl) (aa (bO (v := V.ref c_NoPlan) rfl B.m_NoPlan rfl) (aa (bO (v := V.ref c_NoRow) rfl B.m_NoRow rfl) ag))))))))))) ag)))) (ak (aH bZ)) aI) (ak (aH (j3 (ar (pC (K := K) rfl) rfl B.b_isinstance boot_isinstance (aa (pv 0) (aa (bO (v := V.ref c_StoveError) rfl B.m_StoveError rfl) ag))) (j0 (mi (ar (iU (K := K) rfl) rfl B.b_isinstance boot_isinstance (aa (pv 0) (aa (cy (aa (bO (v := V.ref c_NoStand) rfl B.m_NoStand rfl) (aa (bO (v := V.ref c_NoStep) rfl B.m_NoStep rfl) (aa (bO (v := V.ref c_TooFew) rfl B.m_TooFew rfl) (aa (bO (v := V.ref c_TooMany) rfl B.m_TooMany rfl) (aa (bO (v := V.ref c_Twice) rfl B.m_Twice rfl) ag)))))) ag))))))))),?_⟩
 obtain ⟨kv,ed⟩ := xd
 refine ⟨_,rfl,(by show 10 <= sizeLine; decide),fun t1 n1 => ?_⟩
 have g1 := aj n1 (.tup [.ref c_EmptyHeap,.ref c_InRing,.ref c_NoAmount,.ref c_NoDish,.ref c_NoName,.ref c_NoNet,.ref c_NoNumber,.ref c_NoPack,.ref c_NoPlan,.ref c_NoRow])
 refine ⟨a,_,some dd,t1,[c_EmptyHeap,c_InRing,c_NoAmount,c_NoDish,c_NoName,c_NoNet,c_NoNumber,c_NoPack,c_NoPlan,c_NoRow],false,rfl,⟨n,g1 _ _ e⟩,⟨_,g1 _ _ ed⟩,B.i_NoStandIn,ac,B.ka_NoStandIn_1,_,rfl,bS ?_⟩
 refine ⟨_,rfl,a,_,some dd,_,true,rfl,⟨n,g1 _ _ e⟩,⟨_,g1 _ _ ed⟩,B.i_NoStandIn,.own B.k_NoStandIn_StoveError,true,rfl,de ?_⟩
 refine ⟨_,rfl,(by show 5 <= sizeLine; decide),fun t2 n2 => ?_⟩
 have g2 := g1.trans (aj n2 (.tup [.ref c_NoStand,.ref c_NoStep,.ref c_TooFew,.ref c_TooMany,.ref c_Twice]))
 refine ⟨a,_,some dd,t2,[c_NoStand,c_NoStep,c_TooFew,c_TooMany,c_Twice],false,rfl,⟨n,g2 _ _ e⟩,⟨_,g2 _ _ ed⟩,B.i_NoStandIn,ac,B.ka_NoStandIn_2,_,rfl,q _ g2⟩
theorem yn : aA ["_law_larder","_law_good","_law_found","_law_e"] ["_law_larder","_law_good"] (ap uu) := ⟨rfl,rfl,rfl,by decide +kernel,rfl,by decide +kernel,by decide +kernel⟩
set_option maxHeartbeats 4000000 in
theorem yo {dV : Value} (F : bK K "_law_asked" "_law_asked" uu dV f fd) (B : Bn K mg c_EmptyHeap c_InRing c_Larder c_NoAmount c_NoDish c_NoName c_NoNet c_NoNumber c_NoPack c_NoPlan c_NoRow c_NoStand c_NoStandIn c_NoStep c_StoveError c_TooFew c_TooMany c_Twice f_Z12 f_Z13 f_Z14 f_Z15 f_Z16 f_Z17 f_Z18 f_Z19) (XZ19 : ft P w K mg base (dz P w) 5 f_Z19 ["self","good"] [] (oE K c_Larder c_NoName c_NoStandIn)) (HZ28 : ∀ hd,xf hd P w K mg base 1 "_law_alone" ["_law_e"] (fj c_NoStandIn)) : bg P w K mg base a9 6 f fd ["_law_larder","_law_good"] (i7 K c_Larder) := by
 have sc := yn
 refine F.ok sc (fun vs H Q E h => ?_) (fun cdv A outer s H vs Q E hr h => ?_)
 ·obtain ⟨x,dp,ds,db,z,nm,n,F,rows,m,g,bs,ns,ps,es,vw,rfl,_⟩ := h
  rfl
 obtain ⟨x,dp,ds,db,z,nm,n,F1,rows,m,g,bs,ns,ps,es,vw,rfl,s6,n50,nz,q⟩ := h
 refine ⟨_,(af (vq rfl rfl (fun pins E => (ak (au (i := 2) sc.nd rfl (Or.inl rfl) (tu (K := K) rfl XZ19 hr (by decide) (pv 0) (aa (pv 1) ag))))) (vz B.t_NoStandIn rfl B.m_NoStandIn sc.nd (i := 3) rfl rfl (fun pins a => (af (aX (PW.pt (fF (bG (vF (j := 5) (HZ28 (some (.ref a))) (hr.suite _) (by decide) rfl (aa (pv 3) ag))) (fF (bG (ar (bW (K := K) rfl) rfl B.b_isinstance boot_isinstance (aa (nZ (K := K) rfl (pv 3) rfl) (aa (cf (v := .ty "str") rfl B.b_str boot_str rfl) ag)))) (fO (aB eP (nZ (K := K) rfl (pv 3) rfl) (pv 1) (aG _)))))) (ak (aH cr)) aI) (ak (aH (cy (aa am (aa am ag))))))) vt)) (ak (aH (pv 2)))),?_⟩
 have cnt := s6.cnt
 have few := s6.d6.few
 obtain ⟨dx,s0,b0,fs,dk,ex,es0,eb,bd,hb,fm,sF,bF,pb⟩ := s6.lb.at_
 refine ⟨_,rfl,x,_,dx,_,rfl,ex,B.cl_Larder,B.me_Z19,fm _ (by decide),_,rfl,x,.str z,F1,rows,m,g,bs,ns,ps,vw,nm,wn vw,rfl,s6.lb,by omega,s6.ok,by omega,by have := s6.d6.bars; omega,.inl ⟨z,rfl,nz⟩,s6.ra,s6.hU,by omega,fun y ey => vY _ _,fun c p q y t r s h1 h2 h3 => tJ h1 h3,fun nn => absurd ⟨z,rfl,nz⟩ nn,fun y ey _ cs hbf => ?_⟩
 cases ey
 obtain ⟨q1,q2⟩ := q cs hbf
 refine ⟨fun k c t cl rl p q' H3 g3 hk bl nb e1 e2 e3 hRt => ?_,fun all dd H3 g3 ed a na => ⟨c_NoStandIn,true,rfl,B.s_NoStandIn_NoStandIn,de ?_⟩⟩
 ·exact ⟨_,rfl,q1 k c t cl rl p q' H3 g3 hk bl nb e1 e2 e3 hRt⟩
 ·have k4 := aj na (qO a (.ref c_NoStandIn) (some dd))
  refine ⟨_,rfl,a,dd,rfl,⟨⟨_,ac⟩,⟨_,k4 _ _ ed⟩⟩,fun H5 g5 => ⟨true,rfl,de ?_⟩⟩
  have e5 := g5 _ _ (show aq H3 a (qO a (.ref c_NoStandIn) (some dd)) a = some (qO a (.ref c_NoStandIn) (some dd)) from ac)
  have ed5 := g5 _ _ (k4 _ _ ed)
  refine ⟨_,rfl,a,_,dd,_,_,_,rfl,e5,ed5,⟨B.i_NoStandIn.gg,B.a_NoStandIn.dct,B.n_NoStandIn⟩,rfl,?_⟩
  refine ⟨_,_,_,true,rfl,.str _,rfl,_,rfl,de ?_⟩
  refine ⟨_,rfl,a,_,dd,_,_,_,rfl,e5,ed5,⟨B.i_NoStandIn.gg,B.a_NoStandIn.dct,B.n_NoStandIn⟩,rfl,?_⟩
  refine ⟨_,rfl,rfl,_,rfl,d2 (fun _ => ?_) (fun w => absurd rfl w)⟩
  exact q2 all _ ((g3.trans k4).trans g5)
theorem yq : aA ["_law_larder","_law_pairs","_law_stands","_law_bars","_law_good","_law_found","_law_due_here"] ["_law_larder","_law_pairs","_law_stands","_law_bars","_law_good"] (ap uw) := ⟨rfl,rfl,rfl,by decide +kernel,rfl,by decide +kernel,by decide +kernel⟩
set_option maxHeartbeats 4000000 in
theorem yr {dV : Value} (F : bK K "_law_given_so" "_law_given_so" uw dV f fd) (B : Bn K mg c_EmptyHeap c_InRing c_Larder c_NoAmount c_NoDish c_NoName c_NoNet c_NoNumber c_NoPack c_NoPlan c_NoRow c_NoStand c_NoStandIn c_NoStep c_StoveError c_TooFew c_TooMany c_Twice f_Z12 f_Z13 f_Z14 f_Z15 f_Z16 f_Z17 f_Z18 f_Z19) (DZ27 : Dx P w K mg base a9 3 "_law_due" ["_law_pairs","_law_stands","_law_bars","_law_good"] [] kP) (DZ29 : Dx P w K mg base a9 6 "_law_asked" ["_law_larder","_law_good"] [] (i7 K c_Larder)) : bg P w K mg base a9 7 f fd ["_law_larder","_law_pairs","_law_stands","_law_bars","_law_good"] (cQ K c_Larder) := by
 have sc := yq
 refine F.ok sc (fun vs H Q E h => ?_) (fun cdv A outer s H vs Q E hr h => ?_)
 ·obtain ⟨x,dp,ds,db,z,nm,n,rfl,_⟩ := h
  rfl
 obtain ⟨x,dp,ds,db,z,nm,n,rfl,⟨F1,rows,m,g,bs,ns,ps,es,vw,s6⟩,n50,nz,q⟩ := h
 refine ⟨_,(af (au (i := 5) sc.nd rfl (Or.inl rfl) (aS DZ29 hr (by decide) rfl (aa (pv 0) (aa (pv 4) ag)))) (af (au (i := 6) sc.nd rfl (Or.inl rfl) (aS DZ27 hr (by decide) rfl (aa (pv 1) (aa (pv 2) (aa (pv 3) (aa (pv 4) ag)))))) (af (aX (aB fG (pv 6) cr (aG _)) (ak (aH (dH fG (pv 5) cr (aG _)))) aI) (af (aX (PW.pt (dv (cc (bG (ar (bW (K := K) rfl) rfl B.b_isinstance boot_isinstance (aa (pv 5) (aa (cf (v := .ty "tuple") rfl B.b_tuple boot_tuple rfl) ag))))) (dv (aB iz (ar aN rfl B.b_len boot_len (aa (pv 5) ag)) am (aG _)) (du (cc (bG (ar (bW (K := K) rfl) rfl B.b_isinstance boot_isinstance (aa (aR bX (pv 5) am (fun _ _ => rfl)) (aa (cf (v := .ty "list") rfl B.b_list boot_list rfl) ag))))))))) (ak (aH bZ)) aI) (af (aX (PW.pt (dv (cc (bG (ar (bW (K := K) rfl) rfl B.b_isinstance boot_isinstance (aa (aR bX (pv 5) am (fun _ _ => rfl)) (aa (cf (v := .ty "tuple") rfl B.b_tuple boot_tuple rfl) ag))))) (du (aB (rM hr.units0) (jF (own := "_law_x") (ys := []) (js := []) rfl (xj xh .nil (by decide) rfl rfl rfl rfl rfl rfl rfl rfl) (uZ (aR bX (pv 5) am (fun _ _ => rfl))) (fun C fp s H => (PW.pt (dv (cc (bG (ar (bW (K := K) rfl) rfl B.b_isinstance boot_isinstance (aa (pv 0) (aa (cf (v := .ty "int") rfl B.b_int boot_int rfl) ag))))) (du (bG (ar (bW (K := K) rfl) rfl B.b_isinstance boot_isinstance (aa (pv 0) (aa (cf (v := .ty "bool") rfl B.b_bool boot_bool rfl) ag)))))))) (fun C fp s H => (pv 0))) (bH ag) (aG _))))) (ak (aH bZ)) aI) (ak (aH (dH (tI 1 (Nat.lt_trans (Nat.add_lt_add_left (by decide : 2 < 64) _) hr.units)) (pv 5) (pv 6) (aG _))))))))),?_⟩
 refine ⟨_,rfl,_,rfl,x,dp,ds,db,z,nm,n,F1,rows,m,g,bs,ns,ps,es,vw,rfl,s6,n50,nz,fun cs hbf => ⟨fun k c t cl rl p q' H3 g3 hk bl nb e1 e2 e3 hRt => ?_,fun all H3 g3 => ?_⟩⟩
 rotate_left
 ·have s3 := s6.same g3
  refine ⟨_,rfl,_,rfl,_,rfl,_,rfl,dp,ds,db,z,nm,ps,es,bs,vw,rfl,s3.d6,fun H4 g4 all' => ?_,fun t cl rl c p q' H4 g4 due => ?_⟩
  rotate_left
  ·exact absurd (rX (fun a b => s6.st a b) hbf all c due.1) due.2.1
  exact ⟨_,rfl,rfl,_,rfl,d2 (fun _ => ⟨_,rfl,rfl,by rw [decide_eq_true rfl]; exact q _ (g3.trans g4)⟩) (fun w => absurd rfl w)⟩
 ·have s3 := s6.same g3
  refine ⟨_,rfl,_,rfl,_,rfl,_,rfl,dp,ds,db,z,nm,ps,es,bs,vw,rfl,s3.d6,fun H4 g4 all' => ?_,fun t' cl' rl' c' p2 q2 H4 g4 due e1' e2' e3' fr b0 => ?_⟩
  ·have eR : kD g = gn es := by funext a b; exact propext (s6.st a b)
   exact absurd (all' c (eh.path (eR ▸ hbf) k c hk)) nb
  have := wb (fun a b => s6.st a b) hbf hk bl nb due
  subst this
  obtain ⟨rfl,rfl⟩ := tK hRt fr b0
  have et := g4 _ _ e1
  have ecl := g4 _ _ e2
  have er := g4 _ _ e3
  refine ⟨_,rfl,rfl,_,rfl,d2 (fun w => nomatch w) (fun _ => ?_)⟩
  refine ⟨_,rfl,_,_,_,true,rfl,.tup et,rfl,_,rfl,bS ⟨_,rfl,t,_,rfl,.inr (cu.of et),rfl,_,rfl,wX rfl ⟨_,rfl,t,_,_,_,rfl,rfl,cu.of et,rfl,_,_,_,true,rfl,.lst ecl,rfl,_,rfl,bS ?_⟩⟩⟩
  refine ⟨_,rfl,t,_,_,_,rfl,rfl,cu.of et,rfl,_,_,_,true,rfl,.tup er,rfl,_,rfl,bS ⟨_,rfl,t,_,_,_,rfl,rfl,cu.of et,rfl,rl,rfl,⟨_,cu.of er⟩,lZ (cu.of er) (by show 2 <= sizeLine; decide) (fun z hz H5 g5 R r => ?_) (fun lp H5 g5 ep => ?_)⟩⟩
  ·have hz2 : z = .int p ∨ z = .int q' := by simpa using hz
   rcases hz2 with rfl | rfl
   ·exact ⟨_,rfl,_,_,_,true,rfl,.int _,rfl,_,rfl,bS ⟨_,rfl,_,_,_,false,rfl,.int _,rfl,_,rfl,r⟩⟩
   ·exact ⟨_,rfl,_,_,_,true,rfl,.int _,rfl,_,rfl,bS ⟨_,rfl,_,_,_,false,rfl,.int _,rfl,_,rfl,r⟩⟩
  refine ⟨(by show 0 <= sizeLine; decide),fun le ne => ⟨lp,le,[],rfl,rfl,bh.of (aj ne _ _ _ ep),bh.of ac,_,rfl,bS ?_⟩⟩
  have g6 := g5.trans (aj ne (.lst []))
  generalize aq H5 le (.lst []) = H6 at g6 ⊢
  exact ⟨_,rfl,_,rfl,t,t',_,_,rfl,rfl,cu.of (g6 _ _ et),cu.of (g6 _ _ e1'),⟨v5 (g6 _ _ ecl) (g6 _ _ e2'),v6 (g6 _ _ er) (g6 _ _ e3'),trivial⟩,q _ ((g3.trans g4).trans g6)⟩
theorem yt : aA ["_law_larder","_law_pairs","_law_bars","_law_good","_law_found","_law_k"] ["_law_larder","_law_pairs","_law_bars","_law_good"] (ap ux) := ⟨rfl,rfl,rfl,by decide +kernel,rfl,by decide +kernel,by decide +kernel⟩
set_option maxHeartbeats 4000000 in
theorem yu {dV : Value} (F : bK K "_law_barred_so" "_law_barred_so" ux dV f fd) (B : Bn K mg c_EmptyHeap c_InRing c_Larder c_NoAmount c_NoDish c_NoName c_NoNet c_NoNumber c_NoPack c_NoPlan c_NoRow c_NoStand c_NoStandIn c_NoStep c_StoveError c_TooFew c_TooMany c_Twice f_Z12 f_Z13 f_Z14 f_Z15 f_Z16 f_Z17 f_Z18 f_Z19) (DZ15 : ft P w K mg base a9 3 f_Z15 ["self","good"] [] (gQ c_Larder)) (DZ25 : Dx P w K mg base a9 1 "_law_free" ["_law_pairs","_law_bars","_law_good"] [] kN) : bg P w K mg base a9 4 f fd ["_law_larder","_law_pairs","_law_bars","_law_good"] (eY K c_Larder) := by
 have sc := yt
 refine F.ok sc (fun vs H Q E h => ?_) (fun cdv A outer s H vs Q E hr h => ?_)
 ·obtain ⟨x,dp,ds,db,z,nm,n,rfl,_⟩ := h
  rfl
 obtain ⟨x,dp,ds,db,z,nm,n,rfl,⟨F1,rows,m,g,bs,ns,ps,es,vw,s6⟩,n50,nz,q⟩ := h
 refine ⟨_,(af (au (i := 4) sc.nd rfl (Or.inl rfl) (eE (pv 0) DZ15 hr (by decide) (aa (pv 3) ag))) (af (aX (bG (aS DZ25 hr (by decide) rfl (aa (pv 1) (aa (pv 2) (aa (pv 3) ag))))) (ak (aH (dH fG (pv 4) cr (aG _)))) aI) (af (aX (PW.pt (dv (cc (bG (ar (bW (K := K) rfl) rfl B.b_isinstance boot_isinstance (aa (pv 4) (aa (cf (v := .ty "list") rfl B.b_list boot_list rfl) ag))))) (dv (aB (iT hr.units0) (pv 4) (bH ag) (aG _)) (dv (aB iz (aR aW (pv 4) am (fun _ _ => rfl)) (pv 3) (aG _)) (du (dM (dq (bL hr) (aR aW (pv 4) (k7 iy am) (fun _ _ => rfl)) (pv 2)) (by with_unfolding_all rfl))))))) (ak (aH bZ)) aI) (af (cv PassesOwn.never rfl (dW rfl B.b_range (aa (aD qm (ar aN rfl B.b_len boot_len (aa (pv 4) ag)) am) ag)) (bA (i := 5) sc.nd rfl (Or.inl rfl)) (ak (aX (dM (dq (bL hr) (cy (aa (aR aW (pv 4) (pv 5) (fun _ _ => rfl)) (aa (aR aW (pv 4) (aD dw (pv 5) am) (fun _ _ => rfl)) ag))) (pv 1)) (by with_unfolding_all rfl)) (ak (aH bZ)) aI))) (ak (aH bZ)))))),?_⟩
 have cnt := s6.cnt
 have few := s6.d6.few
 have b6 := s6.d6.bars
 obtain ⟨dx,s0,b0,fs,dk,ex,es0,eb,bd,hb,fm,sF,bF,pb⟩ := s6.lb.at_
 refine ⟨_,rfl,x,_,dx,_,rfl,ex,B.cl_Larder,B.me_Z15,fm _ (by decide),_,rfl,x,z,F1,rows,m,g,bs,ns,ps,rfl,s6.lb,s6.ok,by omega,by omega,nz,fun H3 g3 nl => ?_,fun l H3 c goal g3 el wy gm gl _ => ?_⟩
 ·have s3 := s6.same g3
  refine ⟨_,rfl,_,rfl,_,rfl,dp,db,z,ps,bs,rfl,s3.d6.ep,by omega,s3.d6.eb,by omega,fun H4 b g4 hb4 => ⟨b,rfl,?_⟩⟩
  have : b = true := hb4.mpr fun ⟨b',h1,h2⟩ => nl b' h1 h2
  subst this
  exact de ⟨_,rfl,rfl,by rw [decide_eq_true rfl]; exact q _ (g3.trans g4)⟩
 ·have s3 := s6.same g3
  refine ⟨_,rfl,_,rfl,_,rfl,dp,db,z,ps,bs,rfl,s3.d6.ep,by omega,s3.d6.eb,by omega,fun H4 b g4 hb4 => ⟨b,rfl,?_⟩⟩
  have : b = false := by
   cases b with
   | false => rfl
   | true => exact absurd ⟨goal,gm,gl⟩ (hb4.mp rfl)
  subst this
  refine bS ?_
  have s4 := s3.same g4
  have el4 := g4 _ _ el
  have cn : c ≠ [] := fun e => by have := wy.first; rw [e] at this; cases this
  have c1 := BH.mpr cn
  have c9 := wy.few
  have lcm : (c.map V.str).length = c.length := A5 _
  have hE : (c.map V.str).isEmpty = false := by
   cases c with
   | nil => exact absurd rfl cn
   | cons x r => rfl
  have atl : fo (c.map V.str) (-1) = some (.str goal) := by
   obtain ⟨ys,e⟩ := List.getLast?_eq_some_iff.mp wy.last
   rw [e,Ar]
   exact lq _ _
  try dsimp only [bC,bE]
  refine cut (fun σ H' => σ = [some (.ref x),some (.ref dp),some (.ref db),some (.str z),some (.ref l),none] /\ ay H4 H') (fun N hN => ?_) ?_
  ·refine ⟨_,rfl,_,_,_,true,rfl,.lst el4,rfl,_,rfl,bS ⟨_,rfl,(by show 0 <= sizeLine; decide),fun l0 n0 => ⟨l,l0,_,rfl,rfl,bh.of (aj n0 _ _ _ el4),bh.of ac,_,rfl,?_⟩⟩⟩
   have k0 := aj n0 (.lst [])
   generalize aq H4 l0 (.lst []) = H5 at k0 ⊢
   rw [hE]
   refine bS ⟨_,rfl,l,_,_,_,rfl,rfl,bh.of (k0 _ _ el4),bV (j := 0) (dP wy.first),_,rfl,rfl,_,rfl,nF rfl ?_⟩
   refine ⟨_,rfl,_,rfl,l,_,_,_,rfl,rfl,bh.of (k0 _ _ el4),atl,_,rfl,db,_,rfl,b7.k (k := .inr goal) (k0 _ _ s4.d6.eb),_,rfl,?_⟩
   rw [cX,if_pos gm]
   exact bS (hN _ _ ⟨rfl,k0⟩)
  rintro σ H5 ⟨rfl,g5⟩
  have el5 := g5 _ _ el4
  refine ⟨_,rfl,l,_,rfl,.inl (bh.of el5),_,_,rfl,rfl,_,rfl,by omega,by omega,dY (fun i σ H' => ∃ o5 : Option V,σ = [some (.ref x),some (.ref dp),some (.ref db),some (.str z),some (.ref l),o5] /\ ay H4 H') ⟨none,rfl,g5⟩ ?_ ?_⟩
  ·rintro i σ H6 hi ⟨o5,rfl,g6⟩
   have i1 : i + 1 < c.length := by omega
   have hx := A2 (show i < c.length by omega)
   have hy := A2 i1
   generalize c[i] = u at hx
   generalize c[i + 1] = v at hy
   have pm := wy.pair i u v hx hy
   have at1 : fo (c.map V.str) (0 + (i : Int)) = some (.str u) := by rw [show 0 + (i : Int) = (i : Int) by omega]; exact bV (dP hx)
   have at2 : fo (c.map V.str) (0 + (i : Int) + 1) = some (.str v) := by rw [show 0 + (i : Int) + 1 = ((i + 1 : Nat) : Int) by omega]; exact bV (dP hy)
   refine ⟨_,rfl,_,rfl,l,_,_,_,rfl,rfl,bh.of (g6 _ _ el4),at1,_,rfl,_,rfl,_,_,rfl,rfl,l,_,_,_,rfl,rfl,bh.of (g6 _ _ el4),at2,(by show 2 <= sizeLine; decide),fun tt ntt => ?_⟩
   have k2 := aj ntt (.tup [.str u,.str v])
   refine ⟨_,rfl,dp,_,rfl,b7.t (k := [.inr u,.inr v]) (k2 _ _ (g6 _ _ s4.d6.ep)) ac,_,rfl,?_⟩
   rw [oM,decide_eq_true pm]
   exact bS ⟨_,rfl,g6.trans k2⟩
  ·rintro σ H6 ⟨o5,rfl,g6⟩
   exact q _ ((g3.trans g4).trans g6)
theorem yw : aA ["_law_larder","_law_pairs","_law_stands","_law_bars","_law_good"] ["_law_larder","_law_pairs","_law_stands","_law_bars","_law_good"] (ap uy) := ⟨rfl,rfl,rfl,by decide +kernel,rfl,by decide +kernel,by decide +kernel⟩
set_option maxHeartbeats 4000000 in
theorem yx {dV : Value} (F : bK K "_law_right" "_law_right" uy dV f fd) (B : Bn K mg c_EmptyHeap c_InRing c_Larder c_NoAmount c_NoDish c_NoName c_NoNet c_NoNumber c_NoPack c_NoPlan c_NoRow c_NoStand c_NoStandIn c_NoStep c_StoveError c_TooFew c_TooMany c_Twice f_Z12 f_Z13 f_Z14 f_Z15 f_Z16 f_Z17 f_Z18 f_Z19) (DZ30 : Dx P w K mg base a9 7 "_law_given_so" ["_law_larder","_law_pairs","_law_stands","_law_bars","_law_good"] [] (cQ K c_Larder)) (DZ31 : Dx P w K mg base a9 4 "_law_barred_so" ["_law_larder","_law_pairs","_law_bars","_law_good"] [] (eY K c_Larder)) : bg P w K mg base a9 8 f fd ["_law_larder","_law_pairs","_law_stands","_law_bars","_law_good"] (cQ K c_Larder) := by
 have sc := yw
 refine F.ok sc (fun vs H Q E h => ?_) (fun cdv A outer s H vs Q E hr h => ?_)
 ·obtain ⟨x,dp,ds,db,z,nm,n,rfl,_⟩ := h
  rfl
 obtain ⟨x,dp,ds,db,z,nm,n,rfl,⟨F1,rows,m,g,bs,ns,ps,es,vw,s6⟩,n50,nz,q⟩ := h
 refine ⟨_,(af (aX (cc (bG (aS DZ31 hr (by decide) rfl (aa (pv 0) (aa (pv 1) (aa (pv 3) (aa (pv 4) ag))))))) (ak (aH bZ)) aI) (ak (aH (aS DZ30 hr (by decide) rfl (aa (pv 0) (aa (pv 1) (aa (pv 2) (aa (pv 3) (aa (pv 4) ag))))))))),?_⟩
 refine ⟨_,rfl,_,rfl,_,rfl,_,rfl,x,dp,ds,db,z,nm,n,rfl,⟨F1,rows,m,g,bs,ns,ps,es,vw,s6⟩,n50,nz,fun H1 g1 => ⟨true,rfl,bS ?_⟩⟩
 exact ⟨_,rfl,_,rfl,_,rfl,_,rfl,_,rfl,x,dp,ds,db,z,nm,n,rfl,⟨F1,rows,m,g,bs,ns,ps,es,vw,s6.same g1⟩,n50,nz,fun H2 g2 => q _ (g1.trans g2)⟩
theorem yy : aA ["_law_larder","_law_pairs","_law_stands","_law_bars","_law_names_here","_law_cell","_law_way","_law_at","_law_to","_law_one","_law_other","_law_ratio_here"] ["_law_larder","_law_pairs","_law_stands","_law_bars","_law_names_here","_law_cell"] (ap uz) := ⟨rfl,rfl,rfl,by decide +kernel,rfl,by decide +kernel,by decide +kernel⟩
set_option maxHeartbeats 4000000 in
theorem yz {dV : Value} (F : bK K "_law_deed" "_law_deed" uz dV f fd) (B : Bn K mg c_EmptyHeap c_InRing c_Larder c_NoAmount c_NoDish c_NoName c_NoNet c_NoNumber c_NoPack c_NoPlan c_NoRow c_NoStand c_NoStandIn c_NoStep c_StoveError c_TooFew c_TooMany c_Twice f_Z12 f_Z13 f_Z14 f_Z15 f_Z16 f_Z17 f_Z18 f_Z19) (DZ14 : ft P w K mg base a9 3 f_Z14 ["self","good","other"] [] (kQ c_Larder)) (DZ16 : ft P w K mg base a9 3 f_Z16 ["self","good"] [] (nv c_Larder)) (DZ17 : ft P w K mg base a9 3 f_Z17 ["self","good"] [] (gk c_Larder)) (DZ18 : ft P w K mg base a9 3 f_Z18 ["self","good","other","ratio"] [.non] (i6 c_Larder)) (DZ24 : Dx P w K mg base a9 3 "_law_ratio" ["_law_cell"] [] gR) : bg P w K mg base a9 4 f fd ["_law_larder","_law_pairs","_law_stands","_law_bars","_law_names_here","_law_cell"] (kR K c_Larder) := by
 have sc := yy
 refine F.ok sc (fun vs H Q E h => ?_) (fun cdv A outer s H vs Q E hr h => ?_)
 ·obtain ⟨x,dp,ds,db,l,c,nm,n,rfl,_⟩ := h
  rfl
 obtain ⟨x,dp,ds,db,l,c,nm,n,rfl,⟨F1,rows,m,g,bs,ns,ps,es,vw,s6⟩,n50,el,n2,⟨nmd,nmz⟩,q⟩ := h
 refine ⟨_,(af (au (i := 6) sc.nd rfl (Or.inl rfl) (aD bx (pv 5) am)) (af (au (i := 7) sc.nd rfl (Or.inl rfl) (aD bx (aD bM (pv 5) am) (ar aN rfl B.b_len boot_len (aa (pv 4) ag)))) (af (au (i := 8) sc.nd rfl (Or.inl rfl) (aD bx (aD bM (aD bM (pv 5) am) (ar aN rfl B.b_len boot_len (aa (pv 4) ag))) (ar aN rfl B.b_len boot_len (aa (pv 4) ag)))) (af (au (i := 9) sc.nd rfl (Or.inl rfl) (aR aW (pv 4) (ar (oV rfl) rfl B.b_min boot_min (aa (pv 7) (aa (pv 8) ag))) (fun _ _ => rfl))) (af (au (i := 10) sc.nd rfl (Or.inl rfl) (aR aW (pv 4) (ar (oU rfl) rfl B.b_max boot_max (aa (pv 7) (aa (pv 8) ag))) (fun _ _ => rfl))) (ak (aX (PW.pt (fF (aB jo (pv 6) am (aG _)) (fO (aB iz (pv 7) (pv 8) (aG _))))) (af (a8 (eE (pv 0) DZ14 hr (by decide) (aa (pv 9) (aa (pv 10) ag)))) (ak (cJ (bL hr) (pv 1) (cy (aa (pv 9) (aa (pv 10) ag))) bZ rfl))) (ak (aX (PW.pt (fF (aB jo (pv 6) am (aG _)) (fF (aB iz (pv 7) (pv 8) (aG _)) (fO (dM (dq (bL hr) (cy (aa (aR aW (pv 4) (pv 7) (fun _ _ => rfl)) (aa (aR aW (pv 4) (pv 8) (fun _ _ => rfl)) ag))) (pv 2)) (by with_unfolding_all rfl)))))) (af (au (i := 11) sc.nd rfl (Or.inl rfl) (aS DZ24 hr (by decide) rfl (aa (aD bM (pv 5) am) ag))) (af (a8 (eE (pv 0) DZ18 hr (by decide) (aa (aR aW (pv 4) (pv 7) (fun _ _ => rfl)) (aa (aR aW (pv 4) (pv 8) (fun _ _ => rfl)) (aa (pv 11) ag))))) (ak (cJ (bL hr) (pv 2) (cy (aa (aR aW (pv 4) (pv 7) (fun _ _ => rfl)) (aa (aR aW (pv 4) (pv 8) (fun _ _ => rfl)) ag))) (pv 11) rfl)))) (ak (aX (PW.pt (dv (aB eP (pv 6) am (aG _)) (du (aB eP (pv 6) am (aG _))))) (af (a8 (eE (pv 0) DZ16 hr (by decide) (aa (aR aW (pv 4) (pv 7) (fun _ _ => rfl)) ag))) (ak (cJ (bL hr) (pv 3) (aR aW (pv 4) (pv 7) (fun _ _ => rfl)) bZ rfl))) (ak (aX (aB eP (pv 6) am (aG _)) (af (a8 (eE (pv 0) DZ17 hr (by decide) (aa (aR aW (pv 4) (pv 7) (fun _ _ => rfl)) ag))) (ak (a8 (lA (pv 3) (aR aW (pv 4) (pv 7) (fun _ _ => rfl)) cr ⟨rfl,rfl,rfl,rfl⟩)))) aI))))))))))))),?_⟩
 have slt : (3000 : Nat) < sizeLine := by decide
 have ll : (nm.map V.str).length = nm.length := A5 _
 have lp : (0 : Int) < ((nm.map V.str).length : Int) := by omega
 have ln : ((nm.map V.str).length : Int) ≠ 0 := by omega
 have cnt := s6.cnt
 have few := s6.d6.few
 have b6 := s6.d6.bars
 have n6 := s6.len
 obtain ⟨i,ei,il⟩ : ∃ i : Nat,(c.fdiv 8).fmod ((nm.map V.str).length : Int) = (i : Int) /\ i < nm.length := by
  have h0 := AI (c.fdiv 8) lp
  have h1 := AU (c.fdiv 8) lp
  exact ⟨((c.fdiv 8).fmod ((nm.map V.str).length : Int)).toNat,by omega,by omega⟩
 obtain ⟨j,ej,jl⟩ : ∃ j : Nat,((c.fdiv 8).fdiv ((nm.map V.str).length : Int)).fmod ((nm.map V.str).length : Int) = (j : Int) /\ j < nm.length := by
  have h0 := AI ((c.fdiv 8).fdiv ((nm.map V.str).length : Int)) lp
  have h1 := AU ((c.fdiv 8).fdiv ((nm.map V.str).length : Int)) lp
  exact ⟨(((c.fdiv 8).fdiv ((nm.map V.str).length : Int)).fmod ((nm.map V.str).length : Int)).toNat,by omega,by omega⟩
 have w0 := AI c (show (0 : Int) < 8 by decide)
 have w1 := AU c (show (0 : Int) < 8 by decide)
 have ha := A2 il
 have hb := A2 jl
 generalize hza : nm[i] = za at ha
 generalize hzb : nm[j] = zb at hb
 have ain := A8 ha
 have bin := A8 hb
 have na := nmz za ain
 have nb := nmz zb bin
 have ati : fo (nm.map V.str) (i : Int) = some (.str za) := bV (dP ha)
 have atj : fo (nm.map V.str) (j : Int) = some (.str zb) := bV (dP hb)
 obtain ⟨u,v,eu,ev,ul,vl,uv⟩ : ∃ u v : Nat,(if (j : Int) < (i : Int) then (j : Int) else (i : Int)) = (u : Int) /\ (if (j : Int) > (i : Int) then (j : Int) else (i : Int)) = (v : Int) /\ u < nm.length /\ v < nm.length /\ (i ≠ j -> u < v) := by
  rcases Nat.lt_trichotomy i j with h | h | h
  ·exact ⟨i,j,by rw [if_neg (by omega)],by rw [if_pos (by omega)],il,jl,fun _ => h⟩
  ·exact ⟨i,j,by rw [if_neg (by omega)],by rw [if_neg (by omega),h],il,jl,fun z => absurd h z⟩
  ·exact ⟨j,i,by rw [if_pos (by omega)],by rw [if_neg (by omega)],jl,il,fun _ => h⟩
 have hu := A2 ul
 have hv := A2 vl
 generalize nm[u] = z1 at hu
 generalize nm[v] = z2 at hv
 have atu : fo (nm.map V.str) (u : Int) = some (.str z1) := bV (dP hu)
 have atv : fo (nm.map V.str) (v : Int) = some (.str z2) := bV (dP hv)
 have nn1 := nmz z1 (A8 hu)
 have nn2 := nmz z2 (A8 hv)
 try dsimp only [bC,bE]
 refine cut (fun σ H' => σ = [some (.ref x),some (.ref dp),some (.ref ds),some (.ref db),some (.ref l),some (.int c),some (.int (c.fmod 8)),none,none,none,none,none] /\ H = H') (fun N hN => ⟨_,rfl,_,_,rfl,rfl,(by show (8 : Int) ≠ 0; decide),hN _ _ ⟨rfl,rfl⟩⟩) ?_
 rintro σ _ ⟨rfl,rfl⟩
 refine cut (fun σ H' => σ = [some (.ref x),some (.ref dp),some (.ref ds),some (.ref db),some (.ref l),some (.int c),some (.int (c.fmod 8)),some (.int (i : Int)),none,none,none,none] /\ H = H') (fun N hN => ⟨_,rfl,_,_,rfl,rfl,⟨by decide,Aq (by decide)⟩,_,rfl,l,_,rfl,.inl (bh.of el),_,_,rfl,rfl,ln,hN _ _ ⟨by rw [<- ei]; rfl,rfl⟩⟩) ?_
 rintro σ _ ⟨rfl,rfl⟩
 refine cut (fun σ H' => σ = [some (.ref x),some (.ref dp),some (.ref ds),some (.ref db),some (.ref l),some (.int c),some (.int (c.fmod 8)),some (.int (i : Int)),some (.int (j : Int)),none,none,none] /\ H = H') (fun N hN => ⟨_,rfl,_,_,rfl,rfl,⟨by decide,Aq (by decide)⟩,_,rfl,l,_,rfl,.inl (bh.of el),_,_,rfl,rfl,⟨ln,Aq (by omega)⟩,_,rfl,l,_,rfl,.inl (bh.of el),_,_,rfl,rfl,ln,hN _ _ ⟨by rw [<- ej]; rfl,rfl⟩⟩) ?_
 rintro σ _ ⟨rfl,rfl⟩
 refine cut (fun σ H' => σ = [some (.ref x),some (.ref dp),some (.ref ds),some (.ref db),some (.ref l),some (.int c),some (.int (c.fmod 8)),some (.int (i : Int)),some (.int (j : Int)),some (.str z1),none,none] /\ H = H') (fun N hN => ⟨_,rfl,_,rfl,_,rfl,_,_,rfl,l,_,_,_,rfl,rfl,bh.of el,(by rw [eu]; exact atu),hN _ _ ⟨rfl,rfl⟩⟩) ?_
 rintro σ _ ⟨rfl,rfl⟩
 refine cut (fun σ H' => σ = [some (.ref x),some (.ref dp),some (.ref ds),some (.ref db),some (.ref l),some (.int c),some (.int (c.fmod 8)),some (.int (i : Int)),some (.int (j : Int)),some (.str z1),some (.str z2),none] /\ H = H') (fun N hN => ⟨_,rfl,_,rfl,_,rfl,_,_,rfl,l,_,_,_,rfl,rfl,bh.of el,(by rw [ev]; exact atv),hN _ _ ⟨rfl,rfl⟩⟩) ?_
 rintro σ _ ⟨rfl,rfl⟩
 clear eu ev atu atv
 generalize c.fmod 8 = ww at w0 w1 ⊢
 try dsimp only [bC,bE]
 by_cases c2 : ww < 2
 ·refine ⟨_,rfl,_,_,rfl,rfl,_,rfl,dT c2 ⟨_,rfl,_,rfl,rfl,_,rfl,yI (fun ne => ?_) (fun eq => ?_)⟩⟩
  ·have uv := uv (fun z => ne (by rw [z]))
   obtain ⟨dx,s0,b0,fs,dk,ex,es0,eb,bd,hb,fm,sF,bF,pb⟩ := s6.lb.at_
   have kz : (jU ps).length < sizeLine := by rw [oK]; omega
   refine ⟨_,rfl,x,_,dx,_,rfl,ex,B.cl_Larder,B.me_Z14,fm _ (by decide),_,rfl,_,rfl,x,z1,z2,F1,rows,m,g,bs,ns,ps,rfl,s6.lb,s6.ok,by omega,s6.nn,by omega,nn1,nn2,s6.noring nmd uv hu hv,fun F' H1 ms k1 fg lb1 nd hs => ?_⟩
   have d1 := s6.d6k k1
   refine ⟨_,rfl,_,rfl,_,rfl,(by show 2 <= sizeLine; decide),fun t1 m1 => ⟨dp,_,rfl,dO.t (k := [.inr z1,.inr z2]) (aj m1 _ _ _ d1.ep) ac kz,?_⟩⟩
   exact q _ (((KD.kf s6.lb k1).trans (KD.of (aj m1 _))).trans (KD.putT (aj m1 _ _ _ d1.ep) _)) ⟨F',_,m,g,bs,ms,_,es,vw,s6.part k1 fg lb1 nd hs (aj m1 _) uv hu hv (by omega)⟩
  ·exact ⟨_,rfl,_,_,rfl,rfl,_,rfl,dT (by omega) ⟨_,rfl,_,rfl,rfl,_,rfl,wX eq ⟨_,rfl,rfl,_,rfl,sD (by omega) ⟨_,rfl,rfl,_,rfl,sD (by omega) ⟨_,rfl,rfl,_,rfl,sD (by omega) (q _ (KD.of (.refl _)) ⟨F1,rows,m,g,bs,ns,ps,es,vw,s6.more⟩)⟩⟩⟩⟩⟩
 refine ⟨_,rfl,_,_,rfl,rfl,_,rfl,dF c2 ?_⟩
 by_cases c5 : ww < 5
 ·refine ⟨_,rfl,_,_,rfl,rfl,_,rfl,dT c5 ⟨_,rfl,_,rfl,rfl,_,rfl,yI (fun ne => ?_) (fun eq => ?_)⟩⟩
  rotate_left
  ·exact ⟨_,rfl,rfl,_,rfl,sD (by omega) ⟨_,rfl,rfl,_,rfl,sD (by omega) ⟨_,rfl,rfl,_,rfl,sD (by omega) (q _ (KD.of (.refl _)) ⟨F1,rows,m,g,bs,ns,ps,es,vw,s6.more⟩)⟩⟩⟩
  have zne : za ≠ zb := fun z => ne (by
   rw [<- z] at hb
   rw [(List.getElem?_inj il nmd).mp (ha.trans hb.symm)])
  refine ⟨_,rfl,_,rfl,l,_,_,_,rfl,rfl,bh.of el,ati,_,rfl,_,rfl,l,_,_,_,rfl,rfl,bh.of el,atj,(by show 2 <= sizeLine; decide),fun t0 n0 => ⟨_,rfl,ds,_,rfl,b7.t (k := [.inr za,.inr zb]) (aj n0 _ _ _ s6.d6.ee) ac,_,rfl,?_⟩⟩
  have k0 := aj n0 (.tup [.str za,.str zb])
  generalize aq H t0 (.tup [.str za,.str zb]) = H0 at k0 ⊢
  have s0' := s6.same k0
  cases hv9 : aE (ir es) [.inr za,.inr zb] with
  | some v9 =>
   exact bS ⟨_,rfl,rfl,_,rfl,sD (by omega) ⟨_,rfl,rfl,_,rfl,sD (by omega) ⟨_,rfl,rfl,_,rfl,sD (by omega) (q _ (KD.of k0) ⟨F1,rows,m,g,bs,ns,ps,es,vw,s0'.more⟩)⟩⟩⟩
  | none =>
   have new : ∀ t,(za,zb,t) ∉ es := fun t z => by
    obtain ⟨t',e',_⟩ := l7 z
    rw [hv9] at e'
    cases e'
   refine de ⟨_,rfl,_,_,rfl,rfl,⟨by decide,Aq (by decide)⟩,_,rfl,fun p q' p0 lo b1 b2 r H2 g2 er => ?_⟩
   have s2 := s0'.same g2
   have el2 := g2 _ _ (k0 _ _ el)
   obtain ⟨dx,s0,b0,fs,dk,ex,es0,eb,bd,hb,fm,sF,bF,pb⟩ := s2.lb.at_
   have kz : (ir es).length < sizeLine := by rw [oF]; omega
   refine ⟨_,rfl,x,_,dx,_,rfl,ex,B.cl_Larder,B.me_Z18,fm _ (by decide),_,rfl,_,rfl,l,_,_,_,rfl,rfl,bh.of el2,ati,_,rfl,_,rfl,l,_,_,_,rfl,rfl,bh.of el2,atj,_,rfl,x,r,za,zb,p,q',F1,rows,m,g,bs,ns,rfl,s2.lb,by omega,s2.nn,by omega,na,nb,er,p0,lo,b1,b2,zne,(fun z => by obtain ⟨t,z⟩ := (s6.st _ _).mp z; exact new t z),fun F' H3 ms k3 fg lb3 er3 nd hs => ?_⟩
   have d3 := s2.d6k k3
   have el3 := k3 _ _ (s2.lb.not el2 (fun _ z => nomatch z)) el2
   refine ⟨_,rfl,_,rfl,_,rfl,_,rfl,l,_,_,_,rfl,rfl,bh.of el3,ati,_,rfl,_,rfl,l,_,_,_,rfl,rfl,bh.of el3,atj,(by show 2 <= sizeLine; decide),fun t1 m1 => ⟨ds,_,rfl,dO.t (k := [.inr za,.inr zb]) (aj m1 _ _ _ d3.ee) ac kz,?_⟩⟩
   exact q _ ((((KD.of (k0.trans g2)).trans (KD.kf s2.lb k3)).trans (KD.of (aj m1 _))).trans (KD.putT (aj m1 _ _ _ d3.ee) _)) ⟨F',rows,m + 2,_,bs,ms,ps,_,_,s2.stand k3 fg lb3 er3 p0 lo b1 b2 na nb nd hs (aj m1 _) ain bin zne new (by omega)⟩
 refine ⟨_,rfl,_,_,rfl,rfl,_,rfl,dF c5 ⟨_,rfl,rfl,_,rfl,wk (fun _ => ?_) (fun h5 => ⟨_,rfl,rfl,_,rfl,wk (fun _ => ?_) (fun h6 => ?_)⟩)⟩⟩
 ·skip
  obtain ⟨dx,s0,b0,fs,dk,ex,es0,eb,bd,hb,fm,sF,bF,pb⟩ := s6.lb.at_
  have kz : (aO bs (.bl true)).length < sizeLine := by rw [bR]; omega
  refine ⟨_,rfl,x,_,dx,_,rfl,ex,B.cl_Larder,B.me_Z16,fm _ (by decide),_,rfl,_,rfl,l,_,_,_,rfl,rfl,bh.of el,ati,x,za,F1,rows,m,g,bs,ns,rfl,s6.lb,by omega,s6.nn,by omega,na,fun H1 ms k1 lb1 nd hs => ?_⟩
  have el1 := k1 _ _ (s6.lb.not el (fun _ z => nomatch z)) el
  have d1 := s6.d6k k1
  refine ⟨_,rfl,_,rfl,_,rfl,l,_,_,_,rfl,rfl,bh.of el1,ati,db,_,rfl,dO.k (k := .inr za) d1.eb kz,?_⟩
  rw [dA]
  refine q _ ((KD.kf s6.lb k1).trans (KD.putK d1.eb _)) ⟨F1,rows,m,g,_,ms,ps,es,vw,(s6.barred k1 lb1 nd (fun y hy => ?_) (cO s6.d6.bnd) (fun y hy => ?_)).more⟩
  ·rcases (hs y).mp hy with w | rfl
   ·exact s6.nsm y w
   ·exact ain
  ·rcases b4.mp hy with w | rfl
   ·exact s6.d6.binn y w
   ·exact ain
 ·skip
  obtain ⟨dx,s0,b0,fs,dk,ex,es0,eb,bd,hb,fm,sF,bF,pb⟩ := s6.lb.at_
  have kz : (aO bs (.bl true)).length < sizeLine := by rw [bR]; omega
  refine ⟨_,rfl,x,_,dx,_,rfl,ex,B.cl_Larder,B.me_Z16,fm _ (by decide),_,rfl,_,rfl,l,_,_,_,rfl,rfl,bh.of el,ati,x,za,F1,rows,m,g,bs,ns,rfl,s6.lb,by omega,s6.nn,by omega,na,fun H1 ms k1 lb1 nd hs => ?_⟩
  have el1 := k1 _ _ (s6.lb.not el (fun _ z => nomatch z)) el
  have d1 := s6.d6k k1
  refine ⟨_,rfl,_,rfl,_,rfl,l,_,_,_,rfl,rfl,bh.of el1,ati,db,_,rfl,dO.k (k := .inr za) d1.eb kz,?_⟩
  rw [dA]
  refine q _ ((KD.kf s6.lb k1).trans (KD.putK d1.eb _)) ⟨F1,rows,m,g,_,ms,ps,es,vw,(s6.barred k1 lb1 nd (fun y hy => ?_) (cO s6.d6.bnd) (fun y hy => ?_)).more⟩
  ·rcases (hs y).mp hy with w | rfl
   ·exact s6.nsm y w
   ·exact ain
  ·rcases b4.mp hy with w | rfl
   ·exact s6.d6.binn y w
   ·exact ain
 refine ⟨_,rfl,rfl,_,rfl,Ak (by omega) ?_⟩
 obtain ⟨dx,s0,b0,fs,dk,ex,es0,eb,bd,hb,fm,sF,bF,pb⟩ := s6.lb.at_
 refine ⟨_,rfl,x,_,dx,_,rfl,ex,B.cl_Larder,B.me_Z17,fm _ (by decide),_,rfl,_,rfl,l,_,_,_,rfl,rfl,bh.of el,ati,x,za,F1,rows,m,g,bs,ns,rfl,s6.lb,na,fun H1 k1 lb1 => ?_⟩
 have el1 := k1 _ _ (s6.lb.not el (fun _ z => nomatch z)) el
 have d1 := s6.d6k k1
 have fin := s6.barred k1 lb1 s6.nn s6.nsm (i9 s6.d6.bnd) (fun y hy => s6.d6.binn y (i8.mp hy).1)
 refine ⟨_,rfl,db,rfl,.inl ⟨_,.inl d1.eb⟩,_,rfl,_,rfl,l,_,_,_,rfl,rfl,bh.of el1,ati,_,.inr za,d1.eb,rfl,fun w hw => ?_,fun hw => ?_⟩
 ·rw [gO]
  exact q _ ((KD.kf s6.lb k1).trans (KD.putK d1.eb _)) ⟨F1,rows,m,g,_,ns,ps,es,vw,fin.more⟩
 ·rw [cX] at hw
  have nz : za ∉ bs := fun h => by rw [if_pos h] at hw; cases hw
  have e9 := d1.eb
  rw [jR nz] at fin
  have same : aq H1 db (.dK (aO bs (.bl true))) = H1 := by
   funext a
   by_cases z : a = db
   ·rw [z,ac,e9]
   ·rw [ae z]
  rw [same] at fin
  exact q _ (KD.kf s6.lb k1) ⟨F1,rows,m,g,bs,ns,ps,es,vw,fin.more⟩
theorem yA : aA ["_law_script","_law_names_here","_law_larder","_law_pairs","_law_stands","_law_bars","_law_k","_law_cell","_law_good","_law_name"] ["_law_script"] (ap kU) := ⟨rfl,rfl,rfl,by decide +kernel,rfl,by decide +kernel,by decide +kernel⟩
set_option maxHeartbeats 4000000 in
theorem yB {dV : Value} (F : bK K "law" "law" kU dV f fd) (B : Bn K mg c_EmptyHeap c_InRing c_Larder c_NoAmount c_NoDish c_NoName c_NoNet c_NoNumber c_NoPack c_NoPlan c_NoRow c_NoStand c_NoStandIn c_NoStep c_StoveError c_TooFew c_TooMany c_Twice f_Z12 f_Z13 f_Z14 f_Z15 f_Z16 f_Z17 f_Z18 f_Z19) (DZ12 : ft P w K mg base a9 1 f_Z12 ["self"] [] (gP c_Larder)) (DZ17 : ft P w K mg base a9 3 f_Z17 ["self","good"] [] (gk c_Larder)) (DZ20 : Dx P w K mg base a9 1 "_law_cell_at" ["_law_script","_law_k"] [] (mK K)) (DZ21 : Dx P w K mg base a9 1 "_law_names" ["_law_number","_law_many"] [] iY) (DZ27 : Dx P w K mg base a9 3 "_law_due" ["_law_pairs","_law_stands","_law_bars","_law_good"] [] kP) (DZ32 : Dx P w K mg base a9 8 "_law_right" ["_law_larder","_law_pairs","_law_stands","_law_bars","_law_good"] [] (cQ K c_Larder)) (DZ33 : Dx P w K mg base a9 4 "_law_deed" ["_law_larder","_law_pairs","_law_stands","_law_bars","_law_names_here","_law_cell"] [] (kR K c_Larder)) : bg P w K mg base a9 9 f fd ["_law_script"] (nR K) := by
 have sc := yA
 refine F.ok sc (fun vs H Q E h => ?_) (fun cdv A outer s H vs Q E hr h => ?_)
 ·obtain ⟨a,ns,rfl,_⟩ := h
  rfl
 obtain ⟨a,ns,rfl,hS,h63,q⟩ := h
 refine ⟨_,(af (au (i := 1) sc.nd rfl (Or.inl rfl) (aS DZ21 hr (by decide) rfl (aa (aS DZ20 hr (by decide) rfl (aa (pv 0) (aa am ag))) (aa (aD dw am (aD bx (aS DZ20 hr (by decide) rfl (aa (pv 0) (aa am ag))) am)) ag)))) (af (au (i := 2) sc.nd rfl (Or.inl rfl) (vH B.mk_Larder DZ12 hr (by decide) rfl B.m_Larder)) (af (au (i := 3) sc.nd rfl (Or.inl rfl) ly) (af (au (i := 4) sc.nd rfl (Or.inl rfl) ly) (af (au (i := 5) sc.nd rfl (Or.inl rfl) cA) (af (cv PassesOwn.never rfl (tH rfl B.b_enumerate (aa (cH nN (pv 0) (cR am) (cR am)) ag)) (mj rfl (dS (bA (i := 6) sc.nd rfl (Or.inl rfl)) (dS (bA (i := 7) sc.nd rfl (Or.inl rfl)) j4))) (af (a8 (aS DZ33 hr (by decide) rfl (aa (pv 2) (aa (pv 3) (aa (pv 4) (aa (pv 5) (aa (pv 1) (aa (pv 7) ag)))))))) (af (au (i := 8) sc.nd rfl (Or.inl rfl) (aR aW (pv 1) (aD bx (aD bM (pv 7) am) (ar aN rfl B.b_len boot_len (aa (pv 1) ag))) (fun _ _ => rfl))) (ak (aX (PW.pt (fF (aB eP (aD bx (pv 6) am) am (aG _)) (fO (cc (bG (aS DZ32 hr (by decide) rfl (aa (pv 2) (aa (pv 3) (aa (pv 4) (aa (pv 5) (aa (pv 8) ag))))))))))) (ak (aH bZ)) aI))))) (af (cv PassesOwn.never rfl (eA (pv 1)) (bA (i := 8) sc.nd rfl (Or.inl rfl)) (ak (aX (cc (bG (aS DZ32 hr (by decide) rfl (aa (pv 2) (aa (pv 3) (aa (pv 4) (aa (pv 5) (aa (pv 8) ag)))))))) (ak (aH bZ)) aI))) (af (au (i := 8) sc.nd rfl (Or.inl rfl) (aR aW (pv 1) (aD bx (aD bM (aS DZ20 hr (by decide) rfl (aa (pv 0) (aa am ag))) am) (ar aN rfl B.b_len boot_len (aa (pv 1) ag))) (fun _ _ => rfl))) (af (cv PassesOwn.never rfl (eA (ar (hV rfl) rfl B.b_sorted PyProof.Rows.Boot.«sorted» (aa (pv 5) ag))) (bA (i := 9) sc.nd rfl (Or.inl rfl)) (ak (aX (aB fG (aS DZ27 hr (by decide) rfl (aa (pv 3) (aa (pv 4) (aa (pv 5) (aa (pv 8) ag))))) cr (aG _)) (af (a8 (eE (pv 2) DZ17 hr (by decide) (aa (pv 9) ag))) (af (a8 (qE (pv 5) (pv 9) ⟨rfl,rfl,rfl,rfl⟩)) (ak (aX (cc (bG (aS DZ32 hr (by decide) rfl (aa (pv 2) (aa (pv 3) (aa (pv 4) (aa (pv 5) (aa (pv 8) ag)))))))) (ak (aH bZ)) aI)))) aI))) (ak (aH (dH j5 (aS DZ27 hr (by decide) rfl (aa (pv 3) (aa (pv 4) (aa (pv 5) (aa (pv 8) ag))))) cr (aG _))))))))))))),?_⟩
 have slt : (3000 : Nat) < sizeLine := by decide
 refine ⟨_,rfl,a,ns,1,rfl,hS,(by decide),fun c1 => ⟨_,rfl,a,ns,0,rfl,hS,(by decide),fun hd => ⟨_,_,rfl,rfl,(by show (5 : Int) ≠ 0; decide),_,_,rfl,rfl,?_⟩⟩⟩
 have m0 := AI hd (show (0 : Int) < 5 by decide)
 have m1 := AU hd (show (0 : Int) < 5 by decide)
 refine ⟨c1,_,rfl,(by omega),(by omega),fun ln H1 zs g1 en zl nz ndz => ?_⟩
 have z2 : 2 <= zs.length := by omega
 have z6 : zs.length <= 6 := by omega
 clear zl m0 m1 hd c1
 try dsimp only [bC,bE]
 intro x dx nx ndx ne
 refine ⟨x,dx,rfl,ac,fun H2 F0 k2 f0 lb => ⟨rfl,?_⟩⟩
 have g2 : ay H1 H2 := fun b o e => k2 b o (fun z => by rw [z,nx] at e; cases e) (by rw [ae (fun z => by rw [z,nx] at e; cases e),ae (fun z => by rw [z,ndx] at e; cases e)]; exact e)
 try dsimp only [bC,bE]
 refine fun dp n1 => ?_
 try dsimp only [bC,bE]
 refine fun ds n2 => ?_
 try dsimp only [bC,bE]
 refine fun db n3 => ?_
 have g3 := ((aj n1 (.dT [])).trans (aj n2 (.dT []))).trans (aj n3 (.dK []))
 have e1 := (aj n3 (.dK [])) _ _ ((aj n2 (.dT [])) dp _ ac)
 have e2 := (aj n3 (.dK [])) ds _ ac
 have e3 : aq (aq (aq H2 dp (.dT [])) ds (.dT [])) db (.dK []) db = some (.dK []) := ac
 have dn : dp ≠ ds := fun z => by rw [<- z,ac] at n2; cases n2
 have dF : db ∉ F0 := ((lb.same (aj n1 (.dT []))).same (aj n2 (.dT []))).free n3
 generalize aq (aq (aq H2 dp (.dT [])) ds (.dT [])) db (.dK []) = H3 at g3 e1 e2 e3 ⊢
 have lw : qa K c_Larder H3 x dp ds db zs 0 := ⟨F0,_,_,_,_,_,_,_,_,S6.start (lb.same g3) e1 e2 e3 dF dn z6⟩
 have en3 := g3 _ _ (g2 _ _ en)
 have gA := (g1.trans g2).trans g3
 have hS3 := gA.seq hS
 clear g3 e1 e2 e3 dn dF n1 n2 n3 g2 k2 lb f0 F0 en g1 ne ndx nx dx H2 H1 gA hS
 have zl : (zs.map V.str).length = zs.length := A5 _
 have zp : (0 : Int) < ((zs.map V.str).length : Int) := by omega
 have zn : ((zs.map V.str).length : Int) ≠ 0 := by omega
 have i0 : ∀ e : Int,0 <= e.fmod ((zs.map V.str).length : Int) /\ e.fmod ((zs.map V.str).length : Int) < (zs.length : Int) := fun e => ⟨AI _ zp,by have := AU e zp; omega⟩
 try dsimp only [bC,bE]
 refine cut (fun σ H' => ∃ (n : Nat) (o6 o7 o8 : Option V),σ = [some (.ref a),some (.ref ln),some (.ref x),some (.ref dp),some (.ref ds),some (.ref db),o6,o7,o8,none] /\ qa K c_Larder H' x dp ds db zs n /\ n <= 63 /\ H' ln = some (.lst (zs.map V.str)) /\ bh K H' a (ns.map V.int)) (fun N hN => ?_) ?_
 ·refine ⟨_,rfl,_,rfl,_,rfl,a,_,rfl,hS3,fun ls nls => ⟨ls,rfl,⟨_,bh.of ac⟩,?_⟩⟩
  have cl := gT (ns.map V.int) (some 2) (some 44)
  rw [A5] at cl
  have ci : ∀ v ∈ lj (ns.map V.int) (some 2) (some 44),∃ c : Int,v = .int c := fun v hv => by
   obtain ⟨c,_,e⟩ := AC.mp (List.mem_of_mem_drop (List.mem_of_mem_take hv))
   exact ⟨c,e.symm⟩
  generalize lj (ns.map V.int) (some 2) (some 44) = cells at cl ci
  have g4 := aj nls (.lst cells)
  refine rL (xs := cells) (fun i σ H' => H' ls = some (.lst cells) /\ H' ln = some (.lst (zs.map V.str)) /\ bh K H' a (ns.map V.int) /\ qa K c_Larder H' x dp ds db zs i /\ ∃ (o6 o7 o8 : Option V),σ = [some (.ref a),some (.ref ln),some (.ref x),some (.ref dp),some (.ref ds),some (.ref db),o6,o7,o8,none]) ⟨ac,g4 _ _ en3,g4.seq hS3,lw.same g4,none,none,none,rfl⟩ (fun i σ H' _ h => bh.of h.1) ?_ ?_
  ·rintro i v σ H4 T hv ⟨el,en4,hS4,lw4,o6,o7,o8,rfl⟩ hT
   have il := (A1.mp hv).1
   obtain ⟨c,rfl⟩ := ci v (A8 hv)
   have kT := aj hT (.tup [.int (i : Int),.int c])
   refine ⟨T,_,rfl,cu.of ac,rfl,_,_,rfl,_,_,rfl,rfl,?_⟩
   generalize aq H4 T (.tup [.int (i : Int),.int c]) = H5 at kT ⊢
   try dsimp only [bC,bE]
   refine ⟨_,rfl,_,rfl,_,rfl,_,rfl,_,rfl,_,rfl,x,dp,ds,db,ln,c,zs,i,rfl,lw4.same kT,by omega,kT _ _ en4,z2,⟨ndz,nz⟩,fun H6 k6 lw6 => ?_⟩
   have el6 := k6 _ _ (fun _ z => by cases z) (fun _ z => by cases z) (kT _ _ el)
   have en6 := k6 _ _ (fun _ z => by cases z) (fun _ z => by cases z) (kT _ _ en4)
   have hS6 := k6.seq (kT.seq hS4)
   obtain ⟨zg,eg,gin⟩ := lX (i0 (c.fdiv 3)).1 (i0 (c.fdiv 3)).2
   try dsimp only [bC,bE]
   refine ⟨_,rfl,_,rfl,_,_,rfl,rfl,⟨by decide,Aq (by decide)⟩,_,rfl,ln,_,rfl,.inl (bh.of en6),_,_,rfl,rfl,zn,ln,_,_,_,rfl,rfl,bh.of en6,eg,?_⟩
   try dsimp only [bC,bE]
   refine ⟨_,rfl,_,_,rfl,rfl,(by show (4 : Int) ≠ 0; decide),rfl,_,rfl,wk (fun _ => ⟨_,rfl,_,rfl,_,rfl,_,rfl,_,rfl,x,dp,ds,db,zg,zs,i + 1,rfl,lw6,by omega,nz zg gin,fun H7 g7 => ⟨true,rfl,bS ⟨g7 _ _ el6,g7 _ _ en6,g7.seq hS6,lw6.same g7,_,_,_,rfl⟩⟩⟩) (fun _ => ⟨el6,en6,hS6,lw6,_,_,_,rfl⟩)⟩
  ·rintro σ H4 ⟨el,en4,hS4,lw4,o6,o7,o8,rfl⟩
   exact hN _ _ ⟨_,o6,o7,o8,rfl,lw4,by omega,en4,hS4⟩
 clear lw en3 hS3 H3
 rintro σ H3 ⟨n,o6,o7,o8,rfl,lw,n63,en3,hS3⟩
 refine cut (fun σ H' => ∃ (o8 : Option V),σ = [some (.ref a),some (.ref ln),some (.ref x),some (.ref dp),some (.ref ds),some (.ref db),o6,o7,o8,none] /\ qa K c_Larder H' x dp ds db zs n /\ H' ln = some (.lst (zs.map V.str)) /\ bh K H' a (ns.map V.int)) (fun N hN => ?_) ?_
 ·refine ⟨_,rfl,ln,rfl,⟨_,bh.of en3⟩,dX (xs := zs.map V.str) (fun i σ H' => H' ln = some (.lst (zs.map V.str)) /\ bh K H' a (ns.map V.int) /\ qa K c_Larder H' x dp ds db zs n /\ ∃ o8 : Option V,σ = [some (.ref a),some (.ref ln),some (.ref x),some (.ref dp),some (.ref ds),some (.ref db),o6,o7,o8,none]) ⟨en3,hS3,lw,o8,rfl⟩ (fun i σ H' _ h => bh.of h.1) ?_ ?_⟩
  ·rintro i v σ H4 hv ⟨en4,hS4,lw4,o8,rfl⟩
   rw [AK] at hv
   cases hz : zs[i]? with
   | none => rw [hz] at hv; cases hv
   | some z =>
    rw [hz] at hv
    cases hv
    exact ⟨_,rfl,_,rfl,_,rfl,_,rfl,_,rfl,x,dp,ds,db,z,zs,n,rfl,lw4,n63,nz z (A8 hz),fun H5 g5 => ⟨true,rfl,bS ⟨g5 _ _ en4,g5.seq hS4,lw4.same g5,_,rfl⟩⟩⟩
  ·rintro σ H4 ⟨en4,hS4,lw4,o8,rfl⟩
   exact hN _ _ ⟨o8,rfl,lw4,en4,hS4⟩
 clear lw en3 hS3 H3
 rintro σ H3 ⟨o8,rfl,lw,en3,hS3⟩
 try dsimp only [bC,bE]
 refine ⟨_,rfl,_,rfl,a,ns,0,rfl,hS3,(by decide),fun hd => ?_⟩
 obtain ⟨zg,eg,gin⟩ := lX (i0 (hd.fdiv 5)).1 (i0 (hd.fdiv 5)).2
 have ng := nz zg gin
 refine ⟨_,_,rfl,rfl,⟨by decide,Aq (by decide)⟩,_,rfl,ln,_,rfl,.inl (bh.of en3),_,_,rfl,rfl,zn,ln,_,_,_,rfl,rfl,bh.of en3,eg,?_⟩
 obtain ⟨F1,rows,m,g,bs,ns',ps,es,vw,s6⟩ := lw
 have b6 := s6.d6.bars
 try dsimp only [bC,bE]
 refine cut (fun σ H' => ∃ (o9 : Option V) (bs' : List Str),σ = [some (.ref a),some (.ref ln),some (.ref x),some (.ref dp),some (.ref ds),some (.ref db),o6,o7,some (.str zg),o9] /\ S6 K c_Larder H' x dp ds db zs n F1 rows m g bs' ns' ps es vw /\ ∃ p,fD (gn es) zg p /\ ¬ Blk ps bs' (az p)) (fun N hN => ?_) ?_
 ·refine ⟨_,rfl,db,bs,_,rfl,s6.d6.eb,tZ bs _,s6.d6.bnd,by omega,fun ls ys nls pm so => ⟨ls,rfl,⟨_,bh.of ac⟩,?_⟩⟩
  have g4 := aj nls (.lst (ys.map V.str))
  have ndy : ys.Nodup := pm.nodup_iff.mpr s6.d6.bnd
  refine dX (xs := ys.map V.str) (fun i σ H' => H' ls = some (.lst (ys.map V.str)) /\ ∃ (o9 : Option V) (bs' : List Str),σ = [some (.ref a),some (.ref ln),some (.ref x),some (.ref dp),some (.ref ds),some (.ref db),o6,o7,some (.str zg),o9] /\ S6 K c_Larder H' x dp ds db zs n F1 rows m g bs' ns' ps es vw /\ ((∃ p,fD (gn es) zg p /\ ¬ Blk ps bs' (az p)) ∨ ∀ y,y ∈ bs' ↔ y ∈ ys.drop i)) ⟨ac,none,bs,rfl,s6.same g4,.inr fun y => by rw [List.drop_zero]; exact pm.mem_iff.symm⟩ (fun i σ H' _ h => bh.of h.1) ?_ ?_
  ·rintro i v σ H4 hv ⟨el,o9,bs',rfl,s4,hb4⟩
   rw [AK] at hv
   cases hz : ys[i]? with
   | none => rw [hz] at hv; cases hv
   | some z =>
    rw [hz] at hv
    cases hv
    have zin : z ∈ zs := s6.d6.binn z (pm.mem_iff.mp (A8 hz))
    have nzz := nz z zin
    refine ⟨_,rfl,_,rfl,_,rfl,_,rfl,dp,ds,db,zg,zs,ps,es,bs',vw,rfl,s4.d6,fun H5 g5 all => ?_,fun t cl rl c p q' H5 g5 due _ _ _ _ _ => ?_⟩
    ·refine ⟨rfl,_,rfl,d2 (fun _ => ?_) (fun w => absurd rfl w)⟩
     have s5 := s4.same g5
     have hd' : ∀ y,y ∈ bs' ↔ y ∈ ys.drop i := by
      rcases hb4 with ⟨p,h1,h2⟩ | h
      ·exact absurd (all p h1) h2
      ·exact h
     have zb : z ∈ bs' := (hd' z).mpr (A8 (i := 0) (by rw [List.getElem?_drop]; exact hz))
     obtain ⟨dx,s0,b0,fs,dk,ex,es0,eb,bd,hb,fm,sF,bF,pb⟩ := s5.lb.at_
     refine ⟨_,rfl,x,_,dx,_,rfl,ex,B.cl_Larder,B.me_Z17,fm _ (by decide),_,rfl,x,z,F1,rows,m,g,bs',ns',rfl,s5.lb,nzz,fun H6 k6 lb6 => ?_⟩
     have d6' := s5.d6k k6
     have el6 := k6 _ _ (s5.lb.not (g5 _ _ el) (fun _ z => nomatch z)) (g5 _ _ el)
     have hval : aE (aO bs' (.bl true)) (.inr z) = some (.bl true) := by rw [cX,if_pos zb]
     refine ⟨_,rfl,db,rfl,.inl ⟨_,.inl d6'.eb⟩,_,rfl,_,.inr z,_,d6'.eb,rfl,hval,?_⟩
     rw [gO]
     have s7 := s5.barred k6 lb6 s5.nn s5.nsm (i9 s5.d6.bnd) (fun y hy => s5.d6.binn y (i8.mp hy).1)
     have el7 : aq H6 db (.dK (aO (gM bs' z) (.bl true))) ls = some (.lst (ys.map V.str)) := gp d6'.eb el6 (fun z => nomatch z)
     generalize aq H6 db (.dK (aO (gM bs' z) (.bl true))) = H7 at s7 el7 ⊢
     exact ⟨_,rfl,_,rfl,_,rfl,_,rfl,_,rfl,x,dp,ds,db,zg,zs,n,rfl,⟨F1,rows,m,g,_,ns',ps,es,vw,s7⟩,n63,ng,fun H8 g8 => ⟨true,rfl,bS ⟨g8 _ _ el7,_,_,rfl,s7.same g8,.inr (r6 ndy hz hd')⟩⟩⟩
    ·exact ⟨rfl,_,rfl,d2 (fun w => nomatch w) (fun _ => ⟨g5 _ _ el,_,bs',rfl,s4.same g5,.inl ⟨c,due.1,due.2.1⟩⟩)⟩
  ·rintro σ H4 ⟨el,o9,bs',rfl,s4,hb4⟩
   refine hN _ _ ⟨o9,bs',rfl,s4,?_⟩
   rcases hb4 with h | h
   ·exact h
   ·refine ⟨[zg],.one,fun ⟨b,hb,_⟩ => ?_⟩
    have := (h b).mp hb
    rw [A5,List.drop_length] at this
    cases this
 rintro σ H4 ⟨o9,bs',rfl,s4,p,hp,nb⟩
 refine ⟨_,rfl,_,rfl,_,rfl,_,rfl,dp,ds,db,zg,zs,ps,es,bs',vw,rfl,s4.d6,fun H5 g5 all => absurd (all p hp) nb,fun t cl rl c p q' H5 g5 due _ _ _ _ _ => ⟨rfl,?_⟩⟩
 exact q _
end
abbrev FnAt (K : A0) (f : Addr) (n q : Str) (st : Stmt) (dV : Value) : Prop := ∃ (oc : Value) (od : Option Addr) (kV dc pm : Value) (an : Option Addr) (cd ct : Value) (sl : Array (Option Value)),K.lookup f = some ⟨oc,od,.func (Ay n q (cT st) (cq st) (ap st) dV kV dc pm an cd ct),sl⟩ /\ BI K cd q = true /\ Aw K (.ref f) = true
set_option maxHeartbeats 4000000 in
theorem wf {l : PySem.W.OpenLaw} {w : World} {K : A0} {h : Heap} {mg : Str -> Option Value} {fa fZ0 fZ2 fZ3 fis_Z3 fZ5 fZ6 fZ7 fZ8 fZ9 fZ10 fZ11 fZ20 fZ21 fZ22 fZ23 fZ24 fZ25 fZ26 fZ27 fZ28 fZ29 fZ30 fZ31 fZ32 fZ33 flaw c_EmptyHeap c_InRing c_Larder c_NoAmount c_NoDish c_NoName c_NoNet c_NoNumber c_NoPack c_NoPlan c_NoRow c_NoStand c_NoStandIn c_NoStep c_StoveError c_TooFew c_TooMany c_Twice f_Z12 f_Z13 f_Z14 f_Z15 f_Z16 f_Z17 f_Z18 f_Z19 f_NoStandIn f_InRing : Addr} (X : K.In h) (G : h.Ns mainGlobals mg) (hfa : mg "law" = some (.ref fa))
  {od_NoStandIn an_NoStandIn od_InRing an_InRing odlaw anlaw : Option Addr} {sl_NoStandIn sl_InRing sllaw : Array (Option Value)} {oc_NoStandIn kV_NoStandIn dc_NoStandIn pm_NoStandIn cd_NoStandIn ct_NoStandIn oc_InRing kV_InRing dc_InRing pm_InRing cd_InRing ct_InRing oclaw kVlaw dclaw pmlaw cdlaw ctlaw : Value}
  {tk_LETTERS : Tok}
  {tk_MOST_LETTERS : Tok}
  {tk_MOST_NAMES : Tok}
  {TZ3 : Addr} {ToZ3 : Value} {TdZ3 : Option Addr} {TnZ3 : Nat} {TsZ3 : Array (Option Value)} {TtZ3 : Tok}
  {TZ18 : Addr} {ToZ18 : Value} {TdZ18 : Option Addr} {TnZ18 : Nat} {TsZ18 : Array (Option Value)}
  (aZ0 : A6 K mainGlobals "is_whole" = some (some (.ref fZ0)))
  (qZ0 : FnAt K fZ0 "is_whole" "is_whole" yL .none)
  (aZ2 : A6 K mainGlobals "divisor" = some (some (.ref fZ2)))
  (qZ2 : FnAt K fZ2 "divisor" "divisor" yM .none)
  (aZ3 : A6 K mainGlobals "fraction" = some (some (.ref fZ3)))
  (qZ3 : FnAt K fZ3 "fraction" "fraction" yN (.ref TZ3))
  (ais_Z3 : A6 K mainGlobals "is_fraction" = some (some (.ref fis_Z3)))
  (qis_Z3 : FnAt K fis_Z3 "is_fraction" "is_fraction" kS .none)
  (aZ5 : A6 K mainGlobals "product" = some (some (.ref fZ5)))
  (qZ5 : FnAt K fZ5 "product" "product" yO .none)
  (aZ6 : A6 K mainGlobals "ways_out" = some (some (.ref fZ6)))
  (qZ6 : FnAt K fZ6 "ways_out" "ways_out" yP .none)
  (aZ7 : A6 K mainGlobals "is_name" = some (some (.ref fZ7)))
  (qZ7 : FnAt K fZ7 "is_name" "is_name" yQ .none)
  (aZ8 : A6 K mainGlobals "refuse_no_names" = some (some (.ref fZ8)))
  (qZ8 : FnAt K fZ8 "refuse_no_names" "refuse_no_names" yR .none)
  (aZ9 : A6 K mainGlobals "names_ahead" = some (some (.ref fZ9)))
  (qZ9 : FnAt K fZ9 "names_ahead" "names_ahead" yS .none)
  (aZ10 : A6 K mainGlobals "chain_to" = some (some (.ref fZ10)))
  (qZ10 : FnAt K fZ10 "chain_to" "chain_to" t6 .none)
  (aZ11 : A6 K mainGlobals "chain_down" = some (some (.ref fZ11)))
  (qZ11 : FnAt K fZ11 "chain_down" "chain_down" t8 .none)
  (aZ20 : A6 K mainGlobals "_law_cell_at" = some (some (.ref fZ20)))
  (qZ20 : FnAt K fZ20 "_law_cell_at" "_law_cell_at" uh .none)
  (aZ21 : A6 K mainGlobals "_law_names" = some (some (.ref fZ21)))
  (qZ21 : FnAt K fZ21 "_law_names" "_law_names" ui .none)
  (aZ22 : A6 K mainGlobals "_law_divisor_of" = some (some (.ref fZ22)))
  (qZ22 : FnAt K fZ22 "_law_divisor_of" "_law_divisor_of" uj .none)
  (aZ23 : A6 K mainGlobals "_law_lowest" = some (some (.ref fZ23)))
  (qZ23 : FnAt K fZ23 "_law_lowest" "_law_lowest" uk .none)
  (aZ24 : A6 K mainGlobals "_law_ratio" = some (some (.ref fZ24)))
  (qZ24 : FnAt K fZ24 "_law_ratio" "_law_ratio" um .none)
  (aZ25 : A6 K mainGlobals "_law_free" = some (some (.ref fZ25)))
  (qZ25 : FnAt K fZ25 "_law_free" "_law_free" uo .none)
  (aZ26 : A6 K mainGlobals "_law_least" = some (some (.ref fZ26)))
  (qZ26 : FnAt K fZ26 "_law_least" "_law_least" uq .none)
  (aZ27 : A6 K mainGlobals "_law_due" = some (some (.ref fZ27)))
  (qZ27 : FnAt K fZ27 "_law_due" "_law_due" ur .none)
  (aZ28 : A6 K mainGlobals "_law_alone" = some (some (.ref fZ28)))
  (qZ28 : FnAt K fZ28 "_law_alone" "_law_alone" ut .none)
  (aZ29 : A6 K mainGlobals "_law_asked" = some (some (.ref fZ29)))
  (qZ29 : FnAt K fZ29 "_law_asked" "_law_asked" uu .none)
  (aZ30 : A6 K mainGlobals "_law_given_so" = some (some (.ref fZ30)))
  (qZ30 : FnAt K fZ30 "_law_given_so" "_law_given_so" uw .none)
  (aZ31 : A6 K mainGlobals "_law_barred_so" = some (some (.ref fZ31)))
  (qZ31 : FnAt K fZ31 "_law_barred_so" "_law_barred_so" ux .none)
  (aZ32 : A6 K mainGlobals "_law_right" = some (some (.ref fZ32)))
  (qZ32 : FnAt K fZ32 "_law_right" "_law_right" uy .none)
  (aZ33 : A6 K mainGlobals "_law_deed" = some (some (.ref fZ33)))
  (qZ33 : FnAt K fZ33 "_law_deed" "_law_deed" uz .none)
  (alaw : A6 K mainGlobals "law" = some (some (.ref flaw)))
  (llaw : K.lookup flaw = some ⟨oclaw,odlaw,.func (Ay "law" "law" (cT kU) (cq kU) (ap kU) .none kVlaw dclaw pmlaw anlaw cdlaw ctlaw),sllaw⟩) (claw : BI K cdlaw "law" = true) (klaw : Aw K (.ref flaw) = true)
  (zg_LETTERS : A6 K mainGlobals "LETTERS" = some (some (.str "abcdefghijklmnopqrstuvwxyz" tk_LETTERS)))
  (zg_MOST_LETTERS : A6 K mainGlobals "MOST_LETTERS" = some (some (.int 12 tk_MOST_LETTERS)))
  (zg_MOST_NAMES : A6 K mainGlobals "MOST_NAMES" = some (some (.int 80 tk_MOST_NAMES)))
  (zb_abs : A6 K mainGlobals "abs" = some none)
  (zb_bool : A6 K mainGlobals "bool" = some none)
  (zb_enumerate : A6 K mainGlobals "enumerate" = some none)
  (zb_int : A6 K mainGlobals "int" = some none)
  (zb_isinstance : A6 K mainGlobals "isinstance" = some none)
  (zb_len : A6 K mainGlobals "len" = some none)
  (zb_list : A6 K mainGlobals "list" = some none)
  (zb_max : A6 K mainGlobals "max" = some none)
  (zb_min : A6 K mainGlobals "min" = some none)
  (zb_range : A6 K mainGlobals "range" = some none)
  (zb_reversed : A6 K mainGlobals "reversed" = some none)
  (zb_sorted : A6 K mainGlobals "sorted" = some none)
  (zb_str : A6 K mainGlobals "str" = some none)
  (zb_tuple : A6 K mainGlobals "tuple" = some none)
  (zm_EmptyHeap : A6 K mainGlobals "EmptyHeap" = some (some (.ref c_EmptyHeap)))
  (zm_InRing : A6 K mainGlobals "InRing" = some (some (.ref c_InRing)))
  (zm_Larder : A6 K mainGlobals "Larder" = some (some (.ref c_Larder)))
  (zm_NoAmount : A6 K mainGlobals "NoAmount" = some (some (.ref c_NoAmount)))
  (zm_NoDish : A6 K mainGlobals "NoDish" = some (some (.ref c_NoDish)))
  (zm_NoName : A6 K mainGlobals "NoName" = some (some (.ref c_NoName)))
  (zm_NoNet : A6 K mainGlobals "NoNet" = some (some (.ref c_NoNet)))
  (zm_NoNumber : A6 K mainGlobals "NoNumber" = some (some (.ref c_NoNumber)))
  (zm_NoPack : A6 K mainGlobals "NoPack" = some (some (.ref c_NoPack)))
  (zm_NoPlan : A6 K mainGlobals "NoPlan" = some (some (.ref c_NoPlan)))
  (zm_NoRow : A6 K mainGlobals "NoRow" = some (some (.ref c_NoRow)))
  (zm_NoStand : A6 K mainGlobals "NoStand" = some (some (.ref c_NoStand)))
  (zm_NoStandIn : A6 K mainGlobals "NoStandIn" = some (some (.ref c_NoStandIn)))
  (zm_NoStep : A6 K mainGlobals "NoStep" = some (some (.ref c_NoStep)))
  (zm_StoveError : A6 K mainGlobals "StoveError" = some (some (.ref c_StoveError)))
  (zm_TooFew : A6 K mainGlobals "TooFew" = some (some (.ref c_TooFew)))
  (zm_TooMany : A6 K mainGlobals "TooMany" = some (some (.ref c_TooMany)))
  (zm_Twice : A6 K mainGlobals "Twice" = some (some (.ref c_Twice)))
  (atZ12 : AH K (.ref c_Larder) "__init__" = some (some (.ref f_Z12)))
  (qZ12 : FnAt K f_Z12 "__init__" "Larder.__init__" t9 .none)
  (atZ13 : AH K (.ref c_Larder) "learn" = some (some (.ref f_Z13)))
  (qZ13 : FnAt K f_Z13 "learn" "Larder.learn" ua .none)
  (atZ14 : AH K (.ref c_Larder) "part" = some (some (.ref f_Z14)))
  (qZ14 : FnAt K f_Z14 "part" "Larder.part" ub .none)
  (atZ15 : AH K (.ref c_Larder) "barred" = some (some (.ref f_Z15)))
  (qZ15 : FnAt K f_Z15 "barred" "Larder.barred" uc .none)
  (atZ16 : AH K (.ref c_Larder) "bar" = some (some (.ref f_Z16)))
  (qZ16 : FnAt K f_Z16 "bar" "Larder.bar" ud .none)
  (atZ17 : AH K (.ref c_Larder) "allow" = some (some (.ref f_Z17)))
  (qZ17 : FnAt K f_Z17 "allow" "Larder.allow" ue .none)
  (atZ18 : AH K (.ref c_Larder) "stand" = some (some (.ref f_Z18)))
  (qZ18 : FnAt K f_Z18 "stand" "Larder.stand" uf (.ref TZ18))
  (atZ19 : AH K (.ref c_Larder) "stand_in" = some (some (.ref f_Z19)))
  (qZ19 : FnAt K f_Z19 "stand_in" "Larder.stand_in" ug .none)
  (dZ3 : K.lookup TZ3 = some ⟨ToZ3,TdZ3,.seq #[.int 1 TtZ3] TnZ3,TsZ3⟩)
  (dZ18 : K.lookup TZ18 = some ⟨ToZ18,TdZ18,.seq #[.none] TnZ18,TsZ18⟩)
  (zx_NoName : BN K c_NoName p9 "ValueError.__new__" = true)
  (zi_NoName : XI K c_NoName)
  (zx_NoStand : BN K c_NoStand p9 "ValueError.__new__" = true)
  (zi_NoStand : XI K c_NoStand)
  (zx_NoNumber : BN K c_NoNumber p9 "ValueError.__new__" = true)
  (zi_NoNumber : XI K c_NoNumber)
  (zt_NoStandIn : XT K c_NoStandIn)
  (zs_NoStandIn_NoStandIn : PySem.W.subIn K (.ref c_NoStandIn) (.ref c_NoStandIn) = some true)
  (zk_NoStandIn_StoveError : Av K (.ref c_NoStandIn) (.ref c_StoveError) = some true)
  (za_NoStandIn : XA K c_NoStandIn c_StoveError)
  (zn_NoStandIn : AH K (.ref c_NoStandIn) "good" = some none)
  (za_InRing : XA K c_InRing c_StoveError)
  (zn_InRing : AH K (.ref c_InRing) "ring" = some none)
  (zi_NoStandIn : XI K c_NoStandIn)
  (zi_InRing : XI K c_InRing)
  (zka_NoStandIn_1 : PySem.W.kitAny K (.ref c_NoStandIn) [.ref c_EmptyHeap,.ref c_InRing,.ref c_NoAmount,.ref c_NoDish,.ref c_NoName,.ref c_NoNet,.ref c_NoNumber,.ref c_NoPack,.ref c_NoPlan,.ref c_NoRow] = some false)
  (zka_NoStandIn_2 : PySem.W.kitAny K (.ref c_NoStandIn) [.ref c_NoStand,.ref c_NoStep,.ref c_TooFew,.ref c_TooMany,.ref c_Twice] = some false)
  (zcl_Larder : nJ K c_Larder)
  (zmk_Larder : Mk K c_Larder f_Z12)
  (zme_Z14 : eB K c_Larder "part" f_Z14)
  (zme_Z18 : eB K c_Larder "stand" f_Z18)
  (zme_Z16 : eB K c_Larder "bar" f_Z16)
  (zme_Z17 : eB K c_Larder "allow" f_Z17)
  (zme_Z15 : eB K c_Larder "barred" f_Z15)
  (zme_Z19 : eB K c_Larder "stand_in" f_Z19)
  (zme_Z13 : eB K c_Larder "learn" f_Z13)
  (zna_Larder_parts : b5 K c_Larder "parts")
  (zna_Larder_stands : b5 K c_Larder "stands")
  (zna_Larder_bars : b5 K c_Larder "bars")
  (zna_Larder_names : b5 K c_Larder "names")
  (ci_NoStandIn : w9 K c_NoStandIn f_NoStandIn)
  (l_NoStandIn : K.lookup f_NoStandIn = some ⟨oc_NoStandIn,od_NoStandIn,.func (Ay "__init__" "NoStandIn.__init__" (cT cG) (cq cG) (ap cG) .none kV_NoStandIn dc_NoStandIn pm_NoStandIn an_NoStandIn cd_NoStandIn ct_NoStandIn),sl_NoStandIn⟩) (cc_NoStandIn : BI K cd_NoStandIn "NoStandIn.__init__" = true) (k_NoStandIn : Aw K (.ref f_NoStandIn) = true)
  (ci_InRing : w9 K c_InRing f_InRing)
  (l_InRing : K.lookup f_InRing = some ⟨oc_InRing,od_InRing,.func (Ay "__init__" "InRing.__init__" (cT d9) (cq d9) (ap d9) .none kV_InRing dc_InRing pm_InRing an_InRing cd_InRing ct_InRing),sl_InRing⟩) (cc_InRing : BI K cd_InRing "InRing.__init__" = true) (k_InRing : Aw K (.ref f_InRing) = true)
  : ∃ fd : FuncData,(∀ (s : Shared) (v : Value),BindsTo s fd ⟨[v],[]⟩ [("_law_script",v)]) /\ ∀ base : Heap,K.In base -> base.Ns mainGlobals mg -> bg l.prog w K mg base a9 9 fa fd ["_law_script"] (nR K) := by
 have e := hfa.symm.trans (A9 X G alaw)
 cases e
 have B : Bn K mg c_EmptyHeap c_InRing c_Larder c_NoAmount c_NoDish c_NoName c_NoNet c_NoNumber c_NoPack c_NoPlan c_NoRow c_NoStand c_NoStandIn c_NoStep c_StoveError c_TooFew c_TooMany c_Twice f_Z12 f_Z13 f_Z14 f_Z15 f_Z16 f_Z17 f_Z18 f_Z19 := ⟨Exists.intro _ <| A9 X G zg_LETTERS,Exists.intro _ <| A9 X G zg_MOST_LETTERS,Exists.intro _ <| A9 X G zg_MOST_NAMES,AX X G zb_abs,AX X G zb_bool,AX X G zb_enumerate,AX X G zb_int,AX X G zb_isinstance,AX X G zb_len,AX X G zb_list,AX X G zb_max,AX X G zb_min,AX X G zb_range,AX X G zb_reversed,AX X G zb_sorted,AX X G zb_str,AX X G zb_tuple,A9 X G zm_EmptyHeap,A9 X G zm_InRing,A9 X G zm_Larder,A9 X G zm_NoAmount,A9 X G zm_NoDish,A9 X G zm_NoName,A9 X G zm_NoNet,A9 X G zm_NoNumber,A9 X G zm_NoPack,A9 X G zm_NoPlan,A9 X G zm_NoRow,A9 X G zm_NoStand,A9 X G zm_NoStandIn,A9 X G zm_NoStep,A9 X G zm_StoveError,A9 X G zm_TooFew,A9 X G zm_TooMany,A9 X G zm_Twice,zx_NoName,zi_NoName,zx_NoStand,zi_NoStand,zx_NoNumber,zi_NoNumber,zt_NoStandIn,zs_NoStandIn_NoStandIn,zk_NoStandIn_StoveError,za_NoStandIn,zn_NoStandIn,za_InRing,zn_InRing,zi_NoStandIn,zi_InRing,zka_NoStandIn_1,zka_NoStandIn_2,zcl_Larder,zmk_Larder,zme_Z14,zme_Z18,zme_Z16,zme_Z17,zme_Z15,zme_Z19,zme_Z13,zna_Larder_parts,zna_Larder_stands,zna_Larder_bars,zna_Larder_names⟩
 obtain ⟨_,_,_,_,_,_,_,_,_,lZ0,cZ0,kZ0⟩ := qZ0
 obtain ⟨_,_,_,_,_,_,_,_,_,lZ2,cZ2,kZ2⟩ := qZ2
 obtain ⟨_,_,_,_,_,_,_,_,_,lZ3,cZ3,kZ3⟩ := qZ3
 obtain ⟨_,_,_,_,_,_,_,_,_,lis_Z3,cis_Z3,kis_Z3⟩ := qis_Z3
 obtain ⟨_,_,_,_,_,_,_,_,_,lZ5,cZ5,kZ5⟩ := qZ5
 obtain ⟨_,_,_,_,_,_,_,_,_,lZ6,cZ6,kZ6⟩ := qZ6
 obtain ⟨_,_,_,_,_,_,_,_,_,lZ7,cZ7,kZ7⟩ := qZ7
 obtain ⟨_,_,_,_,_,_,_,_,_,lZ8,cZ8,kZ8⟩ := qZ8
 obtain ⟨_,_,_,_,_,_,_,_,_,lZ9,cZ9,kZ9⟩ := qZ9
 obtain ⟨_,_,_,_,_,_,_,_,_,lZ10,cZ10,kZ10⟩ := qZ10
 obtain ⟨_,_,_,_,_,_,_,_,_,lZ11,cZ11,kZ11⟩ := qZ11
 obtain ⟨_,_,_,_,_,_,_,_,_,lZ20,cZ20,kZ20⟩ := qZ20
 obtain ⟨_,_,_,_,_,_,_,_,_,lZ21,cZ21,kZ21⟩ := qZ21
 obtain ⟨_,_,_,_,_,_,_,_,_,lZ22,cZ22,kZ22⟩ := qZ22
 obtain ⟨_,_,_,_,_,_,_,_,_,lZ23,cZ23,kZ23⟩ := qZ23
 obtain ⟨_,_,_,_,_,_,_,_,_,lZ24,cZ24,kZ24⟩ := qZ24
 obtain ⟨_,_,_,_,_,_,_,_,_,lZ25,cZ25,kZ25⟩ := qZ25
 obtain ⟨_,_,_,_,_,_,_,_,_,lZ26,cZ26,kZ26⟩ := qZ26
 obtain ⟨_,_,_,_,_,_,_,_,_,lZ27,cZ27,kZ27⟩ := qZ27
 obtain ⟨_,_,_,_,_,_,_,_,_,lZ28,cZ28,kZ28⟩ := qZ28
 obtain ⟨_,_,_,_,_,_,_,_,_,lZ29,cZ29,kZ29⟩ := qZ29
 obtain ⟨_,_,_,_,_,_,_,_,_,lZ30,cZ30,kZ30⟩ := qZ30
 obtain ⟨_,_,_,_,_,_,_,_,_,lZ31,cZ31,kZ31⟩ := qZ31
 obtain ⟨_,_,_,_,_,_,_,_,_,lZ32,cZ32,kZ32⟩ := qZ32
 obtain ⟨_,_,_,_,_,_,_,_,_,lZ33,cZ33,kZ33⟩ := qZ33
 obtain ⟨_,_,_,_,_,_,_,_,_,lZ12,cZ12,kZ12⟩ := qZ12
 obtain ⟨_,_,_,_,_,_,_,_,_,lZ13,cZ13,kZ13⟩ := qZ13
 obtain ⟨_,_,_,_,_,_,_,_,_,lZ14,cZ14,kZ14⟩ := qZ14
 obtain ⟨_,_,_,_,_,_,_,_,_,lZ15,cZ15,kZ15⟩ := qZ15
 obtain ⟨_,_,_,_,_,_,_,_,_,lZ16,cZ16,kZ16⟩ := qZ16
 obtain ⟨_,_,_,_,_,_,_,_,_,lZ17,cZ17,kZ17⟩ := qZ17
 obtain ⟨_,_,_,_,_,_,_,_,_,lZ18,cZ18,kZ18⟩ := qZ18
 obtain ⟨_,_,_,_,_,_,_,_,_,lZ19,cZ19,kZ19⟩ := qZ19
 have FZ0 := aJ (st := yL) lZ0 cZ0 kZ0
 have FZ1 := aJ (st := zF) lZ0 cZ0 kZ0
 have FZ2 := aJ (st := yM) lZ2 cZ2 kZ2
 have FZ3 := aJ (st := yN) lZ3 cZ3 kZ3
 have Fis_Z3 := aJ (st := kS) lis_Z3 cis_Z3 kis_Z3
 have FZ5 := aJ (st := yO) lZ5 cZ5 kZ5
 have FZ6 := aJ (st := yP) lZ6 cZ6 kZ6
 have FZ7 := aJ (st := yQ) lZ7 cZ7 kZ7
 have FZ8 := aJ (st := yR) lZ8 cZ8 kZ8
 have FZ9 := aJ (st := yS) lZ9 cZ9 kZ9
 have FZ10 := aJ (st := t6) lZ10 cZ10 kZ10
 have FZ11 := aJ (st := t8) lZ11 cZ11 kZ11
 have FZ12 := aJ (st := t9) lZ12 cZ12 kZ12
 have FZ13 := aJ (st := ua) lZ13 cZ13 kZ13
 have FZ14 := aJ (st := ub) lZ14 cZ14 kZ14
 have FZ15 := aJ (st := uc) lZ15 cZ15 kZ15
 have FZ16 := aJ (st := ud) lZ16 cZ16 kZ16
 have FZ17 := aJ (st := ue) lZ17 cZ17 kZ17
 have FZ18 := aJ (st := uf) lZ18 cZ18 kZ18
 have FZ19 := aJ (st := ug) lZ19 cZ19 kZ19
 have FZ20 := aJ (st := uh) lZ20 cZ20 kZ20
 have FZ21 := aJ (st := ui) lZ21 cZ21 kZ21
 have FZ22 := aJ (st := uj) lZ22 cZ22 kZ22
 have FZ23 := aJ (st := uk) lZ23 cZ23 kZ23
 have FZ24 := aJ (st := um) lZ24 cZ24 kZ24
 have FZ25 := aJ (st := uo) lZ25 cZ25 kZ25
 have FZ26 := aJ (st := uq) lZ26 cZ26 kZ26
 have FZ27 := aJ (st := ur) lZ27 cZ27 kZ27
 have FZ28 := aJ (st := ut) lZ28 cZ28 kZ28
 have FZ29 := aJ (st := uu) lZ29 cZ29 kZ29
 have FZ30 := aJ (st := uw) lZ30 cZ30 kZ30
 have FZ31 := aJ (st := ux) lZ31 cZ31 kZ31
 have FZ32 := aJ (st := uy) lZ32 cZ32 kZ32
 have FZ33 := aJ (st := uz) lZ33 cZ33 kZ33
 have Flaw := aJ (st := kU) llaw claw klaw
 have F_NoStandIn := aJ (st := cG) l_NoStandIn cc_NoStandIn k_NoStandIn
 have F_InRing := aJ (st := d9) l_InRing cc_InRing k_InRing
 refine ⟨Ay "law" "law" (cT kU) (cq kU) (ap kU) .none kVlaw dclaw pmlaw anlaw cdlaw ctlaw,?bind,fun base _ _ => ?ok⟩
 case bind => exact fun s v => .of_eq rfl
 case ok =>
  have I_NoStandIn : xg l.prog w K mg base 1 c_NoStandIn ["self","good"] (fL c_NoStandIn "good") := ⟨f_NoStandIn,_,kX F_NoStandIn B,ci_NoStandIn,F_NoStandIn.binds0 (ps := ["self","good"]) fun _ _ _ _ _ _ us hl => match us,hl with | [_,_],_ => rfl⟩
  have I_InRing : xg l.prog w K mg base 1 c_InRing ["self","ring"] (fL c_InRing "ring") := ⟨f_InRing,_,p8 F_InRing B,ci_InRing,F_InRing.binds0 (ps := ["self","ring"]) fun _ _ _ _ _ _ us hl => match us,hl with | [_,_],_ => rfl⟩
  have bZ0 := FZ0.binds0 (ps := ["thing"]) fun _ _ _ _ _ _ us hl => match us,hl with | [_],_ => rfl
  have DZ0 : Dx l.prog w K mg base a9 1 "is_whole" ["thing"] [] kj := ⟨fZ0,_,zH FZ0 B ,A9 X G aZ0,kZ0,bZ0,⟨[],bZ0,.nil⟩⟩
  have bZ1 := FZ1.binds0 (ps := ["thing"]) fun _ _ _ _ _ _ us hl => match us,hl with | [_],_ => rfl
  have DZ1 : Dx l.prog w K mg base a9 1 "is_whole" ["thing"] [] (vD K) := ⟨fZ0,_,zJ FZ1 B ,A9 X G aZ0,kZ0,bZ1,⟨[],bZ1,.nil⟩⟩
  have bZ2 := FZ2.binds0 (ps := ["one","other"]) fun _ _ _ _ _ _ us hl => match us,hl with | [_,_],_ => rfl
  have DZ2 : Dx l.prog w K mg base a9 1 "divisor" ["one","other"] [] nQ := ⟨fZ2,_,zL FZ2 B ,A9 X G aZ2,kZ2,bZ2,⟨[],bZ2,.nil⟩⟩
  have XZ3 : Dx l.prog w K mg base (dz l.prog w) 2 "fraction" ["top","bottom"] [.int 1] (n9 c_NoNumber) := ⟨fZ3,_,zN FZ3 B DZ0 DZ2,A9 X G aZ3,kZ3,FZ3.binds (ps := ["top","bottom"]) (ds := []) dZ3 rfl fun _ _ _ _ _ _ us hl => match us,hl with | [_,_],_ => ⟨_,rfl,rfl⟩,⟨[.int 1 TtZ3],FZ3.binds (ps := ["top","bottom"]) (ds := [.int 1 TtZ3]) dZ3 rfl fun _ _ _ _ _ _ us hl => match us,hl with | [_],_ => ⟨_,rfl,rfl⟩ | [],h => absurd h (by simp) | _ :: _ :: _,h => absurd h (by simp),.cons ⟨_,rfl⟩ .nil⟩⟩
  have DZ3 : Dx l.prog w K mg base a9 2 "fraction" ["top","bottom"] [.int 1] sH := XZ3.calm vC
  have bis_Z3 := Fis_Z3.binds0 (ps := ["thing"]) fun _ _ _ _ _ _ us hl => match us,hl with | [_],_ => rfl
  have Dis_Z3 : Dx l.prog w K mg base a9 2 "is_fraction" ["thing"] [] (mQ K) := ⟨fis_Z3,_,zP Fis_Z3 B DZ1 DZ2,A9 X G ais_Z3,kis_Z3,bis_Z3,⟨[],bis_Z3,.nil⟩⟩
  have bZ5 := FZ5.binds0 (ps := ["one","other"]) fun _ _ _ _ _ _ us hl => match us,hl with | [_,_],_ => rfl
  have DZ5 : Dx l.prog w K mg base a9 3 "product" ["one","other"] [] (mL K) := ⟨fZ5,_,zR FZ5 B DZ3,A9 X G aZ5,kZ5,bZ5,⟨[],bZ5,.nil⟩⟩
  have bZ6 := FZ6.binds0 (ps := ["stands","good"]) fun _ _ _ _ _ _ us hl => match us,hl with | [_,_],_ => rfl
  have DZ6 : Dx l.prog w K mg base a9 4 "ways_out" ["stands","good"] [] (rP K) := ⟨fZ6,_,zT FZ6 B DZ3 DZ5,A9 X G aZ6,kZ6,bZ6,⟨[],bZ6,.nil⟩⟩
  have bZ7 := FZ7.binds0 (ps := ["thing"]) fun _ _ _ _ _ _ us hl => match us,hl with | [_],_ => rfl
  have DZ7 : Dx l.prog w K mg base a9 1 "is_name" ["thing"] [] (iO K) := ⟨fZ7,_,zV FZ7 B ,A9 X G aZ7,kZ7,bZ7,⟨[],bZ7,.nil⟩⟩
  have bZ8 := FZ8.binds0 (ps := ["things"]) fun _ _ _ _ _ _ us hl => match us,hl with | [_],_ => rfl
  have XZ8 : Dx l.prog w K mg base (dz l.prog w) 2 "refuse_no_names" ["things"] [] (eG K c_NoName) := ⟨fZ8,_,zX FZ8 B DZ7,A9 X G aZ8,kZ8,bZ8,⟨[],bZ8,.nil⟩⟩
  have DZ8 : Dx l.prog w K mg base a9 2 "refuse_no_names" ["things"] [] uL := XZ8.calm (fun _ _ _ _ => vO)
  have bZ9 := FZ9.binds0 (ps := ["parts","good"]) fun _ _ _ _ _ _ us hl => match us,hl with | [_,_],_ => rfl
  have DZ9 : Dx l.prog w K mg base a9 1 "names_ahead" ["parts","good"] [] kA := ⟨fZ9,_,zZ FZ9 B ,A9 X G aZ9,kZ9,bZ9,⟨[],bZ9,.nil⟩⟩
  have bZ10 := FZ10.binds0 (ps := ["ahead","goal"]) fun _ _ _ _ _ _ us hl => match us,hl with | [_,_],_ => rfl
  have DZ10 : Dx l.prog w K mg base a9 1 "chain_to" ["ahead","goal"] [] vT := ⟨fZ10,_,xH FZ10 B ,A9 X G aZ10,kZ10,bZ10,⟨[],bZ10,.nil⟩⟩
  have bZ11 := FZ11.binds0 (ps := ["parts","good","goals"]) fun _ _ _ _ _ _ us hl => match us,hl with | [_,_,_],_ => rfl
  have DZ11 : Dx l.prog w K mg base a9 2 "chain_down" ["parts","good","goals"] [] fc := ⟨fZ11,_,xJ FZ11 B DZ9 DZ10,A9 X G aZ11,kZ11,bZ11,⟨[],bZ11,.nil⟩⟩
  have bZ12 := FZ12.binds0 (ps := ["self"]) fun _ _ _ _ _ _ us hl => match us,hl with | [_],_ => rfl
  have DZ12 : ft l.prog w K mg base a9 1 f_Z12 ["self"] [] (gP c_Larder) := ⟨_,xL FZ12 B ,bZ12,⟨[],bZ12,.nil⟩⟩
  have bZ13 := FZ13.binds0 (ps := ["self","told"]) fun _ _ _ _ _ _ us hl => match us,hl with | [_,_],_ => rfl
  have DZ13 : ft l.prog w K mg base a9 1 f_Z13 ["self","told"] [] (f9 c_Larder) := ⟨_,xN FZ13 B ,bZ13,⟨[],bZ13,.nil⟩⟩
  have bZ14 := FZ14.binds0 (ps := ["self","good","other"]) fun _ _ _ _ _ _ us hl => match us,hl with | [_,_,_],_ => rfl
  have XZ14 : ft l.prog w K mg base (dz l.prog w) 3 f_Z14 ["self","good","other"] [] (kC K c_Larder c_NoName c_InRing) := ⟨_,xP FZ14 B DZ11 DZ13 XZ8 I_InRing,bZ14,⟨[],bZ14,.nil⟩⟩
  have DZ14 : ft l.prog w K mg base a9 3 f_Z14 ["self","good","other"] [] (kQ c_Larder) := XZ14.calm rZ
  have bZ15 := FZ15.binds0 (ps := ["self","good"]) fun _ _ _ _ _ _ us hl => match us,hl with | [_,_],_ => rfl
  have XZ15 : ft l.prog w K mg base (dz l.prog w) 3 f_Z15 ["self","good"] [] (fh K c_Larder c_NoName) := ⟨_,xR FZ15 B DZ11 XZ8,bZ15,⟨[],bZ15,.nil⟩⟩
  have DZ15 : ft l.prog w K mg base a9 3 f_Z15 ["self","good"] [] (gQ c_Larder) := XZ15.calm nA
  have bZ16 := FZ16.binds0 (ps := ["self","good"]) fun _ _ _ _ _ _ us hl => match us,hl with | [_,_],_ => rfl
  have XZ16 : ft l.prog w K mg base (dz l.prog w) 3 f_Z16 ["self","good"] [] (m9 K c_Larder c_NoName) := ⟨_,xT FZ16 B DZ13 XZ8,bZ16,⟨[],bZ16,.nil⟩⟩
  have DZ16 : ft l.prog w K mg base a9 3 f_Z16 ["self","good"] [] (nv c_Larder) := XZ16.calm tR
  have bZ17 := FZ17.binds0 (ps := ["self","good"]) fun _ _ _ _ _ _ us hl => match us,hl with | [_,_],_ => rfl
  have XZ17 : ft l.prog w K mg base (dz l.prog w) 3 f_Z17 ["self","good"] [] (iW K c_Larder c_NoName) := ⟨_,xV FZ17 B XZ8,bZ17,⟨[],bZ17,.nil⟩⟩
  have DZ17 : ft l.prog w K mg base a9 3 f_Z17 ["self","good"] [] (gk c_Larder) := XZ17.calm pY
  have XZ18 : ft l.prog w K mg base (dz l.prog w) 3 f_Z18 ["self","good","other","ratio"] [.non] (iX K c_Larder c_NoName c_NoStand) := ⟨_,xX FZ18 B Dis_Z3 DZ13 XZ3 XZ8,FZ18.binds (ps := ["self","good","other","ratio"]) (ds := []) dZ18 rfl fun _ _ _ _ _ _ us hl => match us,hl with | [_,_,_,_],_ => ⟨_,rfl,rfl⟩,⟨[.none],FZ18.binds (ps := ["self","good","other","ratio"]) (ds := [.none]) dZ18 rfl fun _ _ _ _ _ _ us hl => match us,hl with | [_,_,_],_ => ⟨_,rfl,rfl⟩ | [],h => absurd h (by simp) | [_],h => absurd h (by simp) | [_,_],h => absurd h (by simp) | _ :: _ :: _ :: _ :: _,h => absurd h (by simp),.cons rfl .nil⟩⟩
  have DZ18 : ft l.prog w K mg base a9 3 f_Z18 ["self","good","other","ratio"] [.non] (i6 c_Larder) := XZ18.calm p6
  have bZ19 := FZ19.binds0 (ps := ["self","good"]) fun _ _ _ _ _ _ us hl => match us,hl with | [_,_],_ => rfl
  have XZ19 : ft l.prog w K mg base (dz l.prog w) 5 f_Z19 ["self","good"] [] (oE K c_Larder c_NoName c_NoStandIn) := ⟨_,xZ FZ19 B DZ6 XZ8 XZ15 I_NoStandIn,bZ19,⟨[],bZ19,.nil⟩⟩
  have DZ19 : ft l.prog w K mg base a9 5 f_Z19 ["self","good"] [] (uN K c_Larder) := XZ19.calm v7
  have bZ20 := FZ20.binds0 (ps := ["_law_script","_law_k"]) fun _ _ _ _ _ _ us hl => match us,hl with | [_,_],_ => rfl
  have DZ20 : Dx l.prog w K mg base a9 1 "_law_cell_at" ["_law_script","_law_k"] [] (mK K) := ⟨fZ20,_,x3 FZ20 B ,A9 X G aZ20,kZ20,bZ20,⟨[],bZ20,.nil⟩⟩
  have bZ21 := FZ21.binds0 (ps := ["_law_number","_law_many"]) fun _ _ _ _ _ _ us hl => match us,hl with | [_,_],_ => rfl
  have DZ21 : Dx l.prog w K mg base a9 1 "_law_names" ["_law_number","_law_many"] [] iY := ⟨fZ21,_,x5 FZ21 B ,A9 X G aZ21,kZ21,bZ21,⟨[],bZ21,.nil⟩⟩
  have bZ22 := FZ22.binds0 (ps := ["_law_one","_law_other"]) fun _ _ _ _ _ _ us hl => match us,hl with | [_,_],_ => rfl
  have DZ22 : Dx l.prog w K mg base a9 1 "_law_divisor_of" ["_law_one","_law_other"] [] nj := ⟨fZ22,_,x8 FZ22 B ,A9 X G aZ22,kZ22,bZ22,⟨[],bZ22,.nil⟩⟩
  have bZ23 := FZ23.binds0 (ps := ["_law_top","_law_bottom"]) fun _ _ _ _ _ _ us hl => match us,hl with | [_,_],_ => rfl
  have DZ23 : Dx l.prog w K mg base a9 2 "_law_lowest" ["_law_top","_law_bottom"] [] nS := ⟨fZ23,_,ya FZ23 B DZ22,A9 X G aZ23,kZ23,bZ23,⟨[],bZ23,.nil⟩⟩
  have bZ24 := FZ24.binds0 (ps := ["_law_cell"]) fun _ _ _ _ _ _ us hl => match us,hl with | [_],_ => rfl
  have DZ24 : Dx l.prog w K mg base a9 3 "_law_ratio" ["_law_cell"] [] gR := ⟨fZ24,_,yc FZ24 B DZ23,A9 X G aZ24,kZ24,bZ24,⟨[],bZ24,.nil⟩⟩
  have bZ25 := FZ25.binds0 (ps := ["_law_pairs","_law_bars","_law_good"]) fun _ _ _ _ _ _ us hl => match us,hl with | [_,_,_],_ => rfl
  have DZ25 : Dx l.prog w K mg base a9 1 "_law_free" ["_law_pairs","_law_bars","_law_good"] [] kN := ⟨fZ25,_,ye FZ25 B ,A9 X G aZ25,kZ25,bZ25,⟨[],bZ25,.nil⟩⟩
  have bZ26 := FZ26.binds0 (ps := ["_law_stands","_law_good"]) fun _ _ _ _ _ _ us hl => match us,hl with | [_,_],_ => rfl
  have DZ26 : Dx l.prog w K mg base a9 1 "_law_least" ["_law_stands","_law_good"] [] kO := ⟨fZ26,_,yg FZ26 B ,A9 X G aZ26,kZ26,bZ26,⟨[],bZ26,.nil⟩⟩
  have bZ27 := FZ27.binds0 (ps := ["_law_pairs","_law_stands","_law_bars","_law_good"]) fun _ _ _ _ _ _ us hl => match us,hl with | [_,_,_,_],_ => rfl
  have DZ27 : Dx l.prog w K mg base a9 3 "_law_due" ["_law_pairs","_law_stands","_law_bars","_law_good"] [] kP := ⟨fZ27,_,yi FZ27 B DZ23 DZ25 DZ26,A9 X G aZ27,kZ27,bZ27,⟨[],bZ27,.nil⟩⟩
  have bZ28 := FZ28.binds0 (ps := ["_law_e"]) fun _ _ _ _ _ _ us hl => match us,hl with | [_],_ => rfl
  have HZ28 : ∀ hd,xf hd l.prog w K mg base 1 "_law_alone" ["_law_e"] (fj c_NoStandIn) := fun hd => ⟨fZ28,_,yk FZ28 B ,A9 X G aZ28,kZ28,bZ28⟩
  have DZ28 : Dx l.prog w K mg base a9 1 "_law_alone" ["_law_e"] [] (fj c_NoStandIn) := (HZ28 none).calm
  have bZ29 := FZ29.binds0 (ps := ["_law_larder","_law_good"]) fun _ _ _ _ _ _ us hl => match us,hl with | [_,_],_ => rfl
  have DZ29 : Dx l.prog w K mg base a9 6 "_law_asked" ["_law_larder","_law_good"] [] (i7 K c_Larder) := ⟨fZ29,_,yo FZ29 B XZ19 HZ28,A9 X G aZ29,kZ29,bZ29,⟨[],bZ29,.nil⟩⟩
  have bZ30 := FZ30.binds0 (ps := ["_law_larder","_law_pairs","_law_stands","_law_bars","_law_good"]) fun _ _ _ _ _ _ us hl => match us,hl with | [_,_,_,_,_],_ => rfl
  have DZ30 : Dx l.prog w K mg base a9 7 "_law_given_so" ["_law_larder","_law_pairs","_law_stands","_law_bars","_law_good"] [] (cQ K c_Larder) := ⟨fZ30,_,yr FZ30 B DZ27 DZ29,A9 X G aZ30,kZ30,bZ30,⟨[],bZ30,.nil⟩⟩
  have bZ31 := FZ31.binds0 (ps := ["_law_larder","_law_pairs","_law_bars","_law_good"]) fun _ _ _ _ _ _ us hl => match us,hl with | [_,_,_,_],_ => rfl
  have DZ31 : Dx l.prog w K mg base a9 4 "_law_barred_so" ["_law_larder","_law_pairs","_law_bars","_law_good"] [] (eY K c_Larder) := ⟨fZ31,_,yu FZ31 B DZ15 DZ25,A9 X G aZ31,kZ31,bZ31,⟨[],bZ31,.nil⟩⟩
  have bZ32 := FZ32.binds0 (ps := ["_law_larder","_law_pairs","_law_stands","_law_bars","_law_good"]) fun _ _ _ _ _ _ us hl => match us,hl with | [_,_,_,_,_],_ => rfl
  have DZ32 : Dx l.prog w K mg base a9 8 "_law_right" ["_law_larder","_law_pairs","_law_stands","_law_bars","_law_good"] [] (cQ K c_Larder) := ⟨fZ32,_,yx FZ32 B DZ30 DZ31,A9 X G aZ32,kZ32,bZ32,⟨[],bZ32,.nil⟩⟩
  have bZ33 := FZ33.binds0 (ps := ["_law_larder","_law_pairs","_law_stands","_law_bars","_law_names_here","_law_cell"]) fun _ _ _ _ _ _ us hl => match us,hl with | [_,_,_,_,_,_],_ => rfl
  have DZ33 : Dx l.prog w K mg base a9 4 "_law_deed" ["_law_larder","_law_pairs","_law_stands","_law_bars","_law_names_here","_law_cell"] [] (kR K c_Larder) := ⟨fZ33,_,yz FZ33 B DZ14 DZ16 DZ17 DZ18 DZ24,A9 X G aZ33,kZ33,bZ33,⟨[],bZ33,.nil⟩⟩
  exact yB Flaw B DZ12 DZ17 DZ20 DZ21 DZ27 DZ32 DZ33
theorem walk {l : PySem.W.OpenLaw} {q : Program} {loose : List Str} {XP : (Str -> Option Value) -> Heap -> Prop} {YP : World -> Heap -> Prop} {d : DefRec} {K : Params -> A0} (hn : l.most = some 63) (hdf : d.params.defaults = [])
  (hY : ∀ (w : World) (h : Heap),YP w h -> (K w.params).In h)
  (F : ∀ (w : World) (mg : Str -> Option Value) (fa : Addr) (h : Heap),(K w.params).In h -> h.Ns mainGlobals mg -> mg d.name = some (.ref fa) ->
   ∃ fd : FuncData,(∀ (s : Shared) (u : Value),BindsTo s fd ⟨[u],[]⟩ [("_law_script",u)]) /\ ∀ base : Heap,(K w.params).In base -> base.Ns mainGlobals mg -> bg l.prog w (K w.params) mg base a9 9 fa fd ["_law_script"] (nR (K w.params))) :
  PySem.W.WalkO q loose XP YP l.row.toRowW d [] (fun f vs => PySem.call f vs) :=
 L2.sB (n := 63) (k := 9) (x := "_law_script") (CX := fun _ => a9) (sp := fun w => nR (K w.params)) hn (by decide) hdf ⟨rfl,by decide,by decide⟩ hY F (fun _ _ a ns hl _ hS => ⟨a,ns,rfl,hS,hl,fun _ => rfl⟩) fun _ _ _ _ _ z => z
end Lk26
open PySem PySem.W PyProof.Rows
set_option maxRecDepth 100000 in
set_option maxHeartbeats 0 in
theorem PySem.Challenge.cw_stovework_k26_stand_in_holds : PySem.Challenge.rw_stovework_k26_stand_in.Holds := by
 refine Lk26.hd ?_
 k_fill
 refine Lk26.walk (l := PySem.Challenge.rw_stovework_k26_stand_in) rfl rfl (fun w h Y => PySem.W.kIn_of Y) ?F
 case F =>
  intro w mg fa h KX G hmg
  refine' Lk26.wf KX G hmg ?h0 ?h1 ?h2 ?h3 ?h4 ?h5 ?h6 ?h7 ?h8 ?h9 ?h10 ?h11 ?h12 ?h13 ?h14 ?h15 ?h16 ?h17 ?h18 ?h19 ?h20 ?h21 ?h22 ?h23 ?h24 ?h25 ?h26 ?h27 ?h28 ?h29 ?h30 ?h31 ?h32 ?h33 ?h34 ?h35 ?h36 ?h37 ?h38 ?h39 ?h40 ?h41 ?h42 ?h43 ?h44 ?h45 ?h46 ?h47 ?h48 ?h49 ?h50 ?h51 ?h52 ?h53 ?h54 ?h55 ?h56 ?h57 ?h58 ?h59 ?h60 ?h61 ?h62 ?h63 ?h64 ?h65 ?h66 ?h67 ?h68 ?h69 ?h70 ?h71 ?h72 ?h73 ?h74 ?h75 ?h76 ?h77 ?h78 ?h79 ?h80 ?h81 ?h82 ?h83 ?h84 ?h85 ?h86 ?h87 ?h88 ?h89 ?h90 ?h91 ?h92 ?h93 ?h94 ?h95 ?h96 ?h97 ?h98 ?h99 ?h100 ?h101 ?h102 ?h103 ?h104 ?h105 ?h106 ?h107 ?h108 ?h109 ?h110 ?h111 ?h112 ?h113 ?h114 ?h115 ?h116 ?h117 ?h118 ?h119 ?h120 ?h121 ?h122 ?h123 ?h124 ?h125 ?h126 ?h127 ?h128 ?h129 ?h130 ?h131 ?h132 ?h133 ?h134 ?h135 ?h136 ?h137 ?h138 ?h139 ?h140 ?h141 ?h142 ?h143 ?h144
  case h0 => k_is
  (case h1 => exact ⟨_,_,_,_,_,_,_,_,_,by k_is,by k_is,by k_is⟩)
  (case h2 => k_is)
  (case h3 => exact ⟨_,_,_,_,_,_,_,_,_,by k_is,by k_is,by k_is⟩)
  (case h4 => k_is)
  (case h5 => exact ⟨_,_,_,_,_,_,_,_,_,by k_is,by k_is,by k_is⟩)
  (case h6 => k_is)
  (case h7 => exact ⟨_,_,_,_,_,_,_,_,_,by k_is,by k_is,by k_is⟩)
  (case h8 => k_is)
  (case h9 => exact ⟨_,_,_,_,_,_,_,_,_,by k_is,by k_is,by k_is⟩)
  (case h10 => k_is)
  (case h11 => exact ⟨_,_,_,_,_,_,_,_,_,by k_is,by k_is,by k_is⟩)
  (case h12 => k_is)
  (case h13 => exact ⟨_,_,_,_,_,_,_,_,_,by k_is,by k_is,by k_is⟩)
  (case h14 => k_is)
  (case h15 => exact ⟨_,_,_,_,_,_,_,_,_,by k_is,by k_is,by k_is⟩)
  (case h16 => k_is)
  (case h17 => exact ⟨_,_,_,_,_,_,_,_,_,by k_is,by k_is,by k_is⟩)
  (case h18 => k_is)
  (case h19 => exact ⟨_,_,_,_,_,_,_,_,_,by k_is,by k_is,by k_is⟩)
  (case h20 => k_is)
  (case h21 => exact ⟨_,_,_,_,_,_,_,_,_,by k_is,by k_is,by k_is⟩)
  (case h22 => k_is)
  (case h23 => exact ⟨_,_,_,_,_,_,_,_,_,by k_is,by k_is,by k_is⟩)
  (case h24 => k_is)
  (case h25 => exact ⟨_,_,_,_,_,_,_,_,_,by k_is,by k_is,by k_is⟩)
  (case h26 => k_is)
  (case h27 => exact ⟨_,_,_,_,_,_,_,_,_,by k_is,by k_is,by k_is⟩)
  (case h28 => k_is)
  (case h29 => exact ⟨_,_,_,_,_,_,_,_,_,by k_is,by k_is,by k_is⟩)
  (case h30 => k_is)
  (case h31 => exact ⟨_,_,_,_,_,_,_,_,_,by k_is,by k_is,by k_is⟩)
  (case h32 => k_is)
  (case h33 => exact ⟨_,_,_,_,_,_,_,_,_,by k_is,by k_is,by k_is⟩)
  (case h34 => k_is)
  (case h35 => exact ⟨_,_,_,_,_,_,_,_,_,by k_is,by k_is,by k_is⟩)
  (case h36 => k_is)
  (case h37 => exact ⟨_,_,_,_,_,_,_,_,_,by k_is,by k_is,by k_is⟩)
  (case h38 => k_is)
  (case h39 => exact ⟨_,_,_,_,_,_,_,_,_,by k_is,by k_is,by k_is⟩)
  (case h40 => k_is)
  (case h41 => exact ⟨_,_,_,_,_,_,_,_,_,by k_is,by k_is,by k_is⟩)
  (case h42 => k_is)
  (case h43 => exact ⟨_,_,_,_,_,_,_,_,_,by k_is,by k_is,by k_is⟩)
  (case h44 => k_is)
  (case h45 => exact ⟨_,_,_,_,_,_,_,_,_,by k_is,by k_is,by k_is⟩)
  (case h46 => k_is)
  (case h47 => exact ⟨_,_,_,_,_,_,_,_,_,by k_is,by k_is,by k_is⟩)
  (case h48 => k_is)
  (case h49 => exact ⟨_,_,_,_,_,_,_,_,_,by k_is,by k_is,by k_is⟩)
  (case h50 => k_is)
  (case h51 => k_is)
  (case h52 => k_is)
  (case h53 => k_is)
  (case h54 => k_is)
  (case h55 => k_is)
  (case h56 => k_is)
  (case h57 => k_is)
  (case h58 => k_is)
  (case h59 => k_is)
  (case h60 => k_is)
  (case h61 => k_is)
  (case h62 => k_is)
  (case h63 => k_is)
  (case h64 => k_is)
  (case h65 => k_is)
  (case h66 => k_is)
  (case h67 => k_is)
  (case h68 => k_is)
  (case h69 => k_is)
  (case h70 => k_is)
  (case h71 => k_is)
  (case h72 => k_is)
  (case h73 => k_is)
  (case h74 => k_is)
  (case h75 => k_is)
  (case h76 => k_is)
  (case h77 => k_is)
  (case h78 => k_is)
  (case h79 => k_is)
  (case h80 => k_is)
  (case h81 => k_is)
  (case h82 => k_is)
  (case h83 => k_is)
  (case h84 => k_is)
  (case h85 => k_is)
  (case h86 => k_is)
  (case h87 => k_is)
  (case h88 => k_is)
  (case h89 => k_is)
  (case h90 => exact ⟨_,_,_,_,_,_,_,_,_,by k_is,by k_is,by k_is⟩)
  (case h91 => k_is)
  (case h92 => exact ⟨_,_,_,_,_,_,_,_,_,by k_is,by k_is,by k_is⟩)
  (case h93 => k_is)
  (case h94 => exact ⟨_,_,_,_,_,_,_,_,_,by k_is,by k_is,by k_is⟩)
  (case h95 => k_is)
  (case h96 => exact ⟨_,_,_,_,_,_,_,_,_,by k_is,by k_is,by k_is⟩)
  (case h97 => k_is)
  (case h98 => exact ⟨_,_,_,_,_,_,_,_,_,by k_is,by k_is,by k_is⟩)
  (case h99 => k_is)
  (case h100 => exact ⟨_,_,_,_,_,_,_,_,_,by k_is,by k_is,by k_is⟩)
  (case h101 => k_is)
  (case h102 => exact ⟨_,_,_,_,_,_,_,_,_,by k_is,by k_is,by k_is⟩)
  (case h103 => k_is)
  (case h104 => exact ⟨_,_,_,_,_,_,_,_,_,by k_is,by k_is,by k_is⟩)
  (case h105 => k_is)
  (case h106 => k_is)
  (case h107 => kernel_rfl)
  (case h108 => exact ⟨⟨by k_is,by k_is,by k_is⟩,by kernel_rfl,by k_is,by k_is,by k_is,by k_is⟩)
  (case h109 => kernel_rfl)
  (case h110 => exact ⟨⟨by k_is,by k_is,by k_is⟩,by kernel_rfl,by k_is,by k_is,by k_is,by k_is⟩)
  (case h111 => kernel_rfl)
  (case h112 => exact ⟨⟨by k_is,by k_is,by k_is⟩,by kernel_rfl,by k_is,by k_is,by k_is,by k_is⟩)
  (case h113 => exact ⟨by k_is,by kernel_rfl,by k_is⟩)
  (case h114 => k_is)
  (case h115 => kernel_rfl)
  (case h116 => exact ⟨by k_is,by kernel_rfl,by kernel_rfl,by k_is⟩)
  (case h117 => k_is)
  (case h118 => exact ⟨by k_is,by kernel_rfl,by kernel_rfl,by k_is⟩)
  (case h119 => k_is)
  (case h120 => exact ⟨⟨by k_is,by k_is,by k_is⟩,by kernel_rfl,by k_is,by k_is,by k_is,by k_is⟩)
  (case h121 => exact ⟨⟨by k_is,by k_is,by k_is⟩,by kernel_rfl,by k_is,by k_is,by k_is,by k_is⟩)
  (case h122 => kernel_rfl)
  (case h123 => kernel_rfl)
  (case h124 => exact ⟨by k_is,by k_is,by k_is,by k_is⟩)
  (case h125 => exact ⟨by k_is,by k_is,by k_is,by k_is⟩)
  (case h126 => exact ⟨by k_is,by k_is,by k_is⟩)
  (case h127 => exact ⟨by k_is,by k_is,by k_is⟩)
  (case h128 => exact ⟨by k_is,by k_is,by k_is⟩)
  (case h129 => exact ⟨by k_is,by k_is,by k_is⟩)
  (case h130 => exact ⟨by k_is,by k_is,by k_is⟩)
  (case h131 => exact ⟨by k_is,by k_is,by k_is⟩)
  (case h132 => exact ⟨by k_is,by k_is,by k_is⟩)
  (case h133 => unfold L2.b5; k_is)
  (case h134 => unfold L2.b5; k_is)
  (case h135 => unfold L2.b5; k_is)
  (case h136 => unfold L2.b5; k_is)
  (case h137 => exact ⟨⟨_,_,_,_,_,_,_,_,_,_,_,_,_,_,_,_,by k_is,by kernel_rfl,by k_is,by kernel_rfl⟩,by k_is,by k_is⟩)
  (case h138 => k_is)
  (case h139 => k_is)
  (case h140 => k_is)
  (case h141 => exact ⟨⟨_,_,_,_,_,_,_,_,_,_,_,_,_,_,_,_,by k_is,by kernel_rfl,by k_is,by kernel_rfl⟩,by k_is,by k_is⟩)
  (case h142 => k_is)
  (case h143 => k_is)
  (case h144 => k_is)
