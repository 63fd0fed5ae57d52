import PyProof.Rows.All
import Wide.All
import OpenK.AllK
import Wide.FinOn
import Lean
import PyProof.EqAt
import PyProof.EqKinds
import PyProof.TupleCall
import PyProof.NeKinds
import PyProof.StationsW
import PyProof.RulesAs
import PyProof.ExcArgsOwn
import PyProof.CompFree
import PyProof.ExcInit
import PyProof.ConsumeWalk
import PyProof.Rows.SeqGen
import PyProof.StrWalks
import PyProof.SliceStr2
import PyProof.MeetsStr
import KE.KIntText
import PyProof.Rows.FStr
import PyProof.StrCalls6
import PyProof.StrBlockL
import PyProof.ToksMono
import PyProof.WalkInts
import PyProof.Rows.MinMaxN
import PyProof.StrLawsReplace
import PyProof.StrLawsTight
import PyProof.Rows.StrLawsPart
import PyProof.DictWalks
import KE.KEqDict
import KE.KDictLaws
import KE.KRevIter
import PyProof.ListCopy
import PyProof.CollectIter
import PyProof.Rows.SetFrom
import PyProof.Rows.SortShellK
import PyProof.Rows.SortStr
import PyProof.Rows.SortWalk
import KE.KDictSum
import KE.KSortTup
import PyProof.TupleOfSeq
import PyProof.Rows.SortRuns
import PyProof.FactsAll.tuple_2
import PyProof.WalksEnum
import PyProof.EnumMake
import PyProof.EnumFor
import PyProof.ZipIter
import KE.KDictOf
import PyProof.DictItems
import PyProof.FactsAll.dict_itemiterator_1
import PyProof.MeetsSeq3
import PyProof.FactsAll.list_2
import PyProof.Rows.StrRules
import PyProof.Rows.StrMul
import KE.KDictList
import PySem.Challenge.RW_stovework_k29_stands_refused
open Array renaming length_toList → BF, getElem?_toList → BU, getElem?_eq_getElem → C2, getElem?_eq_none → Cf
open Bool renaming false_ne_true → BE, and_eq_true → Cc, false_eq_true → Cg, eq_iff_iff → D2
open Int renaming fmod_nonneg_of_pos → BJ, fmod_lt_of_pos → BS, toNat_natCast → CT, toNat → Cd
open List renaming length_map → B2, getElem?_eq_some_iff → B4, mem_singleton → B5, length_append → B8, mem_cons → B9, getElem?_append_left → BB, mem_append_right → BC, getElem?_eq_getElem → BG, mem_map → BH, mem_of_getElem? → BI, size_toArray → BL, getElem?_map → BM, mem_append → BN, mem_cons_of_mem → BV, length_singleton → BW, getElem?_append_right → BX, map_append → Bv, not_mem_nil → Bw, nodup_cons → Bx, map_cons → By, length_cons → Bz, mem_iff_getElem? → C5, mem_cons_self → C8, map_map → CG, length_take → CI, filter_cons → CJ, mem_append_left → CK, getD_eq_getElem?_getD → CM, length_filter_le → CO, getElem?_eq_none → CP, all_eq_true → CQ, lookup → Ce, nodup_append → Ck, range → Cs, take_length → Cu, filterMap_cons → Cv, mem_filter → Cy, length_nil → Cz, find?_cons → D0, append_nil → D1
open Nat renaming le_refl → B3, ne_of_lt → BA, lt_of_lt_of_le → BO, zero_le → BY, le_trans → BZ, lt_succ_of_lt → CN, eq_zero_or_pos → CW, lt_succ_iff_lt_or_eq → Cb, ne_of_gt → Ci
open Option renaming map_eq_some_iff → CA, isSome_iff_exists → CD, bind_eq_some_iff → CH, map_some → Cw
open Option.some renaming inj → C1
open PyProof renaming noPylong_small → BP
open PyProof.Rows renaming callWith_type1 → CF
open PySem renaming mem_of_lookup → C4
open PySem.F renaming plainAttrs_list → C6, type_list_append → CB, slot_list_append → CC, plain_list_iadd → CS
open PySem.W renaming Frag → B1, nsIn → B6, mg_of → B7, findIn → BK, emptyDict → BQ, kitOne → BR, mg_none_of → C0, kia_one → C3, keepIn → C7, fnOf → C9, subIn → CL, kitAny → CU, callWith_K → CV, instObj → CY, excIn → CZ, codeIn → Ca, methodCall_KW → Cj
open PySem.W.Fast renaming te14364793385576792824 → Cm, te14289696077712309145 → Co, te11892475500146522536 → Cp, te10274390034422433532 → Cq, te10156331382660048174 → Cr, te6613529449190102663 → Ct
namespace Ht
open PySem PySem.W PyProof.Rows
noncomputable def rG (ok : Thread -> Bool) (st : SharedT -> Thread -> Option (SharedT × Thread)) (n : Nat) : SharedT -> Thread -> Option SharedT :=
 Nat.rec (motive := fun _ => SharedT -> Thread -> Option SharedT) (fun _ _ => none) (fun _ ih s t =>
  Bool.rec (motive := fun _ => Option SharedT)
   (Bool.rec (motive := fun _ => Option SharedT) none (Option.rec (motive := fun _ => Option SharedT) none (fun r => Prod.rec (motive := fun _ => Option SharedT) (fun s' t' => ih s' t') r) (st s t)) (ok t))
   (some s) (through t)) n
theorem oQ {tb : String -> Option Builtin} {p : Program} {w : World} {m : Nat} {ann : Option Value} : ∀ {n : Nat} {s s' : SharedT} {t : Thread},rG (stepOk m ann) (stepT (denote tb) p w) n s t = some s' -> topRun tb p w m ann n s.abs t = some s'.abs
 | 0,_,_,_,h => by cases h
 | n + 1,s,s',t,h => by
  unfold topRun
  have h' : Bool.rec (motive := fun _ => Option SharedT)
   (Bool.rec (motive := fun _ => Option SharedT) none (Option.rec (motive := fun _ => Option SharedT) none (fun r => Prod.rec (motive := fun _ => Option SharedT) (fun s' t' => rG (stepOk m ann) (stepT (denote tb) p w) n s' t') r) (stepT (denote tb) p w s t)) (stepOk m ann t))
   (some s) (through t) = some s' := h
  cases ht : through t with
  | true => rw [ht] at h'; cases h'; rfl
  | false =>
   rw [ht] at h'
   cases hk : stepOk m ann t with
   | false => rw [hk] at h'; cases h'
   | true =>
    rw [hk] at h'
    cases hs : stepT (denote tb) p w s t with
    | none => rw [hs] at h'; cases h'
    | some r =>
     obtain ⟨s₂,t₂⟩ := r
     rw [hs] at h'
     dsimp only
     rw [stepT_spec hs]
     exact oQ h'
noncomputable def grow (l : List Obj) : Nat -> BT -> Option BT :=
 List.rec (motive := fun _ => Nat -> BT -> Option BT) (fun _ t => some t) (fun o _ ih n t =>
  Bool.rec (motive := fun _ => Option BT) none (ih (n + 1) (t.ins n o)) ((t.ins n o).get n).isSome) l
theorem oR {life : Life} : ∀ {l : List Obj} {n : Nat} {t t' : BT},grow l n t = some t' -> absHeap t' (n + l.length) life = ⟨(absHeap t n life).objs ++ l.toArray,life⟩
 | [],n,t,t',h => by
  cases h
  simp [absHeap]
 | o :: l,n,t,t',h => by
  have h' : Bool.rec (motive := fun _ => Option BT) none (grow l (n + 1) (t.ins n o)) ((t.ins n o).get n).isSome = some t' := h
  cases e : ((t.ins n o).get n).isSome with
  | false => rw [e] at h'; cases h'
  | true =>
   rw [e] at h'
   have z := oR (life := life) h'
   rw [absHeap_ins e] at z
   rw [show n + (o :: l).length = n + 1 + l.length by rw [Bz]; omega,z]
   simp [Heap.push]
noncomputable def treeOf (s : Shared) : Option SharedT :=
 Option.rec (motive := fun _ => Option SharedT) none (fun t => some ⟨t,s.heap.objs.size,s.heap.life,s.gens,s.drawn,s.toks,s.os⟩) (grow s.heap.objs.toList 0 .nil)
theorem m4 {s : Shared} {s' : SharedT} (h : treeOf s = some s') : s'.abs = s := by
 have h' : Option.rec (motive := fun _ => Option SharedT) none (fun t => some ⟨t,s.heap.objs.size,s.heap.life,s.gens,s.drawn,s.toks,s.os⟩) (grow s.heap.objs.toList 0 .nil) = some s' := h
 cases e : grow s.heap.objs.toList 0 .nil with
 | none => rw [e] at h'; cases h'
 | some t =>
  rw [e] at h'
  cases h'
  have z := oR (life := s.heap.life) e
  obtain ⟨⟨objs,life⟩,gens,drawn,toks,os⟩ := s
  simp only [SharedT.abs]
  have z' : absHeap t objs.size life = ⟨objs,life⟩ := by
   simpa [absHeap,BT.list] using z
  rw [z']
noncomputable def rH (ok : Nat -> Option Value -> Thread -> Bool) (st : SharedT -> Thread -> Option (SharedT × Thread)) (p : Program) (N : Nat) (s₀ : Shared) : Option Shared :=
 Bool.rec (motive := fun _ => Option Shared) none
  ((treeOf s₀).bind fun t₀ => (rG (ok s₀.heap.objs.size (s₀.heap.nsMap mainGlobals "__annotations__")) st N t₀ (topStub p)).bind fun t₁ =>
   (fun s₁ => Bool.rec (motive := fun _ => Option Shared) none (some s₁) (staticsOk (importedModules p.main.body) s₀.heap s₁.heap && namesBound p s₁.heap && gensDone s₁ && laidKept s₀.heap s₁.heap)) t₁.abs)
  (s₀.heap.isNs mainGlobals && s₀.gens.size == 0)
theorem rJ {tb : String -> Option Builtin} {p : Program} {w : World} {N : Nat} {s₀ s : Shared} (h : rH stepOk (stepT (denote tb) p w) p N s₀ = some s) : topFrom tb p w N s₀ = some s := by
 unfold rH at h
 unfold topFrom
 cases e : s₀.heap.isNs mainGlobals && s₀.gens.size == 0 with
 | false => rw [e] at h; cases h
 | true =>
  rw [e] at h
  obtain ⟨t₀,e0,h⟩ := CH.mp h
  obtain ⟨t₁,e1,h⟩ := CH.mp h
  have r := oQ e1
  rw [m4 e0] at r
  dsimp only
  rw [r]
  dsimp only at h
  show (match staticsOk (importedModules p.main.body) s₀.heap t₁.abs.heap && namesBound p t₁.abs.heap && gensDone t₁.abs && laidKept s₀.heap t₁.abs.heap with | true => some t₁.abs | false => none) = some s
  cases q : staticsOk (importedModules p.main.body) s₀.heap t₁.abs.heap && namesBound p t₁.abs.heap && gensDone t₁.abs && laidKept s₀.heap t₁.abs.heap with
  | false => rw [q] at h; cases h
  | true => rw [q] at h; exact h
noncomputable def qf (ok : Nat -> Option Value -> Thread -> Bool) (st : SharedT -> Thread -> Option (SharedT × Thread)) (p : Program) (N : Nat) (s₀ : Shared) : Option Shared :=
 (treeOf s₀).bind fun t₀ => (rG (ok s₀.heap.objs.size (s₀.heap.nsMap mainGlobals "__annotations__")) st N t₀ (topStub p)).map fun t₁ => t₁.abs
def uf (p : Program) (s₀ s₁ : Shared) : Bool := (s₀.heap.isNs mainGlobals && s₀.gens.size == 0) && (staticsOk (importedModules p.main.body) s₀.heap s₁.heap && namesBound p s₁.heap && gensDone s₁ && laidKept s₀.heap s₁.heap)
theorem rK {tb : String -> Option Builtin} {p : Program} {w : World} {N : Nat} {s₀ s : Shared} (h : qf stepOk (stepT (denote tb) p w) p N s₀ = some s) (c : uf p s₀ s = true) : topFrom tb p w N s₀ = some s := by
 apply rJ
 unfold qf at h
 obtain ⟨t₀,e0,h⟩ := CH.mp h
 obtain ⟨t₁,e1,rfl⟩ := CA.mp h
 unfold uf at c
 rw [Cc] at c
 unfold rH
 rw [c.1]
 show ((treeOf s₀).bind fun t₀ => _) = _
 rw [e0]
 show ((rG _ _ N t₀ (topStub p)).bind fun t₁ => _) = _
 rw [e1]
 show (Bool.rec (motive := fun _ => Option Shared) none (some t₁.abs) (staticsOk (importedModules p.main.body) s₀.heap t₁.abs.heap && namesBound p t₁.abs.heap && gensDone t₁.abs && laidKept s₀.heap t₁.abs.heap) : Option Shared) = _
 rw [c.2]
abbrev Look (p : Program) (N : Nat) {α : Type} (f : Shared -> Shared -> α) (v : World -> α) : Prop := ∀ w : World,((importEnds treeTable (opening p) w N (start (opening p)).1 (start (opening p)).2).bind fun s => (fenceModules? p s).bind fun s₀ => (qf stepOk (stepT (denote treeTable) p w) p N s₀).map fun s₁ => f s₀ s₁) = some (v w)
theorem Look.at_ {p : Program} {N : Nat} {α : Type} {f : Shared -> Shared -> α} {v : World -> α} (h : Look p N f v) (w : World) {s s₀ s₁ : Shared} (a : importEnds treeTable (opening p) w N (start (opening p)).1 (start (opening p)).2 = some s) (b : fenceModules? p s = some s₀) (c : qf stepOk (stepT (denote treeTable) p w) p N s₀ = some s₁) : f s₀ s₁ = v w := by
 have := h w
 rw [a] at this
 replace this : ((fenceModules? p s).bind fun s₀ => (qf stepOk (stepT (denote treeTable) p w) p N s₀).map fun s₁ => f s₀ s₁) = some (v w) := this
 rw [b] at this
 replace this : ((qf stepOk (stepT (denote treeTable) p w) p N s₀).map fun s₁ => f s₀ s₁) = some (v w) := this
 rw [c] at this
 injection this
theorem rL {p q : Program} {loose : List Str} {Xt : Shared -> Bool} {α : Type} {Yf : Shared -> α} {Ya : World -> α} {N : Nat} {g0 : Bool} (hc : Look p N (fun s₀ s₁ => uf p s₀ s₁) fun _ => true)
  (h1 : Look p N (fun _ s => openSeen q loose (importedModules p.main.body) Xt g0 s) fun _ => openGood q loose) (h2 : Look p N (fun _ s => Yf s) Ya) : LeftO p q loose Xt Yf Ya N g0 := fun w => by
 obtain ⟨s,a,e⟩ := CH.mp (hc w)
 obtain ⟨s₀,b,e⟩ := CH.mp e
 obtain ⟨s₁,c,e⟩ := CA.mp e
 have z : openEnds treeTable p w N = some s₁ := by
  unfold openEnds fencedOpening
  rw [a]
  show (fenceModules? p s).bind _ = _
  rw [b]
  exact rK c e
 rw [z]
 show some (_,_) = some (_,_)
 rw [h1.at_ w a b c,h2.at_ w a b c]
end Ht
set_option Elab.async false
set_option linter.all false
set_option maxRecDepth 100000
namespace Lk29
open PySem PySem.W PyProof.Rows
def qv : Program := { PySem.Challenge.pw_stovework_k29_stands_refused with main := { PySem.Challenge.pw_stovework_k29_stands_refused.main with body := ([1,2,3,4,5,6,7,8,9,10,11,12,13,14,15,16,17,19,20,21,23,24,25,26,28,29,32,33,35,37,38,39,41,42,43,44,45,46,47,48,49,50,51,52] : List Nat).filterMap fun i => PySem.Challenge.pw_stovework_k29_stands_refused.main.body[i]? } }
def lo : List Str := ["fraction"]
theorem head {α : Type} {Yf : Shared -> α} {Ya : World -> α} {YP : World -> Heap -> Prop} {d : DefRec} {kwd : List (Str × Expr)} (left : LeftO PySem.Challenge.pw_stovework_k29_stands_refused qv lo (fun s => xlAt qv [] s && recOk [] s) Yf Ya 10556)
  (hY : ∀ w s,Yf s = Ya w -> YP w s.heap) (hYk : ∀ w h h',YP w h -> (∀ b o,h.get? b = some o -> h'.get? b = some o) -> YP w h') (hd : defOf qv PySem.Challenge.rw_stovework_k29_stands_refused.row.name = some (d,kwd))
  (hp : PySem.Challenge.rw_stovework_k29_stands_refused.row.prog.theDef PySem.Challenge.rw_stovework_k29_stands_refused.row.name = some (d.params,d.body,d.scope)) (hk : kwWritten? d.params.kwonlyargs d.params.kw_defaults = some kwd)
  (said : PySem.Challenge.rw_stovework_k29_stands_refused.row.wellSaid = true) (hw : PySem.Challenge.rw_stovework_k29_stands_refused.row.toRowW.promised) (call : WalkO qv lo (XL qv []) YP PySem.Challenge.rw_stovework_k29_stands_refused.row.toRowW d kwd fun f vs => PySem.call f vs) : PySem.Challenge.rw_stovework_k29_stands_refused.row.Holds :=
 holds_open left hY hYk (fun s e => xl_of s (Bool.and_eq_true_iff.mp e).1) XL.keeps hd hp hk (fun s e => recFacts_of (Bool.and_eq_true_iff.mp e).2) rfl said (by decide +kernel) ⟨rfl,rfl,rfl,rfl,rfl,by decide +kernel⟩ hw call
set_option maxHeartbeats 0 in
theorem la : Ht.Look PySem.Challenge.pw_stovework_k29_stands_refused 10556 (fun s₀ s₁ => Ht.uf PySem.Challenge.pw_stovework_k29_stands_refused s₀ s₁) (fun _ => true) := by
 intro w
 rw [Cq,Co,Ct,Cr,Cp,Cm]
 kernel_rfl
set_option maxHeartbeats 0 in
theorem lb : Ht.Look PySem.Challenge.pw_stovework_k29_stands_refused 10556 (fun _ s => openSeen qv lo (importedModules PySem.Challenge.pw_stovework_k29_stands_refused.main.body) (fun s => xlAt qv [] s && recOk [] s) true s) (fun _ => openGood qv lo) := by
 intro w
 rw [Cq,Co,Ct,Cr,Cp,Cm,PySem.W.Fast.te4187177175401517315]
 kernel_rfl
end Lk29
local macro_rules | `(tactic| o_head $H) => `(tactic| (refine Lk29.head (Yf := PySem.W.Hook.obs $H) (Ya := PySem.W.Hook.val $H) (YP := PySem.W.Hook.says $H) ?hl (PySem.W.Hook.of $H) (PySem.W.Hook.keeps $H) (by rfl) (by rfl) (by rfl) (by assumption) ?hw ?hc; (case hl => (refine Ht.rL Lk29.la Lk29.lb ?c; (case c => (intro w; rw [Cq,Co,Ct,Cr,Cp,Cm]; kernel_rfl))))))
namespace PySem.W.Fast
def d9 : PySem.Program := PySem.Challenge.pw_stovework_k29_stands_refused
theorem lK : PySem.Challenge.pw_stovework_k29_stands_refused = d9 := rfl
end PySem.W.Fast
set_option maxHeartbeats 0 in
open_top Lk29.hd for PySem.Challenge.rw_stovework_k29_stands_refused
namespace L2
open PySem PySem.Spec PyProof.Rows
abbrev Key := Sum Int Str
def jv : Key -> Value -> Bool
 | .inl k,v => Value.isInt k v
 | .inr x,v => Value.isStrOf x v
def Ad (w : World) : Key -> Int
 | .inl k => hashInt k
 | .inr x => hashStr w x
theorem bE : ∀ {k : Key} {v : Value},jv k v = true -> (∃ i t,k = Sum.inl i /\ v = Value.int i t) ∨ (∃ x t,k = Sum.inr x /\ v = Value.str x t)
 | .inl i,v,h => by
  obtain ⟨t,e⟩ := Value.isInt_shape (k := i) (v := v) h
  exact .inl ⟨i,t,rfl,e⟩
 | .inr x,v,h => by
  obtain ⟨t,e⟩ := Value.isStrOf_shape (x := x) (v := v) h
  exact .inr ⟨x,t,rfl,e⟩
theorem qg (i : Int) (t : Tok) : jv (.inl i) (.int i t) = true := by simp [jv,Value.isInt]
theorem qh (x : Str) (t : Tok) : jv (.inr x) (.str x t) = true := by simp [jv,Value.isStrOf]
theorem wd (a b : Int) : decide ((Sum.inl a : Key) = Sum.inl b) = (a == b) := by
 by_cases e : a = b
 ·subst e; simp
 ·have h : ¬ (Sum.inl a : Key) = Sum.inl b := fun q => e (Sum.inl.inj q)
  rw [decide_eq_false h]
  exact (beq_eq_false_iff_ne.mpr e).symm
theorem we (a b : Str) : decide ((Sum.inr a : Key) = Sum.inr b) = decide (a = b) := by
 by_cases e : a = b
 ·subst e; simp
 ·have h : ¬ (Sum.inr a : Key) = Sum.inr b := fun q => e (Sum.inr.inj q)
  rw [decide_eq_false h,decide_eq_false e]
theorem wf (a : Int) (b : Str) : decide ((Sum.inl a : Key) = Sum.inr b) = false := decide_eq_false (fun q => nomatch q)
theorem wg (a : Str) (b : Int) : decide ((Sum.inr a : Key) = Sum.inl b) = false := decide_eq_false (fun q => nomatch q)
def az (prog : Program) (w : World) : PySem.KeyKind prog w Key where
 is := jv
 hash := Ad w
 inj := fun v a b ha hb => by
  rcases bE ha with ⟨i,t,rfl,rfl⟩ | ⟨x,t,rfl,rfl⟩
  ·rcases bE hb with ⟨j,u,rfl,e⟩ | ⟨y,u,rfl,e⟩
   ·injection e with e1 _; rw [e1]
   ·exact nomatch e
  ·rcases bE hb with ⟨j,u,rfl,e⟩ | ⟨y,u,rfl,e⟩
   ·exact nomatch e
   ·injection e with e1 _; rw [e1]
 byValue := fun k v h => by
  rcases bE h with ⟨i,t,rfl,rfl⟩ | ⟨x,t,rfl,rfl⟩ <;> rfl
 pyHash := fun hv h => by
  rcases bE hv with ⟨i,t,rfl,rfl⟩ | ⟨x,t,rfl,rfl⟩
  ·exact wpAny_pyHash_int h
  ·exact wpAny_pyHash_str h
 eqBool := fun hu hv h => by
  rcases bE hu with ⟨i,t,rfl,rfl⟩ | ⟨x,t,rfl,rfl⟩
  ·rcases bE hv with ⟨j,u,rfl,rfl⟩ | ⟨y,u,rfl,rfl⟩
   ·rw [wd] at h; exact wpAny_eqBool_int h
   ·rw [wf] at h; exact SeqAt.EqAt.int_str i t y u _ _ _ _ h
  ·rcases bE hv with ⟨j,u,rfl,rfl⟩ | ⟨y,u,rfl,rfl⟩
   ·rw [wg] at h; exact SeqAt.EqAt.str_int x t j u _ _ _ _ h
   ·rw [we] at h; exact wpAny_eqBool_str h
 «strs» := fun k x t v h => by
  rcases bE h with ⟨i,u,rfl,e⟩ | ⟨y,u,rfl,e⟩
  ·exact nomatch e
  ·injection e with e1 _
   subst e1
   cases v <;> rfl
theorem lN (prog : Program) (w : World) (i : Int) (t : Tok) : (az prog w).is (.inl i) (.int i t) = true := qg i t
theorem lO (prog : Program) (w : World) (x : Str) (t : Tok) : (az prog w).is (.inr x) (.str x t) = true := qh x t
inductive V where
 | non | bl (b : Bool) | int (i : Int) | str (x : Str) | byt (b : Array UInt8) | flt (b : UInt64) | ref (a : Addr) | ty (n : String)
 deriving DecidableEq
def RelV : V -> Value -> Prop
 | .non,u => u = Value.none
 | .bl b,u => u = Value.bool b
 | .int i,u => ∃ t,u = Value.int i t
 | .str x,u => ∃ t,u = Value.str x t
 | .byt b,u => ∃ t,u = Value.bytes b t
 | .flt b,u => ∃ t,u = Value.float b t
 | .ref a,u => u = Value.ref a
 | .ty n,u => u = Value.type n
abbrev aN : List V -> List Value -> Prop := Paired RelV
theorem aN.length {xs : List V} {us : List Value} (r : aN xs us) : xs.length = us.length := Paired.length r
theorem aN.get : ∀ {xs : List V} {us : List Value} {i : Nat} {x : V},aN xs us -> xs[i]? = some x -> ∃ u,us[i]? = some u /\ RelV x u
 | _,_,_,_,.nil,e => by simp at e
 | _,_,0,_,.cons r _,e => by simp at e; subst e; exact ⟨_,rfl,r⟩
 | _,_,i + 1,x,.cons _ t,e => by
  obtain ⟨u,h1,h2⟩ := aN.get (i := i) (x := x) t (by simpa using e)
  exact ⟨u,by simpa using h1,h2⟩
theorem aN.append : ∀ {xs ys : List V} {us ws : List Value},aN xs us -> aN ys ws -> aN (xs ++ ys) (us ++ ws)
 | _,_,_,_,.nil,s => s
 | _,_,_,_,.cons r t,s => .cons r (aN.append t s)
theorem aN.take : ∀ {xs : List V} {us : List Value} (n : Nat),aN xs us -> aN (xs.take n) (us.take n)
 | _,_,0,_ => .nil
 | _,_,_ + 1,.nil => .nil
 | _,_,n + 1,.cons r t => .cons r (aN.take n t)
theorem aN.drop : ∀ {xs : List V} {us : List Value} (n : Nat),aN xs us -> aN (xs.drop n) (us.drop n)
 | _,_,0,r => r
 | _,_,_ + 1,.nil => .nil
 | _,_,n + 1,.cons _ t => aN.drop n t
def dh : Option V -> Option Value -> Prop
 | some v,some u => RelV v u
 | none,none => True
 | _,_ => False
def KV {κ : Type} : List (κ × V) -> List (κ × Value) -> Prop := Paired fun (p : κ × V) (q : κ × Value) => p.1 = q.1 /\ RelV p.2 q.2
def kV : Key -> V
 | .inl i => .int i
 | .inr x => .str x
inductive HO where
  | lst (xs : List V)
  | tup (xs : List V)
  | dK (kvs : List (Key × V)) | dT (kvs : List (List Key × V))
  | set (S : Int -> Bool) (n : Nat)
  | ins (C dx : Addr) (fs : List (Str × V))
  | own (x : Addr)
  | xd (fs : List (Str × V))
  | met (f x : Addr)
  | rng (lo hi : Int)
  | frz (o : Obj) (u : HO)
  | tbl (ps : Array Value)
  | ext (φ : Heap -> Prop)
abbrev Hp := Addr -> Option HO
def aq (H : Hp) (a : Addr) (o : HO) : Hp := fun b => if b = a then some o else H b
theorem ac {H : Hp} {a : Addr} {o : HO} : aq H a o a = some o := by unfold aq; rw [if_pos rfl]
theorem aj {H : Hp} {a b : Addr} {o : HO} (h : b ≠ a) : aq H a o b = H b := by unfold aq; rw [if_neg h]
theorem oS {H : Hp} {a : Addr} {o u : HO} : aq (aq H a o) a u = aq H a u := by
 funext b; unfold aq; split <;> rfl
theorem bS {H : Hp} {a b : Addr} {o u : HO} (h : H a = some o) (h' : H b = some u) (d : o ≠ u) : a ≠ b := by
 intro e; subst e; rw [h] at h'; exact d (C1 h')
theorem aQ {H : Hp} {a b : Addr} {o : HO} (h : H a = some o) (h' : H b = none) : a ≠ b := by
 intro e; subst e; rw [h] at h'; cases h'
section
variable (P : Program) (w : World)
def aR (H : Hp) (h : Heap) (a : Addr) : HO -> Prop
 | .lst xs => xs.length <= sizeLine /\ ∃ (its : List Value) (n : Nat),aN xs its /\ h.get? a = some { cls := .type "list",data := .seq its.toArray n }
 | .tup xs => xs.length <= sizeLine /\ ∃ its : List Value,aN xs its /\ IsTup h a its.toArray
 | .dK kvs => kvs.length <= sizeLine /\ (a == sysModules) = false /\ ∃ vs,KV kvs vs /\ h.DictOf (az P w) a vs
 | .dT kvs => kvs.length <= sizeLine /\ (a == sysModules) = false /\ ∃ xs : List (List Key × Addr × Value),
   Paired (fun (p : List Key × V) (q : List Key × Addr × Value) => p.1 = q.1 /\ H q.2.1 = some (.tup (p.1.map kV)) /\ RelV p.2 q.2.2) kvs xs /\
   ∃ o es ep,h.get? a = some o /\ o.ExactDict /\ o.data = .dict es ep /\ es.toList = xs.map (entryOfKey (tupleKind (az P w))) /\ (xs.map (·.1)).Nodup
 | .set S n => h.SetOf (intKind P w) a S n
 | .ins C dx fs => H dx = some (.own a) /\ fs.length <= 1000 /\ dx ≠ a /\ h.get? a = some (CY C dx) /\
   ∃ mA,h.Ns1 dx mA /\ (∀ f,dh (fs.lookup f) (mA f)) /\ PySem.Within mA (fs.map (·.1))
 | .own _ => ∃ o,h.get? a = some o
 | .xd fs => ∃ mA,h.Ns1 a mA /\ ∀ f,dh (fs.lookup f) (mA f)
 | .rng lo hi => ∃ t u v,h.get? a = some { cls := .type "range",data := .fields #[.int lo t,.int hi u,.int 1 v] }
 | .frz o u => h.get? a = some o /\ aR H h a u
 | .tbl ps => h.get? a = some { cls := .none,data := .fields ps }
 | .met f x => h.get? a = some (PySem.W.methodObj (.ref f) (.ref x))
 | .ext φ => φ h /\ (∃ o,h.get? a = some o) /\ ∀ h1 h2 : Heap,φ h1 -> (∀ o,h1.get? a = some o -> h2.get? a = some o) -> φ h2
def dv (H : Hp) (h : Heap) : Prop := ∀ a o,H a = some o -> aR P w H h a o
end
section
variable {P : Program} {w : World} {H H' : Hp} {h h' : Heap} {a : Addr} {o : HO}
theorem aR.lt (x : aR P w H h a o) : a < h.objs.size := by
 cases o with
 | lst xs => obtain ⟨_,_,_,_,e⟩ := x; exact Heap.lt_size e
 | tup xs => obtain ⟨_,_,_,p⟩ := x; exact p.lt
 | dK kvs => obtain ⟨_,_,_,_,o,_,_,e,_⟩ := x; exact Heap.lt_size e
 | dT kvs => obtain ⟨_,_,_,_,o,_,_,e,_⟩ := x; exact Heap.lt_size e
 | set S n => obtain ⟨o,_,_,_,e,_⟩ := x; exact Heap.lt_size e
 | ins C dx fs => obtain ⟨_,_,_,e,_⟩ := x; exact Heap.lt_size e
 | own y => obtain ⟨_,e⟩ := x; exact Heap.lt_size e
 | xd fs => obtain ⟨_,⟨_,_,_,e,_⟩,_⟩ := x; exact Heap.lt_size e
 | rng lo hi => obtain ⟨_,_,_,e⟩ := x; exact Heap.lt_size e
 | frz ob u => obtain ⟨e,_⟩ := x; exact Heap.lt_size e
 | tbl ps => exact Heap.lt_size (show h.get? a = some _ from x)
 | met f y => exact Heap.lt_size (show h.get? a = some _ from x)
 | ext φ => obtain ⟨_,⟨_,e⟩,_⟩ := x; exact Heap.lt_size e
theorem Paired.mapP {α β : Type} {F G : α -> β -> Prop} : ∀ {l₁ : List α} {l₂ : List β},Paired F l₁ l₂ -> (∀ a b,F a b -> G a b) -> Paired G l₁ l₂
 | _,_,.nil,_ => .nil
 | _,_,.cons r t,f => .cons (f _ _ r) (Paired.mapP t f)
theorem aR.stay (x : aR P w H h a o) (k : ∀ b u,(b = a ∨ H b = some (.own a)) -> h.get? b = some u -> h'.get? b = some u)
  (ho : ∀ b,H b = some (.own a) -> H' b = some (.own a)) (ht : ∀ b xs,H b = some (.tup xs) -> H' b = some (.tup xs)) : aR P w H' h' a o := by
 induction o with
 | lst xs => obtain ⟨z,its,n,r,e⟩ := x; exact ⟨z,its,n,r,k _ _ (.inl rfl) e⟩
 | tup xs => obtain ⟨z,its,r,ob,e,c⟩ := x; exact ⟨z,its,r,ob,k _ _ (.inl rfl) e,c⟩
 | dK kvs => obtain ⟨z,y,vs,r,ob,es,ep,e,c⟩ := x; exact ⟨z,y,vs,r,ob,es,ep,k _ _ (.inl rfl) e,c⟩
 | dT kvs =>
  obtain ⟨z,y,xs,r,ob,es,ep,e,c⟩ := x
  exact ⟨z,y,xs,Paired.mapP r fun p q z => ⟨z.1,ht _ _ z.2.1,z.2.2⟩,ob,es,ep,k _ _ (.inl rfl) e,c⟩
 | set S n => obtain ⟨ob,es,ep,t,e,c⟩ := x; exact ⟨ob,es,ep,t,k _ _ (.inl rfl) e,c⟩
 | ins C dx fs =>
  obtain ⟨d,z,ne,e,mA,⟨od,es,ep,e2,c⟩,r⟩ := x
  exact ⟨ho _ d,z,ne,k _ _ (.inl rfl) e,mA,⟨od,es,ep,k _ _ (.inr d) e2,c⟩,r⟩
 | own y => obtain ⟨ob,e⟩ := x; exact ⟨ob,k _ _ (.inl rfl) e⟩
 | xd fs => obtain ⟨mA,⟨od,es,ep,e,c⟩,r⟩ := x; exact ⟨mA,⟨od,es,ep,k _ _ (.inl rfl) e,c⟩,r⟩
 | rng lo hi => obtain ⟨t,u,v,e⟩ := x; exact ⟨t,u,v,k _ _ (.inl rfl) e⟩
 | frz ob u ih => obtain ⟨e,q⟩ := x; exact ⟨k _ _ (.inl rfl) e,ih q⟩
 | tbl ps =>
  have e : h.get? a = some { cls := .none,data := .fields ps } := x
  show h'.get? a = some { cls := .none,data := .fields ps }
  exact k a _ (.inl rfl) e
 | met f y =>
  have e : h.get? a = some (PySem.W.methodObj (.ref f) (.ref y)) := x
  show h'.get? a = some (PySem.W.methodObj (.ref f) (.ref y))
  exact k a _ (.inl rfl) e
 | ext φ => obtain ⟨p,⟨o,e⟩,st⟩ := x; exact ⟨st _ _ p fun o q => k _ _ (.inl rfl) q,⟨o,k _ _ (.inl rfl) e⟩,st⟩
theorem dv.lt (x : dv P w H h) (e : H a = some o) : a < h.objs.size := (x a o e).lt
theorem dv.fresh (x : dv P w H h) (e : h.objs.size <= a) : H a = none := by
 cases q : H a with
 | none => rfl
 | some u => exact absurd (BO (x.lt q) e) (Nat.lt_irrefl _)
theorem dv.kept (x : dv P w H h) (k : ∀ b u,h.get? b = some u -> h'.get? b = some u) : dv P w H h' := fun a o e =>
 (x a o e).stay (fun b u _ q => k b u q) (fun _ q => q) fun _ _ q => q
theorem dv.laid (x : dv P w H h) (k : ∀ b u,h.get? b = some u -> h'.get? b = some u) (hp : h.objs.size <= a) (new : aR P w (aq H a o) h' a o) : dv P w (aq H a o) h' := fun b u e => by
 have hn := x.fresh hp
 by_cases hb : b = a
 ·subst hb; rw [ac] at e; cases e; exact new
 ·rw [aj hb] at e
  exact (x b u e).stay (fun c v _ q => k c v q) (fun c q => by rw [aj (aQ q hn)]; exact q) fun c xs q => by rw [aj (aQ q hn)]; exact q
end
def Rd (H : Hp) (a : Addr) (u : HO) : Prop := H a = some u ∨ ∃ o,H a = some (.frz o u)
theorem Rd.ok {P : Program} {w : World} {H : Hp} {h : Heap} {a : Addr} {u : HO} (r : Rd H a u) (x : dv P w H h) : aR P w H h a u := by
 rcases r with r | ⟨o,r⟩
 ·exact x a u r
 ·obtain ⟨_,q⟩ := x a _ r
  exact q
def xL : Option HO -> Prop
 | some (.lst _) => True
 | some (.dK _) => True
 | some (.dT _) => True
 | some (.set _ _) => True
 | some (.ins _ _ _) => True
 | some (.ext _) => True
 | _ => False
section
variable {P : Program} {w : World} {H : Hp} {h h' : Heap} {x e : Addr} {o' : HO}
theorem dv.write (ok : dv P w H h) (mu : xL (H x)) (he : e = x ∨ H e = some (.own x)) (k : ∀ b u,b ≠ e -> h.get? b = some u -> h'.get? b = some u) (heo : ∃ u,h'.get? e = some u)
  (new : aR P w (aq H x o') h' x o') : dv P w (aq H x o') h' := fun b u q => by
 have nown : ∀ c y,H c = some (.own y) -> c ≠ x := fun c y r z => by subst z; rw [r] at mu; exact mu
 have ntup : ∀ c xs,H c = some (.tup xs) -> c ≠ x := fun c xs r z => by subst z; rw [r] at mu; exact mu
 by_cases hb : b = x
 ·subst hb; rw [ac] at q; cases q; exact new
 ·rw [aj hb] at q
  by_cases hbe : b = e
  ·have q' : H b = some (.own x) := by
    rcases he with z | z
    ·exact absurd (hbe.trans z) hb
    ·rw [hbe]; exact z
   rw [q] at q'; cases q'
   obtain ⟨v,hv⟩ := heo
   exact ⟨v,by rw [hbe]; exact hv⟩
  ·refine (ok b u q).stay (fun c v hc r => k c v ?_ r) (fun c r => by rw [aj (nown c b r)]; exact r) fun c xs r => by rw [aj (ntup c xs r)]; exact r
   rcases hc with rfl | hc
   ·exact hbe
   ·rintro rfl
    rcases he with z | z
    ·exact nown c b hc z
    ·rw [hc] at z; cases z; exact hb rfl
end
structure Un (fs ex : List Addr) (H H' : Hp) (h h' : Heap) : Prop where
 keep : ∀ b o,h.get? b = some o -> H b = none -> b ∉ fs -> b ∉ ex -> h'.get? b = some o
 slot : ∀ b o,h.get? b = some o -> H b = none -> b ∈ fs -> b ∉ ex -> ∃ sl,h'.get? b = some { o with slots := sl }
 free : ∀ b o,h.get? b = some o -> H b = none -> b ∉ ex -> H' b = none
 there : ∀ b o,h.get? b = some o -> b ∉ ex -> ∃ o',h'.get? b = some o'
 tups : ∀ b xs,H b = some (.tup xs) -> H' b = some (.tup xs)
 frzs : ∀ b o u,H b = some (.frz o u) -> H' b = some (.frz o u)
 tbls : ∀ b ps,H b = some (.tbl ps) -> ∃ more,H' b = some (.tbl (ps ++ more))
section
variable {fs fs' ex ex' : List Addr} {H H1 H2 : Hp} {h h1 h2 h' : Heap} {a x e : Addr} {o : HO}
theorem Un.any (u : Un fs ex H H1 h h1) {b : Addr} {ob : Obj} (q : h.get? b = some ob) (n : H b = none) (hx : b ∉ ex) : ∃ sl,h1.get? b = some { ob with slots := sl } := by
 by_cases hb : b ∈ fs
 ·exact u.slot b ob q n hb hx
 ·exact ⟨ob.slots,u.keep b ob q n hb hx⟩
theorem Un.trans (a : Un fs ex H H1 h h1) (b : Un fs ex H1 H2 h1 h2) : Un fs ex H H2 h h2 where
 keep := fun c ob q n hc hx => b.keep c ob (a.keep c ob q n hc hx) (a.free c ob q n hx) hc hx
 slot := fun c ob q n hc hx => by
  obtain ⟨sl,e1⟩ := a.slot c ob q n hc hx
  obtain ⟨sl',e2⟩ := b.slot c _ e1 (a.free c ob q n hx) hc hx
  exact ⟨sl',e2⟩
 free := fun c ob q n hx => by
  obtain ⟨o',e1⟩ := a.there c ob q hx
  exact b.free c o' e1 (a.free c ob q n hx) hx
 there := fun c ob q hx => by
  obtain ⟨o',e1⟩ := a.there c ob q hx
  exact b.there c o' e1 hx
 tups := fun c xs q => b.tups c xs (a.tups c xs q)
 frzs := fun c ob xs q => b.frzs c ob xs (a.frzs c ob xs q)
 tbls := fun c ps q => by
  obtain ⟨m1,e1⟩ := a.tbls c ps q
  obtain ⟨m2,e2⟩ := b.tbls c _ e1
  exact ⟨m1 ++ m2,by rw [e2,Array.append_assoc]⟩
theorem Un.kept (k : ∀ b u,h.get? b = some u -> h'.get? b = some u) : Un fs ex H H h h' :=
 ⟨fun b ob q _ _ _ => k b ob q,fun b ob q _ _ _ => ⟨ob.slots,k b ob q⟩,fun _ _ _ n _ => n,fun b ob q _ => ⟨ob,k b ob q⟩,fun _ _ q => q,fun _ _ _ q => q,fun _ ps q => ⟨#[],by rw [q]; simp⟩⟩
theorem Un.refl : Un fs ex H H h h := Un.kept fun _ _ q => q
theorem Un.laid (k : ∀ b u,h.get? b = some u -> h'.get? b = some u) (hp : h.objs.size <= a) (hn : H a = none) : Un fs ex H (aq H a o) h h' where
 keep := fun b u q _ _ _ => k b u q
 slot := fun b u q _ _ _ => ⟨u.slots,k b u q⟩
 free := fun b u q n _ => by rw [aj (BA (BO (Heap.lt_size q) hp))]; exact n
 there := fun b u q _ => ⟨u,k b u q⟩
 tups := fun b xs q => by rw [aj (aQ q hn)]; exact q
 frzs := fun b u xs q => by rw [aj (aQ q hn)]; exact q
 tbls := fun b ps q => ⟨#[],by rw [aj (aQ q hn),q]; simp⟩
theorem Un.write (mu : xL (H x)) (he : e = x ∨ H e = some (.own x)) (k : ∀ b u,b ≠ e -> h.get? b = some u -> h'.get? b = some u) (heo : ∃ u,h'.get? e = some u) : Un fs ex H (aq H x o) h h' := by
 have hx : ∀ b,H b = none -> b ≠ x := fun b n z => by subst z; rw [n] at mu; exact mu
 have hb : ∀ b,H b = none -> b ≠ e := fun b n z => by
  subst z
  rcases he with r | r
  ·exact hx b n r
  ·rw [n] at r; cases r
 have hm : ∀ b u,H b = some u -> ¬ xL (some u) -> b ≠ x := fun b u q nm z => by subst z; rw [q] at mu; exact nm mu
 refine ⟨fun b u q n _ _ => k b u (hb b n) q,fun b u q n _ _ => ⟨u.slots,k b u (hb b n) q⟩,fun b u q n _ => by rw [aj (hx b n)]; exact n,fun b u q _ => ?_,
  fun b xs q => by rw [aj (hm b _ q fun z => z)]; exact q,fun b u xs q => by rw [aj (hm b _ q fun z => z)]; exact q,fun b ps q => ⟨#[],by rw [aj (hm b _ q fun z => z),q]; simp⟩⟩
 by_cases hbe : b = e
 ·subst hbe; exact heo
 ·exact ⟨u,k b u hbe q⟩
end
def zO (h : Heap) (H : Hp) : List Addr := (Cs h.objs.size).filter fun a => (H a).isSome
def j0 (h : Heap) (H : Hp) : Heap := PySem.W.hideAll h (zO h H)
theorem qi (h : Heap) (H : Hp) : (j0 h H).objs.size = h.objs.size := PySem.W.hideAll_size _ _
theorem rM {h : Heap} {H : Hp} {b : Addr} {o : Obj} (e : h.get? b = some o) (n : H b = none) : (j0 h H).get? b = some o :=
 PySem.W.hideAll_get _ e fun hm => by
  have q : (H b).isSome = true := (Cy.mp hm).2
  rw [n] at q; simp at q
theorem ug {h : Heap} {H : Hp} {b : Addr} {o : Obj} (e : (j0 h H).get? b = some o) : h.get? b = some o /\ H b = none := by
 have e' : h.get? b = some o := PySem.W.of_hideAll (zO h H) e
 refine ⟨e',?_⟩
 cases q : H b with
 | none => rfl
 | some x =>
  have hm : b ∈ zO h H := Cy.mpr ⟨List.mem_range.mpr (Heap.lt_size e'),by simp [q]⟩
  have z : (j0 h H).get? b = none := PySem.W.hideAll_none (zO h H) hm
  rw [z] at e; cases e
structure Mod (K : B1) (mg : Str -> Option Value) (base : Heap) : Prop where
 kin : K.In base
 glob : base.Ns mainGlobals mg
 blt : ∃ mb,base.Ns builtinsNs mb /\ ∀ x : Str,x ≠ "__name__" -> mb x = bootBuiltins x
 nolimit : base.NoLimit
structure Cx where
 prog : Program
 w : World
 K : B1
 mg : Str -> Option Value
 base : Heap
 A : Around
 N : List Str
 s₀ : Shared
 H₀ : Hp
 env : Env
 outer : List Env
 stack : List Env
 ex : List Addr
 fn : Str -> Bool
 calm : Bool
 pn : List (Addr × Obj)
 xe : Value -> Shared -> Prop
def gL (l : List Env) : List Addr := l.filterMap (·.frame)
abbrev Cx.fs (X : Cx) : List Addr := gL X.outer
def xM (sc : Scope) (x : Str) : Prop := sc.names.lookup x = some .local ∨ sc.names.lookup x = some .cell ∨ sc.names.lookup x = some .free
def Loc (sc : Scope) (x : Str) : Prop := sc.names.lookup x = some .local ∨ sc.names.lookup x = some .cell
def Look (env : Env) (h : Heap) (m : Str -> Option Value) (x : Str) (u : Value) : Prop :=
 (env.kindOf x = some .local /\ m x = some u) ∨ ((env.kindOf x = some .cell ∨ env.kindOf x = some .free) /\ ∃ c,env.cells.lookup x = some c /\ h.IsCell c (some u))
structure Cx.Ok (X : Cx) : Prop where
 mod : Mod X.K X.mg X.base
 kind : X.env.scope.kind = .function
 glob : X.env.globals = mainGlobals
 blt : X.env.builtins = builtinsNs
 above : X.s₀.heap.objs.size <= X.env.locals
 inj : ∀ x y c,X.env.cells.lookup x = some c -> X.env.cells.lookup y = some c -> x = y
 has : ∀ x,(X.env.kindOf x = some .cell ∨ X.env.kindOf x = some .free) -> ∃ c,X.env.cells.lookup x = some c
 cab : ∀ x c,X.fn x = true -> X.env.cells.lookup x = some c -> X.s₀.heap.objs.size <= c
 hd : X.calm = true -> X.A.handled = none
 frames : X.A.frames = some X.stack
 stk : X.stack = X.outer ∨ (X.stack = X.env :: X.outer /\ X.env.frame = some X.env.locals)
 exf : ∀ b ∈ X.ex,b ≠ X.env.locals /\ ∀ x c,X.env.cells.lookup x = some c -> c ≠ b
 bs : ∀ b o,X.base.get? b = some o -> X.s₀.heap.get? b = some o /\ X.H₀ b = none
 bsz : X.base.objs.size <= X.s₀.heap.objs.size
 noex : ∀ b o,X.base.get? b = some o -> b ∉ X.ex
 exfs : ∀ b ∈ X.ex,b ∉ X.fs
 funs : X.s₀.heap.FunFrames X.base X.outer
 frf : ∀ b ∈ X.fs,X.H₀ b = none
structure ar (X : Cx) (pins : List (Addr × Obj)) (σ : List (Option V)) (H : Hp) (s : Shared) : Prop where
 ok : X.Ok
 os : s.os = X.s₀.os
 bare : AllBare s.gens
 base : Un X.fs X.ex X.H₀ H X.s₀.heap s.heap
 loc : ∃ m,s.heap.Ns X.env.locals m /\ ∀ (i : Nat) (x : Str) (v : V),X.N[i]? = some x -> σ[i]? = some (some v) -> xM X.env.scope x -> ∃ u,RelV v u /\ Look X.env s.heap m x u
 cell : ∀ x c,X.env.cells.lookup x = some c -> ∃ v,s.heap.IsCell c v
 free : H X.env.locals = none
 freeC : ∀ x c,X.env.cells.lookup x = some c -> H c = none
 pin : ∀ p ∈ X.pn ++ pins,s.heap.get? p.1 = some p.2 /\ H p.1 = none /\ p.1 ≠ X.env.locals /\ p.1 ∉ X.fs /\ ∀ v,p.2.data ≠ .cell v
 hok : dv X.prog X.w H s.heap
 len : σ.length = X.N.length
section
variable {X : Cx} {pins : List (Addr × Obj)} {σ : List (Option V)} {H H' : Hp} {s : Shared} {h' : Heap}
theorem Cx.Ok.nofr (ok : X.Ok) {b : Addr} {o : Obj} (e : X.base.get? b = some o) : b ∉ X.fs := fun hb => by
 have := (ok.funs.mem hb).1
 rw [e] at this; cases this
theorem ar.bs (I : ar X pins σ H s) : ∀ b o,X.base.get? b = some o -> s.heap.get? b = some o /\ H b = none := fun b o e =>
 ⟨I.base.keep b o (I.ok.bs b o e).1 (I.ok.bs b o e).2 (I.ok.nofr e) (I.ok.noex b o e),I.base.free b o (I.ok.bs b o e).1 (I.ok.bs b o e).2 (I.ok.noex b o e)⟩
theorem ar.bk (I : ar X pins σ H s) : ∀ b o,X.base.get? b = some o -> s.heap.get? b = some o := fun b o e => (I.bs b o e).1
theorem ar.mod (I : ar X pins σ H s) : Mod X.K X.mg X.base := I.ok.mod
theorem ar.kIn (I : ar X pins σ H s) : X.K.In s.heap := I.ok.mod.kin.keeps I.bk
theorem ar.lt (I : ar X pins σ H s) : X.env.locals < s.heap.objs.size := let ⟨_,hn,_⟩ := I.loc; hn.lt
theorem ar.sz (I : ar X pins σ H s) : X.s₀.heap.objs.size <= s.heap.objs.size := BZ I.ok.above (Nat.le_of_lt I.lt)
theorem ar.nofs (I : ar X pins σ H s) {a : Addr} (h : s.heap.objs.size <= a) : a ∉ X.fs := fun hb => by
 obtain ⟨_,o,ho,_⟩ := I.ok.funs.mem hb
 exact absurd (BO (Heap.lt_size ho) (BZ I.sz h)) (Nat.lt_irrefl _)
theorem ar.cne (I : ar X pins σ H s) : ∀ x c,X.env.cells.lookup x = some c -> c ≠ X.env.locals := fun x c e z => by
 obtain ⟨v,o,ho,hd⟩ := I.cell x c e
 obtain ⟨m,⟨o',es,ep,ho',hd',_⟩,_⟩ := I.loc
 rw [z,ho'] at ho; cases ho; rw [hd'] at hd; cases hd
theorem ar.funs (I : ar X pins σ H s) : s.heap.FunFrames X.base X.outer := by
 have all : ∀ (l : List Env),(∀ b ∈ gL l,b ∈ X.fs) -> X.s₀.heap.FunFrames X.base l -> s.heap.FunFrames X.base l := by
  intro l
  induction l with
  | nil => intro _ _; trivial
  | cons env r ih =>
   intro hs hl
   obtain ⟨hk,⟨L,o,hf,hn,ho,hd⟩,hr⟩ := hl
   have hL : L ∈ X.fs := hs L (by unfold gL; rw [Cv,hf]; exact C8)
   obtain ⟨sl,e⟩ := I.base.slot L o ho (I.ok.frf L hL) hL fun z => I.ok.exfs L z hL
   exact ⟨hk,⟨L,_,hf,hn,e,hd⟩,ih (fun b hb => hs b (by unfold gL; rw [Cv,hf]; exact BV _ hb)) hr⟩
 exact all X.outer (fun _ hb => hb) I.ok.funs
theorem ar.stack (I : ar X pins σ H s) : s.heap.FunFrames X.base X.stack := by
 rcases I.ok.stk with e | ⟨e,hf⟩
 ·rw [e]; exact I.funs
 ·rw [e]
  obtain ⟨m,hn,_⟩ := I.loc
  refine .cons (by rw [I.ok.kind]; decide) hf hn ?_ I.funs
  exact Heap.get?_none_of_le (BZ I.ok.bsz I.ok.above)
theorem ar.stkSub (I : ar X pins σ H s) : ∀ b ∈ gL X.stack,b ∈ X.env.locals :: X.fs := fun b hb => by
 rcases I.ok.stk with e | ⟨e,hf⟩
 ·rw [e] at hb; exact BV _ hb
 ·rw [e] at hb
  unfold gL at hb
  rw [Cv,hf] at hb
  exact hb
theorem ar.stkFree (I : ar X pins σ H s) : ∀ b ∈ gL X.stack,H b = none := fun b hb => by
 rcases B9.mp (I.stkSub b hb) with e | hb
 ·rw [e]; exact I.free
 ·obtain ⟨_,o,ho,_⟩ := I.ok.funs.mem hb
  exact I.base.free b o ho (I.ok.frf b hb) fun z => I.ok.exfs b z hb
theorem ar.step {g' : Array GenState} {t' : Nat} {d' : Drawn} {ch : List Addr} (I : ar X pins σ H s)
  (hch : ∀ b ∈ ch,(b ∈ X.ex ∨ X.s₀.heap.objs.size <= b) /\ b ≠ X.env.locals /\ (∀ x c,X.env.cells.lookup x = some c -> c ≠ b) /\ ∀ p ∈ X.pn ++ pins,p.1 ≠ b)
  (keep : ∀ b o,b ≠ X.env.locals -> b ∉ X.fs -> b ∉ ch -> s.heap.get? b = some o -> H b = none -> h'.get? b = some o)
  (slot : ∀ b o,b ≠ X.env.locals -> b ∈ X.fs -> b ∉ ch -> s.heap.get? b = some o -> H b = none -> ∃ sl,h'.get? b = some { o with slots := sl }) (free : ∀ b o,b ∉ ch -> s.heap.get? b = some o -> H b = none -> H' b = none)
  (there : ∀ b o,b ∉ ch -> s.heap.get? b = some o -> ∃ o',h'.get? b = some o')
  (tups : ∀ b xs,H b = some (.tup xs) -> H' b = some (.tup xs)) (frzs : ∀ b o u,H b = some (.frz o u) -> H' b = some (.frz o u)) (tbls : ∀ b ps,H b = some (.tbl ps) -> ∃ more,H' b = some (.tbl (ps ++ more)))
  (ns : ∀ m,s.heap.Ns X.env.locals m -> h'.Ns X.env.locals m) (hok : dv X.prog X.w H' h') (hg : AllBare g') :
  ar X pins σ H' { s with heap := h',gens := g',drawn := d',toks := t' } := by
 have neL : ∀ b o,X.s₀.heap.get? b = some o -> b ≠ X.env.locals := fun b o e => BA (BO (Heap.lt_size e) I.ok.above)
 have neC : ∀ b o,X.s₀.heap.get? b = some o -> b ∉ X.ex -> b ∉ ch := fun b o e hx hb => by
  rcases (hch b hb).1 with z | z
  ·exact hx z
  ·exact absurd (BO (Heap.lt_size e) z) (Nat.lt_irrefl _)
 have cellK : ∀ x c,X.env.cells.lookup x = some c -> ∀ v,s.heap.IsCell c v -> h'.IsCell c v := fun x c e v ⟨o,ho,hd⟩ => by
  have nch : c ∉ ch := fun z => (hch c z).2.2.1 x c e rfl
  by_cases hc : c ∈ X.fs
  ·obtain ⟨sl,q⟩ := slot c o (I.cne x c e) hc nch ho (I.freeC x c e)
   exact ⟨_,q,hd⟩
  ·exact ⟨o,keep c o (I.cne x c e) hc nch ho (I.freeC x c e),hd⟩
 refine ⟨I.ok,I.os,hg,⟨fun b o e n hb hx => ?_,fun b o e n hb hx => ?_,fun b o e n hx => ?_,fun b o e hx => ?_,fun b xs e => tups b xs (I.base.tups b xs e),fun b o xs e => frzs b o xs (I.base.frzs b o xs e),fun b ps e => ?_⟩,?_,fun x c e => ?_,?_,fun x c e => ?_,fun p hp => ?_,hok,I.len⟩
 ·exact keep b o (neL b o e) hb (neC b o e hx) (I.base.keep b o e n hb hx) (I.base.free b o e n hx)
 ·obtain ⟨sl,e1⟩ := I.base.slot b o e n hb hx
  obtain ⟨sl',e2⟩ := slot b _ (neL b o e) hb (neC b o e hx) e1 (I.base.free b o e n hx)
  exact ⟨sl',e2⟩
 ·obtain ⟨o',e1⟩ := I.base.there b o e hx
  exact free b o' (neC b o e hx) e1 (I.base.free b o e n hx)
 ·obtain ⟨o',e1⟩ := I.base.there b o e hx
  exact there b o' (neC b o e hx) e1
 ·obtain ⟨m1,e1⟩ := I.base.tbls b ps e
  obtain ⟨m2,e2⟩ := tbls b _ e1
  exact ⟨m1 ++ m2,by rw [e2,Array.append_assoc]⟩
 ·obtain ⟨m,hn,hl⟩ := I.loc
  refine ⟨m,ns m hn,fun i x v e1 e2 e3 => ?_⟩
  obtain ⟨u,r,l⟩ := hl i x v e1 e2 e3
  refine ⟨u,r,?_⟩
  rcases l with l | ⟨k,c,e,z⟩
  ·exact .inl l
  ·exact .inr ⟨k,c,e,cellK x c e _ z⟩
 ·obtain ⟨v,z⟩ := I.cell x c e
  exact ⟨v,cellK x c e v z⟩
 ·obtain ⟨m,⟨o,_,_,ho,_⟩,_⟩ := I.loc
  exact free _ o (fun z => (hch _ z).2.1 rfl) ho I.free
 ·obtain ⟨v,o,ho,hd⟩ := I.cell x c e
  exact free c o (fun z => (hch c z).2.2.1 x c e rfl) ho (I.freeC x c e)
 ·obtain ⟨e,n,ne,nf,d⟩ := I.pin p hp
  have nch : p.1 ∉ ch := fun z => (hch p.1 z).2.2.2 p hp rfl
  exact ⟨keep p.1 p.2 ne nf nch e n,free p.1 p.2 nch e n,ne,nf,d⟩
theorem ar.un {t' : Nat} (I : ar X pins σ H s) (u : Un X.fs [] H H' s.heap h') (hok : dv X.prog X.w H' h') : ar X pins σ H' { s with heap := h',toks := t' } := by
 obtain ⟨m,⟨o,es,ep,ho,r⟩,_⟩ := id I.loc
 obtain ⟨sl,hL⟩ := u.any ho I.free (by simp)
 exact I.step (g' := s.gens) (d' := s.drawn) (ch := []) (fun _ z => nomatch z) (fun b o _ hb _ e n => u.keep b o e n hb (by simp)) (fun b o _ hb _ e n => u.slot b o e n hb (by simp)) (fun b o _ e n => u.free b o e n (by simp)) (fun b o _ e => u.there b o e (by simp)) u.tups u.frzs u.tbls (fun m' hm => by
  obtain ⟨o',es',ep',ho',r'⟩ := hm
  rw [ho] at ho'; cases ho'
  exact ⟨_,es',ep',hL,r'⟩) hok I.bare
theorem ar.call {g' : Array GenState} {t' : Nat} {d' : Drawn} {ch : List Addr} (I : ar X pins σ H s) (u : Un (gL X.stack) ch H H' s.heap h') (hok : dv X.prog X.w H' h') (hg : AllBare g')
  (hch : ∀ b ∈ ch,(b ∈ X.ex ∨ X.s₀.heap.objs.size <= b) /\ b ≠ X.env.locals /\ (∀ x c,X.env.cells.lookup x = some c -> c ≠ b) /\ ∀ p ∈ X.pn ++ pins,p.1 ≠ b) :
  ar X pins σ H' { s with heap := h',gens := g',drawn := d',toks := t' } := by
 obtain ⟨m,⟨o,es,ep,ho,r⟩,_⟩ := id I.loc
 obtain ⟨sl,hL⟩ := u.any ho I.free fun z => (hch _ z).2.1 rfl
 exact I.step (ch := ch) hch (fun b o hL hb hc e n => u.keep b o e n (fun z => (B9.mp (I.stkSub b z)).elim hL hb) hc) (fun b o _ _ hc e n => u.any e n hc) (fun b o hc e n => u.free b o e n hc) (fun b o hc e => u.there b o e hc) u.tups u.frzs u.tbls (fun m' hm => by
  obtain ⟨o',es',ep',ho',r'⟩ := hm
  rw [ho] at ho'; cases ho'
  exact ⟨_,es',ep',hL,r'⟩) hok hg
theorem ar.turned {t' : Nat} {it : Addr} (I : ar X pins σ H s) (k : ∀ b o,b ≠ it -> s.heap.get? b = some o -> h'.get? b = some o) (hn : H it = none) (hL : it ≠ X.env.locals)
  (h1 : it ∈ X.ex ∨ X.s₀.heap.objs.size <= it) (h2 : ∀ x c,X.env.cells.lookup x = some c -> c ≠ it) (h3 : ∀ p ∈ X.pn ++ pins,p.1 ≠ it) : ar X pins σ H { s with heap := h',toks := t' } := by
 have nit : ∀ b u,H b = some u -> b ≠ it := fun b u e z => by rw [z,hn] at e; cases e
 refine I.step (g' := s.gens) (d' := s.drawn) (ch := [it]) (fun b hb => ?_) (fun b o _ _ hc e _ => k b o (fun z => hc (by simp [z])) e) (fun b o _ _ hc e _ => ⟨o.slots,k b o (fun z => hc (by simp [z])) e⟩) (fun _ _ _ _ n => n)
  (fun b o hc e => ⟨o,k b o (fun z => hc (by simp [z])) e⟩) (fun _ _ e => e) (fun _ _ _ e => e) (fun b ps e => ⟨#[],by rw [e]; simp⟩) (fun m hm => ?_) (fun b u e => ?_) I.bare
 ·have e : b = it := by simpa using hb
  subst e
  exact ⟨h1,hL,h2,h3⟩
 ·obtain ⟨o,es,ep,ho,r⟩ := hm
  exact ⟨o,es,ep,k _ o (Ne.symm hL) ho,r⟩
 ·refine (I.hok b u e).stay (fun c v hc q => k c v ?_ q) (fun _ q => q) fun _ _ q => q
  rcases hc with z | z
  ·rw [z]; exact nit b u e
  ·exact nit c _ z
theorem ar.tok (I : ar X pins σ H s) (t : Nat) : ar X pins σ H { s with toks := t } := I.un (h' := s.heap) (t' := t) Un.refl I.hok
theorem ar.kept {t' : Nat} (I : ar X pins σ H s) (k : ∀ b u,s.heap.get? b = some u -> h'.get? b = some u) : ar X pins σ H { s with heap := h',toks := t' } := I.un (Un.kept k) (I.hok.kept k)
theorem ar.laid {a : Addr} {o : HO} {t' : Nat} (I : ar X pins σ H s) (k : ∀ b u,s.heap.get? b = some u -> h'.get? b = some u) (hp : s.heap.objs.size <= a) (new : aR X.prog X.w (aq H a o) h' a o) :
  ar X pins σ (aq H a o) { s with heap := h',toks := t' } := I.un (Un.laid k hp (I.hok.fresh hp)) (I.hok.laid k hp new)
theorem ar.write {x e : Addr} {o : HO} {t' : Nat} (I : ar X pins σ H s) (mu : xL (H x)) (he : e = x ∨ H e = some (.own x)) (k : ∀ b u,b ≠ e -> s.heap.get? b = some u -> h'.get? b = some u) (heo : ∃ u,h'.get? e = some u)
  (new : aR X.prog X.w (aq H x o) h' x o) : ar X pins σ (aq H x o) { s with heap := h',toks := t' } := I.un (Un.write mu he k heo) (I.hok.write mu he k heo new)
theorem ar.pins_of {pins' : List (Addr × Obj)} (I : ar X pins σ H s) (h : ∀ p ∈ pins',s.heap.get? p.1 = some p.2 /\ H p.1 = none /\ p.1 ≠ X.env.locals /\ p.1 ∉ X.fs /\ ∀ v,p.2.data ≠ .cell v) : ar X pins' σ H s :=
 ⟨I.ok,I.os,I.bare,I.base,I.loc,I.cell,I.free,I.freeC,fun p hp => (BN.mp hp).elim (fun z => I.pin p (CK _ z)) (h p),I.hok,I.len⟩
theorem ip {N : List Str} (hN : N.Nodup) {i j : Nat} {x : Str} (a : N[i]? = some x) (b : N[j]? = some x) : i = j := by
 obtain ⟨h1,e1⟩ := B4.mp a
 obtain ⟨h2,e2⟩ := B4.mp b
 exact (List.getElem_inj hN).mp (e1.trans e2.symm)
theorem jw {M : Model} {A : Around} {E : Value -> Shared -> Prop} {i : Nat} {x : Str} {v : V} {u : Value} {Q : Unit -> Shared -> Prop} (I : ar X pins σ H s) (hN : X.N.Nodup) (hi : X.N[i]? = some x) (hx : Loc X.env.scope x) (r : RelV v u)
  (h : ∀ s',ar X pins (σ.set i (some v)) H s' -> (∃ a,Heap.SameBut a s.heap s'.heap /\ (a = X.env.locals ∨ X.env.cells.lookup x = some a)) -> Q () s') (hf : X.fn x = true ∨ X.env.scope.names.lookup x = some .local := by first | exact .inl rfl | exact .inr rfl | assumption) : wpAny M A (storeName X.env x u) Q E s := by
 obtain ⟨m,hn,hl⟩ := id I.loc
 have hcls : (X.env.scope.kind == .class || (X.env.scope.kind == .module && X.env.locals != X.env.globals)) = false := by rw [I.ok.kind]; rfl
 have hiσ : i < σ.length := by rw [I.len]; exact (B4.mp hi).1
 have cne := I.cne
 have tracked : ∀ {a : Addr} {h' : Heap},(∃ o,s.heap.get? a = some o /\ H a = none) -> Heap.SameBut a s.heap h' -> dv X.prog X.w H h' := fun {a h'} ha hs b ob e => by
  obtain ⟨_,_,hfree⟩ := ha
  refine (I.hok b ob e).stay (fun c w' hc q => (hs.2 c ?_).trans q) (fun _ q => q) fun _ _ q => q
  rintro rfl
  rcases hc with rfl | hc
  ·rw [hfree] at e; cases e
  ·rw [hfree] at hc; cases hc
 rcases hx with hk | hk
 ·refine wpAny_storeName_local hk hn (fun h' hn' hs => ?_) hcls
  obtain ⟨oL,_,_,hoL,_⟩ := id hn
  refine h _ ⟨I.ok,I.os,I.bare,⟨fun b o e n hb hx => ?_,fun b o e n hb hx => ?_,I.base.free,fun b o e hx => ?_,I.base.tups,I.base.frzs,I.base.tbls⟩,⟨_,hn',fun j y v' e1 e2 e3 => ?_⟩,fun y c e => ?_,I.free,I.freeC,fun p hp => ?_,tracked ⟨oL,hoL,I.free⟩ hs,by simpa using I.len⟩ ⟨_,hs,.inl rfl⟩
  ·exact (hs.2 b (BA (BO (Heap.lt_size e) I.ok.above))).trans (I.base.keep b o e n hb hx)
  ·obtain ⟨sl,e1⟩ := I.base.slot b o e n hb hx
   exact ⟨sl,(hs.2 b (BA (BO (Heap.lt_size e) I.ok.above))).trans e1⟩
  ·obtain ⟨o',e1⟩ := I.base.there b o e hx
   exact ⟨o',(hs.2 b (BA (BO (Heap.lt_size e) I.ok.above))).trans e1⟩
  ·by_cases hj : j = i
   ·subst hj
    rw [hi] at e1; cases e1
    rw [List.getElem?_set_self hiσ] at e2
    cases e2
    exact ⟨u,r,.inl ⟨hk,by simp⟩⟩
   ·rw [List.getElem?_set_ne (Ne.symm hj)] at e2
    obtain ⟨u',r',q⟩ := hl j y v' e1 e2 e3
    refine ⟨u',r',?_⟩
    rcases q with ⟨k,e⟩ | ⟨k,c,e,z⟩
    ·refine .inl ⟨k,?_⟩
     have : y ≠ x := fun e => hj (ip hN e1 (e ▸ hi))
     simp [this,e]
    ·exact .inr ⟨k,c,e,z.sameBut hs (cne y c e)⟩
  ·obtain ⟨w',z⟩ := I.cell y c e
   exact ⟨w',z.sameBut hs (cne y c e)⟩
  ·obtain ⟨e,n,ne,nf,d⟩ := I.pin p hp
   exact ⟨(hs.2 p.1 ne).trans e,n,ne,nf,d⟩
 ·have hfn : X.fn x = true := by
   rcases hf with z | z
   ·exact z
   ·rw [z] at hk; cases hk
  obtain ⟨c,hc⟩ := I.ok.has x (.inl hk)
  obtain ⟨w',z⟩ := I.cell x c hc
  refine wpAny_storeName_cell I.ok.kind hk hc z (fun h' hc' hs => ?_)
  obtain ⟨oc,hoc,hocd⟩ := id z
  refine h { s with heap := h' } ⟨I.ok,I.os,I.bare,⟨fun b o e n hb hx => ?_,fun b o e n hb hx => ?_,I.base.free,fun b o e hx => ?_,I.base.tups,I.base.frzs,I.base.tbls⟩,⟨m,hn.sameBut hs (Ne.symm (cne x c hc)),fun j y v' e1 e2 e3 => ?_⟩,fun y c' e => ?_,I.free,I.freeC,fun p hp => ?_,tracked ⟨oc,hoc,I.freeC x c hc⟩ hs,by simpa using I.len⟩ ⟨c,hs,.inr hc⟩
  ·exact (hs.2 b (BA (BO (Heap.lt_size e) (I.ok.cab x c hfn hc)))).trans (I.base.keep b o e n hb hx)
  ·obtain ⟨sl,e1⟩ := I.base.slot b o e n hb hx
   exact ⟨sl,(hs.2 b (BA (BO (Heap.lt_size e) (I.ok.cab x c hfn hc)))).trans e1⟩
  ·obtain ⟨o',e1⟩ := I.base.there b o e hx
   exact ⟨o',(hs.2 b (BA (BO (Heap.lt_size e) (I.ok.cab x c hfn hc)))).trans e1⟩
  ·by_cases hj : j = i
   ·subst hj
    rw [hi] at e1; cases e1
    rw [List.getElem?_set_self hiσ] at e2
    cases e2
    exact ⟨u,r,.inr ⟨.inl hk,c,hc,hc'⟩⟩
   ·rw [List.getElem?_set_ne (Ne.symm hj)] at e2
    obtain ⟨u',r',q⟩ := hl j y v' e1 e2 e3
    refine ⟨u',r',?_⟩
    rcases q with q | ⟨k,c',e,z'⟩
    ·exact .inl q
    ·refine .inr ⟨k,c',e,z'.sameBut hs ?_⟩
     rintro rfl
     exact hj (ip hN e1 (I.ok.inj _ _ _ e hc ▸ hi))
  ·by_cases hcc : c' = c
   ·subst hcc; exact ⟨_,hc'⟩
   ·obtain ⟨w2,z2⟩ := I.cell y c' e
    exact ⟨w2,z2.sameBut hs hcc⟩
  ·obtain ⟨e,n,ne,nf,d⟩ := I.pin p hp
   refine ⟨(hs.2 p.1 ?_).trans e,n,ne,nf,d⟩
   intro q
   rw [q,hoc] at e
   have q' : oc = p.2 := C1 e
   exact d w' (by rw [<- q']; exact hocd)
theorem dw {M : Model} {A : Around} {E : Value -> Shared -> Prop} {i : Nat} {x : Str} {v : V} {u : Value} {Q : Unit -> Shared -> Prop} (I : ar X pins σ H s) (hN : X.N.Nodup) (hi : X.N[i]? = some x) (hx : Loc X.env.scope x) (r : RelV v u)
  (h : ∀ s',ar X pins (σ.set i (some v)) H s' -> Q () s') (hf : X.fn x = true ∨ X.env.scope.names.lookup x = some .local := by first | exact .inl rfl | exact .inr rfl | assumption) : wpAny M A (storeName X.env x u) Q E s :=
 jw I hN hi hx r (fun s' I' _ => h s' I') hf
theorem ar.call' {s' : Shared} {ch : List Addr} (I : ar X pins σ H s) (ho : s'.os = s.os) (u : Un (gL X.stack) ch H H' s.heap s'.heap) (hok : dv X.prog X.w H' s'.heap) (hg : AllBare s'.gens)
  (hch : ∀ b ∈ ch,(b ∈ X.ex ∨ X.s₀.heap.objs.size <= b) /\ b ≠ X.env.locals /\ (∀ x c,X.env.cells.lookup x = some c -> c ≠ b) /\ ∀ p ∈ X.pn ++ pins,p.1 ≠ b) : ar X pins σ H' s' := by
 obtain ⟨h',g',d',t',o'⟩ := s'
 have e : o' = s.os := ho
 subst e
 exact I.call (g' := g') (t' := t') (d' := d') u hok hg hch
end
abbrev XK := Value -> Option Addr -> Hp -> Prop
abbrev St := List (Option V)
abbrev VK := V -> Hp -> Prop
abbrev TE := St -> Hp -> VK -> Prop
abbrev TT := St -> Hp -> (Bool -> Hp -> Prop) -> Prop
abbrev TA := St -> Hp -> (List V -> Hp -> Prop) -> Prop
structure Ends where
 nx : St -> Hp -> Prop
 rt : VK
 bk : St -> Hp -> Prop := fun _ _ => False
 ct : St -> Hp -> Prop := fun _ _ => False
abbrev TS := Ends -> St -> Hp -> Prop
def EP (X : Cx) (pins : List (Addr × Obj)) (σ : St) (Q : VK) (u : Value) (s' : Shared) : Prop := ∃ v H',ar X pins σ H' s' /\ RelV v u /\ Q v H'
def TP (X : Cx) (pins : List (Addr × Obj)) (σ : St) (Q : Bool -> Hp -> Prop) (b : Bool) (s' : Shared) : Prop := ∃ H',ar X pins σ H' s' /\ Q b H'
def AP (X : Cx) (pins : List (Addr × Obj)) (σ : St) (Q : List V -> Hp -> Prop) (us : List Value) (s' : Shared) : Prop := ∃ vs H',ar X pins σ H' s' /\ aN vs us /\ Q vs H'
def SP (X : Cx) (pins : List (Addr × Obj)) (D : Ends) (f : Flow) (s' : Shared) : Prop :=
 match f with
 | .next => ∃ σ' H',ar X pins σ' H' s' /\ D.nx σ' H'
 | .brk => ∃ σ' H',ar X pins σ' H' s' /\ D.bk σ' H'
 | .cont => ∃ σ' H',ar X pins σ' H' s' /\ D.ct σ' H'
 | .ret u => ∃ v σ' H',ar X pins σ' H' s' /\ RelV v u /\ D.rt v H'
def PE (X : Cx) (e : Expr) (t : TE) : Prop :=
 ∀ (pins : List (Addr × Obj)) (s : Shared) (σ : St) (H : Hp) (Q : VK),ar X pins σ H s -> t σ H Q -> wpAny (model X.prog X.w) X.A (eval e X.env) (EP X pins σ Q) X.xe s
def PT (X : Cx) (e : Expr) (t : TT) : Prop :=
 ∀ (pins : List (Addr × Obj)) (s : Shared) (σ : St) (H : Hp) (Q : Bool -> Hp -> Prop),ar X pins σ H s -> t σ H Q -> wpAny (model X.prog X.w) X.A (isTrue e X.env (eval e X.env)) (TP X pins σ Q) X.xe s
def PW (X : Cx) (e : Expr) (t : TT) : Prop :=
 ∀ (whole : Sem Value) (pins : List (Addr × Obj)) (s : Shared) (σ : St) (H : Hp) (Q : Bool -> Hp -> Prop),ar X pins σ H s -> t σ H Q -> wpAny (model X.prog X.w) X.A (isTrue e X.env whole) (TP X pins σ Q) X.xe s
theorem PW.pt {X : Cx} {e : Expr} {t : TT} (h : PW X e t) : PT X e t := h _
def PA (X : Cx) (es : List Expr) (t : TA) : Prop :=
 ∀ (pos : Pos) (pins : List (Addr × Obj)) (s : Shared) (σ : St) (H : Hp) (Q : List V -> Hp -> Prop),ar X pins σ H s -> t σ H Q -> wpAny (model X.prog X.w) X.A (spliced (backTo pos (starEach es X.env))) (AP X pins σ Q) X.xe s
def PS (X : Cx) (st : Stmt) (t : TS) : Prop :=
 ∀ (pins : List (Addr × Obj)) (s : Shared) (σ : St) (H : Hp) (D : Ends),ar X pins σ H s -> t D σ H -> wpAny (model X.prog X.w) X.A (exec st X.env) (SP X pins D) X.xe s
def gZ (X : Cx) (st : List Stmt) (t : TS) : Prop :=
 ∀ (pins : List (Addr × Obj)) (s : Shared) (σ : St) (H : Hp) (D : Ends),ar X pins σ H s -> t D σ H -> wpAny (model X.prog X.w) X.A (execs st X.env) (SP X pins D) X.xe s
theorem aX {α : Type} {t : Sem α} {Q Q' : α -> Shared -> Prop} {M : Model} {A : Around} {E : Value -> Shared -> Prop} {s : Shared} (h : wpAny M A t Q E s) (hQ : ∀ a s,Q a s -> Q' a s) : wpAny M A t Q' E s := wpAny_mono h hQ fun _ _ x => x
section
variable {X : Cx}
def uh (i : Nat) : TE := fun σ H Q => ∃ v,σ[i]? = some (some v) /\ Q v H
def tC (v : V) : TE := fun _ H Q => Q v H
theorem wj {i : Nat} {x : Str} {pos : Pos} (hN : X.N[i]? = some x) (hv : xM X.env.scope x) (hd : (x == ("__debug__" : Str)) = false := by decide) (hcd : (x == ("__classdict__" : Str)) = false := by decide) : PE X (.Name x pos) (uh i) := by
 intro pins s σ H Q I h
 obtain ⟨v,e,h⟩ := h
 obtain ⟨m,hn,hl⟩ := I.loc
 obtain ⟨u,r,l⟩ := hl i x v hN e hv
 have fin : EP X pins σ Q u s := ⟨v,H,I,r,h⟩
 rcases l with ⟨hk,hm⟩ | ⟨hk,c,hc,hcell⟩
 ·exact wpAny_Name (wpAny_loadName_local I.ok.kind hk hn hm fin) hd
 ·rcases hk with hk | hk
  ·exact wpAny_Name (wpAny_loadName_cell I.ok.kind hk hc hcell fin) hd
  ·exact wpAny_Name (wpAny_loadName_free I.ok.kind hk hc hcell fin hcd) hd
theorem am {i j pos} : PE X (.Constant (.int i) j pos) (tC (.int i)) := fun _ _ _ H _ I h => wpAny_Constant_int ⟨.int i,H,I.tok _,⟨_,rfl⟩,h⟩
theorem bY {b j pos} : PE X (.Constant (.bool b) j pos) (tC (.bl b)) := fun _ _ _ H _ I h => Constant_bool ⟨.bl b,H,I,rfl,h⟩
theorem bZ {j pos} : PE X (.Constant .none j pos) (tC .non) := fun _ _ _ H _ I h => Constant_none ⟨.non,H,I,rfl,h⟩
theorem bL {x j pos} : PE X (.Constant (.str x) j pos) (tC (.str x)) := fun _ _ _ H _ I h => Calls.Constant_str ⟨.str x,H,I.tok _,⟨_,rfl⟩,h⟩
def Gl (X : Cx) (x : Str) : Prop := X.env.kindOf x = some .globalImplicit
theorem cQ {E : Value -> Shared -> Prop} {pins : List (Addr × Obj)} {s : Shared} {σ : St} {H : Hp} {x : Str} {u : Value} {pos : Pos} {Q : Value -> Shared -> Prop} (I : ar X pins σ H s) (hg : Gl X x) (hm : X.mg x = some u) (h : Q u s)
  (hd : (x == ("__debug__" : Str)) = false := by decide) : wpAny (model X.prog X.w) X.A (eval (.Name x pos) X.env) Q E s :=
 Calls.Name_function_global I.ok.kind hg (Calls.loadGlobal_global (by rw [I.ok.glob]; exact I.mod.glob.keeps I.bk) hm h) hd
theorem dM {E : Value -> Shared -> Prop} {pins : List (Addr × Obj)} {s : Shared} {σ : St} {H : Hp} {x : Str} {u : Value} {pos : Pos} {Q : Value -> Shared -> Prop} (I : ar X pins σ H s) (hg : Gl X x) (hm : X.mg x = none) (hv : bootBuiltins x = some u) (h : Q u s)
  (hn : x ≠ "__name__" := by decide) (hd : (x == ("__debug__" : Str)) = false := by decide) : wpAny (model X.prog X.w) X.A (eval (.Name x pos) X.env) Q E s := by
 obtain ⟨mb,h1,h2⟩ := I.mod.blt
 exact Calls.Name_function_global I.ok.kind hg (Calls.loadGlobal_builtin (by rw [I.ok.glob]; exact I.mod.glob.keeps I.bk) hm (by rw [I.ok.blt]; exact h1.keeps I.bk) ((h2 x hn).trans hv) h) hd
theorem bx {x : Str} {v : V} {u : Value} {pos : Pos} (hg : Gl X x) (hm : X.mg x = some u) (r : RelV v u) (hd : (x == ("__debug__" : Str)) = false := by decide) : PE X (.Name x pos) (tC v) :=
 fun _ _ _ H _ I h => cQ I hg hm ⟨v,H,I,r,h⟩ hd
theorem dN {x : Str} {v : V} {u : Value} {pos : Pos} (hg : Gl X x) (hm : X.mg x = none) (hv : bootBuiltins x = some u) (r : RelV v u) (hn : x ≠ "__name__" := by decide) (hd : (x == ("__debug__" : Str)) = false := by decide) : PE X (.Name x pos) (tC v) :=
 fun _ _ _ H _ I h => dM I hg hm hv ⟨v,H,I,r,h⟩ hn hd
variable {a b : Expr} {ta tb : TE} {pos : Pos}
def PC (X : Cx) (op : CmpOp) (a b : Expr) (t : TE) : Prop :=
 ∀ (pins : List (Addr × Obj)) (s : Shared) (σ : St) (H : Hp) (Q : VK),ar X pins σ H s -> t σ H Q ->
  wpAny (model X.prog X.w) X.A (eval a X.env) (fun v s₁ => wpAny (model X.prog X.w) X.A (eval b X.env) (fun u s₂ => wpAny (model X.prog X.w) X.A (compareOp op v u) (EP X pins σ Q) X.xe s₂) X.xe s₁) X.xe s
def tB (t : TE) : TT := fun σ H Q => t σ H fun x H1 => ∃ c,x = .bl c /\ Q c H1
theorem wk {op : CmpOp} {t : TE} (h : PC X op a b t) (h1 : behindInMarks op b = false := by first | exact nobehind _ (by decide) (by decide) | rfl) : PE X (.Compare a [op] [b] pos) t := fun pins s σ H Q I hw => wpAny_Compare1 (h pins s σ H Q I hw) h1
theorem kb {op : CmpOp} {t : TE} (h : PC X op a b t) (h1 : behindInMarks op b = false := by first | exact nobehind _ (by decide) (by decide) | rfl) : PT X (.Compare a [op] [b] pos) (tB t) := by
 intro pins s σ H Q I hw
 refine wpAny_isTrue_Compare1 (aX (h pins s σ H _ I hw) fun v s1 h1 => aX h1 fun u s2 h2 => aX h2 fun c s3 ⟨x,H1,I1,r1,q1⟩ => ?_) h1
 obtain ⟨d,rfl,q⟩ := q1
 cases r1
 exact wpAny_truthy_bool ⟨H1,I1,q⟩
theorem b4 {e : Expr} {t : TE} (h : PE X e t) (he : ∀ whole,isTrue e X.env whole = (do let v <- whole; standAt e.pos; holding [v] (truthy v)) := by intro _; rfl) : PT X e (tB t) := by
 intro pins s σ H Q I hw
 refine isTrue_plain (aX (h pins s σ H _ I hw) fun v s1 ⟨x,H1,I1,r1,q1⟩ => ?_) (he _)
 obtain ⟨d,rfl,q⟩ := q1
 cases r1
 exact wpAny_truthy_bool ⟨H1,I1,q⟩
variable {tA tB' : TT} {rest : List Expr}
def Ae (t u : TT) : TT := fun σ H Q => t σ H fun c H1 => if c = true then u σ H1 Q else Q false H1
def Bk (t u : TT) : TT := fun σ H Q => t σ H fun c H1 => if c = true then Q true H1 else u σ H1 Q
def Af (t : TT) : TT := fun σ H Q => t σ H fun c H1 => Q (!c) H1
theorem oU (ha : PT X a tA) : PW X (.BoolOp .And [a] pos) tA := by
 intro wh pins s σ H Q I h
 refine isTrue_and (aX (ha pins s σ H Q I h) fun c s1 e => ?_)
 cases c with
 | true => exact isTrue_and_nil e
 | false => exact e
theorem fh (ha : PT X a tA) : PW X (.BoolOp .Or [a] pos) tA := by
 intro wh pins s σ H Q I h
 refine isTrue_or (aX (ha pins s σ H Q I h) fun c s1 e => ?_)
 cases c with
 | false => exact isTrue_or_nil e
 | true => exact e
theorem rN (ha : PT X a tA) (hb : PW X (.BoolOp .And (b :: rest) pos) tB') : PW X (.BoolOp .And (a :: b :: rest) pos) (Ae tA tB') := by
 intro wh pins s σ H Q I h
 refine isTrue_and (aX (ha pins s σ H _ I h) fun c s1 ⟨H1,I1,q1⟩ => ?_)
 cases c with
 | true => exact hb wh pins s1 σ H1 Q I1 q1
 | false => exact ⟨H1,I1,q1⟩
theorem fK (ha : PT X a tA) (hb : PW X (.BoolOp .Or (b :: rest) pos) tB') : PW X (.BoolOp .Or (a :: b :: rest) pos) (Bk tA tB') := by
 intro wh pins s σ H Q I h
 refine isTrue_or (aX (ha pins s σ H _ I h) fun c s1 ⟨H1,I1,q1⟩ => ?_)
 cases c with
 | true => exact ⟨H1,I1,q1⟩
 | false => exact hb wh pins s1 σ H1 Q I1 q1
theorem cx (ha : PT X a tA) : PT X (.UnaryOp .Not a pos) (Af tA) := by
 intro pins s σ H Q I h
 exact isTrue_not (ha pins s σ H (fun c H1 => Q (!c) H1) I h)
def xN (ta tb : TE) : TE := fun σ H Q => ta σ H fun x H1 => ∃ c,x = .bl c /\ if c = true then tb σ H1 Q else Q (.bl false) H1
def xO (ta : TE) : TE := fun σ H Q => ta σ H fun x H1 => ∃ c,x = .bl c /\ Q (.bl (!c)) H1
theorem dO {op} {t : TE} (h : PE X a t) : PE X (.BoolOp op [a] pos) t := fun pins s σ H Q I hw => BoolOp_one (h pins s σ H Q I hw)
theorem dP (ha : PE X a ta) (hb : PE X (.BoolOp .And (b :: rest) pos) tb) : PE X (.BoolOp .And (a :: b :: rest) pos) (xN ta tb) := by
 intro pins s σ H Q I h
 refine BoolOp_and (aX (ha pins s σ H _ I h) fun v s1 ⟨x,H1,I1,r1,q1⟩ => ?_)
 obtain ⟨c,rfl,q1⟩ := q1
 cases r1
 refine wpAny_truthy_bool ?_
 cases c with
 | true => exact hb pins s1 σ H1 Q I1 q1
 | false => exact ⟨.bl false,H1,I1,rfl,q1⟩
theorem gb (ha : PE X a ta) : PE X (.UnaryOp .Not a pos) (xO ta) := by
 intro pins s σ H Q I h
 refine UnaryOp_ (aX (ha pins s σ H _ I h) fun v s1 ⟨x,H1,I1,r1,q1⟩ => ?_)
 obtain ⟨c,rfl,q1⟩ := q1
 cases r1
 exact not_of (wpAny_truthy_bool ⟨.bl (!c),H1,I1,rfl,q1⟩)
end
def bv (K : B1) (H : Hp) (a : Addr) (xs : List V) : Prop :=
 Rd H a (.lst xs) ∨
  ∃ (o : Obj) (its : Array Value) (n : Nat),K.lookup a = some o /\ o.cls = .type "list" /\ o.dict = none /\ o.data = .seq its n /\ its.size <= sizeLine /\ aN xs its.toList
def cR (K : B1) (H : Hp) (a : Addr) (xs : List V) : Prop :=
 Rd H a (.tup xs) ∨
  ∃ (o : Obj) (its : Array Value) (n : Nat),K.lookup a = some o /\ o.cls = .type "tuple" /\ o.data = .seq its n /\ its.size <= sizeLine /\ aN xs its.toList
def Ag : Value -> Option V
 | .none => some .non
 | .bool b => some (.bl b)
 | .int i _ => some (.int i)
 | .str x _ => some (.str x)
 | .bytes b _ => some (.byt b)
 | .float b _ => some (.flt b)
 | .ref a => some (.ref a)
 | .type n => some (.ty n)
 | _ => none
theorem RelV.abs {x : V} {u : Value} (r : RelV x u) : Ag u = some x := by
 cases x with
 | non => cases r; rfl
 | bl _ => cases r; rfl
 | int _ => obtain ⟨t,rfl⟩ := r; rfl
 | str _ => obtain ⟨t,rfl⟩ := r; rfl
 | byt _ => obtain ⟨t,rfl⟩ := r; rfl
 | flt _ => obtain ⟨t,rfl⟩ := r; rfl
 | ref _ => cases r; rfl
 | ty _ => cases r; rfl
theorem RelV.inj {x y : V} {u : Value} (r : RelV x u) (q : RelV y u) : x = y := C1 (r.abs.symm.trans q.abs)
theorem aN.inj : ∀ {xs ys : List V} {us : List Value},aN xs us -> aN ys us -> xs = ys
 | _,_,_,.nil,.nil => rfl
 | _,_,_,.cons r t,.cons r' t' => by rw [r.inj r',aN.inj t t']
section
variable {X : Cx} {pins : List (Addr × Obj)} {σ : St} {H : Hp} {s : Shared} {a : Addr} {xs ys : List V}
theorem bv.of {K : B1} (h : H a = some (.lst xs)) : bv K H a xs := .inl (.inl h)
theorem cR.of {K : B1} (h : H a = some (.tup xs)) : cR K H a xs := .inl (.inl h)
theorem ar.list (I : ar X pins σ H s) (h : bv X.K H a xs) : ∃ its : List Value,aN xs its /\ PlainL s.heap a its.toArray /\ xs.length <= sizeLine := by
 rcases h with h | ⟨o,its,n,hk,hc,hd,hs,hz,r⟩
 ·obtain ⟨z,its,n,r,e⟩ := h.ok I.hok
  exact ⟨its,r,⟨_,n,e,rfl,rfl,rfl⟩,z⟩
 ·refine ⟨its.toList,r,⟨o,n,I.kIn a o hk,hc,hd,by simpa using hs⟩,?_⟩
  have e := r.length
  simp only [BF] at e
  omega
theorem ar.tuple (I : ar X pins σ H s) (h : cR X.K H a xs) : ∃ its : List Value,aN xs its /\ IsTup s.heap a its.toArray /\ xs.length <= sizeLine := by
 rcases h with h | ⟨o,its,n,hk,hc,hs,hz,r⟩
 ·obtain ⟨z,its,r,p⟩ := h.ok I.hok
  exact ⟨its,r,p,z⟩
 ·refine ⟨its.toList,r,⟨o,I.kIn a o hk,hc,n,by simpa using hs⟩,?_⟩
  have e := r.length
  simp only [BF] at e
  omega
theorem ar.list_inj (I : ar X pins σ H s) (h : bv X.K H a xs) (h' : bv X.K H a ys) : xs = ys := by
 obtain ⟨its,r,⟨o,n,e,_,_,d⟩,_⟩ := I.list h
 obtain ⟨its',r',⟨o',n',e',_,_,d'⟩,_⟩ := I.list h'
 rw [e] at e'; cases e'
 rw [d] at d'
 injection d' with d1 _
 have : its = its' := by simpa using congrArg Array.toList d1
 subst this
 exact r.inj r'
end
abbrev Cx.wish (X : Cx) (E : Value -> Shared -> Prop) : Cx := { X with xe := E }
abbrev Cx.nox (X : Cx) : Cx := X.wish fun _ _ => False
theorem Cx.Ok.wish {X : Cx} (ok : X.Ok) (E : Value -> Shared -> Prop) : (X.wish E).Ok :=
 ⟨ok.mod,ok.kind,ok.glob,ok.blt,ok.above,ok.inj,ok.has,ok.cab,ok.hd,ok.frames,ok.stk,ok.exf,ok.bs,ok.bsz,ok.noex,ok.exfs,ok.funs,ok.frf⟩
theorem Cx.Ok.unwish {X : Cx} {E : Value -> Shared -> Prop} (ok : (X.wish E).Ok) : X.Ok :=
 ⟨ok.mod,ok.kind,ok.glob,ok.blt,ok.above,ok.inj,ok.has,ok.cab,ok.hd,ok.frames,ok.stk,ok.exf,ok.bs,ok.bsz,ok.noex,ok.exfs,ok.funs,ok.frf⟩
section
variable {X : Cx} {pins : List (Addr × Obj)} {σ : St} {H : Hp} {s : Shared} {E : Value -> Shared -> Prop}
theorem ar.wish (I : ar X pins σ H s) (E : Value -> Shared -> Prop) : ar (X.wish E) pins σ H s := ⟨I.ok.wish E,I.os,I.bare,I.base,I.loc,I.cell,I.free,I.freeC,I.pin,I.hok,I.len⟩
theorem ar.unwish (I : ar (X.wish E) pins σ H s) : ar X pins σ H s := ⟨I.ok.unwish,I.os,I.bare,I.base,I.loc,I.cell,I.free,I.freeC,I.pin,I.hok,I.len⟩
theorem SP.unwish {D : Ends} {f : Flow} {s' : Shared} (h : SP (X.wish E) pins D f s') : SP X pins D f s' := by
 cases f with
 | next => obtain ⟨σ',H',I,q⟩ := h; exact ⟨σ',H',I.unwish,q⟩
 | brk => obtain ⟨σ',H',I,q⟩ := h; exact ⟨σ',H',I.unwish,q⟩
 | cont => obtain ⟨σ',H',I,q⟩ := h; exact ⟨σ',H',I.unwish,q⟩
 | ret u => obtain ⟨v,σ',H',I,r,q⟩ := h; exact ⟨v,σ',H',I.unwish,r,q⟩
theorem gZ.nox {st : List Stmt} {t : TS} (h : gZ X.nox st t) : gZ X st t := fun pins s σ H D I hw =>
 wpAny_mono (h pins s σ H D (I.wish _) hw) (fun _ _ q => q.unwish) fun _ _ z => False.elim z
end
section
variable {X : Cx} {st : Stmt} {rest : List Stmt} {t u : TS} {e : Expr} {te : TE} {pos : Pos}
def bM : TS := fun D σ H => D.nx σ H
def xP (t u : TS) : TS := fun D σ H => t { D with nx := u D } σ H
theorem aM : gZ X [] bM := fun _ _ σ H _ I h => wpAny_execs_nil ⟨σ,H,I,h⟩
theorem af (h1 : PS X st t) (h2 : gZ X rest u) : gZ X (st :: rest) (xP t u) := by
 intro pins s σ H D I h
 refine wpAny_execs_cons (aX (h1 pins s σ H { D with nx := u D } I h) fun f s1 q => ?_)
 cases f with
 | next =>
  obtain ⟨σ',H',I',q⟩ := q
  exact h2 pins s1 σ' H' D I' q
 | ret v => exact q
 | brk => exact q
 | cont => exact q
theorem ak (h1 : PS X st t) : gZ X [st] t := by
 intro pins s σ H D I h
 refine wpAny_execs_cons (aX (h1 pins s σ H D I h) fun f s1 q => ?_)
 cases f with
 | next => exact wpAny_execs_nil q
 | ret v => exact q
 | brk => exact q
 | cont => exact q
theorem ar.quiet {pins : List (Addr × Obj)} {σ : St} {H : Hp} {s : Shared} (I : ar X pins σ H s) : interactive X.env = false := by simp [interactive,I.ok.kind]
def xQ (te : TE) : TS := fun D σ H => te σ H fun _ H1 => D.nx σ H1
theorem aU (he : PE X e te) (hs : swapsWith e none pos.line X.env = pure false := by rfl) : PS X (.Expr e pos) (xQ te) := by
 intro pins s σ H D I h
 exact wpAny_Expr_any (aX (he pins s σ H _ I h) fun v s1 ⟨x,H1,I1,r1,q1⟩ => ⟨σ,H1,I1,q1⟩) I.quiet hs
def Ah (te : TE) : TS := fun D σ H => te σ H D.rt
theorem aG (he : PE X e te) : PS X (.Return (some e) pos) (Ah te) := by
 intro pins s σ H D I h
 exact wpAny_Return_some (aX (he pins s σ H _ I h) fun v s1 ⟨x,H1,I1,r1,q1⟩ => ⟨x,σ,H1,I1,r1,q1⟩)
def Ai (c : TT) (t u : TS) : TS := fun D σ H => c σ H fun b H1 => if b = true then t D σ H1 else u D σ H1
theorem aV {c : Expr} {a b : List Stmt} {tc : TT} (hc : PT X c tc) (ha : gZ X a t) (hb : gZ X b u) : PS X (.If c a b pos) (Ai tc t u) := by
 intro pins s σ H D I h
 refine wpAny_If (aX (hc pins s σ H _ I h) fun d s1 ⟨H1,I1,q1⟩ => ?_)
 cases d with
 | true => exact ha pins s1 σ H1 D I1 q1
 | false => exact hb pins s1 σ H1 D I1 q1
def wm : TS := fun _ _ _ => False
theorem lP : PS X st wm := fun _ _ _ _ _ _ h => h.elim
end
abbrev TG := V -> St -> Hp -> (St -> Hp -> Prop) -> Prop
def PG (X : Cx) (target : Expr) (t : TG) : Prop :=
 ∀ (pins : List (Addr × Obj)) (s : Shared) (σ : St) (H : Hp) (v : V) (u : Value) (Q : St -> Hp -> Prop),ar X pins σ H s -> RelV v u -> t v σ H Q ->
  wpAny (model X.prog X.w) X.A (assign target X.env u) (fun _ s' => ∃ σ' H',ar X pins σ' H' s' /\ Q σ' H') X.xe s
abbrev zP := V -> V -> Hp -> VK -> Prop
def Be (X : Cx) (op : Operator) (t : zP) : Prop :=
 ∀ (pins : List (Addr × Obj)) (s : Shared) (σ : St) (H : Hp) (x y : V) (v u : Value) (Q : VK),ar X pins σ H s -> RelV x v -> RelV y u -> t x y H Q ->
  wpAny (model X.prog X.w) X.A (inplaceOp op v u) (EP X pins σ Q) X.xe s
section
variable {X : Cx} {pos : Pos}
def bG (i : Nat) : TG := fun v σ H Q => Q (σ.set i (some v)) H
theorem bJ {i : Nat} {x : Str} (hN : X.N.Nodup) (hi : X.N[i]? = some x) (hx : Loc X.env.scope x) (hf : X.fn x = true ∨ X.env.scope.names.lookup x = some .local := by first | exact .inl rfl | exact .inr rfl | assumption) : PG X (.Name x pos) (bG i) := by
 intro pins s σ H v u Q I r h
 exact wpAny_assign_Name (dw I hN hi hx r (fun s' I' => ⟨_,H,I',h⟩) hf)
def xR (te : TE) (g : TG) : TS := fun D σ H => te σ H fun x H1 => g x σ H1 D.nx
theorem ay {i : Nat} {x : Str} {e : Expr} {te : TE} {pos' : Pos} (hN : X.N.Nodup) (hi : X.N[i]? = some x) (hx : Loc X.env.scope x) (he : PE X e te) (hs : swapsWith e (some (.Name x pos')) pos.line X.env = pure false := by rfl) (hf : X.fn x = true ∨ X.env.scope.names.lookup x = some .local := by first | exact .inl rfl | exact .inr rfl | assumption) :
  PS X (.Assign [.Name x pos'] e pos) (xR te (bG i)) := by
 intro pins s σ H D I h
 refine wpAny_Assign_Name (aX (he pins s σ H _ I h) fun v s1 ⟨y,H1,I1,r1,q1⟩ => ?_) hs
 exact dw I1 hN hi hx r1 (fun s2 I2 => ⟨_,H1,I2,q1⟩) hf
def Aj (i j : Nat) (ta : TA) : TS := fun D σ H => ta σ H fun vs H1 => ∃ v w,vs = [v,w] /\ D.nx ((σ.set i (some v)).set j (some w)) H1
theorem wn {i j : Nat} {x y : Str} {a b : Expr} {ta : TA} {px py pt : Pos} {kt k2 pt2} (hc : X.calm = true) (hN : X.N.Nodup) (hi : X.N[i]? = some x) (hj : X.N[j]? = some y) (hij : i ≠ j)
  (hx : X.env.scope.names.lookup x = some .local) (hy : X.env.scope.names.lookup y = some .local) (ha : PA X [a,b] ta)
  (hw : swappedStores [.Tuple [.Name x px,.Name y py] kt pt] (.Tuple [a,b] k2 pt2) X.env = pure (some [x,y]))
  (hs : swapsWithSole [.Tuple [.Name x px,.Name y py] kt pt] (.Tuple [a,b] k2 pt2) pos.line X.env = pure false := by rfl) :
  PS X (.Assign [.Tuple [.Name x px,.Name y py] kt pt] (.Tuple [a,b] k2 pt2) pos) (Aj i j ta) := by
 intro pins s σ H D I h
 rw [exec_Assign_arm]
 refine wpAny_bind (wpAny_standAt ?_)
 rw [hs]
 refine wpAny_bind (wpAny_pure ?_)
 rw [if_neg (by decide)]
 refine wpAny_bind (Tuple_ (aX (ha _ pins s σ H _ I h) fun us s1 ⟨vs,H1,I1,r1,q1⟩ => ?_))
 obtain ⟨v,w,e1,q1⟩ := q1
 subst e1
 obtain ⟨u1,u2,rfl,rv,rw'⟩ : ∃ u1 u2,us = [u1,u2] /\ RelV v u1 /\ RelV w u2 := by
  cases r1 with
  | cons p q =>
   cases q with
   | cons p' q' =>
    cases q'
    exact ⟨_,_,rfl,p,p'⟩
 refine wpAny_newObj_type ?_ (by show 2 <= sizeLine; decide)
 have I2 : ar X pins σ H1 { s1 with heap := s1.heap.push { cls := .type "tuple",data := .seq [u1,u2].toArray } } := I1.kept (t' := s1.toks) fun b o e => Heap.get?_push_of_some _ e
 rw [hw]
 refine wpAny_bind (wpAny_pure ?_)
 show wpAny (model X.prog X.w) X.A (do rule "assign.swapped-stores"; let items <- unpackItems (.ref s1.heap.objs.size) 2 none; assignInOrder [fun v => bindName X.env y v,fun v => bindName X.env x v] items.reverse; pure Flow.next) _ _ _
 refine wpAny_bind (wpAny_rule (wpAny_bind (unpackItems_tuple (items := #[u1,u2]) (I.ok.hd hc) (IsTup.new s1.heap _) fun h' hx' => ?_)))
 have I3 := I2.kept (h' := h') (t' := s1.toks) fun b o e => hx' b o (BA (Heap.lt_size e)) e
 show wpAny _ _ (assignInOrder [fun v => bindName X.env y v,fun v => bindName X.env x v] [u2,u1] >>= fun _ => pure Flow.next) _ _ _
 refine wpAny_bind (assignInOrder_cons (wpAny_bindName (dw I3 hN hj (.inl hy) rw' (fun s2 I4 => ?_) (.inr hy))))
 refine assignInOrder_cons (wpAny_bindName (dw I4 hN hi (.inl hx) rv (fun s3 I5 => assignInOrder_nil (wpAny_pure ?_)) (.inr hx)))
 rw [List.set_comm _ _ (Ne.symm hij)] at I5
 exact ⟨_,H1,I5,q1⟩
def Ak (i : Nat) (te : TE) (ti : zP) : TS := fun D σ H => ∃ x,σ[i]? = some (some x) /\ te σ H fun y H1 => ti x y H1 fun z H2 => D.nx (σ.set i (some z)) H2
theorem wp {i : Nat} {x : Str} {e : Expr} {te : TE} {op : Operator} {ti : zP} {pos' : Pos} (hN : X.N.Nodup) (hi : X.N[i]? = some x) (hx : Loc X.env.scope x) (he : PE X e te) (ho : Be X op ti) (hf : X.fn x = true ∨ X.env.scope.names.lookup x = some .local := by first | exact .inl rfl | exact .inr rfl | assumption) :
  PS X (.AugAssign (.Name x pos') op e pos) (Ak i te ti) := by
 intro pins s σ H D I h
 obtain ⟨v,e1,h⟩ := h
 obtain ⟨m,hn,hl⟩ := I.loc
 have vis : xM X.env.scope x := by rcases hx with k | k; exact .inl k; exact .inr (.inl k)
 obtain ⟨u,r,l⟩ := hl i x v hi e1 vis
 refine wpAny_AugAssign_Name ?_
 have go : wpAny (model X.prog X.w) X.A (eval e X.env) (fun w s₂ => wpAny (model X.prog X.w) X.A (inplaceOp op u w) (fun r s₃ => wpAny (model X.prog X.w) X.A (storeName X.env x r) (fun _ => SP X pins D .next) X.xe s₃) X.xe s₂) X.xe s := by
  refine aX (he pins s σ H _ I h) fun w s1 ⟨y,H1,I1,r1,q1⟩ => ?_
  refine aX (ho pins s1 σ H1 v y u w _ I1 r r1 q1) fun z s2 ⟨zv,H2,I2,r2,q2⟩ => ?_
  exact dw I2 hN hi hx r2 (fun s3 I3 => ⟨_,H2,I3,q2⟩) hf
 rcases l with ⟨hk,hm⟩ | ⟨hk,c,hc,hcell⟩
 ·exact wpAny_loadName_local I.ok.kind hk hn hm go
 ·rcases hk with hk | hk
  ·exact wpAny_loadName_cell I.ok.kind hk hc hcell go
  ·rcases hx with k | k
   ·have : X.env.scope.names.lookup x = some .free := hk
    rw [k] at this; cases this
   ·have : X.env.scope.names.lookup x = some .free := hk
    rw [k] at this; cases this
def Bl (f : Int -> Int -> Int) : zP := fun x y H Q => ∃ i j,x = .int i /\ y = .int j /\ Q (.int (f i j)) H
theorem wq : Be X .Add (Bl fun i j => i + j) := by
 intro pins s σ H x y v u Q I r1 r2 h
 obtain ⟨i,j,e1,e2,q⟩ := h
 subst e1; subst e2
 obtain ⟨t,rfl⟩ := r1
 obtain ⟨t',rfl⟩ := r2
 exact iadd_int ⟨.int _,H,I.tok _,⟨_,rfl⟩,q⟩
end
section
variable {X : Cx} {pos : Pos}
def rO (c : TT) (tb : TS) : TS := fun D σ H => ∃ W : Nat -> St -> Hp -> Prop,(∃ m,W m σ H) /\ ∀ m σ H,W m σ H ->
 c σ H fun b H1 => if b = true then ∃ N : St -> Hp -> Prop,(∀ σ' H',N σ' H' -> ∃ m',m' < m /\ W m' σ' H') /\ tb { D with nx := N,ct := N,bk := D.nx } σ H1 else D.nx σ H1
theorem em {c : Expr} {body : List Stmt} {tc : TT} {tb : TS} (hp : PassesOwn (model X.prog X.w) X.A X.env X.xe) (hc : PT X c tc) (hb : gZ X body tb) : PS X (.While c body [] pos) (rO tc tb) := by
 intro pins s σ H D I h
 obtain ⟨W,⟨m0,w0⟩,turn⟩ := h
 refine wpAny_While (codeAny_whileLoop (fun n s' => ∃ σ' H',ar X pins σ' H' s' /\ W n σ' H') ?_ m0 ⟨σ,H,I,w0⟩)
 rintro n s1 ⟨σ1,H1,I1,w1⟩
 refine wpAny_passesOwn hp (aX (hc pins s1 σ1 H1 _ I1 (turn n σ1 H1 w1)) fun b s2 ⟨H2,I2,q2⟩ => ?_)
 cases b with
 | true =>
  obtain ⟨N,hN,q2⟩ := q2
  rw [if_pos rfl]
  refine wpAny_passesOwn hp (aX (hb pins s2 σ1 H2 _ I2 q2) fun f s3 q3 => ?_)
  cases f with
  | next =>
   obtain ⟨σ3,H3,I3,n3⟩ := q3
   obtain ⟨m',hm,w3⟩ := hN σ3 H3 n3
   exact ⟨m',hm,σ3,H3,I3,w3⟩
  | cont =>
   obtain ⟨σ3,H3,I3,n3⟩ := q3
   obtain ⟨m',hm,w3⟩ := hN σ3 H3 n3
   exact ⟨m',hm,σ3,H3,I3,w3⟩
  | brk => exact q3
  | ret v => exact q3
 | false =>
  rw [if_neg BE]
  exact wpAny_execs_nil ⟨σ1,H2,I2,q2⟩
end
structure It where
 go : Nat -> Hp -> Prop
 yld : Nat -> Hp -> V -> Hp -> Prop
 stop : Nat -> Hp -> Prop
def ef (X : Cx) (pins : List (Addr × Obj)) (H : Hp) (b : Addr) : Prop :=
 H b = none /\ b ≠ X.env.locals /\ b ∉ X.fs /\ (b ∈ X.ex ∨ X.s₀.heap.objs.size <= b) /\ (∀ x c,X.env.cells.lookup x = some c -> c ≠ b) /\ ∀ p ∈ X.pn ++ pins,p.1 ≠ b
theorem ar.fpOk {X : Cx} {pins : List (Addr × Obj)} {σ : St} {H H' : Hp} {s : Shared} {b : Addr} (I : ar X pins σ H s) (hb : s.heap.objs.size <= b) (hn : H' b = none) : ef X pins H' b := by
 refine ⟨hn,Ci (BO I.lt hb),I.nofs hb,.inr (BZ I.sz hb),fun x c e z => ?_,fun p hp z => ?_⟩
 ·obtain ⟨v,q⟩ := I.cell x c e
  exact absurd (BO q.lt (by rw [z]; exact hb)) (Nat.lt_irrefl _)
 ·exact absurd (BO (Heap.lt_size (I.pin p hp).1) (by rw [z]; exact hb)) (Nat.lt_irrefl _)
structure Turn (P : Program) (w : World) (K : B1) (tg : Expr) (J : It) (fp : List Addr) (it : Addr) (tn : Nat -> Heap -> Prop) : Prop where
 mem : it ∈ fp
 obj : ∀ i h,tn i h -> ∀ b ∈ fp,∃ o,h.get? b = some o /\ ∀ v,o.data ≠ .cell v
 keep : ∀ i h h',tn i h -> (∀ b ∈ fp,∀ o,h.get? b = some o -> h'.get? b = some o) -> tn i h'
 item : ∀ (X : Cx),X.prog = P -> X.w = w -> X.K = K -> X.calm = true -> ∀ (i : Nat) (pins : List (Addr × Obj)) (s : Shared) (σ : St) (H : Hp) (E : Value -> Shared -> Prop),ar X pins σ H s -> (∀ b ∈ fp,ef X pins H b) -> tn i s.heap -> J.go i H ->
  wpAny (model P w) X.A (pyNext (.ref it)) (fun r s1 => ∃ u,r = some u /\
   wpAny (model P w) X.A (letOwnedTupleGo tg (.ref it) u) (fun _ s2 => ∃ x H',ar X pins σ H' s2 /\ RelV x u /\ J.yld i H x H' /\ tn (i + 1) s2.heap /\ ∀ b ∈ fp,H' b = none) E s1) E s
 done : ∀ (X : Cx),X.prog = P -> X.w = w -> X.K = K -> X.calm = true -> ∀ (i : Nat) (pins : List (Addr × Obj)) (s : Shared) (σ : St) (H : Hp) (E : Value -> Shared -> Prop),ar X pins σ H s -> (∀ b ∈ fp,ef X pins H b) -> tn i s.heap -> J.stop i H ->
  wpAny (model P w) X.A (pyNext (.ref it)) (fun r s1 => r = none /\ ar X pins σ H s1) E s
 self : ∀ (A : Around) (i : Nat) (s : Shared) (Q : Value -> Shared -> Prop) (E : Value -> Shared -> Prop),tn i s.heap -> Q (.ref it) s -> wpAny (model P w) A (pyIter (.ref it)) Q E s
abbrev TI := St -> Hp -> (It -> Hp -> Prop) -> Prop
def Al (X : Cx) (pins : List (Addr × Obj)) (σ : St) (tg : Expr) (R : It -> Hp -> Prop) (itv : Value) (s2 : Shared) : Prop :=
 ∃ (it : Addr) (fp : List Addr) (tn : Nat -> Heap -> Prop) (J : It) (H' : Hp),itv = .ref it /\ ar X pins σ H' s2 /\ Turn X.prog X.w X.K tg J fp it tn /\ tn 0 s2.heap /\ (∀ b ∈ fp,ef X pins H' b) /\ R J H'
def PI (X : Cx) (tg iter : Expr) (wi : TI) : Prop :=
 ∀ (pins : List (Addr × Obj)) (s : Shared) (σ : St) (H : Hp) (R : It -> Hp -> Prop),ar X pins σ H s -> wi σ H R ->
  wpAny (model X.prog X.w) X.A (eval iter X.env) (fun v s1 => wpAny (model X.prog X.w) X.A (pyIter v) (Al X pins σ tg R) X.xe s1) X.xe s
theorem iq {M : Model} {A : Around} {E : Value -> Shared -> Prop} {s : Shared} {tg : Expr} {it : Addr} {u : Value} {o : Obj} {n : String} {vs : Array Value} {Q : Unit -> Shared -> Prop} (ho : s.heap.get? it = some o) (hc : o.cls = .type n) (hd : o.data = .fields vs)
    (hn : ["enumerate","zip","dict_itemiterator","dict_reverseitemiterator","odict_iterator","itertools.zip_longest","itertools.pairwise"].contains n = false) (hQ : Q () s) : wpAny M A (letOwnedTupleGo tg (.ref it) u) Q E s := by
  unfold letOwnedTupleGo
  cases tg <;> first
    | exact wpAny_pure hQ
    | (cases u <;> first
        | exact wpAny_pure hQ
        | (refine wpAny_bind (wpAny_load ho ?_)
           rw [hc,hd]
           show wpAny M A (if (["enumerate","zip","dict_itemiterator","dict_reverseitemiterator","odict_iterator","itertools.zip_longest","itertools.pairwise"].contains n && vs[0]? == some (rawInt _)) = true then _ else _) Q E s
           rw [if_neg (by intro h; rw [hn,Bool.false_and] at h; cases h)]
           exact wpAny_pure hQ))
def ui (K : B1) (a : Addr) : It :=
 ⟨fun i H => ∃ xs x,bv K H a xs /\ xs[i]? = some x,fun i H x H' => H' = H /\ ∀ xs,bv K H a xs -> xs[i]? = some x,fun i H => ∃ xs,bv K H a xs /\ xs.length <= i⟩
def wu (lo : Int) (n : Nat) : It := ⟨fun i _ => i < n,fun i H x H' => H' = H /\ x = .int (lo + i),fun i _ => n <= i⟩
theorem eT {P : Program} {w : World} {K : B1} {tg : Expr} (a it : Addr) : Turn P w K tg (ui K a) [it] it (fun i h => h.IsListIter it a i) where
 mem := by simp
 obj := fun i h st b hb => by
  have e : b = it := by simpa using hb
  subst e
  obtain ⟨o,e,c,d⟩ := st
  exact ⟨o,e,fun v z => by rw [d] at z; cases z⟩
 keep := fun i h h' st k => st.at fun o e => k it (by simp) o e
 item := by
  intro X hP hw hK hc i pins s σ H E I hf st hg
  subst hP hw hK
  obtain ⟨xs,x,hq,hx⟩ := hg
  obtain ⟨its,rv,p,hz⟩ := I.list hq
  obtain ⟨u,hu,ru⟩ := rv.get hx
  obtain ⟨f0,f1,f2,f3,f4,f5⟩ := hf it (by simp)
  refine wpAny_pyNext_list_item st p.isList (x := u) (by simpa using hu) fun h' st' sb => ?_
  have I1 : ar X pins σ H { s with heap := h' } := I.turned (t' := s.toks) (fun b o hb e => (sb.2 b hb).trans e) f0 f1 f3 f4 f5
  obtain ⟨o,e,c,d⟩ := id st'
  exact ⟨u,rfl,iq (s := { s with heap := h' }) e c d (by decide) ⟨x,H,I1,ru,⟨rfl,fun ys hy => by rw [I.list_inj hy hq]; exact hx⟩,st',fun b hb => (hf b hb).1⟩⟩
 done := by
  intro X hP hw hK hc i pins s σ H E I hf st hg
  subst hP hw hK
  obtain ⟨xs,hq,hx⟩ := hg
  obtain ⟨its,rv,p,hz⟩ := I.list hq
  obtain ⟨f0,f1,f2,f3,f4,f5⟩ := hf it (by simp)
  have hl := rv.length
  exact wpAny_pyNext_list_end (I.ok.hd hc) st p.isList (by simp; omega) fun h' eb => ⟨rfl,I.turned (t' := s.toks) (fun b o hb e => eb b o hb e) f0 f1 f3 f4 f5⟩
 self := fun _ _ _ _ _ st h => wpAny_pyIter_listiter st h
theorem m6 {P : Program} {w : World} {K : B1} {tg : Expr} (it : Addr) (lo : Int) (n : Nat) : Turn P w K tg (wu lo n) [it] it (fun i h => IsRangeIter h it (lo + (i : Nat) * 1) ((n : Int) - (i : Nat)) 1) where
 mem := by simp
 obj := fun i h st b hb => by
  have e : b = it := by simpa using hb
  subst e
  exact ⟨_,st,fun v z => by
   have z' : Data.fields _ = Data.cell v := z
   cases z'⟩
 keep := fun i h h' st k => k it (by simp) _ st
 item := by
  intro X hP hw hK hc i pins s σ H E I hf st hg
  subst hP hw hK
  obtain ⟨f0,f1,f2,f3,f4,f5⟩ := hf it (by simp)
  have W := Walks.range (prog := X.prog) (w := X.w) (I.ok.hd hc) it lo 1 n
  refine W.item i s _ _ hg st fun v h' tk hv st' kk => ?_
  obtain ⟨t,rfl⟩ := hv
  have I1 : ar X pins σ H { s with heap := h',toks := tk } := I.turned (fun b o hb e => kk b o (by simpa using hb) e) f0 f1 f3 f4 f5
  refine ⟨_,rfl,iq (s := { s with heap := h',toks := tk }) (n := "range_iterator") st' rfl rfl (by decide) ⟨.int (lo + i),H,I1,⟨t,?_⟩,⟨rfl,rfl⟩,st',fun b hb => (hf b hb).1⟩⟩
  rw [Int.mul_one]
 done := by
  intro X hP hw hK hc i pins s σ H E I hf st hg
  subst hP hw hK
  obtain ⟨f0,f1,f2,f3,f4,f5⟩ := hf it (by simp)
  exact wpAny_pyNext_range_end (I.ok.hd hc) st (by have : n <= i := hg; omega) fun h' eb => ⟨rfl,I.turned (t' := s.toks) (fun b o hb e => eb b o hb e) f0 f1 f3 f4 f5⟩
 self := fun _ _ _ _ _ st h => wpAny_pyIter_rangeiter st h
section
variable {X : Cx} {tg : Expr}
def xS (K : B1) (tl : TE) : TI := fun σ H R => tl σ H fun x H1 => ∃ a,x = .ref a /\ (∃ xs,bv K H1 a xs) /\ R (ui K a) H1
theorem dQ {l : Expr} {tl : TE} (hl : PE X l tl) : PI X tg l (xS X.K tl) := by
 intro pins s σ H R I h
 refine aX (hl pins s σ H _ I h) fun v s1 ⟨x,H1,I1,r1,q1⟩ => ?_
 obtain ⟨a,e,⟨xs,hq⟩,q⟩ := q1
 subst e
 cases r1
 obtain ⟨its,rv,p,hz⟩ := I1.list hq
 refine wpAny_pyIter_list p.isList ?_
 refine ⟨s1.heap.objs.size,[s1.heap.objs.size],_,_,H1,rfl,I1.kept (t' := s1.toks) fun b o e => Heap.get?_push_of_some _ e,eT a _,⟨_,Heap.get?_push_size _ rfl,rfl,rfl⟩,fun b hb => ?_,q⟩
 have e : b = s1.heap.objs.size := by simpa using hb
 subst e
 exact I1.fpOk (B3 _) (I1.hok.fresh (B3 _))
theorem lQ {pins : List (Addr × Obj)} {σ : St} {H : Hp} {s : Shared} {R : It -> Hp -> Prop} {E : Value -> Shared -> Prop} {lo hi : Int} {t u v : Tok} {tk : Nat} (I : ar X pins σ H s) (h1 : -(2 ^ 62) <= lo) (h2 : lo < 2 ^ 62) (h3 : -(2 ^ 62) <= hi) (h4 : hi < 2 ^ 62)
  (q : R (wu lo (hi - lo).toNat) H) : wpAny (model X.prog X.w) X.A (pyIter (.ref s.heap.objs.size)) (Al X pins σ tg R) E { s with heap := s.heap.push { cls := .type "range",data := .fields #[.int lo t,.int hi u,.int 1 v] },toks := tk } := by
 refine wpAny_pyIter_range (IsRange.new ..) (small_one h1 h2 h3 h4) ?_
 have I1 : ar X pins σ H { s with heap := s.heap.push { cls := .type "range",data := .fields #[.int lo t,.int hi u,.int 1 v] },toks := tk } := I.kept fun b o e => Heap.get?_push_of_some _ e
 refine ⟨(s.heap.push { cls := .type "range",data := .fields #[.int lo t,.int hi u,.int 1 v] }).objs.size,[(s.heap.push { cls := .type "range",data := .fields #[.int lo t,.int hi u,.int 1 v] }).objs.size],_,_,H,rfl,
  I1.kept (t' := tk) fun b o e => Heap.get?_push_of_some _ e,m6 _ lo (hi - lo).toNat,?_,fun b hb => ?_,q⟩
 ·have e1 : lo + ((0 : Nat) : Int) * 1 = lo := by simp
  have e2 : (((hi - lo).toNat : Nat) : Int) - ((0 : Nat) : Int) = Builtin.Range.rangeSize lo hi 1 := by rw [rangeSize_one]; split <;> omega
  show IsRangeIter _ _ (lo + ((0 : Nat) : Int) * 1) ((((hi - lo).toNat : Nat) : Int) - ((0 : Nat) : Int)) 1
  rw [e1,e2]
  exact Heap.get?_push_size _ rfl
 ·have e : b = (s.heap.push { cls := .type "range",data := .fields #[.int lo t,.int hi u,.int 1 v] }).objs.size := by simpa using hb
  subst e
  exact I1.fpOk (B3 _) (I1.hok.fresh (B3 _))
def xT (ta : TA) : TI := fun σ H R => ta σ H fun vs H1 => ∃ j : Int,vs = [.int j] /\ -(2 ^ 62) <= j /\ j < 2 ^ 62 /\ R (wu 0 j.toNat) H1
def xU (ta : TA) : TI := fun σ H R => ta σ H fun vs H1 => ∃ i j : Int,vs = [.int i,.int j] /\ (-(2 ^ 62) <= i /\ i < 2 ^ 62 /\ -(2 ^ 62) <= j /\ j < 2 ^ 62) /\ R (wu i (j - i).toNat) H1
theorem jx {a : Expr} {ta : TA} {p pos : Pos} (hg : Gl X "range") (hm : X.mg "range" = none) (ha : PA X [a] ta) (hs : starEach [a] X.env = [(false,eval a X.env)] := by rfl) : PI X tg (.Call (.Name "range" p) [a] [] pos) (xT ta) := by
 intro pins s σ H R I h
 refine Call_ (dM I hg hm boot_range (CF (aX (ha pos pins s σ H _ I h) fun us s1 ⟨vs,H1,I1,r1,q1⟩ => ?_) hs rfl))
 obtain ⟨j,e,q1,q2,q⟩ := q1
 subst e
 cases r1 with
 | cons r rr =>
  cases rr
  obtain ⟨t,rfl⟩ := r
  exact call_range_1 (lQ I1 (by omega) (by omega) q1 q2 (by simpa using q))
theorem qj {a b : Expr} {ta : TA} {p pos : Pos} (hg : Gl X "range") (hm : X.mg "range" = none) (ha : PA X [a,b] ta) (hs : starEach [a,b] X.env = [(false,eval a X.env),(false,eval b X.env)] := by rfl) (hs2 : starEach [b] X.env = [(false,eval b X.env)] := by rfl) :
  PI X tg (.Call (.Name "range" p) [a,b] [] pos) (xU ta) := by
 intro pins s σ H R I h
 refine Call_ (dM I hg hm boot_range (CF (aX (ha pos pins s σ H _ I h) fun us s1 ⟨vs,H1,I1,r1,q1⟩ => ?_) (by rw [hs,hs2]) (by rw [hs2]; rfl)))
 obtain ⟨i,j,e,⟨q1,q2,q3,q4⟩,q⟩ := q1
 subst e
 cases r1 with
 | cons r rr =>
  cases rr with
  | cons r' rr =>
   cases rr
   obtain ⟨t,rfl⟩ := r
   obtain ⟨t',rfl⟩ := r'
   exact call_range_2 (lQ I1 q1 q2 q3 q4 q)
def xV (wi : TI) (g : TG) (tb : TS) : TS := fun D σ H => wi σ H fun J H1 => ∃ W : Nat -> Nat -> St -> Hp -> Prop,(∃ m,W 0 m σ H1) /\ ∀ i m σ H,W i m σ H ->
 (J.stop i H /\ D.nx σ H) ∨ (J.go i H /\ ∃ N : St -> Hp -> Prop,(∀ σ' H',N σ' H' -> ∃ m',m' < m /\ W (i + 1) m' σ' H') /\ ∀ x H',J.yld i H x H' -> g x σ H' fun σ2 H2 => tb { D with nx := N,ct := N,bk := D.nx } σ2 H2)
def fi (fp : List Addr) (h : Heap) : List (Addr × Obj) := fp.filterMap fun b => (h.get? b).map fun o => (b,o)
theorem bH {fp : List Addr} {h : Heap} {b : Addr} {o : Obj} (hb : b ∈ fp) (e : h.get? b = some o) : (b,o) ∈ fi fp h := List.mem_filterMap.mpr ⟨b,hb,by rw [e]; rfl⟩
theorem qk {fp : List Addr} {h : Heap} {p : Addr × Obj} (hp : p ∈ fi fp h) : p.1 ∈ fp /\ h.get? p.1 = some p.2 := by
 obtain ⟨b,hb,e⟩ := List.mem_filterMap.mp hp
 cases q : h.get? b with
 | none => rw [q] at e; cases e
 | some o =>
  rw [q] at e
  have e' : (b,o) = p := C1 e
  subst e'
  exact ⟨hb,q⟩
theorem ar.pinned {pins : List (Addr × Obj)} {σ : St} {H : Hp} {s : Shared} {fp : List Addr} (I : ar X pins σ H s) (hf : ∀ b ∈ fp,ef X pins H b) (ho : ∀ b ∈ fp,∃ o,s.heap.get? b = some o /\ ∀ v,o.data ≠ .cell v) : ar X (pins ++ fi fp s.heap) σ H s :=
 I.pins_of fun p hp => (BN.mp hp).elim (fun z => I.pin p (BC _ z)) fun z => by
  obtain ⟨hb,e⟩ := qk z
  obtain ⟨f0,f1,f2,_⟩ := hf p.1 hb
  obtain ⟨o,e',d⟩ := ho p.1 hb
  rw [e] at e'; cases e'
  exact ⟨e,f0,f1,f2,d⟩
theorem ar.unpinned {pins pl : List (Addr × Obj)} {σ : St} {H : Hp} {s : Shared} (I : ar X (pins ++ pl) σ H s) : ar X pins σ H s := I.pins_of fun p hp => I.pin p (BC _ (CK _ hp))
theorem c5 {iter : Expr} {body : List Stmt} {wi : TI} {g : TG} {tb : TS} {pos : Pos} (hp : PassesOwn (model X.prog X.w) X.A X.env X.xe) (hc : X.calm = true) (hi : PI X tg iter wi) (hg : PG X tg g) (hb : gZ X body tb)
  (hs : ∀ x,foldedSetIterable iter X.env x = pure x := by intro _; rfl) : PS X (.For tg iter body [] pos) (xV wi g tb) := by
 intro pins s σ H D I h
 refine wpAny_For (aX (hi pins s σ H _ I h) fun v s1 h1 => aX h1 fun itv s2 h2 => ?_) hs
 obtain ⟨it,fp,tn,J,H2,e,I2,T,st2,f2,W,⟨m0,w0⟩,turn⟩ := h2
 subst e
 have stat : ∀ {H' : Hp},(∀ b ∈ fp,H' b = none) -> ∀ b ∈ fp,ef X pins H' b := fun hn b hb => ⟨hn b hb,(f2 b hb).2⟩
 refine codeAny_forLoop_any (fun n s' => ∃ i σ' H',ar X pins σ' H' s' /\ tn i s'.heap /\ (∀ b ∈ fp,H' b = none) /\ W i n σ' H') ?_ m0 ⟨0,σ,H2,I2,st2,fun b hb => (f2 b hb).1,w0⟩
 rintro n s3 ⟨i,σ3,H3,I3,st3,fr3,w3⟩
 rcases turn i n σ3 H3 w3 with ⟨stop,qn⟩ | ⟨go,N,hN,step⟩
 ·refine wpAny_passesOwn hp (aX (T.done X rfl rfl rfl hc i pins s3 σ3 H3 X.xe I3 (stat fr3) st3 stop) fun r s4 ⟨hr,I4⟩ => ?_)
  subst hr
  exact wpAny_execs_nil ⟨σ3,H3,I4,qn⟩
 ·refine wpAny_passesOwn hp (aX (T.item X rfl rfl rfl hc i pins s3 σ3 H3 X.xe I3 (stat fr3) st3 go) fun r s4 ⟨u,hr,h4⟩ => ?_)
  subst hr
  refine wpAny_passesOwn hp (aX h4 fun _ s5 ⟨x,H5,I5,r5,y5,st5,fr5⟩ => ?_)
  have I5' := I5.pinned (stat fr5) (T.obj _ _ st5)
  refine wpAny_passesOwn hp (aX (hg _ s5 σ3 H5 x u _ I5' r5 (step x H5 y5)) fun _ s6 ⟨σ6,H6,I6,q6⟩ => ?_)
  refine wpAny_passesOwn hp (aX (hb _ s6 σ6 H6 _ I6 q6) fun f s7 q7 => ?_)
  have again : ∀ {σ7 : St} {H7 : Hp},ar X (pins ++ fi fp s5.heap) σ7 H7 s7 -> N σ7 H7 -> ∃ m,m < n /\ ∃ i σ' H',ar X pins σ' H' s7 /\ tn i s7.heap /\ (∀ b ∈ fp,H' b = none) /\ W i m σ' H' := fun {σ7 H7} I7 n7 => by
   obtain ⟨m',hm,w7⟩ := hN σ7 H7 n7
   refine ⟨m',hm,i + 1,σ7,H7,I7.unpinned,T.keep _ _ _ st5 fun b hb o e => (I7.pin (b,o) (BC _ (BC _ (bH hb e)))).1,fun b hb => ?_,w7⟩
   obtain ⟨o,e,d⟩ := T.obj _ _ st5 b hb
   exact (I7.pin (b,o) (BC _ (BC _ (bH hb e)))).2.1
  cases f with
  | next => obtain ⟨σ7,H7,I7,n7⟩ := q7; exact again I7 n7
  | cont => obtain ⟨σ7,H7,I7,n7⟩ := q7; exact again I7 n7
  | brk => obtain ⟨σ7,H7,I7,q7⟩ := q7; exact ⟨σ7,H7,I7.unpinned,q7⟩
  | ret v => obtain ⟨x7,σ7,H7,I7,r7,q7⟩ := q7; exact ⟨x7,σ7,H7,I7.unpinned,r7,q7⟩
end
theorem dy {K : B1} {a : Addr} {xs : List V} {g : TG} {tb : TS} {D : Ends} {σ : St} {H : Hp} (Pv : Nat -> St -> Hp -> Prop) (h0 : Pv 0 σ H) (hl : ∀ i σ H,i <= xs.length -> Pv i σ H -> bv K H a xs)
  (hs : ∀ i x σ H,xs[i]? = some x -> Pv i σ H -> g x σ H fun σ2 H2 => tb { D with nx := Pv (i + 1),ct := Pv (i + 1),bk := D.nx } σ2 H2) (hd : ∀ σ H,Pv xs.length σ H -> D.nx σ H) :
  ∃ W : Nat -> Nat -> St -> Hp -> Prop,(∃ m,W 0 m σ H) /\ ∀ i m σ H,W i m σ H ->
   ((ui K a).stop i H /\ D.nx σ H) ∨ ((ui K a).go i H /\ ∃ N : St -> Hp -> Prop,(∀ σ' H',N σ' H' -> ∃ m',m' < m /\ W (i + 1) m' σ' H') /\ ∀ x H',(ui K a).yld i H x H' -> g x σ H' fun σ2 H2 => tb { D with nx := N,ct := N,bk := D.nx } σ2 H2) := by
 refine ⟨fun i m σ H => m = xs.length - i /\ i <= xs.length /\ Pv i σ H,⟨xs.length,by simp,BY _,h0⟩,?_⟩
 rintro i m σ H ⟨rfl,hi,p⟩
 have q := hl i σ H hi p
 by_cases hlt : i < xs.length
 ·refine .inr ⟨⟨xs,xs[i],q,by simp [hlt]⟩,Pv (i + 1),fun σ' H' p' => ⟨xs.length - (i + 1),by omega,rfl,hlt,p'⟩,fun x H' y => ?_⟩
  obtain ⟨e,y⟩ := y
  subst e
  exact hs i x σ _ (y xs q) p
 ·have e : i = xs.length := by omega
  subst e
  exact .inl ⟨⟨xs,q,B3 _⟩,hd σ H p⟩
theorem gc {lo : Int} {n : Nat} {g : TG} {tb : TS} {D : Ends} {σ : St} {H : Hp} (Pv : Nat -> St -> Hp -> Prop) (h0 : Pv 0 σ H)
  (hs : ∀ i σ H,i < n -> Pv i σ H -> g (.int (lo + i)) σ H fun σ2 H2 => tb { D with nx := Pv (i + 1),ct := Pv (i + 1),bk := D.nx } σ2 H2) (hd : ∀ σ H,Pv n σ H -> D.nx σ H) :
  ∃ W : Nat -> Nat -> St -> Hp -> Prop,(∃ m,W 0 m σ H) /\ ∀ i m σ H,W i m σ H ->
   ((wu lo n).stop i H /\ D.nx σ H) ∨ ((wu lo n).go i H /\ ∃ N : St -> Hp -> Prop,(∀ σ' H',N σ' H' -> ∃ m',m' < m /\ W (i + 1) m' σ' H') /\ ∀ x H',(wu lo n).yld i H x H' -> g x σ H' fun σ2 H2 => tb { D with nx := N,ct := N,bk := D.nx } σ2 H2) := by
 refine ⟨fun i m σ H => m = n - i /\ i <= n /\ Pv i σ H,⟨n,by simp,BY _,h0⟩,?_⟩
 rintro i m σ H ⟨rfl,hi,p⟩
 by_cases hlt : i < n
 ·refine .inr ⟨hlt,Pv (i + 1),fun σ' H' p' => ⟨n - (i + 1),by omega,rfl,hlt,p'⟩,fun x H' y => ?_⟩
  obtain ⟨e,y⟩ := y
  subst e y
  exact hs i σ _ hlt p
 ·have e : i = n := by omega
  subst e
  exact .inl ⟨B3 _,hd σ H p⟩
theorem eu {c : TT} {tb : TS} {D : Ends} {σ : St} {H : Hp} (Pv : St -> Hp -> Prop) (μ : St -> Hp -> Nat) (h0 : Pv σ H)
  (hs : ∀ σ H,Pv σ H -> c σ H fun b H1 => if b = true then tb { D with nx := fun σ' H' => Pv σ' H' /\ μ σ' H' < μ σ H,ct := fun σ' H' => Pv σ' H' /\ μ σ' H' < μ σ H,bk := D.nx } σ H1 else D.nx σ H1)
  (mono : ∀ σ H Q Q',(∀ b H1,Q b H1 -> Q' b H1) -> c σ H Q -> c σ H Q') : rO c tb D σ H := by
 refine ⟨fun m σ H => m = μ σ H /\ Pv σ H,⟨_,rfl,h0⟩,?_⟩
 rintro m σ H ⟨rfl,p⟩
 refine mono σ H _ _ (fun b H1 q => ?_) (hs σ H p)
 cases b with
 | true => exact ⟨_,fun σ' H' ⟨p',l⟩ => ⟨_,l,rfl,p'⟩,q⟩
 | false => exact q
abbrev R2 := V -> V -> Hp -> VK -> Prop
def eU (X : Cx) (f : Value -> Value -> Sem Value) (r : R2) : Prop :=
 ∀ (pins : List (Addr × Obj)) (s : Shared) (σ : St) (H : Hp) (x y : V) (v u : Value) (Q : VK),ar X pins σ H s -> RelV x v -> RelV y u -> r x y H Q ->
  wpAny (model X.prog X.w) X.A (f v u) (EP X pins σ Q) X.xe s
def Am (X : Cx) (f : Value -> Sem Value) (r : V -> Hp -> VK -> Prop) : Prop :=
 ∀ (pins : List (Addr × Obj)) (s : Shared) (σ : St) (H : Hp) (x : V) (v : Value) (Q : VK),ar X pins σ H s -> RelV x v -> r x H Q ->
  wpAny (model X.prog X.w) X.A (f v) (EP X pins σ Q) X.xe s
def cr (X : Cx) (f : Value) (r : List V -> Hp -> VK -> Prop) : Prop :=
 ∀ (pins : List (Addr × Obj)) (s : Shared) (σ : St) (H : Hp) (xs : List V) (us : List Value) (Q : VK),ar X pins σ H s -> aN xs us -> r xs H Q ->
  wpAny (model X.prog X.w) X.A (call f us) (EP X pins σ Q) X.xe s
def zQ (r : R2) (ta tb : TE) : TE := fun σ H Q => ta σ H fun x H1 => tb σ H1 fun y H2 => r x y H2 Q
def zR (r : V -> Hp -> VK -> Prop) (ta : TE) : TE := fun σ H Q => ta σ H fun x H1 => r x H1 Q
def rI (C : Int -> Int -> Prop) (g : Int -> Int -> V) : R2 := fun x y H Q => ∃ i j,x = .int i /\ y = .int j /\ C i j /\ Q (g i j) H
def vU (g : Int -> Int -> V) : R2 := fun x y H Q => ∃ i j,x = .int i /\ y = .int j /\ Q (g i j) H
def rU (g : Int -> V) : V -> Hp -> VK -> Prop := fun x H Q => ∃ i,x = .int i /\ Q (g i) H
section
variable {X : Cx} {a b c : Expr} {ta tb tc : TE} {pos : Pos}
theorem wv (ha : PE X a ta) (hb : PE X b tb) {pins : List (Addr × Obj)} {s : Shared} {σ : St} {H : Hp} {R : V -> V -> Hp -> Prop} (I : ar X pins σ H s)
  (h : ta σ H fun x H1 => tb σ H1 fun y H2 => R x y H2) {Q : Value -> Shared -> Prop} {f : Value -> Value -> Sem Value}
  (hf : ∀ v u s2 x y H2,ar X pins σ H2 s2 -> RelV x v -> RelV y u -> R x y H2 -> wpAny (model X.prog X.w) X.A (f v u) Q X.xe s2) :
  wpAny (model X.prog X.w) X.A (eval a X.env) (fun v s₁ => wpAny (model X.prog X.w) X.A (eval b X.env) (fun u s₂ => wpAny (model X.prog X.w) X.A (f v u) Q X.xe s₂) X.xe s₁) X.xe s := by
 refine aX (ha pins s σ H _ I h) fun v s1 ⟨x,H1,I1,r1,q1⟩ => ?_
 refine aX (hb pins s1 σ H1 _ I1 q1) fun u s2 ⟨y,H2,I2,r2,q2⟩ => ?_
 exact hf v u s2 x y H2 I2 r1 r2 q2
theorem au {op : Operator} {r : R2} (ho : eU X (binaryOp op) r) (ha : PE X a ta) (hb : PE X b tb) : PE X (.BinOp a op b pos) (zQ r ta tb) := by
 intro pins s σ H Q I h
 exact wpAny_BinOp (wv ha hb I h fun v u s2 x y H2 I2 rx ry q => ho pins s2 σ H2 x y v u Q I2 rx ry q)
theorem oV {op : UnaryOp} {r : V -> Hp -> VK -> Prop} (ho : Am X (unaryOp op) r) (ha : PE X a ta) : PE X (.UnaryOp op a pos) (zR r ta) := by
 intro pins s σ H Q I h
 exact UnaryOp_ (aX (ha pins s σ H _ I h) fun v s1 ⟨x,H1,I1,r1,q1⟩ => ho pins s1 σ H1 x v Q I1 r1 q1)
theorem zS {f : Value -> Value -> Sem Value} {C : Int -> Int -> Prop} {g : Int -> Int -> Int}
  (rule : ∀ (i j : Int) (t u : Tok) (s : Shared) (Q : Value -> Shared -> Prop) (E : Value -> Shared -> Prop),C i j -> Q (.int (g i j) s.toks) { s with toks := s.toks + 1 } -> wpAny (model X.prog X.w) X.A (f (.int i t) (.int j u)) Q E s) :
  eU X f (rI C fun i j => .int (g i j)) := by
 intro pins s σ H x y v u Q I rx ry h
 obtain ⟨i,j,rfl,rfl,hc,q⟩ := h
 obtain ⟨t,rfl⟩ := rx
 obtain ⟨t',rfl⟩ := ry
 exact rule i j t t' s _ _ hc ⟨.int (g i j),H,I.tok _,⟨_,rfl⟩,q⟩
theorem xW {f : Value -> Value -> Sem Value} {g : Int -> Int -> Int}
  (rule : ∀ (i j : Int) (t u : Tok) (s : Shared) (Q : Value -> Shared -> Prop) (E : Value -> Shared -> Prop),Q (.int (g i j) s.toks) { s with toks := s.toks + 1 } -> wpAny (model X.prog X.w) X.A (f (.int i t) (.int j u)) Q E s) :
  eU X f (vU fun i j => .int (g i j)) := by
 intro pins s σ H x y v u Q I rx ry h
 obtain ⟨i,j,rfl,rfl,q⟩ := h
 obtain ⟨t,rfl⟩ := rx
 obtain ⟨t',rfl⟩ := ry
 exact rule i j t t' s _ _ ⟨.int (g i j),H,I.tok _,⟨_,rfl⟩,q⟩
theorem uj {f : Value -> Value -> Sem Value} {g : Int -> Int -> Bool}
  (rule : ∀ (i j : Int) (t u : Tok) (s : Shared) (Q : Value -> Shared -> Prop) (E : Value -> Shared -> Prop),Q (.bool (g i j)) s -> wpAny (model X.prog X.w) X.A (f (.int i t) (.int j u)) Q E s) :
  eU X f (vU fun i j => .bl (g i j)) := by
 intro pins s σ H x y v u Q I rx ry h
 obtain ⟨i,j,rfl,rfl,q⟩ := h
 obtain ⟨t,rfl⟩ := rx
 obtain ⟨t',rfl⟩ := ry
 exact rule i j t t' s _ _ ⟨.bl (g i j),H,I,rfl,q⟩
theorem dj : eU X (binaryOp .Add) (vU fun i j => .int (i + j)) := xW fun _ _ _ _ _ _ _ q => add_int q
theorem ww : eU X (binaryOp .Sub) (vU fun i j => .int (i - j)) := xW fun _ _ _ _ _ _ _ q => sub_int q
theorem aS : eU X (binaryOp .Mod) (rI (fun _ j => j ≠ 0) fun i j => .int (i.fmod j)) := zS fun _ _ _ _ _ _ _ hc q => mod_int' hc q
theorem Bm {f : Value -> Sem Value} {g : Int -> Int}
  (rule : ∀ (i : Int) (t : Tok) (s : Shared) (Q : Value -> Shared -> Prop) (E : Value -> Shared -> Prop),Q (.int (g i) s.toks) { s with toks := s.toks + 1 } -> wpAny (model X.prog X.w) X.A (f (.int i t)) Q E s) :
  Am X f (rU fun i => .int (g i)) := by
 intro pins s σ H x v Q I rx h
 obtain ⟨i,rfl,q⟩ := h
 obtain ⟨t,rfl⟩ := rx
 exact rule i t s _ _ ⟨.int (g i),H,I.tok _,⟨_,rfl⟩,q⟩
theorem kc : Am X (unaryOp .USub) (rU fun i => .int (-i)) := Bm fun _ _ _ _ _ q => neg_int q
end
def xX : V -> V -> Bool
 | .non,.non => true | .non,.int _ => true | .int _,.non => true | .non,.bl _ => true | .bl _,.non => true | .non,.str _ => true | .str _,.non => true
 | .int _,.int _ => true | .bl _,.bl _ => true | .str _,.str _ => true | .byt _,.byt _ => true
 | .int _,.str _ => true | .str _,.int _ => true | .bl _,.str _ => true | .str _,.bl _ => true
 | _,_ => false
def Bo : R2 := fun x y H Q => xX x y = true /\ Q (.bl (decide (x = y))) H
def Bp : R2 := fun x y H Q => xX x y = true /\ Q (.bl (!decide (x = y))) H
theorem oW {i j : Int} : decide (V.int i = V.int j) = (i == j) := by
 rw [D2]
 simp
theorem rP {i j : Bool} : decide (V.bl i = V.bl j) = (i == j) := by
 rw [D2]
 simp
theorem oX {i j : Str} : decide (V.str i = V.str j) = (i == j) := by
 rw [D2]
 simp
theorem oY {i j : Array UInt8} : decide (V.byt i = V.byt j) = (i.toList == j.toList) := by
 rw [D2]
 cases i
 cases j
 simp
section
variable {X : Cx} {a b c : Expr} {ta tb tc : TE} {pos : Pos}
theorem aW {pins : List (Addr × Obj)} {σ : St} {H : Hp} {s : Shared} {Q : VK} {k k' : Bool} (I : ar X pins σ H s) (q : Q (.bl k) H) (e : k = k') : EP X pins σ Q (.bool k') s := by
 subst e
 exact ⟨.bl k,H,I,rfl,q⟩
theorem cf : eU X (compareOp .Eq) Bo := by
 intro pins s σ H x y v u Q I rx ry h
 obtain ⟨hs,q⟩ := h
 cases x with
 | non =>
  cases rx
  cases y with
  | non => cases ry; exact PySem.EqNone.eq_none_none (aW I q (by simp))
  | bl j => cases ry; exact PySem.EqNone.eq_none_bool (aW I q (by simp))
  | int j => obtain ⟨t',rfl⟩ := ry; exact PySem.EqNone.eq_none_int (aW I q (by simp))
  | str j => obtain ⟨t',rfl⟩ := ry; exact PySem.EqNone.eq_none_str (aW I q (by simp))
  | _ => exact absurd (show false = true from hs) BE
 | bl i =>
  cases rx
  cases y with
  | non => cases ry; exact PySem.EqNone.eq_bool_none (aW I q (by simp))
  | bl j => cases ry; exact eq_bool (aW I q rP)
  | str j => obtain ⟨t',rfl⟩ := ry; exact PySem.EqMixed.eq_bool_str (aW I q (by simp))
  | _ => exact absurd (show false = true from hs) BE
 | int i =>
  obtain ⟨t,rfl⟩ := rx
  cases y with
  | non => cases ry; exact PySem.EqNone.eq_int_none (aW I q (by simp))
  | int j => obtain ⟨t',rfl⟩ := ry; exact eq_int (aW I q oW)
  | str j => obtain ⟨t',rfl⟩ := ry; exact PySem.EqMixed.eq_int_str (aW I q (by simp))
  | _ => exact absurd (show false = true from hs) BE
 | str i =>
  obtain ⟨t,rfl⟩ := rx
  cases y with
  | non => cases ry; exact PySem.EqNone.eq_str_none (aW I q (by simp))
  | bl j => cases ry; exact PySem.EqMixed.eq_str_bool (aW I q (by simp))
  | int j => obtain ⟨t',rfl⟩ := ry; exact PySem.EqMixed.eq_str_int (aW I q (by simp))
  | str j => obtain ⟨t',rfl⟩ := ry; exact eq_str (aW I q oX)
  | _ => exact absurd (show false = true from hs) BE
 | byt i =>
  obtain ⟨t,rfl⟩ := rx
  cases y with
  | byt j => obtain ⟨t',rfl⟩ := ry; exact PySem.W.eq_bytes (aW I q oY)
  | _ => exact absurd (show false = true from hs) BE
 | _ => cases y <;> exact absurd (show false = true from hs) BE
theorem oZ : eU X (compareOp .NotEq) Bp := by
 intro pins s σ H x y v u Q I rx ry h
 obtain ⟨hs,q⟩ := h
 cases x with
 | non =>
  cases rx
  cases y with
  | non => cases ry; exact PySem.EqNone.ne_none_none (aW I q (by simp))
  | bl j => cases ry; exact PySem.EqNone.ne_none_bool (aW I q (by simp))
  | int j => obtain ⟨t',rfl⟩ := ry; exact PySem.EqNone.ne_none_int (aW I q (by simp))
  | str j => obtain ⟨t',rfl⟩ := ry; exact PySem.EqNone.ne_none_str (aW I q (by simp))
  | _ => exact absurd (show false = true from hs) BE
 | bl i =>
  cases rx
  cases y with
  | non => cases ry; exact PySem.EqNone.ne_bool_none (aW I q (by simp))
  | bl j => cases ry; exact ne_bool (aW I q (congrArg not rP))
  | str j => obtain ⟨t',rfl⟩ := ry; exact PySem.EqMixed.ne_bool_str (aW I q (by simp))
  | _ => exact absurd (show false = true from hs) BE
 | int i =>
  obtain ⟨t,rfl⟩ := rx
  cases y with
  | non => cases ry; exact PySem.EqNone.ne_int_none (aW I q (by simp))
  | int j => obtain ⟨t',rfl⟩ := ry; exact ne_int (aW I q (congrArg not oW))
  | str j => obtain ⟨t',rfl⟩ := ry; exact PySem.EqMixed.ne_int_str (aW I q (by simp))
  | _ => exact absurd (show false = true from hs) BE
 | str i =>
  obtain ⟨t,rfl⟩ := rx
  cases y with
  | non => cases ry; exact PySem.EqNone.ne_str_none (aW I q (by simp))
  | bl j => cases ry; exact PySem.EqMixed.ne_str_bool (aW I q (by simp))
  | int j => obtain ⟨t',rfl⟩ := ry; exact PySem.EqMixed.ne_str_int (aW I q (by simp))
  | str j => obtain ⟨t',rfl⟩ := ry; exact ne_str (aW I q (congrArg not oX))
  | _ => exact absurd (show false = true from hs) BE
 | byt i =>
  obtain ⟨t,rfl⟩ := rx
  cases y with
  | byt j => obtain ⟨t',rfl⟩ := ry; exact PySem.W.ne_bytes (aW I q (congrArg not oY))
  | _ => exact absurd (show false = true from hs) BE
 | _ => cases y <;> exact absurd (show false = true from hs) BE
theorem lR : eU X (compareOp .Lt) (vU fun i j => .bl (decide (i < j))) := uj fun _ _ _ _ _ _ _ q => lt_int q
theorem vV : eU X (compareOp .LtE) (vU fun i j => .bl (decide (i <= j))) := uj fun _ _ _ _ _ _ _ q => le_int q
theorem ir : eU X (compareOp .Gt) (vU fun i j => .bl (decide (j < i))) := uj fun _ _ _ _ _ _ _ q => gt_int q
theorem xY : eU X (compareOp .GtE) (vU fun i j => .bl (decide (j <= i))) := uj fun _ _ _ _ _ _ _ q => ge_int q
theorem iu : eU X (compareOp .Is) (fun x y H Q => y = .non /\ Q (.bl (decide (x = .non))) H) := by
 intro pins s σ H x y v u Q I rx ry h
 obtain ⟨rfl,q⟩ := h
 cases ry
 refine is_none_gen (aW I q ?_)
 cases x <;> first
  | (cases rx; rfl)
  | (obtain ⟨t,rfl⟩ := rx; rfl)
theorem o9 : eU X (compareOp .IsNot) (fun x y H Q => y = .non /\ Q (.bl (!decide (x = .non))) H) := by
 intro pins s σ H x y v u Q I rx ry h
 obtain ⟨rfl,q⟩ := h
 cases ry
 refine isnot_none_gen (aW I q ?_)
 cases x <;> first
  | (cases rx; rfl)
  | (obtain ⟨t,rfl⟩ := rx; rfl)
theorem aE (b : Expr) {op : CmpOp} (h : op ≠ .In := by decide) (h2 : op ≠ .NotIn := by decide) : behindInMarks op b = false := by
 have e1 : (op == CmpOp.In) = false := by cases op <;> first | rfl | exact absurd rfl h
 have e2 : (op == CmpOp.NotIn) = false := by cases op <;> first | rfl | exact absurd rfl h2
 cases b <;> simp [behindInMarks,e1,e2]
theorem bV {op : CmpOp} {r : R2} (ho : eU X (compareOp op) r) (ha : PE X a ta) (hb : PE X b tb) (hm : behindInMarks op b = false) : PE X (.Compare a [op] [b] pos) (zQ r ta tb) := by
 intro pins s σ H Q I h
 exact wpAny_Compare1 (wv ha hb I h fun v u s2 x y H2 I2 rx ry q => ho pins s2 σ H2 x y v u Q I2 rx ry q) hm
def xZ (t : TE) : TT := fun σ H Q => t σ H fun x H' => ∃ k,x = .bl k /\ Q k H'
theorem aA {op : CmpOp} {r : R2} (ho : eU X (compareOp op) r) (ha : PE X a ta) (hb : PE X b tb) (hm : behindInMarks op b = false) : PT X (.Compare a [op] [b] pos) (xZ (zQ r ta tb)) := by
 intro pins s σ H Q I h
 refine wpAny_isTrue_Compare1 (aX (ha pins s σ H _ I h) fun v s1 ⟨x,H1,I1,r1,q1⟩ => aX (hb pins s1 σ H1 _ I1 q1) fun u s2 ⟨y,H2,I2,r2,q2⟩ =>
  aX (ho pins s2 σ H2 x y v u _ I2 r1 r2 q2) fun c s3 ⟨z,H3,I3,r3,k,e,q3⟩ => ?_) hm
 subst e
 cases r3
 exact wpAny_truthy_bool ⟨H3,I3,q3⟩
theorem iw : (sizeLine : Nat) < 2 ^ 63 := by rw [sizeLine_eq]; decide
theorem b5 : eU X (binaryOp .Add) (fun x y H Q => ∃ i j,x = .str i /\ y = .str j /\ i.length + j.length <= sizeLine /\ Q (.str (i ++ j)) H) := by
 intro pins s σ H x y v u Q I rx ry h
 obtain ⟨i,j,rfl,rfl,hz,q⟩ := h
 obtain ⟨t,rfl⟩ := rx
 obtain ⟨t',rfl⟩ := ry
 exact add_str (fun t' tk => ⟨.str (i ++ j),H,I.tok _,⟨_,rfl⟩,q⟩) hz
theorem vals1 {x : V} {us : List Value} (r : aN [x] us) : ∃ u,us = [u] /\ RelV x u := by
 cases r with
 | cons r1 r2 => cases r2; exact ⟨_,rfl,r1⟩
theorem vals2 {x y : V} {us : List Value} (r : aN [x,y] us) : ∃ u w',us = [u,w'] /\ RelV x u /\ RelV y w' := by
 cases r with
 | cons r1 r2 =>
  cases r2 with
  | cons r3 r4 => cases r4; exact ⟨_,_,rfl,r1,r3⟩
theorem ix : cr X (.builtin "abs") (fun xs H Q => ∃ i,xs = [.int i] /\ Q (.int (if i < 0 then -i else i)) H) := by
 intro pins s σ H xs us Q I r h
 obtain ⟨i,rfl,q⟩ := h
 obtain ⟨u,rfl,t,rfl⟩ := vals1 r
 exact call_abs_int fun u tk => ⟨.int (if i < 0 then -i else i),H,I.tok _,⟨_,rfl⟩,q⟩
end
structure m7 (h : Heap) (x dx C : Addr) (mA : Str -> Option Value) : Prop where
 obj : h.get? x = some (CY C dx)
 ns : h.Ns1 dx mA
 ne : dx ≠ x
theorem ql {h : Heap} {dx : Addr} {mA : Str -> Option Value} (n : h.Ns1 dx mA) : ∃ od,h.get? dx = some od /\ ∀ name,PySem.W.lookIn name od = some (mA name) := by
 obtain ⟨o,es,ep,ho,hd,hk,_,hm⟩ := n
 refine ⟨o,ho,fun name => ?_⟩
 have e := hm name
 unfold nsFind findBy at e
 rw [<- Array.find?_toList] at e
 unfold PySem.W.lookIn
 rw [hd]
 dsimp only
 split
 ·rename_i y q
  rw [q] at e
  exact congrArg some e
 ·rename_i q
  rw [q] at e
  have a : es.toList.any (·.refKey) = false := by
   rw [List.any_eq_false]
   intro y hy
   obtain ⟨z,t,hkey⟩ := hk y (Array.mem_toList_iff.mp hy)
   simp [DictEntry.refKey,hkey]
  have a' : ¬ es.toList.any (·.refKey) = true := by rw [a]; exact BE
  rw [if_neg a']
  exact congrArg some e
theorem m7.look {h : Heap} {x dx C : Addr} {mA : Str -> Option Value} (I : m7 h x dx C mA) : ∃ od,PySem.W.InstAt h x (CY C dx) C (some od) /\ ∀ name,PySem.W.lookIn name od = some (mA name) :=
 let ⟨od,ho,hl⟩ := ql I.ns
 ⟨od,⟨I.obj,rfl,rfl,ho⟩,hl⟩
section
variable {prog : Program} {w : World} {A : Around} {E : Value -> Shared -> Prop} {s : Shared} {K : B1} {x dx C f : Addr} {mA : Str -> Option Value} {name : Str} {v : Value}
theorem uk {expr : Bool} {Q : Value -> Shared -> Prop} (X : K.In s.heap) (I : m7 s.heap x dx C mA) (hg : PySem.W.plainGet K C name = true) (hh : PySem.W.hasDictIn K C = true)
  (ha : BK K (.ref C) name = some none) (hv : mA name = some v) (hv' : PySem.W.handedIn v = true) (h : Q v { s with toks := s.toks + 1 }) :
  wpAny (model prog w) A (getAttr (.ref x) name expr) Q E s := by
 obtain ⟨od,J,hl⟩ := I.look
 exact PySem.W.get_value X J (PySem.W.plainGet_of hg).1 (PySem.W.findObj_own hh ha rfl (by rw [hl,hv])) hv' h
theorem rQ {pl : Sem Bool} {Q : Value × List Value -> Shared -> Prop} (X : K.In s.heap) (I : m7 s.heap x dx C mA) (hg : PySem.W.plainGet K C name = true)
  (hf : BK K (.ref C) name = some (some (.ref f))) (ht : PySem.W.isFn K (.ref f) = true) (hv : mA name = none) (h : Q (.ref f,[.ref x]) s) :
  wpAny (model prog w) A (getMethod (.ref x) name pl) Q E s := by
 obtain ⟨od,J,hl⟩ := I.look
 exact PySem.W.method_fn X J (PySem.W.plainGet_of hg).1 (PySem.W.plainGet_of hg).2 hf (beq_iff_eq.mp ht) (by show (PySem.W.lookIn name od).map (·.isSome) = some false; rw [hl,hv]; rfl) h
theorem ul {ns : List Str} {Q : Unit -> Shared -> Prop} (X : K.In s.heap) (I : m7 s.heap x dx C mA)
  (hs : BK K (.ref C) "__setattr__" = some (some (.builtin "object.__setattr__"))) (hp : PySem.W.plainOver K C = true) (ht : PySem.W.takerIn K C name = some none) (hh : PySem.W.hasDictIn K C = true)
  (hw : PySem.Within mA ns) (hsz : ns.length <= sizeLine)
  (h : ∀ h',m7 h' x dx C (fun y => if y = name then some v else mA y) -> Heap.SameBut dx s.heap h' -> Q () { s with heap := h',toks := s.toks + 2 }) :
  wpAny (model prog w) A (setAttr (.ref x) name v) Q E s := by
 obtain ⟨od,J,hl⟩ := I.look
 refine PySem.W.set_plain X J hs (PySem.W.osa_open (s := { s with toks := s.toks + 1 }) (r := none) X J hp ht fun b => ?_)
 obtain ⟨cd,hc,hd'⟩ := PySem.W.any_some hh
 have hx : s.heap.get? x = some ⟨.ref C,some dx,.plain,#[]⟩ := I.obj
 refine wpAny_bind (wpAny_pure (wpAny_bind (wpAny_bind (wpAny_loadPart hx (wpAny_bind (PySem.W.Looks.here (s := { s with toks := s.toks + 1 }) (PySem.W.looks_clsIn X hc) ?_))))))
 rw [hd']
 refine wpAny_pure (a := some dx) (wpAny_bind (wpAny_pure (wpAny_bind ?_)))
 refine wpAny_nsSet1 (s := { s with toks := s.toks + 1 }) I.ns fun h' hn2 hs2 => ?_
 obtain ⟨oD,esD,epD,hoD,hdD,hcD⟩ := hn2.count (PySem.Within.cons name v hw)
 refine wpAny_bind (wpAny_lookBehind hoD (by rw [hdD]; exact pastItsLine_dict (BZ hcD (by rw [Bz]; omega))) ?_)
 exact wpAny_pure (h _ ⟨(hs2.2 _ (Ne.symm I.ne)).trans I.obj,hn2,I.ne⟩ hs2)
theorem rR {R : Result -> Shared -> Prop} {vs : List Value} {kw : List (Str × Value)} (X : K.In s.heap) (hm : PySem.W.makesIn K C = true)
  (hi : BK K (.ref C) "__init__" = some (some (.ref f))) (hf : PySem.W.typeIn K (.ref f) = some (.type "function"))
  (h : codeAny (model prog w) (A.under (.builtin "type.__call__" ⟨.ref C :: vs,kw⟩)) (.call (.ref f) ⟨.ref (s.heap.objs.size + 1) :: vs,kw⟩) (PySem.W.InitBack (s.heap.objs.size + 1) R)
   { s with heap := (s.heap.push BQ).push (CY C s.heap.objs.size) }) :
  codeAny (model prog w) A (.call (.ref C) ⟨vs,kw⟩) R s := by
 obtain ⟨hh,g,d,t,os⟩ := s
 exact PySem.W.make_core (PySem.W.makes_of X hm) (PySem.W.looks_findIn X hi) (fun self => PySem.W.bind_fn X self hf) (.inl rfl) h
end
def aD (f : Str) (v : V) : List (Str × V) -> List (Str × V)
 | [] => [(f,v)]
 | (g,x) :: r => if g = f then (g,v) :: r else (g,x) :: aD f v r
theorem aJ (f g : Str) (v : V) : ∀ fs : List (Str × V),(aD f v fs).lookup g = if g = f then some v else fs.lookup g
 | [] => by
  show Ce g [(f,v)] = _
  by_cases h : g = f
  ·have hb : (g == f) = true := beq_iff_eq.mpr h
   simp only [Ce,hb,if_pos h]
  ·have hb : (g == f) = false := beq_eq_false_iff_ne.mpr h
   simp only [Ce,hb,if_neg h]
 | (k,x) :: r => by
  have ih := aJ f g v r
  rw [show aD f v ((k,x) :: r) = (if k = f then (k,v) :: r else (k,x) :: aD f v r) from rfl]
  by_cases hk : k = f
  ·rw [if_pos hk]
   by_cases h : g = k
   ·have hb : (g == k) = true := beq_iff_eq.mpr h
    simp only [Ce,hb,if_pos (h.trans hk)]
   ·have hb : (g == k) = false := beq_eq_false_iff_ne.mpr h
    simp only [Ce,hb,if_neg (fun e : g = f => h (e.trans hk.symm))]
  ·rw [if_neg hk]
   by_cases h : g = k
   ·have hb : (g == k) = true := beq_iff_eq.mpr h
    simp only [Ce,hb,if_neg (fun e : g = f => hk (h.symm.trans e))]
   ·have hb : (g == k) = false := beq_eq_false_iff_ne.mpr h
    simp only [Ce,hb]
    exact ih
theorem gf (f : Str) (v : V) : ∀ fs : List (Str × V),f ∈ (aD f v fs).map (·.1) /\ ∀ g,g ∈ fs.map (·.1) -> g ∈ (aD f v fs).map (·.1)
 | [] => ⟨by simp [aD],fun g h => by simp at h⟩
 | (k,x) :: r => by
  obtain ⟨i1,i2⟩ := gf f v r
  rw [show aD f v ((k,x) :: r) = (if k = f then (k,v) :: r else (k,x) :: aD f v r) from rfl]
  by_cases hk : k = f
  ·rw [if_pos hk]
   subst hk
   exact ⟨by simp,fun g h => by simpa using h⟩
  ·rw [if_neg hk]
   refine ⟨?_,fun g h => ?_⟩
   ·rw [By]
    exact BV _ i1
   ·rw [By] at h ⊢
    rcases B9.mp h with e | e
    ·exact B9.mpr (.inl e)
    ·exact BV _ (i2 g e)
theorem b7 (f : Str) (v : V) : ∀ fs : List (Str × V),(aD f v fs).length <= fs.length + 1
 | [] => by simp [aD]
 | (k,x) :: r => by
  have ih := b7 f v r
  rw [show aD f v ((k,x) :: r) = (if k = f then (k,v) :: r else (k,x) :: aD f v r) from rfl]
  by_cases hk : k = f
  ·rw [if_pos hk,Bz,Bz]; omega
  ·rw [if_neg hk,Bz,Bz]; omega
theorem dh.some_of {v : V} {o : Option Value} (r : dh (some v) o) : ∃ u,o = some u /\ RelV v u := by
 cases o with
 | none => exact (show False from r).elim
 | some u => exact ⟨u,rfl,r⟩
theorem dh.none_of {o : Option Value} (r : dh none o) : o = none := by
 cases o with
 | none => rfl
 | some u => exact (show False from r).elim
theorem qm {v : V} {u : Value} (r : RelV v u) : PySem.W.handedIn u = true := by
 cases v with
 | non => cases (show u = Value.none from r); rfl
 | bl b => cases (show u = Value.bool b from r); rfl
 | int i => obtain ⟨t,e⟩ := (show ∃ t,u = Value.int i t from r); cases e; rfl
 | str x => obtain ⟨t,e⟩ := (show ∃ t,u = Value.str x t from r); cases e; rfl
 | byt b => obtain ⟨t,e⟩ := (show ∃ t,u = Value.bytes b t from r); cases e; rfl
 | flt b => obtain ⟨t,e⟩ := (show ∃ t,u = Value.float b t from r); cases e; rfl
 | ref a => cases (show u = Value.ref a from r); rfl
 | ty n => cases (show u = Value.type n from r); rfl
section
variable {P : Program} {w : World} {H H' : Hp} {h h' : Heap} {a C dx : Addr} {fs fs' : List (Str × V)}
theorem hV (hok : dv P w H h) (e : H a = some (.ins C dx fs)) : ∃ mA,m7 h a dx C mA /\ (∀ f,dh (fs.lookup f) (mA f)) /\ PySem.Within mA (fs.map (·.1)) /\ fs.length <= 1000 /\ H dx = some (.own a) := by
 obtain ⟨d,z,ne,ob,mA,n,r,q⟩ := (show aR P w H h a (.ins C dx fs) from hok a _ e)
 exact ⟨mA,⟨ob,n,ne⟩,r,q,z,d⟩
end
structure pc (K : B1) (C : Addr) : Prop where
 pg : PySem.W.plainGet K C Str.empty = true
 hd : PySem.W.hasDictIn K C = true
 po : PySem.W.plainOver K C = true
 sa : BK K (.ref C) "__setattr__" = some (some (.builtin "object.__setattr__"))
theorem pc.get {K : B1} {C : Addr} (c : pc K C) (f : Str) : PySem.W.plainGet K C f = true := c.pg
def bQ (K : B1) (C : Addr) (f : Str) : Prop := BK K (.ref C) f = some none
theorem bQ.taker {K : B1} {C : Addr} {f : Str} (n : bQ K C f) : PySem.W.takerIn K C f = some none := by
 unfold PySem.W.takerIn
 rw [show BK K (.ref C) f = some none from n]
 rfl
structure dm (K : B1) (C : Addr) (m : Str) (f : Addr) : Prop where
 at_ : BK K (.ref C) m = some (some (.ref f))
 fn : PySem.W.isFn K (.ref f) = true
 kp : C7 K (.ref f) = true
section
variable {X : Cx} {pins : List (Addr × Obj)} {σ : St} {H : Hp} {s : Shared} {a C dx : Addr} {fs : List (Str × V)} {f : Str} {v : V} {A : Around} {E : Value -> Shared -> Prop}
theorem m8 {b : Bool} {Q : Value -> Shared -> Prop} (I : ar X pins σ H s) (e : H a = some (.ins C dx fs)) (c : pc X.K C) (n : bQ X.K C f) (l : fs.lookup f = some v)
  (h : ∀ u s',ar X pins σ H s' -> RelV v u -> Q u s') : wpAny (model X.prog X.w) A (getAttr (.ref a) f b) Q E s := by
 obtain ⟨mA,O,r,_,_,_⟩ := hV I.hok e
 obtain ⟨u,hu,ru⟩ := dh.some_of (v := v) (o := mA f) (by rw [<- l]; exact r f)
 exact uk I.kIn O (c.get f) c.hd n hu (qm ru) (h u _ (I.tok _) ru)
theorem dR {m : Str} {g : Addr} {pl : Sem Bool} {Q : Value × List Value -> Shared -> Prop} (I : ar X pins σ H s) (e : H a = some (.ins C dx fs)) (c : pc X.K C) (k : dm X.K C m g) (l : fs.lookup m = none)
  (h : Q (.ref g,[.ref a]) s) : wpAny (model X.prog X.w) A (getMethod (.ref a) m pl) Q E s := by
 obtain ⟨mA,O,r,_,_,_⟩ := hV I.hok e
 have hn : mA m = none := dh.none_of (by rw [<- l]; exact r m)
 exact rQ I.kIn O (c.get m) k.at_ k.fn hn h
theorem m9 {y : V} {u : Value} {Q : Unit -> Shared -> Prop} (I : ar X pins σ H s) (e : H a = some (.ins C dx fs)) (c : pc X.K C) (n : bQ X.K C f) (hl : fs.length < 1000) (ry : RelV y u)
  (h : ∀ s',ar X pins σ (aq H a (.ins C dx (aD f y fs))) s' -> Q () s') : wpAny (model X.prog X.w) A (setAttr (.ref a) f u) Q E s := by
 obtain ⟨mA,O,r,wi,_,ho⟩ := hV I.hok e
 have hz : (fs.map (·.1)).length <= sizeLine := by rw [B2,sizeLine_eq]; omega
 refine ul I.kIn O c.sa c.po n.taker c.hd wi hz fun h' O' sb => h _ ?_
 have hd : ∃ o,h'.get? dx = some o := let ⟨o,_,_,e',_⟩ := O'.ns; ⟨o,e'⟩
 refine I.write (x := a) (e := dx) (by rw [e]; exact True.intro) (.inr ho) (fun b q hb z => (sb.2 b hb).trans z) hd ?_
 refine ⟨by rw [aj O.ne]; exact ho,?_,O.ne,O'.obj,_,O'.ns,fun g => ?_,fun g hg => ?_⟩
 ·have := b7 f y fs; omega
 ·show dh ((aD f y fs).lookup g) (if g = f then some u else mA g)
  rw [aJ]
  by_cases q : g = f
  ·rw [if_pos q,if_pos q]; exact ry
  ·rw [if_neg q,if_neg q]; exact r g
 ·by_cases q : g = f
  ·rw [q]; exact (gf f y fs).1
  ·refine (gf f y fs).2 g (wi g fun z => hg ?_)
   show (if g = f then some u else mA g) = none
   rw [if_neg q]; exact z
theorem ar.made (I : ar X pins σ H s) : ar X pins σ (aq (aq H s.heap.objs.size (.own (s.heap.objs.size + 1))) (s.heap.objs.size + 1) (.ins C s.heap.objs.size []))
  { s with heap := (s.heap.push BQ).push (CY C s.heap.objs.size) } := by
 have e1 : (s.heap.push BQ).get? s.heap.objs.size = some BQ := Heap.get?_push_size s.heap rfl
 have e2 : ((s.heap.push BQ).push (CY C s.heap.objs.size)).get? (s.heap.objs.size + 1) = some (CY C s.heap.objs.size) := by
  have := Heap.get?_push_size (s.heap.push BQ) (o := CY C s.heap.objs.size) rfl
  rwa [Heap.size_push] at this
 have e3 : (s.heap.push BQ).Ns s.heap.objs.size (fun _ => none) := ⟨BQ,#[],_,e1,rfl,(fun e he => absurd he (by simp)),fun _ => rfl⟩
 have I1 := I.laid (a := s.heap.objs.size) (o := .own (s.heap.objs.size + 1)) (h' := s.heap.push BQ) (t' := s.toks) (fun b u q => Heap.get?_push_of_some _ q) (B3 _) ⟨_,e1⟩
 refine I1.laid (a := s.heap.objs.size + 1) (o := .ins C s.heap.objs.size []) (t' := s.toks) (fun b u q => Heap.get?_push_of_some _ q) (Nat.le_of_eq (Heap.size_push _ _)) ?_
 have ne : s.heap.objs.size ≠ s.heap.objs.size + 1 := BA (Nat.lt_succ_self _)
 refine ⟨by rw [aj ne,ac],BY _,ne,e2,fun _ => none,(Heap.Ns1.of_empty e3).at fun o q => Heap.get?_push_of_some _ q,fun _ => True.intro,fun y hy => absurd rfl hy⟩
theorem um {prog : Program} {w : World} {env : Env} {e : Expr} {f : Str} {pos : Pos} {s : Shared} {Q : Value -> Shared -> Prop} (hb : attributeBase e f env (eval e env) = eval e env)
  (h : wpAny (model prog w) A (eval e env) (fun o s₁ => wpAny (model prog w) A (getAttr o f true) Q E s₁) E s) : wpAny (model prog w) A (eval (.Attribute e f pos) env) Q E s :=
 Attribute_any_ h (by rw [arm_eval_Attribute,hb])
end
def x6 (K : B1) (ta : TE) (f : Str) : TE := fun σ H Q => ta σ H fun x H1 => ∃ a C dx fs v,x = .ref a /\ H1 a = some (.ins C dx fs) /\ pc K C /\ bQ K C f /\ fs.lookup f = some v /\ Q v H1
def An (K : B1) (ta tv : TE) (f : Str) : TS := fun D σ H => tv σ H fun y H1 => ta σ H1 fun x H2 => ∃ a C dx fs,x = .ref a /\ H2 a = some (.ins C dx fs) /\ pc K C /\ bQ K C f /\ fs.length < 1000 /\
 D.nx σ (aq H2 a (.ins C dx (aD f y fs)))
section
variable {X : Cx} {o e value : Expr} {f : Str} {pos pos' tpos : Pos} {ta tv : TE}
theorem cy (he : PE X e ta) (hb : attributeBase e f X.env (eval e X.env) = eval e X.env) : PE X (.Attribute e f pos) (x6 X.K ta f) := by
 intro pins s σ H Q I h
 refine um hb (aX (he pins s σ H _ I h) fun u s1 ⟨x,H1,I1,rx,a,C,dx,fs,v,ex,ea,c,n,l,q⟩ => ?_)
 subst ex
 obtain rfl : u = Value.ref a := rx
 exact m8 I1 ea c n l fun u' s2 I2 ru => ⟨v,H1,I2,ru,q⟩
theorem kg (ha : PE X o ta) (hv : PE X value tv) (hs : swapsWith value (some (.Attribute o f pos')) pos.line X.env = pure false) : PS X (.Assign [.Attribute o f pos'] value pos) (An X.K ta tv f) := by
 intro pins s σ H D I h
 refine plainObj_wpAny_Assign_Attribute (aX (hv pins s σ H _ I h) fun u s1 ⟨y,H1,I1,ry,q⟩ => aX (ha pins s1 σ H1 _ I1 q) fun ov s2 ⟨x,H2,I2,rx,a,C,dx,fs,ex,ea,c,n,l,q2⟩ => ?_) hs
 subst ex
 obtain rfl : ov = Value.ref a := rx
 exact m9 I2 ea c n l ry fun s3 I3 => ⟨σ,_,I3,q2⟩
end
section
variable {X : Cx} {pins : List (Addr × Obj)} {σ : St} {H : Hp} {s : Shared} {A : Around} {E : Value -> Shared -> Prop} {Q : Value -> Shared -> Prop} {c : Value} {b : Bool}
inductive dC (K : B1) (H : Hp) : V -> Value -> Prop where
 | non : dC K H .non (.type "NoneType")
 | bl (x : Bool) : dC K H (.bl x) (.type "bool")
 | int (i : Int) : dC K H (.int i) (.type "int")
 | str (x : Str) : dC K H (.str x) (.type "str")
 | flt (x : UInt64) : dC K H (.flt x) (.type "float")
 | lst {a : Addr} {xs : List V} (e : H a = some (.lst xs)) : dC K H (.ref a) (.type "list")
 | frz {a : Addr} {o : Obj} {xs : List V} (e : H a = some (.frz o (.lst xs))) : dC K H (.ref a) (.type "list")
 | tup {a : Addr} {xs : List V} (e : H a = some (.tup xs)) : dC K H (.ref a) (.type "tuple")
 | dK {a : Addr} {kvs : List (Key × V)} (e : H a = some (.dK kvs)) : dC K H (.ref a) (.type "dict")
 | dT {a : Addr} {kvs : List (List Key × V)} (e : H a = some (.dT kvs)) : dC K H (.ref a) (.type "dict")
 | ins {a C dx : Addr} {fs : List (Str × V)} (e : H a = some (.ins C dx fs)) (cl : pc K C) (ha : BK K (.ref C) "__class__" = some (some (.builtin "object.__class__")))
   (hn : PySem.W.specialIn K (.builtin "object.__class__") "__get__" = some (some (.builtin "getset_descriptor.__get__"))) (htk : PySem.W.takesIn K (.builtin "object.__class__") = some true)
   (hm : PySem.W.mroIn K C (.type "object") = some true) : dC K H (.ref a) (.ref C)
theorem qo {x : V} {u t : Value} (I : ar X pins σ H s) (rx : RelV x u) (ty : dC X.K H x t) (e : BR X.K t c = some b) (h : ∀ tk,Q (.bool b) { s with toks := tk }) :
  wpAny (model X.prog X.w) A (call (.builtin "isinstance") [u,c]) Q E s := by
 cases ty with
 | non => cases (show u = Value.none from rx); exact C3 PySem.W.kitx_none I.kIn True.intro e (fun z => nomatch z) h
 | bl y => cases (show u = Value.bool y from rx); exact C3 PySem.W.kitx_bool I.kIn True.intro e (fun z => nomatch z) h
 | int i => obtain ⟨t,q⟩ := (show ∃ t,u = Value.int i t from rx); cases q; exact C3 PySem.W.kitx_int I.kIn True.intro e (fun z => nomatch z) h
 | str y => obtain ⟨t,q⟩ := (show ∃ t,u = Value.str y t from rx); cases q; exact C3 PySem.W.kitx_str I.kIn True.intro e (fun z => nomatch z) h
 | flt y => obtain ⟨t,q⟩ := (show ∃ t,u = Value.float y t from rx); cases q; exact C3 PySem.W.kitx_float I.kIn True.intro e (fun z => nomatch z) h
 | @lst a xs ea =>
  cases (show u = Value.ref a from rx)
  obtain ⟨_,_,n,_,h1⟩ := (show aR X.prog X.w H s.heap a (.lst xs) from I.hok a _ ea)
  exact C3 PySem.W.kitx_list I.kIn ⟨_,h1,rfl⟩ e (fun z => nomatch z) h
 | @frz a ob xs ea =>
  cases (show u = Value.ref a from rx)
  obtain ⟨_,_,_,n,_,h1⟩ := (show aR X.prog X.w H s.heap a (.frz ob (.lst xs)) from I.hok a _ ea)
  exact C3 PySem.W.kitx_list I.kIn ⟨_,h1,rfl⟩ e (fun z => nomatch z) h
 | @tup a xs ea =>
  cases (show u = Value.ref a from rx)
  obtain ⟨_,_,_,p⟩ := (show aR X.prog X.w H s.heap a (.tup xs) from I.hok a _ ea)
  obtain ⟨o,h1,h2,_⟩ := p
  exact C3 PySem.W.kitx_tuple I.kIn ⟨o,h1,h2⟩ e (fun z => nomatch z) h
 | @dK a kvs ea =>
  cases (show u = Value.ref a from rx)
  obtain ⟨_,_,vs,_,p⟩ := (show aR X.prog X.w H s.heap a (.dK kvs) from I.hok a _ ea)
  obtain ⟨o,es,ep,h1,h2,_⟩ := p
  exact C3 PySem.W.kitx_dict I.kIn ⟨o,h1,h2.1⟩ e (fun z => nomatch z) h
 | @dT a kvs ea =>
  cases (show u = Value.ref a from rx)
  obtain ⟨_,_,xs,_,o,es,ep,h1,h2,_⟩ := (show aR X.prog X.w H s.heap a (.dT kvs) from I.hok a _ ea)
  exact C3 PySem.W.kitx_dict I.kIn ⟨o,h1,h2.1⟩ e (fun z => nomatch z) h
 | @ins a C dx fs ea cl ha hn htk hm =>
  cases (show u = Value.ref a from rx)
  obtain ⟨mA,O,_⟩ := hV I.hok ea
  obtain ⟨od,J,_⟩ := O.look
  exact C3 (PySem.W.kitx_own (cl.get _) cl.hd ha hn htk hm) I.kIn J e (fun z => nomatch z) h
end
structure bA (k : Nat) (A : Around) : Prop where
 hd : A.handled = none
 dp : A.depth + 3 * k + 5 < recursionLimit
 un : A.units + 16 * k + 200 < cLine
theorem bA.mono {j k : Nat} {A : Around} (r : bA k A) (h : j <= k) : bA j A := ⟨r.hd,by have := r.dp; omega,by have := r.un; omega⟩
theorem bA.deeper {k : Nat} {A : Around} (r : bA (k + 1) A) (env : Env) : bA k (A.deeper env) :=
 ⟨r.hd,by have := r.dp; show A.depth + 1 + 3 * k + 5 < _; omega,by have := r.un; show A.units + 3 + 16 * k + 200 < _; omega⟩
theorem ng {A : Around} {C : Addr} {us : List Value} {kw : List (Str × Value)} : (A.under (.builtin "type.__call__" ⟨.ref C :: us,kw⟩)).depth = A.depth + 1 := by
 first | rfl | simp [Around.under,Code.weight,Code.isCreation,Code.isGuard,Code.isCaller,Code.frames,Code.isFrame,guardIds]
theorem nh {A : Around} {C : Addr} {us : List Value} {kw : List (Str × Value)} : (A.under (.builtin "type.__call__" ⟨.ref C :: us,kw⟩)).units = A.units + 1 := by
 first | rfl | simp [Around.under,Code.cUnits,Code.frames,Code.isFrame]
theorem bA.make {k : Nat} {A : Around} (r : bA (k + 1) A) (C : Addr) (us : List Value) (kw : List (Str × Value)) : bA k (A.under (.builtin "type.__call__" ⟨.ref C :: us,kw⟩)) :=
 ⟨r.hd,by have := r.dp; rw [ng]; omega,by have := r.un; rw [nh]; omega⟩
theorem bA.depth {k : Nat} {A : Around} (r : bA k A) : A.depth < recursionLimit := by have := r.dp; omega
theorem bA.units {k : Nat} {A : Around} (r : bA k A) : A.units + 64 < cLine := by have := r.un; omega
theorem bA.units0 {k : Nat} {A : Around} (r : bA k A) : A.units < cLine := by have := r.un; omega
def dn : TA := fun _ H Q => Q [] H
def aL (ta : TE) (tr : TA) : TA := fun σ H Q => ta σ H fun x H1 => tr σ H1 fun xs H2 => Q (x :: xs) H2
section
variable {X : Cx} {e : Expr} {es : List Expr} {te : TE} {t : TA} {pos : Pos}
theorem ag : PA X [] dn := fun _ _ _ _ H Q I h => Calls.spliced_nil ⟨[],H,I,.nil,h⟩
theorem aa (ha : PE X e te) (hr : PA X es t) (hs : starEach (e :: es) X.env = (false,eval e X.env) :: starEach es X.env := by rfl) : PA X (e :: es) (aL te t) := by
 intro pos pins s σ H Q I h
 rw [hs]
 show wpAny _ _ (spliced ((false,eval e X.env) :: backTo pos (starEach es X.env))) _ _ s
 refine Calls.spliced_cons (aX (ha pins s σ H _ I h) fun u s1 ⟨x,H1,I1,r1,q1⟩ => ?_)
 exact aX (hr pos pins s1 σ H1 _ I1 q1) fun us s2 ⟨xs,H2,I2,r2,q2⟩ => ⟨x :: xs,H2,I2,.cons r1 r2,q2⟩
def gh (t : TA) : TE := fun σ H Q => t σ H fun xs H1 => xs.length <= sizeLine /\ ∀ p,H1 p = none -> Q (.ref p) (aq H1 p (.tup xs))
def iy (t : TA) : TE := fun σ H Q => t σ H fun xs H1 => xs.length <= sizeLine /\ ∀ p,H1 p = none -> Q (.ref p) (aq H1 p (.lst xs))
theorem b6 {x1} (h : PA X es t) : PE X (.Tuple es x1 pos) (gh t) := by
 intro pins s σ H Q I hq
 refine wpAny_Tuple_spliced (aX (h pos pins s σ H _ I hq) fun us s1 ⟨xs,H1,I1,r,z,q⟩ => ⟨by rw [<- r.length]; exact z,?_⟩)
 have hf : H1 s1.heap.objs.size = none := I1.hok.fresh (B3 _)
 refine ⟨.ref s1.heap.objs.size,aq H1 s1.heap.objs.size (.tup xs),I1.laid (t' := s1.toks) (fun b u e => Heap.get?_push_of_some _ e) (B3 _) ?_,rfl,q _ hf⟩
 exact ⟨z,us,r,⟨_,Heap.get?_push_size _ rfl,rfl,_,rfl⟩⟩
theorem bj (h : PA X es t) : PE X (.List es pos) (iy t) := by
 intro pins s σ H Q I hq
 refine wpAny_List_spliced (aX (h pos pins s σ H _ I hq) fun us s1 ⟨xs,H1,I1,r,z,q⟩ => ⟨by rw [<- r.length]; exact z,?_⟩)
 have hf : H1 s1.heap.objs.size = none := I1.hok.fresh (B3 _)
 refine ⟨.ref s1.heap.objs.size,aq H1 s1.heap.objs.size (.lst xs),I1.laid (t' := s1.toks) (fun b u e => Heap.get?_push_of_some _ e) (B3 _) ?_,rfl,q _ hf⟩
 exact ⟨z,us,0,r,Heap.get?_push_size _ rfl⟩
end
abbrev Sp := List V -> Hp -> VK -> XK -> Prop
abbrev pe := List Env -> Hp -> Shared -> XK -> Value -> Shared -> Prop
structure jj (P : Program) (w : World) (K : B1) (mg : Str -> Option Value) (base : Heap) (A : Around) (outer : List Env) (s : Shared) (H : Hp) : Prop where
 frames : A.frames = some outer
 mod : Mod K mg base
 bs : ∀ b o,base.get? b = some o -> s.heap.get? b = some o /\ H b = none
 bsz : base.objs.size <= s.heap.objs.size
 funs : s.heap.FunFrames base outer
 frf : ∀ b ∈ gL outer,H b = none
 hok : dv P w H s.heap
 bare : AllBare s.gens
def CE (outer : List Env) (P : Program) (w : World) (H : Hp) (s : Shared) (Q : VK) (u : Value) (s' : Shared) : Prop :=
 ∃ v H',s'.os = s.os /\ AllBare s'.gens /\ Un (gL outer) [] H H' s.heap s'.heap /\ dv P w H' s'.heap /\ RelV v u /\ Q v H'
def CR (CX : pe) (outer : List Env) (P : Program) (w : World) (H : Hp) (s : Shared) (Q : VK) (E : XK) (r : Result) (s' : Shared) : Prop :=
 match r with
 | .ok (.ret u) => CE outer P w H s Q u s'
 | .ok _ => False
 | .error e => CX outer H s E e s'
structure aZ (P : Program) (w : World) (K : B1) (mg : Str -> Option Value) (base : Heap) (CX : pe) (k : Nat) (f : Addr) (fd : FuncData) (ps : List Str) (sp : Sp) : Prop where
 len : ∀ vs H Q E,sp vs H Q E -> vs.length = ps.length
 run : ∀ (A : Around) (outer : List Env) (s : Shared) (H : Hp) (args : Args) (us : List Value) (vs : List V) (Q : VK) (E : XK),bA k A -> jj P w K mg base A outer s H -> BindsTo s fd args (ps.zip us) -> aN vs us -> sp vs H Q E ->
  codeAny (model P w) A (.call (.ref f) args) (CR CX outer P w H s Q E) s
theorem jj.make {P : Program} {w : World} {K : B1} {mg : Str -> Option Value} {base : Heap} {A : Around} {outer : List Env} {s : Shared} {H : Hp} (e : jj P w K mg base A outer s H) (C : Addr) (us : List Value) (kw : List (Str × Value)) :
  jj P w K mg base (A.under (.builtin "type.__call__" ⟨.ref C :: us,kw⟩)) outer s H := ⟨by first | exact e.frames | (simpa [Around.under,Code.envs,Code.isFrame,pushEnvs] using e.frames),e.mod,e.bs,e.bsz,e.funs,e.frf,e.hok,e.bare⟩
section
variable {X : Cx} {pins : List (Addr × Obj)} {σ : St} {H : Hp} {s s' : Shared}
theorem ar.env0 (I : ar X pins σ H s) : jj X.prog X.w X.K X.mg X.base X.A X.stack s H :=
 ⟨I.ok.frames,I.ok.mod,I.bs,BZ I.ok.bsz I.sz,I.stack,I.stkFree,I.hok,I.bare⟩
theorem ar.after {Q : VK} {u : Value} (I : ar X pins σ H s) (h : CE X.stack X.prog X.w H s Q u s') : EP X pins σ Q u s' := by
 obtain ⟨v,H',os,bare,un,hok,r,q⟩ := h
 obtain ⟨hh,g,d,t,os'⟩ := s'
 obtain rfl : os' = s.os := os
 exact ⟨v,H',I.call (h' := hh) (g' := g) (d' := d) (t' := t) (ch := []) un hok bare (fun b z => absurd z (by simp)),r,q⟩
end
def lS (sp : Sp) (dvs : List V) (E : XK) (t : TA) : TE := fun σ H Q => t σ H fun vs H1 => sp (vs ++ dvs) H1 Q E
def vW (C : Addr) (sp : Sp) (dvs : List V) (E : XK) (t : TA) : TE := fun σ H Q => t σ H fun vs H1 => ∀ x dx,H1 x = none -> H1 dx = none -> dx ≠ x ->
 sp (.ref x :: (vs ++ dvs)) (aq (aq H1 dx (.own x)) x (.ins C dx [])) (fun v H2 => v = .non /\ Q (.ref x) H2) E
def Binds (K : B1) (fd : FuncData) (ps : List Str) (ds : List Value) : Prop :=
 ∀ (s : Shared) (us : List Value),K.In s.heap -> (us ++ ds).length = ps.length -> BindsTo s fd ⟨us,[]⟩ (ps.zip (us ++ ds))
theorem Binds.all {K : B1} {fd : FuncData} {ps : List Str} (h : ∀ us : List Value,us.length = ps.length -> bindArgs fd ⟨us,[]⟩ = pure (ps.zip us)) : Binds K fd ps [] := fun s us _ hl => by
 rw [D1] at hl ⊢
 exact .of_eq (h us hl)
def iz (CX : pe) (X : Cx) (E : XK) : Prop := ∀ (pins : List (Addr × Obj)) (σ : St) (H : Hp) (s : Shared) (e : Value) (s' : Shared),ar X pins σ H s -> CX X.stack H s E e s' -> X.xe e s'
section
variable {X : Cx} {CX : pe} {k : Nat} {f C : Addr} {fd : FuncData} {ps : List Str} {sp : Sp} {dvs : List V} {ds : List Value} {E : XK} {x m : Str} {p pos apos : Pos} {e o : Expr} {es : List Expr} {ta : TE} {t : TA}
theorem nj {pins : List (Addr × Obj)} {σ : St} {H : Hp} {s : Shared} {Q : VK} {us : List Value} {vs : List V} (F : aZ X.prog X.w X.K X.mg X.base CX k f fd ps sp) (hr : bA k X.A) (hb : Binds X.K fd ps ds) (hd : aN dvs ds) (hx : iz CX X E)
  (I : ar X pins σ H s) (r : aN vs us) (h : sp (vs ++ dvs) H Q E) : wpAny (model X.prog X.w) X.A (call (.ref f) us) (EP X pins σ Q) X.xe s := by
 have r2 : aN (vs ++ dvs) (us ++ ds) := r.append hd
 have hl : (us ++ ds).length = ps.length := by rw [<- r2.length]; exact F.len _ _ _ _ h
 refine wpAny_call (codeAny_mono (F.run X.A X.stack s H ⟨us,[]⟩ (us ++ ds) (vs ++ dvs) Q E hr I.env0 (hb s us I.kIn hl) r2 h) fun r s' hq => ?_)
 cases r with
 | error e => exact hx pins σ H s e s' I hq
 | ok fl =>
  cases fl with
  | ret u => exact I.after hq
  | next => exact False.elim hq
  | brk => exact False.elim hq
  | cont => exact False.elim hq
theorem pf (F : aZ X.prog X.w X.K X.mg X.base CX k f fd ps sp) (hr : bA k X.A) (hg : Gl X x) (hm : X.mg x = some (.ref f)) (hk : C7 X.K (.ref f) = true) (hb : Binds X.K fd ps ds) (hd : aN dvs ds) (hx : iz CX X E)
  (ha : PA X (e :: es) t) (hdb : (x == ("__debug__" : Str)) = false := by decide) (he : starEach (e :: es) X.env = (false,eval e X.env) :: starEach es X.env := by rfl) (hpl : (backTo pos (starEach es X.env)).any (·.1) = false := by rfl) :
  PE X (.Call (.Name x p) (e :: es) [] pos) (lS sp dvs E t) := by
 intro pins s σ H Q I h
 refine wpAny_Call_Name_kw (cQ I hg hm ?_ hdb)
 refine CV (h₀ := X.base) I.ok.mod.kin hk (aX (ha pos pins s σ H _ I h) fun us s1 ⟨vs,H1,I1,r,q⟩ => ⟨I1.kIn,?_⟩) he hpl
 exact nj F hr hb hd hx I1 r q
structure Mk (K : B1) (C f : Addr) : Prop where
 makes : PySem.W.makesIn K C = true
 init : BK K (.ref C) "__init__" = some (some (.ref f))
 fn : PySem.W.isFn K (.ref f) = true
 kp : C7 K (.ref C) = true
theorem rS {pins : List (Addr × Obj)} {σ : St} {H : Hp} {s : Shared} {Q : VK} {us : List Value} {vs : List V} (M : Mk X.K C f) (F : aZ X.prog X.w X.K X.mg X.base CX k f fd ps sp) (hr : bA (k + 1) X.A) (hb : Binds X.K fd ps ds) (hd : aN dvs ds)
  (hx : iz CX X E) (I : ar X pins σ H s) (r : aN vs us)
  (h : ∀ x dx,H x = none -> H dx = none -> dx ≠ x -> sp (.ref x :: (vs ++ dvs)) (aq (aq H dx (.own x)) x (.ins C dx [])) (fun v H2 => v = .non /\ Q (.ref x) H2) E) :
  wpAny (model X.prog X.w) X.A (call (.ref C) us) (EP X pins σ Q) X.xe s := by
 have hq := h (s.heap.objs.size + 1) s.heap.objs.size (I.hok.fresh (Nat.le_succ _)) (I.hok.fresh (B3 _)) (BA (Nat.lt_succ_self _))
 have I2 := ar.made (C := C) I
 have r2 : aN (V.ref (s.heap.objs.size + 1) :: (vs ++ dvs)) (Value.ref (s.heap.objs.size + 1) :: (us ++ ds)) := .cons rfl (r.append hd)
 have hl : (Value.ref (s.heap.objs.size + 1) :: us ++ ds).length = ps.length := by
  have e := r2.length
  rw [F.len _ _ _ _ hq] at e
  exact e.symm
 refine wpAny_call (rR (f := f) I.kIn M.makes M.init (beq_iff_eq.mp M.fn) (codeAny_mono (F.run _ X.stack _ _ ⟨Value.ref (s.heap.objs.size + 1) :: us,[]⟩ (Value.ref (s.heap.objs.size + 1) :: (us ++ ds)) _ _ E (hr.make C us [])
  (I2.env0.make C us []) (hb _ (Value.ref (s.heap.objs.size + 1) :: us) I2.kIn hl) r2 hq) fun r s' hq' => ?_))
 cases r with
 | error e => exact hx pins σ _ _ e s' I2 hq'
 | ok fl =>
  cases fl with
  | ret u =>
   obtain ⟨v,H',I3,rv,ev,q3⟩ := I2.after hq'
   subst ev
   exact ⟨rv,⟨V.ref (s.heap.objs.size + 1),H',I3,rfl,q3⟩⟩
  | next => exact False.elim hq'
  | brk => exact False.elim hq'
  | cont => exact False.elim hq'
theorem rT (M : Mk X.K C f) (F : aZ X.prog X.w X.K X.mg X.base CX k f fd ps sp) (hr : bA (k + 1) X.A) (hg : Gl X x) (hm : X.mg x = some (.ref C)) (hb : Binds X.K fd ps ds) (hd : aN dvs ds) (hx : iz CX X E)
  (hdb : (x == ("__debug__" : Str)) = false := by decide) : PE X (.Call (.Name x p) [] [] pos) (vW C sp dvs E dn) := by
 intro pins s σ H Q I h
 refine wpAny_Call_Name_kw (cQ I hg hm ?_ hdb)
 exact PySem.W.callWith_K0 I.kIn M.kp (rS (us := []) M F hr hb hd hx I .nil h)
end
section
variable {X : Cx} {CX : pe} {k : Nat} {f C : Addr} {fd : FuncData} {ps ks : List Str} {sp : Sp} {E : XK} {x m : Str} {p pos apos kpos : Pos} {e o : Expr} {es : List Expr} {kws : List Keyword} {te ta : TE} {t tk : TA} {nm : Option Str}
variable {g : List Value -> List Value -> List Value} {gV : List V -> List V -> List V}
end
structure ax (N P : List Str) (sc : Scope) : Prop where
 kind : sc.kind = .function
 co : sc.isCoroutine = false
 gen : sc.isGenerator = false
 nd : N.Nodup
 pre : N.take P.length = P
 par : ∀ x ∈ P,sc.names.lookup x = some .local ∨ sc.names.lookup x = some .cell
 nofree : ∀ y ∈ sc.names,y.2 ≠ .free
theorem jy {kindOf : Str -> Option NameKind} {x : Str} : ∀ {binds : List (Str × Value)} {m : Str -> Option Value},(∀ v,(x,v) ∉ binds) -> bindL kindOf binds m x = m x
 | [],_,_ => rfl
 | (n,v) :: r,m,h => by
  unfold bindL
  rw [jy fun w hw => h w (BV _ hw)]
  split
  ·have : x ≠ n := by rintro rfl; exact h v C8
   simp [this]
  ·rfl
theorem jz {kindOf : Str -> Option NameKind} {x : Str} : ∀ {binds : List (Str × Value)} {m : Str -> Option Value},(∀ v,(x,v) ∉ binds) -> bindC kindOf binds m x = m x
 | [],_,_ => rfl
 | (n,v) :: r,m,h => by
  unfold bindC
  rw [jz fun w hw => h w (BV _ hw)]
  split
  ·rfl
  ·have : x ≠ n := by rintro rfl; exact h v C8
   simp [this]
theorem jA {kindOf : Str -> Option NameKind} {x : Str} {v : Value} : ∀ {P : List Str} {vs : List Value} {i : Nat} {m : Str -> Option Value},P.Nodup -> P[i]? = some x -> vs[i]? = some v -> kindOf x = some .local ->
  bindL kindOf (P.zip vs) m x = some v
 | [],_,_,_,_,h,_,_ => by simp at h
 | _ :: _,[],_,_,_,_,h,_ => by simp at h
 | p :: P,w :: vs,0,m,nd,h1,h2,hk => by
  simp at h1 h2; subst h1; subst h2
  show bindL kindOf ((p,w) :: P.zip vs) m p = _
  unfold bindL
  rw [jy fun v hv => (Bx.mp nd).1 (List.of_mem_zip hv).1,if_pos hk]
  simp
 | p :: P,w :: vs,i + 1,m,nd,h1,h2,hk => by
  show bindL kindOf ((p,w) :: P.zip vs) m x = _
  unfold bindL
  exact jA (i := i) (Bx.mp nd).2 (by simpa using h1) (by simpa using h2) hk
theorem jB {kindOf : Str -> Option NameKind} {x : Str} {v : Value} : ∀ {P : List Str} {vs : List Value} {i : Nat} {m : Str -> Option Value},P.Nodup -> P[i]? = some x -> vs[i]? = some v -> kindOf x ≠ some .local ->
  bindC kindOf (P.zip vs) m x = some v
 | [],_,_,_,_,h,_,_ => by simp at h
 | _ :: _,[],_,_,_,_,h,_ => by simp at h
 | p :: P,w :: vs,0,m,nd,h1,h2,hk => by
  simp at h1 h2; subst h1; subst h2
  show bindC kindOf ((p,w) :: P.zip vs) m p = _
  unfold bindC
  rw [jz fun v hv => (Bx.mp nd).1 (List.of_mem_zip hv).1,if_neg hk]
  simp
 | p :: P,w :: vs,i + 1,m,nd,h1,h2,hk => by
  show bindC kindOf ((p,w) :: P.zip vs) m x = _
  unfold bindC
  exact jB (i := i) (Bx.mp nd).2 (by simpa using h1) (by simpa using h2) hk
def start (N : List Str) (vs : List V) : St := vs.map some ++ List.replicate (N.length - vs.length) none
def gi (CX : pe) (P : Program) (w : World) (K : B1) (mg : Str -> Option Value) (base : Heap) (N : List Str) (qual : Str) (scope : Scope) (f : Addr) (cd : Value) (A : Around) (outer : List Env) (s : Shared) (H : Hp) (E : XK) : Cx where
 prog := P
 w := w
 K := K
 mg := mg
 base := base
 A := A.deeper (envOfC qual scope s.heap.objs.size f cd)
 N := N
 s₀ := s
 H₀ := H
 env := envOfC qual scope s.heap.objs.size f cd
 outer := outer
 stack := envOfC qual scope s.heap.objs.size f cd :: outer
 ex := []
 calm := true
 fn := fun _ => true
 pn := []
 xe := fun e s' => wpAny (model P w) (A.deeper (envOfC qual scope s.heap.objs.size f cd)) (leaving (envOfC qual scope s.heap.objs.size f cd) e) (fun _ s'' => CX outer H s E e s'') (fun e' s'' => CX outer H s E e' s'') s'
theorem lT {sc : Scope} {n : Nat} {x : Str} (h : sc.names.lookup x = some .cell) : ∃ c,(cellsFrom n sc.names []).lookup x = some c := by
 have q := PySem.W.cellsFrom_some sc.names n [] (.inl h)
 exact CD.mp q
theorem jC {CX : pe} {P : Program} {w : World} {K : B1} {mg : Str -> Option Value} {base : Heap} {N ps : List Str} {qual : Str} {scope : Scope} {f : Addr} {cd : Value} {A : Around} {outer : List Env} {s s1 : Shared} {H : Hp} {E : XK} {us : List Value} {vs : List V}
  (S : ax N ps scope) (hd : A.handled = none) (e0 : jj P w K mg base A outer s H) (hl : vs.length = ps.length) (r : aN vs us)
  (x : InCallC s s.heap.objs.size (bindL (envOfC qual scope s.heap.objs.size f cd).kindOf (ps.zip us) fun _ => none) (cellsFrom (s.heap.objs.size + 1) scope.names []) (bindC (envOfC qual scope s.heap.objs.size f cd).kindOf (ps.zip us) fun _ => none) s1) :
  ar (gi CX P w K mg base N qual scope f cd A outer s H E) [] (start N vs) H s1 := by
 have hpl : ps.length <= N.length := by have := congrArg List.length S.pre; rw [CI] at this; omega
 obtain ⟨h1,tk,rfl,hk⟩ := x.done
 have noA : ∀ b : Addr,b ∉ (gi CX P w K mg base N qual scope f cd A outer s H E).ex := fun b z => absurd (show b ∈ ([] : List Addr) from z) (by simp)
 refine ⟨⟨e0.mod,S.kind,rfl,rfl,B3 _,fun y z c h1 h2 => ?_,fun y hy => ?_,fun y c _ h => ?_,fun _ => hd,Around.frames_deeper e0.frames,.inr ⟨rfl,rfl⟩,fun b z => absurd z (noA b),e0.bs,e0.bsz,fun b _ _ => noA b,fun b z => absurd z (noA b),e0.funs,e0.frf⟩,
  rfl,e0.bare,Un.kept hk,⟨_,x.toInCall.ns,fun i y v h1 h2 h3 => ?_⟩,fun y c h => ⟨_,x.cell y c h⟩,e0.hok.fresh (B3 _),fun y c h => ?_,fun p hp => absurd (show p ∈ ([] : List (Addr × Obj)) from hp) (by simp),e0.hok.kept hk,?_⟩
 ·exact name_of_addr x.apart (C4 h1) (C4 h2)
 ·have hy : scope.names.lookup y = some .cell ∨ scope.names.lookup y = some .free := hy
  rcases hy with hy | hy
  ·exact lT hy
  ·exact absurd rfl (S.nofree _ (C4 hy))
 ·exact Nat.le_of_lt (x.above y c (C4 h))
 ·have hi : i < vs.length := by
   unfold start at h2
   by_cases hi : i < vs.length
   ·exact hi
   ·rw [BX (by simpa using hi)] at h2
    rw [List.getElem?_replicate] at h2
    split at h2 <;> cases h2
  have ha : vs[i]? = some v := by
   unfold start at h2
   rw [BB (by simpa using hi),BM] at h2
   cases e : vs[i]? with
   | none => rw [e] at h2; cases h2
   | some a => rw [e] at h2; cases h2; rfl
  obtain ⟨u,hu,rv⟩ := r.get ha
  have hp : ps[i]? = some y := by
   rw [<- S.pre,List.getElem?_take_of_lt (by omega)]; exact h1
  have ndP : ps.Nodup := by rw [<- S.pre]; exact S.nd.sublist (List.take_sublist _ _)
  refine ⟨u,rv,?_⟩
  rcases S.par y (BI hp) with k | k
  ·exact .inl ⟨k,jA ndP hp hu k⟩
  ·obtain ⟨c,e⟩ := lT (n := s.heap.objs.size + 1) k
   refine .inr ⟨.inl k,c,e,?_⟩
   have q := x.cell y c e
   rw [jB ndP hp hu (by show scope.names.lookup y ≠ _; rw [k]; decide)] at q
   exact q
 ·exact e0.hok.fresh (Nat.le_of_lt (x.above y c (C4 h)))
 ·unfold start
  show _ = N.length
  rw [B8,B2,List.length_replicate]
  omega
theorem vX {CX : pe} {P : Program} {w : World} {K : B1} {mg : Str -> Option Value} {base : Heap} {k : Nat} {f : Addr} {name qual : Str} {params : Arguments} {body : List Stmt} {scope : Scope} {dV kV doc pm cdv ct oc : Value} {an od : Option Addr}
  {osl : Array (Option Value)} {N ps : List Str} {sp : Sp} (lk : K.lookup f = some ⟨oc,od,.func (C9 name qual params body scope dV kV doc pm an cdv ct),osl⟩) (hcd : Ca K cdv qual = true) (S : ax N ps scope)
  (len : ∀ vs H Q E,sp vs H Q E -> vs.length = ps.length)
  (hbody : ∀ (A : Around) (outer : List Env) (s : Shared) (H : Hp) (vs : List V) (Q : VK) (E : XK),bA k (A.deeper (envOfC qual scope s.heap.objs.size f cdv)) -> sp vs H Q E ->
   ∃ t,gZ (gi CX P w K mg base N qual scope f cdv A outer s H E) body t /\ t { nx := fun _ H' => Q .non H',rt := Q } (start N vs) H) :
  aZ P w K mg base CX (k + 1) f (C9 name qual params body scope dV kV doc pm an cdv ct) ps sp := by
 refine ⟨len,fun A outer s H args us vs Q E hr e0 hb r hsp => ?_⟩
 have hl := len _ _ _ _ hsp
 have KX : K.In s.heap := e0.mod.kin.keeps fun b o e => (e0.bs b o e).1
 have lim : s.heap.NoLimit := e0.mod.nolimit.keeps fun b o e => (e0.bs b o e).1
 have hkind : ∀ y ∈ ps.zip us,scope.names.lookup y.1 = some .local ∨ (scope.names.lookup y.1 = some .cell /\ ((cellsFrom (s.heap.objs.size + 1) scope.names []).lookup y.1).isSome = true) := fun ⟨n,v⟩ hy => by
  rcases S.par n (List.of_mem_zip hy).1 with q | q
  ·exact .inl q
  ·exact .inr ⟨q,PySem.W.cellsFrom_some _ _ _ (.inl q)⟩
 refine codeAny_call_function hr.depth (KX _ _ lk) rfl S.co S.gen rfl (PySem.W.codeRec_of KX hcd) (hb _ _ _ _ ?_)
 refine wpAny_newFunctionEnv_cells S.kind hkind fun env he s1 x => ?_
 subst he
 refine ⟨lim.keeps x.toInCall.keep,codeAny_func ?_⟩
 obtain ⟨t,ht,hq⟩ := hbody A outer s H vs Q E (hr.deeper _) hsp
 have I : ar (gi CX P w K mg base N qual scope f cdv A outer s H E) [] (start N vs) H s1 := jC S hr.hd e0 hl r x
 refine wpAny_mono (ht [] s1 (start N vs) H _ I hq) (fun fl s' hs => ?_) fun e s' hs => hs
 have fin : ∀ {σ' : St} {H' : Hp} {v : V} {u : Value},ar (gi CX P w K mg base N qual scope f cdv A outer s H E) [] σ' H' s' -> RelV v u -> Q v H' -> CE outer P w H s Q u s' :=
  fun {σ' H' v u} J rv q => ⟨v,H',J.os,J.bare,J.base,J.hok,rv,q⟩
 cases fl with
 | ret u =>
  obtain ⟨v,σ',H',J,rv,q⟩ := hs
  exact fin J rv q
 | next =>
  obtain ⟨σ',H',J,q⟩ := hs
  exact fin (v := V.non) (u := Value.none) J rfl q
 | brk =>
  obtain ⟨_,_,_,q⟩ := hs
  exact False.elim q
 | cont =>
  obtain ⟨_,_,_,q⟩ := hs
  exact False.elim q
section
variable {X : Cx} {x : Str} {p pos : Pos} {e : Expr} {es : List Expr} {t : TA} {id T : String} {r : List V -> Hp -> VK -> Prop}
def Bf (r : List V -> Hp -> VK -> Prop) (t : TA) : TE := fun σ H Q => t σ H fun vs H1 => r vs H1 Q
theorem aC (hc : cr X (.builtin id) r) (hg : Gl X x) (hm : X.mg x = none) (hv : bootBuiltins x = some (.builtin id)) (ha : PA X (e :: es) t) (hn : x ≠ "__name__" := by decide) (hdb : (x == ("__debug__" : Str)) = false := by decide)
  (he : starEach (e :: es) X.env = (false,eval e X.env) :: starEach es X.env := by rfl) (hpl : (backTo pos (starEach es X.env)).any (·.1) = false := by rfl) : PE X (.Call (.Name x p) (e :: es) [] pos) (Bf r t) := by
 intro pins s σ H Q I h
 refine wpAny_Call_Name_kw (dM I hg hm hv ?_ hn hdb)
 exact PyProof.Rows.callWith_builtin1 (aX (ha pos pins s σ H _ I h) fun us s1 ⟨vs,H1,I1,r1,q1⟩ => hc pins s1 σ H1 vs us Q I1 r1 q1) he hpl
theorem eV (hc : cr X (.type T) r) (hg : Gl X x) (hm : X.mg x = none) (hv : bootBuiltins x = some (.type T)) (ha : PA X (e :: es) t) (hn : x ≠ "__name__" := by decide) (hdb : (x == ("__debug__" : Str)) = false := by decide)
  (he : starEach (e :: es) X.env = (false,eval e X.env) :: starEach es X.env := by rfl) (hpl : (backTo pos (starEach es X.env)).any (·.1) = false := by rfl) : PE X (.Call (.Name x p) (e :: es) [] pos) (Bf r t) := by
 intro pins s σ H Q I h
 refine wpAny_Call_Name_kw (dM I hg hm hv ?_ hn hdb)
 exact CF (aX (ha pos pins s σ H _ I h) fun us s1 ⟨vs,H1,I1,r1,q1⟩ => hc pins s1 σ H1 vs us Q I1 r1 q1) he hpl
end
end L2
namespace HT
open PySem PyProof.Rows
section
open PySem.SeqAt
open PySem.AutoSeq1 (wpAny_loadPart')
open PySem.MeetsSeq PySem.MeetsSeq2 PySem.MeetsSeq3
end
section
variable {prog : Program} {w : World} {A : Around} {E : Value -> Shared -> Prop} {s : Shared}
def dL (n d : Nat) : Option Int -> Nat
 | none => d
 | some v => if v < 0 then (v + (n : Int)).toNat else min v.toNat n
end
end HT
namespace L2
open PySem PySem.Spec PyProof.Rows
abbrev TO := St -> Hp -> (Option Int -> Hp -> Prop) -> Prop
def PO (X : Cx) (e : Option Expr) (t : TO) : Prop :=
 ∀ (pins : List (Addr × Obj)) (s : Shared) (σ : St) (H : Hp) (Q : Option Int -> Hp -> Prop),ar X pins σ H s -> t σ H Q ->
  wpAny (model X.prog X.w) X.A (evalPart e X.env) (fun u s' => ∃ o H',ar X pins σ H' s' /\ IsPart u o /\ Q o H') X.xe s
def uo : TO := fun _ H Q => Q none H
def x8 (t : TE) : TO := fun σ H Q => t σ H fun x H1 => ∃ i,x = .int i /\ Q (some i) H1
section
variable {X : Cx} {e : Expr} {te : TE} {lo hi : Option Expr} {tl th : TO} {pos p2 : Pos}
theorem dS : PO X none uo := by
 intro pins s σ H Q I h
 rw [evalPart_none]
 exact wpAny_pure ⟨none,H,I,.none,h⟩
theorem cT (h : PE X e te) : PO X (some e) (x8 te) := by
 intro pins s σ H Q I hw
 rw [evalPart_some]
 refine aX (h pins s σ H _ I hw) fun u s1 ⟨x,H1,I1,r1,q1⟩ => ?_
 obtain ⟨i,rfl,q⟩ := q1
 obtain ⟨t,rfl⟩ := r1
 exact ⟨some i,H1,I1,.int i t,q⟩
def Ao (X : Cx) (r : V -> Option Int -> Option Int -> Hp -> VK -> Prop) : Prop :=
 ∀ (pins : List (Addr × Obj)) (s : Shared) (σ : St) (H : Hp) (x : V) (v vl vu : Value) (lo hi : Option Int) (sl : Addr) (Q : VK),ar X pins σ H s -> RelV x v -> s.heap.IsSliceOf sl vl vu .none -> IsPart vl lo -> IsPart vu hi -> r x lo hi H Q ->
  ∃ T id,typeLookup (.type T) "__getitem__" = pure (some (.builtin id)) /\ s.TypeIs v T /\ wpAny (model X.prog X.w) X.A (getItem v (.ref sl)) (EP X pins σ Q) X.xe s
def Bq (r : V -> Option Int -> Option Int -> Hp -> VK -> Prop) (te : TE) (tl th : TO) : TE := fun σ H Q => te σ H fun x H1 => tl σ H1 fun l H2 => th σ H2 fun u H3 => r x l u H3 Q
theorem cD {r : V -> Option Int -> Option Int -> Hp -> VK -> Prop} (hr : Ao X r) (he : PE X e te) (hl : PO X lo tl) (hu : PO X hi th) : PE X (.Subscript e (.Slice lo hi none p2) pos) (Bq r te tl th) := by
 intro pins s σ H Q I h
 refine Subscript_ (aX (he pins s σ H _ I h) fun v s1 ⟨x,H1,I1,r1,q1⟩ => ?_)
 refine wpAny_Slice (aX (hl pins s1 σ H1 _ I1 q1) fun vl s2 ⟨l,H2,I2,pl,q2⟩ => aX (hu pins s2 σ H2 _ I2 q2) fun vu s3 ⟨u,H3,I3,pu,q3⟩ => ?_)
 rw [evalPart_none]
 refine wpAny_pure ?_
 have I4 : ar X pins σ H3 { s3 with heap := s3.heap.push { cls := .type "slice",data := .fields #[vl,vu,.none] } } := I3.kept (t' := s3.toks) fun b ob q => Heap.get?_push_of_some _ q
 obtain ⟨T,id,hT,ht,hg⟩ := hr pins { s3 with heap := s3.heap.push { cls := .type "slice",data := .fields #[vl,vu,.none] } } σ H3 x v vl vu l u s3.heap.objs.size Q I4 r1 (Heap.IsSliceOf.new ..) pl pu q3
 show wpAny (model X.prog X.w) X.A (subscriptTail e (.Slice lo hi none p2) v (.ref s3.heap.objs.size)) (EP X pins σ Q) X.xe { s3 with heap := s3.heap.push { cls := .type "slice",data := .fields #[vl,vu,.none] } }
 exact tail_any (ops := [.ref s3.heap.objs.size,v]) ht hT hg (by with_unfolding_all rfl)
def qp (xs : List V) (lo hi : Option Int) : List V := (xs.drop (HT.dL xs.length 0 lo)).take (HT.dL xs.length xs.length hi - HT.dL xs.length 0 lo)
theorem gM (xs : List V) (lo hi : Option Int) : (qp xs lo hi).length <= xs.length := by
 unfold qp
 rw [CI,List.length_drop]
 omega
end
def vY (n : Nat) (i : Int) : Option Nat := if 0 <= i then (if i < n then some i.toNat else none) else if -(n : Int) <= i then some (i + n).toNat else none
def gN {α : Type} (xs : List α) (i : Int) : Option α := (vY xs.length i).bind fun j => xs[j]?
theorem uq {n : Nat} {i : Int} {j : Nat} (h : vY n i = some j) : seqIndex? i n = some j /\ j < n /\ -(n : Int) <= i /\ i < n := by
 unfold vY at h
 by_cases h0 : 0 <= i
 ·rw [if_pos h0] at h
  by_cases h1 : i < n
  ·rw [if_pos h1] at h
   have e : i.toNat = j := C1 h
   exact ⟨by rw [seqIndex_of h0 h1,e],by omega,by omega,h1⟩
  ·rw [if_neg h1] at h; cases h
 ·rw [if_neg h0] at h
  by_cases h1 : -(n : Int) <= i
  ·rw [if_pos h1] at h
   have e : (i + n).toNat = j := C1 h
   exact ⟨by rw [seqIndex_neg (by omega) h1,e],by omega,h1,by omega⟩
  ·rw [if_neg h1] at h; cases h
theorem kh {α : Type} {xs : List α} {i : Int} {v : α} (h : gN xs i = some v) : ∃ j,seqIndex? i xs.length = some j /\ xs[j]? = some v /\ j < xs.length /\ -(xs.length : Int) <= i /\ i < xs.length := by
 unfold gN at h
 cases e : vY xs.length i with
 | none => rw [e] at h; cases h
 | some j =>
  rw [e] at h
  obtain ⟨h1,h2,h3,h4⟩ := uq e
  exact ⟨j,h1,h,h2,h3,h4⟩
theorem c8 {α : Type} {xs : List α} {j : Nat} {v : α} (h : xs[j]? = some v) : gN xs (j : Int) = some v := by
 have hj : j < xs.length := (B4.mp h).1
 have e : vY xs.length (j : Int) = some j := by
  unfold vY
  rw [if_pos (by omega),if_pos (by omega)]; simp
 unfold gN; rw [e]; exact h
theorem rV {α : Type} (xs : List α) (v : α) : gN (xs ++ [v]) (-1) = some v := by
 have hl : (xs ++ [v]).length = xs.length + 1 := by simp
 have e : vY (xs ++ [v]).length (-1) = some xs.length := by
  unfold vY
  rw [hl,if_neg (by decide),if_pos (by omega)]
  congr 1
  omega
 unfold gN
 rw [e]
 show (xs ++ [v])[xs.length]? = some v
 simp
def ur (b : Expr) : Prop := ∀ o i,subscripted b false o i = operate [o,i] (getItem o i)
def xI (X : Cx) (r : R2) : Prop :=
 ∀ (value slice : Expr) (pins : List (Addr × Obj)) (s : Shared) (σ : St) (H : Hp) (x y : V) (v u : Value) (Q : VK),ar X pins σ H s -> RelV x v -> RelV y u -> r x y H Q ->
  subscripted slice false v u = operate [v,u] (getItem v u) -> wpAny (model X.prog X.w) X.A (subscriptTail value slice v u) (EP X pins σ Q) X.xe s
def Ap (X : Cx) (id : String) (r : V -> List V -> Hp -> VK -> Prop) : Prop :=
 ∀ (pins : List (Addr × Obj)) (s : Shared) (σ : St) (H : Hp) (x : V) (xs : List V) (v : Value) (us : List Value) (Q : VK),ar X pins σ H s -> RelV x v -> aN xs us -> r x xs H Q ->
  wpAny (model X.prog X.w) X.A (call (.builtin id) (v :: us)) (EP X pins σ Q) X.xe s
section
variable {X : Cx} {a b : Expr} {ta tb : TE} {pos : Pos}
theorem bh {r : R2} (hr : xI X r) (ha : PE X a ta) (hb : PE X b tb) (hs : ur b) : PE X (.Subscript a b pos) (zQ r ta tb) := by
 intro pins s σ H Q I h
 exact Subscript_ (wv ha hb I h fun v u s2 x y H2 I2 rx ry q => hr a b pins s2 σ H2 x y v u Q I2 rx ry q (hs _ _))
def x9 (K : B1) : R2 := fun x y H Q => ∃ p xs i v,x = .ref p /\ y = .int i /\ bv K H p xs /\ gN xs i = some v /\ Q v H
def ya (K : B1) : R2 := fun x y H Q => ∃ p xs i v,x = .ref p /\ y = .int i /\ cR K H p xs /\ gN xs i = some v /\ Q v H
def Aq : R2 := fun x y H Q => ∃ z i c,x = .str z /\ y = .int i /\ z.length <= sizeLine /\ gN z.cps.toList i = some c /\ Q (.str ⟨#[c]⟩) H
theorem bK : xI X (x9 X.K) := by
 intro value slice pins s σ H x y v u Q I rx ry h hs
 obtain ⟨p,xs,i,z,rfl,rfl,hq,he,q⟩ := h
 cases rx
 obtain ⟨t,rfl⟩ := ry
 obtain ⟨its,r,pl,hz⟩ := I.list hq
 obtain ⟨j,h1,h2,h3,h4,h5⟩ := kh he
 obtain ⟨w,ew,rw'⟩ := r.get h2
 have hl := r.length
 have hn := iw
 have fin : EP X pins σ Q w s := ⟨z,H,I,rw',q⟩
 by_cases h0 : 0 <= i
 ·have hj : i.toNat = j := by
   rw [seqIndex_of h0 h5] at h1
   exact C1 h1
  exact item_listR pl.isList h0 (by omega) (by rw [hj]; simpa using ew) fin hs
 ·have hj : (i + (its.toArray.size : Int)).toNat = j := by
   rw [seqIndex_neg (by omega) h4] at h1
   rw [BL,<- hl]
   exact C1 h1
  exact subscriptTail_builtinR (x := w) pl.isList.typeIs slot_list_getitem.lookup
   (wpAny_getItem_list_neg (Q := fun r s' => r = w /\ EP X pins σ Q r s') pl.isList (by omega) (by rw [BL] <;> omega) (by omega) (by rw [hj]; simpa using ew) ⟨rfl,fin⟩) hs
theorem cg : xI X (ya X.K) := by
 intro value slice pins s σ H x y v u Q I rx ry h hs
 obtain ⟨p,xs,i,z,rfl,rfl,hq,he,q⟩ := h
 cases rx
 obtain ⟨t,rfl⟩ := ry
 obtain ⟨its,r,pl,hz⟩ := I.tuple hq
 obtain ⟨j,h1,h2,h3,h4,h5⟩ := kh he
 obtain ⟨w,ew,rw'⟩ := r.get h2
 have hl := r.length
 have hn := iw
 have fin : EP X pins σ Q w s := ⟨z,H,I,rw',q⟩
 exact subscriptTail_builtinR (x := w) pl.typeIs slot_tuple_getitem.lookup
  (getItem_tuple (j := j) (Q := fun r s' => r = w /\ EP X pins σ Q r s') pl (by omega) (by omega) (by rw [BL,<- hl]; exact h1) (by simpa using ew) ⟨rfl,fin⟩) hs
theorem nu : xI X Aq := by
 intro value slice pins s σ H x y v u Q I rx ry h hs
 obtain ⟨z,i,c,rfl,rfl,hz,he,q⟩ := h
 obtain ⟨t,rfl⟩ := rx
 obtain ⟨t',rfl⟩ := ry
 obtain ⟨j,h1,h2,h3,h4,h5⟩ := kh he
 have hl : z.cps.toList.length = z.length := by simp [Str.length]
 rw [hl] at h1 h4 h5
 have hn := iw
 exact tail_any (typeIs_str s z t) slot_str_getitem.lookup (getItem_str (c := c) (by
  have e1 : decide (i < -(2 ^ 63 : Int)) = false := decide_eq_false (by omega)
  have e2 : decide (i ≥ 2 ^ 63) = false := decide_eq_false (by omega)
  rw [e1,e2,Bool.or_false]) (by rw [h1]; simpa using h2) ⟨.str ⟨#[c]⟩,H,I.tok _,⟨_,rfl⟩,q⟩) hs
theorem ki (lo hi : Option Int) (n : Nat) : (sliceBounds lo hi none n).1 = ((HT.dL n 0 lo : Nat) : Int) /\ (sliceBounds lo hi none n).2.1 = ((HT.dL n n hi : Nat) : Int) /\ (sliceBounds lo hi none n).2.2 = 1 := by
 refine ⟨?_,?_,rfl⟩
 ·cases lo with
  | none => simp [sliceBounds,HT.dL]
  | some i =>
   simp only [sliceBounds,HT.dL,Option.getD_none,show (1 : Int) > 0 by decide,if_true]
   by_cases h : i < 0
   ·simp only [h,if_true] <;> omega
   ·simp only [h,if_false] <;> omega
 ·cases hi with
  | none => simp [sliceBounds,HT.dL]
  | some i =>
   simp only [sliceBounds,HT.dL,Option.getD_none,show (1 : Int) > 0 by decide,if_true]
   by_cases h : i < 0
   ·simp only [h,if_true] <;> omega
   ·simp only [h,if_false] <;> omega
theorem jk (its : List Value) (lo hi : Option Int) : slicePick its.toArray lo hi none = ((its.drop (HT.dL its.length 0 lo)).take (HT.dL its.length its.length hi - HT.dL its.length 0 lo)).toArray := by
 obtain ⟨h1,h2,h3⟩ := ki lo hi its.toArray.size
 unfold slicePick
 rw [h1,h2,h3]
 simp only [sliceRange_one,pick_run,BL] <;> rfl
def Ar (K : B1) : V -> Option Int -> Option Int -> Hp -> VK -> Prop := fun x lo hi H Q => ∃ a xs,x = .ref a /\ bv K H a xs /\ ∀ p,H p = none -> Q (.ref p) (aq H p (.lst (qp xs lo hi)))
theorem ut : Ao X (Ar X.K) := by
 intro pins s σ H x v vl vu lo hi sl Q I rx hs pl pu h
 obtain ⟨a,xs,rfl,hx,q⟩ := h
 cases rx
 obtain ⟨its,r,ht,hz⟩ := I.list hx
 have hlen := r.length
 refine ⟨"list",_,slot_list_getitem.lookup,ht.isList.typeIs,?_⟩
 refine wpAny_getItem_list_slice ht.isList hs pl pu .none (by simp) ?_ (by rw [BL] <;> omega)
 rw [jk,<- hlen]
 refine ⟨.ref s.heap.objs.size,_,I.laid (t' := s.toks) (o := .lst (qp xs lo hi)) (fun b ob q => Heap.get?_push_of_some _ q) (B3 _) ?_,rfl,q _ (I.hok.fresh (B3 _))⟩
 exact ⟨BZ (gM xs lo hi) hz,_,0,(r.drop (HT.dL xs.length 0 lo)).take (HT.dL xs.length xs.length hi - HT.dL xs.length 0 lo),Heap.get?_push_size _ rfl⟩
def fL : V -> Bool
 | .non => true
 | .bl _ => true
 | .int _ => true
 | .str _ => true
 | _ => false
def uu : V -> V -> Bool
 | .non,.non => true
 | .bl a,.bl b => a == b
 | .bl a,.int b => (if a then 1 else 0) == b
 | .int a,.bl b => a == (if b then 1 else 0)
 | .int a,.int b => a == b
 | .str a,.str b => a == b
 | _,_ => false
theorem wx {A : Around} {s : Shared} {y x : V} {u v : Value} (ry : RelV y u) (rx : RelV x v) (fy : fL y = true) (fx : fL x = true) : SeqAt.EqAt A s u v (uu y x) := by
 cases y with
 | non =>
  cases ry
  cases x with
  | non => cases rx; exact SeqAt.EqAt.same _
  | bl b => cases rx; exact SeqAt.EqAt.none_bool b
  | int b => obtain ⟨t,rfl⟩ := rx; exact SeqAt.EqAt.none_int b t
  | str b => obtain ⟨t,rfl⟩ := rx; exact SeqAt.EqAt.none_str b t
  | _ => exact absurd (show false = true from fx) BE
 | bl a =>
  cases ry
  cases x with
  | non => cases rx; exact SeqAt.EqAt.bool_none a
  | bl b => cases rx; exact SeqAt.EqAt.bool_bool a b
  | int b => obtain ⟨t,rfl⟩ := rx; exact SeqAt.EqAt.bool_int a b t
  | str b => obtain ⟨t,rfl⟩ := rx; exact SeqAt.EqAt.bool_str a b t
  | _ => exact absurd (show false = true from fx) BE
 | int a =>
  obtain ⟨t',rfl⟩ := ry
  cases x with
  | non => cases rx; exact SeqAt.EqAt.int_none a t'
  | bl b => cases rx; exact SeqAt.EqAt.int_bool a t' b
  | int b => obtain ⟨t,rfl⟩ := rx; exact SeqAt.EqAt.int_int a t' b t
  | str b => obtain ⟨t,rfl⟩ := rx; exact SeqAt.EqAt.int_str a t' b t
  | _ => exact absurd (show false = true from fx) BE
 | str a =>
  obtain ⟨t',rfl⟩ := ry
  cases x with
  | non => cases rx; exact SeqAt.EqAt.str_none a t'
  | bl b => cases rx; exact SeqAt.EqAt.str_bool a t' b
  | int b => obtain ⟨t,rfl⟩ := rx; exact SeqAt.EqAt.str_int a t' b t
  | str b => obtain ⟨t,rfl⟩ := rx; exact SeqAt.EqAt.str_str a t' b t
  | _ => exact absurd (show false = true from fx) BE
 | _ => exact absurd (show false = true from fy) BE
def nv (x : V) (u : Value) : Bool := match u with
 | .none => uu .non x
 | .bool b => uu (.bl b) x
 | .int i _ => uu (.int i) x
 | .str z _ => uu (.str z) x
 | _ => false
theorem rW {x y : V} {u : Value} (r : RelV y u) (f : fL y = true) : nv x u = uu y x := by
 cases y with
 | non => cases r; rfl
 | bl b => cases r; rfl
 | int i => obtain ⟨t,rfl⟩ := r; rfl
 | str z => obtain ⟨t,rfl⟩ := r; rfl
 | _ => exact absurd (show false = true from f) BE
theorem fM {x : V} : ∀ {xs : List V} {us : List Value},aN xs us -> xs.all fL = true -> us.any (nv x) = xs.any fun y => uu y x
 | _,_,.nil,_ => rfl
 | y :: xs,u :: us,.cons r t,f => by
  rw [List.all_cons,Cc] at f
  rw [List.any_cons,List.any_cons,rW r f.1,fM t f.2]
theorem eA {A : Around} {s : Shared} {x : V} {v : Value} (rx : RelV x v) (fx : fL x = true) : ∀ {xs : List V} {us : List Value},aN xs us -> xs.all fL = true -> ∀ u ∈ us,SeqAt.EqAt A s u v (nv x u)
 | _,_,.nil,_ => fun u hu => by cases hu
 | y :: xs,u :: us,.cons r t,f => fun u' hu => by
  rw [List.all_cons,Cc] at f
  rcases B9.mp hu with rfl | hu
  ·rw [rW r f.1]; exact wx r rx f.1 fx
  ·exact eA rx fx t f.2 u' hu
def wA (x : V) (xs : List V) : Bool := xs.any fun y => uu y x
def As (K : B1) (neg : Bool) : R2 := fun x y H Q => ∃ p xs,y = .ref p /\ (bv K H p xs ∨ cR K H p xs) /\ fL x = true /\ xs.all fL = true /\ Q (.bl (if neg then !wA x xs else wA x xs)) H
theorem qr : eU X (compareOp .In) (As X.K false) := by
 intro pins s σ H x y v u Q I rx ry h
 obtain ⟨p,xs,rfl,hq,fx,fs,q⟩ := h
 cases ry
 rcases hq with hq | hq
 ·obtain ⟨its,r,pl,hz⟩ := I.list hq
  refine SeqAt.in_listAt (nv x) pl.isList (fun w hw => eA rx fx r fs w (by simpa using hw)) ⟨.bl _,H,I,rfl,?_⟩
  rw [show its.toArray.any (nv x) = its.any (nv x) by simp,fM r fs]
  exact q
 ·obtain ⟨its,r,pl,hz⟩ := I.tuple hq
  refine SeqAt.in_tupleAt (nv x) pl (fun w hw => eA rx fx r fs w (by simpa using hw)) ⟨.bl _,H,I,rfl,?_⟩
  rw [show its.toArray.any (nv x) = its.any (nv x) by simp,fM r fs]
  exact q
theorem kj : eU X (compareOp .NotIn) (As X.K true) := by
 intro pins s σ H x y v u Q I rx ry h
 obtain ⟨p,xs,rfl,hq,fx,fs,q⟩ := h
 cases ry
 rcases hq with hq | hq
 ·obtain ⟨its,r,pl,hz⟩ := I.list hq
  refine SeqAt.notIn_listAt (nv x) pl.isList (fun w hw => eA rx fx r fs w (by simpa using hw)) ⟨.bl _,H,I,rfl,?_⟩
  rw [show its.toArray.any (nv x) = its.any (nv x) by simp,fM r fs]
  exact q
 ·obtain ⟨its,r,pl,hz⟩ := I.tuple hq
  refine SeqAt.notIn_tupleAt (nv x) pl (fun w hw => eA rx fx r fs w (by simpa using hw)) ⟨.bl _,H,I,rfl,?_⟩
  rw [show its.toArray.any (nv x) = its.any (nv x) by simp,fM r fs]
  exact q
theorem fN : eU X (compareOp .NotIn) (fun x y H Q => ∃ i j,x = .str i /\ y = .str j /\ Q (.bl (!(!(Builtin.Str.occurrences j i 0 j.length 1).isEmpty))) H) := by
 intro pins s σ H x y v u Q I rx ry h
 obtain ⟨i,j,rfl,rfl,q⟩ := h
 obtain ⟨t,rfl⟩ := rx
 obtain ⟨t',rfl⟩ := ry
 exact notIn_str ⟨.bl _,H,I,rfl,q⟩
theorem bC : cr X (.builtin "len") (fun xs H Q => ∃ p ys,xs = [.ref p] /\ (bv X.K H p ys ∨ cR X.K H p ys) /\ Q (.int ys.length) H) := by
 intro pins s σ H xs us Q I r h
 obtain ⟨p,ys,rfl,hq,q⟩ := h
 obtain ⟨u,rfl,rx⟩ := vals1 r
 cases rx
 have hn := iw
 rcases hq with hq | hq
 ·obtain ⟨its,r',pl,hz⟩ := I.list hq
  have hlen := r'.length
  exact Calls.call_len_list pl.isList (by simp only [BL] <;> omega) ⟨.int ys.length,H,I.tok _,⟨s.toks + 1,by rw [BL,hlen]⟩,q⟩
 ·obtain ⟨its,r',pl,hz⟩ := I.tuple hq
  have hlen := r'.length
  exact len_tuple pl (by simp only [BL] <;> omega) ⟨.int ys.length,H,I.tok _,⟨s.toks + 1,by rw [BL,hlen]⟩,q⟩
theorem cU : cr X (.builtin "len") (fun xs H Q => ∃ z,xs = [.str z] /\ z.length <= sizeLine /\ Q (.int z.length) H) := by
 intro pins s σ H xs us Q I r h
 obtain ⟨z,rfl,hz,q⟩ := h
 obtain ⟨u,rfl,t,rfl⟩ := vals1 r
 have hn := iw
 exact len_str (by omega) ⟨.int z.length,H,I.tok _,⟨_,rfl⟩,q⟩
def At (K : B1) (T : String) (x : V) (H : Hp) : Prop := match x with
 | .str _ => T = "str"
 | .int _ => T = "int"
 | .ref p => (T = "list" /\ ∃ xs,bv K H p xs) ∨ (T = "tuple" /\ ∃ o,K.lookup p = some o /\ o.cls = .type "tuple" /\ o.dict = none) ∨
   (T = "dict" /\ ((∃ kvs,H p = some (.dK kvs)) ∨ ∃ kvs,H p = some (.dT kvs))) ∨ (T = "set" /\ ∃ S n,H p = some (.set S n))
 | _ => False
theorem rX {pins : List (Addr × Obj)} {σ : St} {H : Hp} {s : Shared} {T : String} {x : V} {v : Value} (I : ar X pins σ H s) (r : RelV x v) (ty : At X.K T x H) :
  s.TypeIs v T /\ ∀ a,v = .ref a -> ∃ ob,s.heap.get? a = some ob /\ ob.dict = none := by
 cases x with
 | str z =>
  obtain ⟨t,rfl⟩ := r
  cases (show T = "str" from ty)
  exact ⟨typeIs_str s z t,fun _ e => nomatch e⟩
 | int i =>
  obtain ⟨t,rfl⟩ := r
  cases (show T = "int" from ty)
  exact ⟨typeIs_int s i t,fun _ e => nomatch e⟩
 | ref p =>
  cases r
  rcases ty with ⟨rfl,xs,hq⟩ | ⟨rfl,o,hk,hc,hd⟩ | ⟨rfl,hk⟩ | ⟨rfl,S,n,hk⟩
  ·obtain ⟨its,_,pl,_⟩ := I.list hq
   refine ⟨pl.isList.typeIs,fun a e => ?_⟩
   cases e
   obtain ⟨o,n,e,c,hd,_⟩ := pl
   exact ⟨o,e,hd⟩
  ·refine ⟨⟨o,I.kIn p o hk,hc⟩,fun a e => ?_⟩
   cases e
   exact ⟨o,I.kIn _ o hk,hd⟩
  ·have z : ∃ o,s.heap.get? p = some o /\ o.ExactDict := by
    rcases hk with ⟨kvs,hk⟩ | ⟨kvs,hk⟩
    ·obtain ⟨_,_,_,_,o,_,_,e,ex,_⟩ := I.hok p _ hk
     exact ⟨o,e,ex⟩
    ·obtain ⟨_,_,_,_,o,_,_,e,ex,_⟩ := I.hok p _ hk
     exact ⟨o,e,ex⟩
   obtain ⟨o,e,ex⟩ := z
   refine ⟨⟨o,e,ex.1⟩,fun a e2 => ?_⟩
   cases e2
   exact ⟨o,e,ex.2.1⟩
  ·obtain ⟨o,_,_,_,e,ex,_⟩ := I.hok p _ hk
   refine ⟨⟨o,e,ex.1⟩,fun a e2 => ?_⟩
   cases e2
   exact ⟨o,e,ex.2.1⟩
 | _ => exact False.elim ty
def Au (K : B1) (T : String) (r : V -> List V -> Hp -> VK -> Prop) (to : TE) : TE := fun σ H Q => to σ H fun x H1 => At K T x H1 /\ r x [] H1 Q
def Br (K : B1) (T : String) (r : V -> List V -> Hp -> VK -> Prop) (to : TE) (t : TA) : TE := fun σ H Q => to σ H fun x H1 => At K T x H1 /\ t σ H1 fun xs H2 => r x xs H2 Q
variable {o e : Expr} {es : List Expr} {to : TE} {t : TA} {name : Str} {apos cpos : Pos} {T id : String} {r : V -> List V -> Hp -> VK -> Prop}
theorem wB (pa : PlainAttrs T) (slot : Slot T name id) (hty : typeOf (.builtin id) = pure (.type "method_descriptor")) (hm : Ap X id r) (ho : PE X o to)
  (hbase : attributeBase o name X.env (eval o X.env) = eval o X.env := by rfl) (hline : (apos.endLine == cpos.line) = true := by rfl) : PE X (.Call (.Attribute o name apos) [] [] cpos) (Au X.K T r to) := by
 intro pins s σ H Q I h
 refine wpAny_Call_method0_late hbase hline (aX (ho pins s σ H _ I h) fun v s1 ⟨x,H1,I1,r1,ty,q1⟩ => ?_)
 obtain ⟨h1,h2⟩ := rX I1 r1 ty
 exact ⟨T,id,pa,slot,hty,h1,h2,Calls.callWith_builtin rfl (PySem.evalArgs_none (hm pins s1 σ H1 x [] v [] Q I1 r1 .nil q1))⟩
theorem gO (pa : PlainAttrs T) (slot : Slot T name id) (hty : typeOf (.builtin id) = pure (.type "method_descriptor")) (hm : Ap X id r) (ho : PE X o to) (ha : PA X (e :: es) t)
  (hbase : attributeBase o name X.env (eval o X.env) = eval o X.env := by rfl)
  (hfew : ((backTo cpos (starEach (e :: es) X.env)).all (fun x => !x.1) && (backToKw cpos (keywordEach [] X.env)).all (fun x => x.1.isSome)
   && decide ((e :: es).length + ([] : List Keyword).length + (if ([] : List Keyword).isEmpty then 0 else 1) < 30)) = true := by rfl)
  (hline : (apos.endLine == cpos.line) = true := by rfl) (hs : starEach (e :: es) X.env = (false,eval e X.env) :: starEach es X.env := by rfl) (hplain : (backTo cpos (starEach es X.env)).any (·.1) = false := by rfl) :
  PE X (.Call (.Attribute o name apos) (e :: es) [] cpos) (Br X.K T r to t) := by
 intro pins s σ H Q I h
 refine wpAny_Call_method_late hbase hfew hline rfl (aX (ho pins s σ H _ I h) fun v s1 ⟨x,H1,I1,r1,ty,q1⟩ => ?_)
 obtain ⟨h1,h2⟩ := rX I1 r1 ty
 refine ⟨T,id,pa,slot,hty,h1,h2,?_⟩
 have hA := ha cpos pins s1 σ H1 _ I1 q1
 rw [hs] at hA ⊢
 refine Calls.callWith_builtin (by show (false || (backTo cpos (starEach es X.env)).any (·.1)) = false; rw [hplain] <;> rfl) (Calls.evalArgs_plain ?_)
 exact aX hA fun us s2 ⟨vs,H2,I2,r2,q2⟩ => hm pins s2 σ H2 x vs v us Q I2 r1 r2 q2
end
def Bg (X : Cx) (id : String) (r : V -> List V -> Hp -> VK -> Prop) : Prop :=
 ∀ (pins : List (Addr × Obj)) (s : Shared) (σ : St) (H : Hp) (x : V) (xs : List V) (v : Value) (us : List Value) (Q : VK),ar X pins σ H s -> RelV x v -> aN xs us -> r x xs H Q ->
  wpAny (model X.prog X.w) X.A (call (.builtin id) (v :: us)) (EP X pins σ Q) X.xe s
theorem aN.one : ∀ {x : V} {us : List Value},aN [x] us -> ∃ u,us = [u] /\ RelV x u
 | _,_,.cons r .nil => ⟨_,rfl,r⟩
theorem aN.zero : ∀ {us : List Value},aN [] us -> us = []
 | _,.nil => rfl
theorem aN.dropLast {xs : List V} {us : List Value} (h : aN xs us) : aN xs.dropLast us.dropLast := by
 induction h with
 | nil => exact .nil
 | cons r t ih =>
  cases t with
  | nil => exact .nil
  | cons q t' => exact .cons r ih
theorem nA {α : Type} (l : List α) : l.eraseIdx (l.length - 1) = l.dropLast := by
 induction l with
 | nil => rfl
 | cons a r ih =>
  cases r with
  | nil => rfl
  | cons b r =>
   have e : (a :: b :: r).length - 1 = ((b :: r).length - 1) + 1 := by
    have h1 : (a :: b :: r).length = r.length + 2 := rfl
    have h2 : (b :: r).length = r.length + 1 := rfl
    omega
   rw [e,List.eraseIdx_cons_succ,ih]
   all_goals rfl
section
variable {X : Cx} {pins : List (Addr × Obj)} {σ : St} {H : Hp} {s : Shared} {l b : Addr} {xs ys zs : List V}
theorem ar.lset {its its' : List Value} {n : Nat} {f : Array Value -> Array Value} {t' : Nat} (I : ar X pins σ H s) (hH : H l = some (.lst xs))
  (e : s.heap.get? l = some { cls := .type "list",data := .seq its.toArray n }) (hf : f its.toArray = its'.toArray) (hv : aN ys its') (hz : ys.length <= sizeLine) :
  ar X pins σ (aq H l (.lst ys)) { s with heap := s.heap.update l (Obj.mapSeq f),toks := t' } := by
 have q := PySem.IsL.update e f
 rw [hf] at q
 refine I.write (x := l) (e := l) (by rw [hH]; exact trivial) (.inl rfl) (fun b' u hb hu => (Heap.get?_update_other s.heap (Obj.mapSeq f) (Ne.symm hb)).trans hu) ⟨_,q⟩ ?_
 exact ⟨hz,its',_,hv,q⟩
theorem ar.lnew {its : List Value} {t' : Nat} (I : ar X pins σ H s) (hv : aN ys its) (hz : ys.length <= sizeLine) :
  ar X pins σ (aq H s.heap.objs.size (.lst ys)) { s with heap := s.heap.push { cls := .type "list",data := .seq its.toArray },toks := t' } :=
 I.laid (fun _ _ q => Heap.get?_push_of_some _ q) (B3 _) ⟨hz,its,0,hv,Heap.get?_push_size _ rfl⟩
theorem ar.fresh (I : ar X pins σ H s) : H s.heap.objs.size = none := I.hok.fresh (B3 _)
theorem ar.lstM (I : ar X pins σ H s) (hH : H l = some (.lst xs)) : xs.length <= sizeLine /\ ∃ (its : List Value) (n : Nat),aN xs its /\ xs.length = its.length /\ s.heap.get? l = some { cls := .type "list",data := .seq its.toArray n } := by
 obtain ⟨z,its,n,r,e⟩ := I.hok l _ hH
 exact ⟨z,its,n,r,r.length,e⟩
end
section
variable {X : Cx}
def uv : V -> List V -> Hp -> VK -> Prop := fun x vs H Q => ∃ l xs y,x = .ref l /\ vs = [y] /\ H l = some (.lst xs) /\ xs.length < sizeLine /\ Q .non (aq H l (.lst (xs ++ [y])))
theorem bP : Bg X "list.append" uv := by
 intro pins s σ H x vs v us Q I rx rv h
 obtain ⟨l,xs,y,rfl,rfl,hH,hz,q⟩ := h
 cases rx
 obtain ⟨u,rfl,ru⟩ := rv.one
 obtain ⟨z,its,n,r,hl,e⟩ := I.lstM hH
 refine call_meets F.slot_list_append ⟨_,e,rfl⟩ F.entry_list_append (F.args_list_append_2 _ _) (PySem.list_append l its.toArray n u (by rw [BL]; omega)) ⟨e,?_⟩
 refine ⟨.non,_,I.lset (its' := its ++ [u]) hH e (by simp) (r.append (.cons ru .nil)) ?_,rfl,q⟩
 rw [B8,BW]
 omega
def Av : V -> List V -> Hp -> VK -> Prop := fun x vs H Q => ∃ l xs y,x = .ref l /\ vs = [] /\ H l = some (.lst xs) /\ xs[xs.length - 1]? = some y /\ Q y (aq H l (.lst xs.dropLast))
theorem wC : Bg X "list.pop" Av := by
 intro pins s σ H x vs v us Q I rx rv h
 obtain ⟨l,xs,y,rfl,rfl,hH,hy,q⟩ := h
 cases rx
 have hus := rv.zero
 subst hus
 obtain ⟨z,its,n,r,hl,e⟩ := I.lstM hH
 obtain ⟨u,hu,ru⟩ := r.get hy
 have hy' : its.toArray[its.toArray.size - 1]? = some u := by
  show its.toArray[its.length - 1]? = some u
  rw [<- BU,<- hl]
  exact hu
 refine call_meets F.slot_list_pop ⟨_,e,rfl⟩ F.entry_list_pop (F.args_list_pop_1 _) (MeetsSeq.list_pop_last l its.toArray n u hy' (by rw [BL]; omega)) ⟨e,?_⟩
 refine ⟨y,_,I.lset (its' := its.dropLast) hH e ?_ r.dropLast ?_,ru,q⟩
 ·show its.toArray.eraseIdxIfInBounds (its.toArray.size - 1) = its.dropLast.toArray
  rw [BL,List.eraseIdxIfInBounds_toArray,nA]
 ·rw [List.length_dropLast]
  omega
def Aw : R2 := fun x y H Q => ∃ l b xs zs,x = .ref l /\ y = .ref b /\ H l = some (.lst xs) /\ H b = some (.lst zs) /\ xs.length + zs.length <= sizeLine /\ ∀ p,H p = none -> Q (.ref p) (aq H p (.lst (xs ++ zs)))
theorem nB : eU X (binaryOp .Add) Aw := by
 intro pins s σ H x y v u Q I rx ry h
 obtain ⟨l,b,xs,zs,rfl,rfl,hH,hB,hz,q⟩ := h
 cases rx
 cases ry
 obtain ⟨z,its,n,r,hl,e⟩ := I.lstM hH
 obtain ⟨z2,its2,n2,r2,hl2,e2⟩ := I.lstM hB
 refine PySem.P.add_list e e2 ?_ (by rw [BL,BL]; omega)
 have ea : its.toArray ++ its2.toArray = (its ++ its2).toArray := by simp
 rw [ea]
 exact ⟨.ref _,_,I.lnew (t' := s.toks) (r.append r2) (by rw [B8]; omega),rfl,q _ I.fresh⟩
end
section
variable {prog : Program} {w : World} {A : Around} {E : Value -> Shared -> Prop} {s : Shared}
end
section
variable {X : Cx}
end
section
variable {κ : Type} [DecidableEq κ]
def aK (kvs : List (κ × V)) (k : κ) : Option V := (kvs.find? fun kv => decide (kv.1 = k)).map (·.2)
def putK (kvs : List (κ × V)) (k : κ) (v : V) : List (κ × V) :=
 if (kvs.any fun kv => decide (kv.1 = k)) = true then kvs.map (fun kv => if kv.1 = k then (kv.1,v) else kv) else kvs ++ [(k,v)]
def iA (kvs : List (κ × V)) (k : κ) : List (κ × V) := kvs.filter fun kv => decide (kv.1 ≠ k)
theorem a8 {p : κ × V} {r : List (κ × V)} {k : κ} (e : p.1 = k) : aK (p :: r) k = some p.2 := by simp [aK,D0,e]
theorem a9 {p : κ × V} {r : List (κ × V)} {k : κ} (e : ¬ p.1 = k) : aK (p :: r) k = aK r k := by simp [aK,D0,e]
theorem eC (k : κ) : ∀ kvs : List (κ × V),(kvs.any fun kv => decide (kv.1 = k)) = (aK kvs k).isSome
 | [] => rfl
 | p :: r => by
  rw [List.any_cons]
  by_cases e : p.1 = k
  ·simp only [a8 e,decide_eq_true e,Bool.true_or,Option.isSome_some]
  ·rw [a9 e,decide_eq_false e,Bool.false_or]; exact eC k r
theorem lV (k j : κ) (y : V) : ∀ kvs : List (κ × V),aK (kvs.map fun kv => if kv.1 = k then (kv.1,y) else kv) j = (aK kvs j).map fun x => if j = k then y else x
 | [] => rfl
 | p :: r => by
  have ih := lV k j y r
  rw [By]
  by_cases h : p.1 = k
  ·rw [if_pos h]
   by_cases e : p.1 = j
   ·rw [a8 (p := (p.1,y)) e,a8 e,Cw,if_pos (e.symm.trans h)]
   ·rw [a9 (p := (p.1,y)) e,a9 e,ih]
  ·rw [if_neg h]
   by_cases e : p.1 = j
   ·rw [a8 (p := p) e,a8 e,Cw,if_neg (fun z => h (e.trans z))]
   ·rw [a9 (p := p) e,a9 e,ih]
theorem jD (k j : κ) (y : V) : ∀ kvs : List (κ × V),aK kvs k = none -> aK (kvs ++ [(k,y)]) j = if j = k then some y else aK kvs j
 | [],_ => by
  by_cases e : k = j
  ·rw [if_pos e.symm]; exact a8 (p := (k,y)) e
  ·rw [if_neg (fun z => e z.symm)]; exact a9 (p := (k,y)) e
 | p :: r,hn => by
  rw [List.cons_append]
  have hk : ¬ p.1 = k := fun z => by rw [a8 z] at hn; cases hn
  rw [a9 hk] at hn
  have ih := jD k j y r hn
  by_cases e : p.1 = j
  ·rw [a8 e,a8 e,if_neg (fun z => hk (e.trans z))]
  ·rw [a9 e,a9 e,ih]
theorem fO (kvs : List (κ × V)) (k j : κ) (y : V) : aK (putK kvs k y) j = if j = k then some y else aK kvs j := by
 unfold putK
 by_cases a : (kvs.any fun kv => decide (kv.1 = k)) = true
 ·rw [if_pos a,lV]
  rw [eC] at a
  by_cases e : j = k
  ·obtain ⟨x,hx⟩ := CD.mp a
   rw [if_pos e,e,hx,Cw,if_pos rfl]
  ·rw [if_neg e]
   cases aK kvs j with
   | none => rfl
   | some x => rw [Cw,if_neg e]
 ·rw [if_neg a]
  refine jD k j y kvs ?_
  rw [eC] at a
  cases q : aK kvs k with
  | none => rfl
  | some x => rw [q] at a; exact (a rfl).elim
theorem cE (kvs : List (κ × V)) (k : κ) (v : V) : (putK kvs k v).length <= kvs.length + 1 := by
 unfold putK
 split
 ·rw [B2]; omega
 ·rw [B8,Bz,Cz]; omega
theorem eD {kvs : List (κ × V)} {k : κ} (v : V) (h : aK kvs k = none) : putK kvs k v = kvs ++ [(k,v)] := by
 unfold putK
 rw [eC,h]
 exact if_neg (by decide)
theorem dh.isSome_eq {o : Option V} {u : Option Value} (r : dh o u) : o.isSome = u.isSome := by
 cases o with
 | none => cases u with
  | none => rfl
  | some _ => exact (show False from r).elim
 | some _ => cases u with
  | none => exact (show False from r).elim
  | some _ => rfl
theorem dh.getD {o : Option V} {u : Option Value} {d : V} {d' : Value} (r : dh o u) (rd : RelV d d') : RelV (o.getD d) (u.getD d') := by
 cases o with
 | none => cases u with
  | none => exact rd
  | some _ => exact (show False from r).elim
 | some _ => cases u with
  | none => exact (show False from r).elim
  | some _ => exact r
theorem KV.val {kvs : List (κ × V)} {vs : List (κ × Value)} (r : KV kvs vs) (k : κ) : dh (aK kvs k) (valueAt vs k) := by
 unfold KV at r
 induction r with
 | nil => exact True.intro
 | @cons p q ps qs h t ih =>
  obtain ⟨h1,h2⟩ := h
  by_cases e : p.1 = k
  ·have e' : q.1 = k := h1.symm.trans e
   have b : valueAt (q :: qs) k = some q.2 := by simp [valueAt,D0,e']
   rw [a8 e,b]; exact h2
  ·have e' : ¬ q.1 = k := fun z => e (h1.trans z)
   have b : valueAt (q :: qs) k = valueAt qs k := by simp [valueAt,D0,e']
   rw [a9 e,b]; exact ih
theorem KV.any {kvs : List (κ × V)} {vs : List (κ × Value)} (r : KV kvs vs) (k : κ) : (kvs.any fun kv => decide (kv.1 = k)) = vs.any fun kv => decide (kv.1 = k) := by
 unfold KV at r
 induction r with
 | nil => rfl
 | cons h t ih => rw [List.any_cons,List.any_cons,ih,h.1]
theorem KV.repl {kvs : List (κ × V)} {vs : List (κ × Value)} (r : KV kvs vs) (k : κ) {y : V} {u : Value} (ry : RelV y u) :
  KV (kvs.map fun kv => if kv.1 = k then (kv.1,y) else kv) (vs.map fun kv => if kv.1 = k then (kv.1,u) else kv) := by
 unfold KV at r ⊢
 induction r with
 | nil => exact .nil
 | @cons p q ps qs h t ih =>
  rw [By,By]
  refine .cons ?_ ih
  obtain ⟨h1,h2⟩ := h
  by_cases e : p.1 = k
  ·rw [if_pos e,if_pos (h1.symm.trans e)]; exact ⟨h1,ry⟩
  ·rw [if_neg e,if_neg (fun z => e (h1.trans z))]; exact ⟨h1,h2⟩
theorem KV.put {kvs : List (κ × V)} {vs : List (κ × Value)} (r : KV kvs vs) (k : κ) {y : V} {u : Value} (ry : RelV y u) : KV (putK kvs k y) (stored vs k u) := by
 unfold putK stored
 rw [r.any k]
 by_cases e : (vs.any fun kv => decide (kv.1 = k)) = true
 ·rw [if_pos e,if_pos e]; exact r.repl k ry
 ·rw [if_neg e,if_neg e]; exact Paired.snoc r ⟨rfl,ry⟩
theorem KV.drop {kvs : List (κ × V)} {vs : List (κ × Value)} (r : KV kvs vs) (k : κ) : KV (iA kvs k) (without vs k) := by
 unfold KV at r ⊢
 unfold iA without
 induction r with
 | nil => exact .nil
 | @cons p q ps qs h t ih =>
  obtain ⟨h1,h2⟩ := h
  rw [CJ,CJ]
  by_cases e : p.1 = k
  ·have a : ¬ decide (p.1 ≠ k) = true := by simp [e]
   have b : ¬ decide (q.1 ≠ k) = true := by simp [h1.symm.trans e]
   rw [if_neg a,if_neg b]; exact ih
  ·have e' : ¬ q.1 = k := fun z => e (h1.trans z)
   have a : decide (p.1 ≠ k) = true := by simp [e]
   have b : decide (q.1 ≠ k) = true := by simp [e']
   rw [if_pos a,if_pos b]; exact .cons ⟨h1,h2⟩ ih
theorem KV.length {kvs : List (κ × V)} {vs : List (κ × Value)} (r : KV kvs vs) : kvs.length = vs.length := Paired.length r
theorem rY (kvs : List (κ × V)) (k : κ) : (iA kvs k).length <= kvs.length := CO _ _
end
theorem eE {P : Program} {w : World} {k : Key} {u : Value} (r : RelV (kV k) u) : (az P w).is k u = true := by
 cases k with
 | inl i => obtain ⟨t,e⟩ := (show ∃ t,u = Value.int i t from r); subst e; exact lN P w i t
 | inr x => obtain ⟨t,e⟩ := (show ∃ t,u = Value.str x t from r); subst e; exact lO P w x t
theorem jE {P : Program} {w : World} : ∀ {ks : List Key} {us : List Value},aN (ks.map kV) us -> ItemsAre (az P w) ks us
 | [],_,r => by rw [List.map_nil] at r; cases r; exact .nil
 | k :: ks,_,r => by
  rw [By] at r
  cases r with
  | cons h t => exact .cons (eE h) (jE t)
abbrev KT (H : Hp) : List (List Key × V) -> List (List Key × Addr × Value) -> Prop := Paired fun p q => p.1 = q.1 /\ H q.2.1 = some (.tup (p.1.map kV)) /\ RelV p.2 q.2.2
theorem KT.val {H : Hp} {kvs : List (List Key × V)} {xs : List (List Key × Addr × Value)} (r : KT H kvs xs) (k : List Key) : dh (aK kvs k) ((atKey xs k).map (·.2)) := by
 induction r with
 | nil => exact True.intro
 | @cons p q ps qs h t ih =>
  obtain ⟨h1,_,h2⟩ := h
  by_cases e : p.1 = k
  ·have e' : q.1 = k := h1.symm.trans e
   have b : atKey (q :: qs) k = some q.2 := by simp [atKey,D0,e']
   rw [a8 e,b]; exact h2
  ·have e' : ¬ q.1 = k := fun z => e (h1.trans z)
   have b : atKey (q :: qs) k = atKey qs k := by simp [atKey,D0,e']
   rw [a9 e,b]; exact ih
theorem KT.repl {H : Hp} {kvs : List (List Key × V)} {xs : List (List Key × Addr × Value)} (r : KT H kvs xs) (k : List Key) {y : V} {u : Value} (ry : RelV y u) :
  KT H (kvs.map fun kv => if kv.1 = k then (kv.1,y) else kv) (xs.map (putAt k u)) := by
 induction r with
 | nil => exact .nil
 | @cons p q ps qs h t ih =>
  rw [By,By]
  refine .cons ?_ ih
  obtain ⟨h1,h2,h3⟩ := h
  unfold putAt
  by_cases e : p.1 = k
  ·rw [if_pos e,if_pos (h1.symm.trans e)]; exact ⟨h1,h2,ry⟩
  ·rw [if_neg e,if_neg (fun z => e (h1.trans z))]; exact ⟨h1,h2,h3⟩
theorem KT.put {H : Hp} {kvs : List (List Key × V)} {xs : List (List Key × Addr × Value)} (r : KT H kvs xs) (k : List Key) {b : Addr} {y : V} {u : Value} (hb : H b = some (.tup (k.map kV))) (ry : RelV y u) :
  KT H (putK kvs k y) (storedH xs k b u) := by
 have e : (kvs.any fun kv => decide (kv.1 = k)) = (atKey xs k).isSome := by
  rw [eC,(r.val k).isSome_eq,Option.isSome_map]
 unfold putK storedH
 rw [e]
 by_cases q : (atKey xs k).isSome = true
 ·rw [if_pos q,if_pos q]; exact r.repl k ry
 ·rw [if_neg q,if_neg q]; exact Paired.snoc r ⟨rfl,hb,ry⟩
theorem KT.keeps {H H' : Hp} {kvs : List (List Key × V)} {xs : List (List Key × Addr × Value)} (r : KT H kvs xs) (ht : ∀ b ys,H b = some (.tup ys) -> H' b = some (.tup ys)) : KT H' kvs xs :=
 Paired.mapP r fun _ _ z => ⟨z.1,ht _ _ z.2.1,z.2.2⟩
section
variable {P : Program} {w : World} {H : Hp} {h : Heap} {a : Addr}
theorem vZ {u : HO} (ok : dv P w H h) (e : Rd H a u) : aR P w H h a u := e.ok ok
theorem gP {kvs : List (Key × V)} (ok : dv P w H h) (e : Rd H a (.dK kvs)) : kvs.length <= sizeLine /\ (a == sysModules) = false /\ ∃ vs,KV kvs vs /\ h.DictOf (az P w) a vs :=
 show aR P w H h a (.dK kvs) from vZ ok e
theorem iB {kvs : List (Key × V)} (ok : dv P w H h) (e : H a = some (.dK kvs)) : kvs.length <= sizeLine /\ (a == sysModules) = false /\ ∃ vs,KV kvs vs /\ h.DictOf (az P w) a vs := gP ok (.inl e)
theorem gj {ks : List Key} (ok : dv P w H h) (e : H a = some (.tup (ks.map kV))) : (tupleKind (az P w)).is h ks a := by
 obtain ⟨_,its,r,o,h1,h2,n,h3⟩ := (show aR P w H h a (.tup (ks.map kV)) from ok a _ e)
 exact ⟨o,its.toArray,n,h1,h2,h3,by simpa using jE r⟩
theorem iC {kvs : List (List Key × V)} (ok : dv P w H h) (e : Rd H a (.dT kvs)) : kvs.length <= sizeLine /\ (a == sysModules) = false /\
  ∃ xs,KT H kvs xs /\ h.DictOfH (tupleKind (az P w)) a xs := by
 obtain ⟨z,y,xs,r,o,es,ep,h1,h2,h3,h4,h5⟩ := (show aR P w H h a (.dT kvs) from vZ ok e)
 refine ⟨z,y,xs,r,o,es,ep,h1,h2,h3,h4,fun x hx => ?_,h5⟩
 have all : ∀ {l : List (List Key × V)} {m : List (List Key × Addr × Value)},KT H l m -> ∀ x ∈ m,(tupleKind (az P w)).is h x.1 x.2.1 := by
  intro l m q
  induction q with
  | nil => intro x hx; exact nomatch hx
  | @cons p q ps qs hq t ih =>
   intro x hx
   rcases B9.mp hx with e | hx
   ·subst e
    exact gj ok (by rw [<- hq.1]; exact hq.2.1)
   ·exact ih x hx
 exact all r x hx
theorem yb {kvs : List (List Key × V)} (ok : dv P w H h) (e : H a = some (.dT kvs)) : kvs.length <= sizeLine /\ (a == sysModules) = false /\
  ∃ xs,KT H kvs xs /\ h.DictOfH (tupleKind (az P w)) a xs := iC ok (.inl e)
end
def cF (H : Hp) (a : Addr) (y : V) (r : Option V) : Prop :=
 (∃ kvs k,Rd H a (.dK kvs) /\ y = kV k /\ r = aK kvs k) ∨ ∃ kvs k b,Rd H a (.dT kvs) /\ y = .ref b /\ H b = some (.tup (k.map kV)) /\ r = aK kvs k
def fP (H : Hp) (a : Addr) (y v : V) (H' : Hp) : Prop :=
 (∃ kvs k,H a = some (.dK kvs) /\ y = kV k /\ kvs.length < sizeLine /\ H' = aq H a (.dK (putK kvs k v))) ∨
 ∃ kvs k b,H a = some (.dT kvs) /\ y = .ref b /\ H b = some (.tup (k.map kV)) /\ kvs.length < sizeLine /\ H' = aq H a (.dT (putK kvs k v))
theorem cF.k {H : Hp} {a : Addr} {kvs : List (Key × V)} {k : Key} (e : H a = some (.dK kvs)) : cF H a (kV k) (aK kvs k) := .inl ⟨kvs,k,.inl e,rfl,rfl⟩
theorem cF.t {H : Hp} {a b : Addr} {kvs : List (List Key × V)} {k : List Key} (e : H a = some (.dT kvs)) (eb : H b = some (.tup (k.map kV))) : cF H a (.ref b) (aK kvs k) := .inr ⟨kvs,k,b,.inl e,rfl,eb,rfl⟩
theorem fP.k {H : Hp} {a : Addr} {kvs : List (Key × V)} {k : Key} {v : V} (e : H a = some (.dK kvs)) (hl : kvs.length < sizeLine) : fP H a (kV k) v (aq H a (.dK (putK kvs k v))) := .inl ⟨kvs,k,e,rfl,hl,rfl⟩
theorem fP.t {H : Hp} {a b : Addr} {kvs : List (List Key × V)} {k : List Key} {v : V} (e : H a = some (.dT kvs)) (eb : H b = some (.tup (k.map kV))) (hl : kvs.length < sizeLine) :
  fP H a (.ref b) v (aq H a (.dT (putK kvs k v))) := .inr ⟨kvs,k,b,e,rfl,eb,hl,rfl⟩
section
variable {X : Cx} {pins : List (Addr × Obj)} {σ : St} {H : Hp} {s : Shared} {a : Addr} {y v : V} {u r : Value} {o : Option V} {A : Around} {E : Value -> Shared -> Prop}
theorem ar.big (I : ar X pins σ H s) : sysModules < s.heap.objs.size := by
 have h : mainGlobals < s.heap.objs.size := (I.mod.glob.keeps I.bk).lt
 exact Nat.lt_trans (by decide) h
theorem qu {Q : Value -> Shared -> Prop} (hu : A.units + 1 < cLine) (I : ar X pins σ H s) (g : cF H a y (some v)) (ry : RelV y u) (h : ∀ w' s',ar X pins σ H s' -> RelV v w' -> Q w' s') :
  wpAny (model X.prog X.w) A (getItem (.ref a) u) Q E s := by
 rcases g with ⟨kvs,k,e,ey,l⟩ | ⟨kvs,k,b,e,ey,eb,l⟩
 ·subst ey
  obtain ⟨z,hd,vs,rel,dd⟩ := gP I.hok e
  obtain ⟨w',hw,rw'⟩ := dh.some_of (v := v) (o := valueAt vs k) (by rw [l]; exact rel.val k)
  exact wpAny_getItem_of (eE ry) dd.mapOf hw (h w' _ (I.tok _) rw')
 ·subst ey
  cases (show u = Value.ref b from ry)
  obtain ⟨z,hd,xs,rel,dd⟩ := iC I.hok e
  obtain ⟨w',hw,rw'⟩ := dh.some_of (v := v) (o := (atKey xs k).map (·.2)) (by rw [l]; exact rel.val k)
  obtain ⟨p,hp,hp2⟩ := CA.mp hw
  refine wpAny_getItem_heap (tupleKind_room_in1 hu) (gj I.hok eb) dd hp ?_
  rw [hp2]
  exact h w' _ (I.tok _) rw'
theorem Ax {Q : Value -> Shared -> Prop} (hu : A.units + 1 < cLine) (I : ar X pins σ H s) (g : cF H a y o) (ry : RelV y u) (h : ∀ s',ar X pins σ H s' -> Q (.bool o.isSome) s') :
  wpAny (model X.prog X.w) A (compareOp .In u (.ref a)) Q E s := by
 rcases g with ⟨kvs,k,e,ey,l⟩ | ⟨kvs,k,b,e,ey,eb,l⟩
 ·subst ey
  obtain ⟨z,hd,vs,rel,dd⟩ := gP I.hok e
  refine wpAny_in_of (eE ry) hd dd.mapOf ?_
  rw [<- (rel.val k).isSome_eq,<- l]
  exact h _ (I.tok _)
 ·subst ey
  cases (show u = Value.ref b from ry)
  obtain ⟨z,hd,xs,rel,dd⟩ := iC I.hok e
  refine wpAny_in_heap (tupleKind_room_in1 hu) (gj I.hok eb) hd dd ?_
  have q := (rel.val k).isSome_eq
  rw [Option.isSome_map] at q
  rw [<- q,<- l]
  exact h _ (I.tok _)
theorem uw {Q : Value -> Shared -> Prop} (hu : A.units + 1 < cLine) (I : ar X pins σ H s) (g : cF H a y o) (ry : RelV y u) (h : ∀ s',ar X pins σ H s' -> Q (.bool (!o.isSome)) s') :
  wpAny (model X.prog X.w) A (compareOp .NotIn u (.ref a)) Q E s := by
 rcases g with ⟨kvs,k,e,ey,l⟩ | ⟨kvs,k,b,e,ey,eb,l⟩
 ·subst ey
  obtain ⟨z,hd,vs,rel,dd⟩ := gP I.hok e
  refine wpAny_notIn_of (eE ry) hd dd.mapOf ?_
  rw [<- (rel.val k).isSome_eq,<- l]
  exact h _ (I.tok _)
 ·subst ey
  cases (show u = Value.ref b from ry)
  obtain ⟨z,hd,xs,rel,dd⟩ := iC I.hok e
  refine wpAny_notIn_heap (tupleKind_room_in1 hu) (gj I.hok eb) hd dd ?_
  have q := (rel.val k).isSome_eq
  rw [Option.isSome_map] at q
  rw [<- q,<- l]
  exact h _ (I.tok _)
theorem fQ {h' : Heap} {t' : Nat} {ob : HO} (I : ar X pins σ H s) (mu : xL (H a)) (hs : Heap.SameBut a s.heap h') (he : ∃ q,h'.get? a = some q) (new : aR X.prog X.w (aq H a ob) h' a ob) :
  ar X pins σ (aq H a ob) { s with heap := h',toks := t' } :=
 I.write (x := a) (e := a) mu (.inl rfl) (fun b q hb z => (hs.2 b hb).trans z) he new
theorem km {P : Program} {w : World} {H' : Hp} {h' : Heap} {kvs : List (Key × V)} {vs : List (Key × Value)} (z : kvs.length <= sizeLine) (hd : (a == sysModules) = false) (rel : KV kvs vs) (dd : h'.DictOf (az P w) a vs) :
  aR P w H' h' a (.dK kvs) := ⟨z,hd,vs,rel,dd⟩
theorem qw {H' : Hp} {Q : Unit -> Shared -> Prop} (hu : A.units + 1 < cLine) (I : ar X pins σ H s) (g : fP H a y v H') (ry : RelV y u) (rv : RelV v r) (h : ∀ s',ar X pins σ H' s' -> Q () s') :
  wpAny (model X.prog X.w) A (setItem (.ref a) u r) Q E s := by
 rcases g with ⟨kvs,k,e,ey,l,eH⟩ | ⟨kvs,k,b,e,ey,eb,l,eH⟩
 ·subst ey eH
  obtain ⟨z,hd,vs,rel,dd⟩ := iB I.hok e
  have hz : vs.length <= sizeLine := by rw [<- rel.length]; exact z
  have hl : (putK kvs k v).length <= sizeLine := by have := cE kvs k v; omega
  refine wpAny_setItem_pairs (hsz := hz) (eE ry) dd fun h' dd' hs => h _ ?_
  have he : ∃ q,h'.get? a = some q := let ⟨q,_,_,hq,_⟩ := dd'; ⟨q,hq⟩
  exact fQ I (by rw [e]; exact True.intro) hs he (km hl hd (rel.put k rv) dd')
 ·subst ey eH
  cases (show u = Value.ref b from ry)
  obtain ⟨z,hd,xs,rel,dd⟩ := yb I.hok e
  have hz : xs.length <= sizeLine := by rw [<- Paired.length rel]; exact z
  have hl : (putK kvs k v).length <= sizeLine := by have := cE kvs k v; omega
  refine wpAny_setItem_heap (hsz := hz) (tupleKind_room_in1 hu) (gj I.hok eb) dd fun h' dd' hs => h _ ?_
  obtain ⟨q,es,ep,hq,h2,h3,h4,_,h5⟩ := dd'
  refine fQ I (by rw [e]; exact True.intro) hs ⟨q,hq⟩ ⟨hl,hd,_,(rel.put k eb rv).keeps fun c ys ec => ?_,q,es,ep,hq,h2,h3,h4,h5⟩
  rw [aj (bS ec e (fun z => nomatch z))]
  exact ec
end
section
variable {X : Cx} {pins : List (Addr × Obj)} {σ : St} {H : Hp} {s : Shared} {a : Addr} {kvs : List (Key × V)} {k : Key} {u : Value} {A : Around} {E : Value -> Shared -> Prop}
theorem yc {v : V} {more : List Value} {Q : Value -> Shared -> Prop} (I : ar X pins σ H s) (e : H a = some (.dK kvs)) (ry : RelV (kV k) u) (l : aK kvs k = some v) (hm : more = [] ∨ ∃ x,more = [x])
  (h : ∀ w' s',ar X pins σ (aq H a (.dK (iA kvs k))) s' -> RelV v w' -> Q w' s') : wpAny (model X.prog X.w) A (call (.builtin "dict.pop") (.ref a :: u :: more)) Q E s := by
 obtain ⟨z,hd,vs,rel,dd⟩ := iB I.hok e
 obtain ⟨w',hw,rw'⟩ := dh.some_of (v := v) (o := valueAt vs k) (by rw [<- l]; exact rel.val k)
 have hp : (keyPart u).isSome = true := by
  cases k with
  | inl i => obtain ⟨t,q⟩ := (show ∃ t,u = Value.int i t from ry); subst q; rfl
  | inr x => obtain ⟨t,q⟩ := (show ∃ t,u = Value.str x t from ry); subst q; rfl
 have ha : argsOk "dict.pop" ⟨.ref a :: u :: more,[]⟩ := by
  rcases hm with q | ⟨x,q⟩
  ·subst q; exact PySem.F.args_dict_pop_2 _ _
  ·subst q; exact PySem.F.args_dict_pop_3 _ _ _
 refine call_meetsIn PySem.F.slot_dict_pop dd.typeIs PySem.F.entry_dict_pop ha (meets_dict_pop_there (az X.prog X.w) a (eE ry) more hm hp)
  ⟨vs,w',dd,by rw [<- rel.length]; exact z,hw,fun h' dd' hs => h w' _ ?_ rw'⟩
 have he : ∃ q,h'.get? a = some q := let ⟨q,_,_,hq,_⟩ := dd'; ⟨q,hq⟩
 exact fQ I (by rw [e]; exact True.intro) hs he (km (BZ (rY kvs k) z) hd (rel.drop k) dd')
theorem wD {r : Value} {Q : Value -> Shared -> Prop} (I : ar X pins σ H s) (e : H a = some (.dK kvs)) (ry : RelV (kV k) u) (l : aK kvs k = none) (h : ∀ s',ar X pins σ H s' -> Q r s') :
  wpAny (model X.prog X.w) A (call (.builtin "dict.pop") [.ref a,u,r]) Q E s := by
 obtain ⟨z,hd,vs,rel,dd⟩ := iB I.hok e
 have hn : valueAt vs k = none := dh.none_of (by rw [<- l]; exact rel.val k)
 have hp : (keyPart u).isSome = true := by
  cases k with
  | inl i => obtain ⟨t,q⟩ := (show ∃ t,u = Value.int i t from ry); subst q; rfl
  | inr x => obtain ⟨t,q⟩ := (show ∃ t,u = Value.str x t from ry); subst q; rfl
 exact call_meetsIn PySem.F.slot_dict_pop dd.typeIs PySem.F.entry_dict_pop (PySem.F.args_dict_pop_3 _ _ _) (meets_dict_pop_default (az X.prog X.w) a (eE ry) hd hp r) ⟨vs,dd,hn,h _ (I.tok _)⟩
theorem yd {Q : Value -> Shared -> Prop} (I : ar X pins σ H s) (e : Rd H a (.dK kvs)) (h : ∀ t s',ar X pins σ H s' -> Q (.int kvs.length t) s') : wpAny (model X.prog X.w) A (call (.builtin "len") [.ref a]) Q E s := by
 obtain ⟨z,hd,vs,rel,dd⟩ := gP I.hok e
 refine call_len_dict hd dd (by rw [<- rel.length]; rw [sizeLine_eq] at z; omega) ?_
 rw [<- rel.length]
 exact h _ _ (I.tok _)
end
def yf (i : Expr) : Prop := ∀ ov iv,subscripted i false ov iv = operate [ov,iv] (getItem ov iv)
theorem ux {prog : Program} {w : World} {A : Around} {E : Value -> Shared -> Prop} {s : Shared} {env : Env} {value slice : Expr} {pos : Pos} {T id : String} {Q : Value -> Shared -> Prop}
  (hl : typeLookup (.type T) "__getitem__" = pure (some (.builtin id))) (hs : yf slice)
  (h : wpAny (model prog w) A (eval value env) (fun o s₁ => wpAny (model prog w) A (eval slice env) (fun i s₂ => s₂.TypeIs o T /\ wpAny (model prog w) A (getItem o i) Q E s₂) E s₁) E s) :
  wpAny (model prog w) A (eval (.Subscript value slice pos) env) Q E s := by
 refine Subscript_ (wpAny_mono h (fun o s₁ h₁ => wpAny_mono h₁ (fun i s₂ h₂ => ?_) fun _ _ x => x) fun _ _ x => x)
 obtain ⟨hT,h₂⟩ := h₂
 unfold subscriptTail
 refine wpAny_bind ?_
 rw [getitemInPython_of_ne hT.not_modules]
 refine wpAny_bind (wpAny_specialOf hT hl ?_)
 have fin : wpAny (model prog w) A (subscripted slice false o i) (fun r s₃ => wpAny (model prog w) A (letTemporaryGo value o r >>= fun _ => pure r) Q E s₃) E s₂ := by
  rw [hs o i]
  exact wpAny_operating (wpAny_mono h₂ (fun r s₃ h₃ => wpAny_bind (wpAny_letTemporaryGo (wpAny_pure h₃))) fun _ _ x => x)
 first
  | exact wpAny_pure (wpAny_bind fin)
  | exact wpAny_bind (wpAny_pure (wpAny_bind fin))
  | exact wpAny_bind fin
theorem lW {X : Cx} {pins : List (Addr × Obj)} {σ : St} {H : Hp} {s : Shared} {a : Addr} {y : V} {o : Option V} (I : ar X pins σ H s) (g : cF H a y o) : s.TypeIs (.ref a) "dict" := by
 rcases g with ⟨kvs,k,e,_,_⟩ | ⟨kvs,k,b,e,_,_,_⟩
 ·obtain ⟨_,_,vs,_,dd⟩ := gP I.hok e
  exact dd.typeIs
 ·obtain ⟨_,_,xs,_,dd⟩ := iC I.hok e
  exact dd.typeIs
def yg (td ty : TE) : TE := fun σ H Q => td σ H fun x H1 => ty σ H1 fun y H2 => ∃ a v,x = .ref a /\ cF H2 a y (some v) /\ Q v H2
def Ay (ty td : TE) : TE := fun σ H Q => ty σ H fun y H1 => td σ H1 fun x H2 => ∃ a o,x = .ref a /\ cF H2 a y o /\ Q (.bl o.isSome) H2
def uy (ty td : TE) : TE := fun σ H Q => ty σ H fun y H1 => td σ H1 fun x H2 => ∃ a o,x = .ref a /\ cF H2 a y o /\ Q (.bl (!o.isSome)) H2
def yh (td ty tv : TE) : TS := fun D σ H => tv σ H fun v H1 => td σ H1 fun x H2 => ty σ H2 fun y H3 => ∃ a H4,x = .ref a /\ fP H3 a y v H4 /\ D.nx σ H4
section
variable {X : Cx} {o i e value : Expr} {pos pos' tpos : Pos} {td ty tv : TE}
theorem ko (hu : X.A.units + 1 < cLine) (ho : PE X o td) (hi : PE X i ty) (hs : yf i) : PE X (.Subscript o i pos) (yg td ty) := by
 intro pins s σ H Q I h
 refine ux PySem.F.slot_dict_getitem.lookup hs (aX (ho pins s σ H _ I h) fun u s1 ⟨x,H1,I1,rx,q1⟩ => aX (hi pins s1 σ H1 _ I1 q1) fun iv s2 ⟨y,H2,I2,ry,a,v,ex,g,q2⟩ => ?_)
 subst ex
 obtain rfl : u = Value.ref a := rx
 exact ⟨lW I2 g,qu hu I2 g ry fun w' s3 I3 rw' => ⟨v,H2,I3,rw',q2⟩⟩
theorem wE (hu : X.A.units + 1 < cLine) (hi : PE X i ty) (ho : PE X o td) : PC X .In i o (Ay ty td) := by
 intro pins s σ H Q I h
 refine aX (hi pins s σ H _ I h) fun iv s1 ⟨y,H1,I1,ry,q1⟩ => aX (ho pins s1 σ H1 _ I1 q1) fun u s2 ⟨x,H2,I2,rx,a,ov,ex,g,q2⟩ => ?_
 subst ex
 obtain rfl : u = Value.ref a := rx
 exact Ax hu I2 g ry fun s3 I3 => ⟨.bl ov.isSome,H2,I3,rfl,q2⟩
theorem eW (hu : X.A.units + 1 < cLine) (hi : PE X i ty) (ho : PE X o td) : PC X .NotIn i o (uy ty td) := by
 intro pins s σ H Q I h
 refine aX (hi pins s σ H _ I h) fun iv s1 ⟨y,H1,I1,ry,q1⟩ => aX (ho pins s1 σ H1 _ I1 q1) fun u s2 ⟨x,H2,I2,rx,a,ov,ex,g,q2⟩ => ?_
 subst ex
 obtain rfl : u = Value.ref a := rx
 exact uw hu I2 g ry fun s3 I3 => ⟨.bl (!ov.isSome),H2,I3,rfl,q2⟩
theorem dU (hu : X.A.units + 1 < cLine) (ho : PE X o td) (hi : PE X i ty) (hv : PE X value tv) (hs : swapsWith value (some (.Subscript o i pos')) pos.line X.env = pure false) :
  PS X (.Assign [.Subscript o i pos'] value pos) (yh td ty tv) := by
 intro pins s σ H D I h
 refine wpAny_Assign_Subscript (aX (hv pins s σ H _ I h) fun r s1 ⟨v,H1,I1,rv,q1⟩ => aX (ho pins s1 σ H1 _ I1 q1) fun u s2 ⟨x,H2,I2,rx,q2⟩ => aX (hi pins s2 σ H2 _ I2 q2) fun iv s3 ⟨y,H3,I3,ry,a,H4,ex,g,q3⟩ => ?_) hs
 subst ex
 obtain rfl : u = Value.ref a := rx
 exact qw hu I3 g ry rv fun s4 I4 => ⟨σ,H4,I4,q3⟩
end
theorem lX {P : Program} {w : World} {H : Hp} (h : Heap) (hb : sysModules < h.objs.size) : aR P w H (h.push { cls := .type "dict",data := .dict #[] }) h.objs.size (.dK []) :=
 ⟨BY _,beq_eq_false_iff_ne.mpr (Ne.symm (BA hb)),[],.nil,Heap.DictOf.new h⟩
theorem rZ {P : Program} {w : World} {H : Hp} (h : Heap) (hb : sysModules < h.objs.size) : aR P w H (h.push { cls := .type "dict",data := .dict #[] }) h.objs.size (.dT []) :=
 ⟨BY _,beq_eq_false_iff_ne.mpr (Ne.symm (BA hb)),[],.nil,_,#[],0,Heap.get?_push_size _ rfl,⟨rfl,rfl,rfl⟩,rfl,rfl,List.nodup_nil⟩
def wF : TE := fun _ H Q => ∀ p,H p = none -> Q (.ref p) (aq H p (.dK []))
def wG : TE := fun _ H Q => ∀ p,H p = none -> Q (.ref p) (aq H p (.dT []))
section
variable {X : Cx} {pos : Pos}
theorem cG : PE X (.Dict [] [] pos) wF := fun pins s σ H Q I h =>
 wpAny_Dict_empty ⟨.ref s.heap.objs.size,_,I.laid (a := s.heap.objs.size) (o := .dK []) (t' := s.toks) (fun _ _ q => Heap.get?_push_of_some _ q) (B3 _) (lX s.heap I.big),rfl,h _ (I.hok.fresh (B3 _))⟩
theorem r6 : PE X (.Dict [] [] pos) wG := fun pins s σ H Q I h =>
 wpAny_Dict_empty ⟨.ref s.heap.objs.size,_,I.laid (a := s.heap.objs.size) (o := .dT []) (t' := s.toks) (fun _ _ q => Heap.get?_push_of_some _ q) (B3 _) (rZ s.heap I.big),rfl,h _ (I.hok.fresh (B3 _))⟩
end
def nC : List (TE × TE) -> St -> Hp -> (List (V × V) -> Hp -> Prop) -> Prop
 | [],_,H,Q => Q [] H
 | (tk,tv) :: r,σ,H,Q => tk σ H fun x H1 => tv σ H1 fun y H2 => nC r σ H2 fun ps H3 => Q ((x,y) :: ps) H3
abbrev VV : List (V × V) -> List (Value × Value) -> Prop := Paired fun p q => RelV p.1 q.1 /\ RelV p.2 q.2
def zT (X : Cx) (pos : Pos) (keys : List (Option Expr)) (values : List Expr) (trs : List (TE × TE)) : Prop :=
 ∀ (pins : List (Addr × Obj)) (s : Shared) (σ : St) (H : Hp) (Q : List (V × V) -> Hp -> Prop),ar X pins σ H s -> nC trs σ H Q ->
  wpAny (model X.prog X.w) X.A (evalPairs (pairTrees keys values X.env pos)) (fun vs s' => ∃ ps H',ar X pins σ H' s' /\ VV ps vs /\ Q ps H') X.xe s
theorem ph {X : Cx} {pos : Pos} : zT X pos [] [] [] := fun pins s σ H Q I h => pairTrees_nil_walk ⟨[],H,I,.nil,h⟩
theorem lY {X : Cx} {pos : Pos} {k v : Expr} {ks : List (Option Expr)} {vs : List Expr} {tk tv : TE} {trs : List (TE × TE)} (hk : PE X k tk) (hv : PE X v tv) (hr : zT X pos ks vs trs) :
  zT X pos (some k :: ks) (v :: vs) ((tk,tv) :: trs) := fun pins s σ H Q I h =>
 pairTrees_cons_walk (aX (hk pins s σ H _ I h) fun u s1 ⟨x,H1,I1,rx,q1⟩ => aX (hv pins s1 σ H1 _ I1 q1) fun w2 s2 ⟨y,H2,I2,ry,q2⟩ =>
  aX (hr pins s2 σ H2 _ I2 q2) fun ws s3 ⟨ps,H3,I3,rel,q3⟩ => ⟨(x,y) :: ps,H3,I3,.cons ⟨rx,ry⟩ rel,q3⟩)
def c6 (kvs more : List (Key × V)) : List (Key × V) := more.foldl (fun acc kv => putK acc kv.1 kv.2) kvs
theorem KV.merge : ∀ {more : List (Key × V)} {rs : List (Key × Value)} {kvs : List (Key × V)} {vs : List (Key × Value)},KV more rs -> KV kvs vs -> KV (c6 kvs more) (merged vs rs) := by
 intro more rs kvs vs r
 unfold KV at r
 induction r generalizing kvs vs with
 | nil => intro q; exact q
 | @cons p q ps qs h t ih =>
  intro r0
  have e : KV (putK kvs p.1 p.2) (stored vs q.1 q.2) := by
   have := r0.put p.1 h.2
   rw [<- h.1]; exact this
  exact ih e
theorem ff : ∀ (more kvs : List (Key × V)),(c6 kvs more).length <= kvs.length + more.length
 | [],kvs => by show kvs.length <= kvs.length + 0; omega
 | p :: r,kvs => by
  have h1 := ff r (putK kvs p.1 p.2)
  have h2 := cE kvs p.1 p.2
  show (c6 (putK kvs p.1 p.2) r).length <= _
  rw [Bz]; omega
theorem iD {P : Program} {w : World} : ∀ {kvs : List (Key × V)} {ws : List (Value × Value)},VV (kvs.map fun kv => (kV kv.1,kv.2)) ws -> ∃ rs,Carries (az P w) ws rs /\ KV kvs rs
 | [],_,r => by rw [List.map_nil] at r; cases r; exact ⟨[],True.intro,.nil⟩
 | p :: kvs,_,r => by
  rw [By] at r
  cases r with
  | @cons a b as bs h t =>
   obtain ⟨rs,c,q⟩ := iD (P := P) (w := w) t
   obtain ⟨b1,b2⟩ := b
   exact ⟨(p.1,b2) :: rs,⟨eE h.1,rfl,c⟩,.cons ⟨rfl,h.2⟩ q⟩
def yi (trs : List (TE × TE)) : TE := fun σ H Q => ∀ p,H p = none -> nC trs σ (aq H p (.dK [])) fun ps H2 => H2 p = some (.dK []) /\ ∃ kvs : List (Key × V),ps = kvs.map (fun kv => (kV kv.1,kv.2)) /\ kvs.length <= 15 /\ Q (.ref p) (aq H2 p (.dK (c6 [] kvs)))
theorem pi {X : Cx} {pos : Pos} {keys : List (Option Expr)} {values : List Expr} {trs : List (TE × TE)} (h : zT X pos keys values trs) (hall : keys.all (·.isSome) = true) (hl : keys.length = values.length) (h0 : keys ≠ [])
  (h15 : keys.length <= 15) : PE X (.Dict keys values pos) (yi trs) := by
 intro pins s σ H Q I q
 have hn := I.hok.fresh (B3 s.heap.objs.size)
 have I1 := I.laid (a := s.heap.objs.size) (o := .dK []) (h' := s.heap.push { cls := .type "dict",data := .dict #[] }) (t' := s.toks) (fun _ _ q => Heap.get?_push_of_some _ q) (B3 _) (lX s.heap I.big)
 refine wpAny_Dict_walk (knd := az X.prog X.w) hall hl h0 h15 (aX (h pins _ σ _ _ I1 (q _ hn)) fun ws s2 ⟨ps,H2,I2,rel,e,kvs,ep,lk,q2⟩ => ?_)
 subst ep
 obtain ⟨rs,c,rk⟩ := iD (P := X.prog) (w := X.w) rel
 obtain ⟨z,hd,vs0,r0,dd⟩ := iB I2.hok e
 cases r0
 refine ⟨rs,c,dd,fun h' dd' hs => ⟨.ref s.heap.objs.size,_,?_,rfl,q2⟩⟩
 have hz : (c6 [] kvs).length <= sizeLine := by
  have h1 := ff kvs []
  rw [Cz] at h1
  rw [sizeLine_eq]; omega
 have he : ∃ q,h'.get? s.heap.objs.size = some q := let ⟨q,_,_,hq,_⟩ := dd'; ⟨q,hq⟩
 exact fQ I2 (by rw [e]; exact True.intro) hs he (km hz hd (rk.merge .nil) dd')
structure M2 (X : Cx) (o : Expr) (m : Str) (apos : Pos) (e f : Expr) (cpos : Pos) : Prop where
 base : attributeBase o m X.env (eval o X.env) = eval o X.env
 few : ((backTo cpos (starEach [e,f] X.env)).all (fun x => !x.1) && (backToKw cpos (keywordEach [] X.env)).all (fun x => x.1.isSome)
  && decide (([e,f] : List Expr).length + ([] : List Keyword).length + (if ([] : List Keyword).isEmpty then 0 else 1) < 30)) = true
 line : (apos.endLine == cpos.line) = true
 trees : backTo cpos (starEach [e,f] X.env) = [(false,eval e X.env),(false,eval f X.env)]
def Az (H : Hp) (a : Addr) : Prop := (∃ kvs,Rd H a (.dK kvs)) ∨ ∃ kvs,Rd H a (.dT kvs)
theorem r8 {X : Cx} {pins : List (Addr × Obj)} {σ : St} {H : Hp} {s : Shared} {a : Addr} (I : ar X pins σ H s) (d : Az H a) :
  s.TypeIs (.ref a) "dict" /\ (∀ b,Value.ref a = .ref b -> ∃ ob,s.heap.get? b = some ob /\ ob.dict = none) /\ (a == sysModules) = false := by
 rcases d with ⟨kvs,e⟩ | ⟨kvs,e⟩
 ·obtain ⟨_,hd,vs,_,dd⟩ := gP I.hok e
  refine ⟨dd.typeIs,fun b q => ?_,hd⟩
  cases q
  obtain ⟨ob,_,_,h1,h2,_⟩ := dd
  exact ⟨ob,h1,h2.2.1⟩
 ·obtain ⟨_,hd,xs,_,dd⟩ := iC I.hok e
  refine ⟨dd.typeIs,fun b q => ?_,hd⟩
  cases q
  obtain ⟨ob,_,_,h1,h2,_⟩ := dd
  exact ⟨ob,h1,h2.2.1⟩
section
variable {X : Cx} {pins : List (Addr × Obj)} {σ : St} {H : Hp} {s : Shared} {a : Addr} {y d : V} {u r : Value} {o : Option V} {A : Around} {E : Value -> Shared -> Prop}
theorem wH {Q : Value -> Shared -> Prop} (hu : A.units + 1 < cLine) (I : ar X pins σ H s) (g : cF H a y o) (ry : RelV y u) (rd : RelV d r) (h : ∀ w' s',ar X pins σ H s' -> RelV (o.getD d) w' -> Q w' s') :
  wpAny (model X.prog X.w) A (call (.builtin "dict.get") [.ref a,u,r]) Q E s := by
 rcases g with ⟨kvs,k,e,ey,l⟩ | ⟨kvs,k,b,e,ey,eb,l⟩
 ·subst ey
  obtain ⟨z,hd,vs,rel,dd⟩ := gP I.hok e
  refine call_meetsIn PySem.F.slot_dict_get dd.typeIs PySem.F.entry_dict_get (PySem.F.args_dict_get_3 _ _ _) (meets_dict_get_default (az X.prog X.w) a (eE ry) hd r) ⟨_,dd.mapOf,h _ _ (I.tok _) ?_⟩
  rw [l]
  exact (rel.val k).getD rd
 ·subst ey
  cases (show u = Value.ref b from ry)
  obtain ⟨z,hd,xs,rel,dd⟩ := iC I.hok e
  refine call_meetsIn PySem.F.slot_dict_get dd.typeIs PySem.F.entry_dict_get (PySem.F.args_dict_get_3 _ _ _) (meetsH_dict_get_default (tupleKind (az X.prog X.w)) a b hd r) ⟨tupleKind_room_in1 hu,k,xs,gj I.hok eb,dd,h _ _ (I.tok _) ?_⟩
  rw [l]
  exact (rel.val k).getD rd
end
def wI (td ty tx : TE) : TE := fun σ H Q => td σ H fun x H1 => ∃ a,x = .ref a /\ Az H1 a /\ ty σ H1 fun y H2 => tx σ H2 fun z H3 => ∃ o,cF H3 a y o /\ Q (o.getD z) H3
def wJ (td ty tx : TE) : TE := fun σ H Q => td σ H fun x H1 => ∃ a,x = .ref a /\ Az H1 a /\ ty σ H1 fun y H2 => tx σ H2 fun z H3 => ∃ kvs k,H3 a = some (.dK kvs) /\ y = kV k /\
 (∀ v,aK kvs k = some v -> Q v (aq H3 a (.dK (iA kvs k)))) /\ (aK kvs k = none -> Q z H3)
section
variable {X : Cx} {o e f : Expr} {apos cpos : Pos} {td ty tx : TE}
theorem iE (hu : X.A.units + 1 < cLine) (ho : PE X o td) (he : PE X e ty) (hf : PE X f tx) (m : M2 X o "get" apos e f cpos) : PE X (.Call (.Attribute o "get" apos) [e,f] [] cpos) (wI td ty tx) := by
 intro pins s σ H Q I h
 refine wpAny_Call_method m.base m.few m.line PySem.F.plainAttrs_dict PySem.F.slot_dict_get PySem.F.type_dict_get (aX (ho pins s σ H _ I h) fun u s1 ⟨x,H1,I1,rx,a,ex,d,q1⟩ => ?_)
 subst ex
 obtain rfl : u = Value.ref a := rx
 obtain ⟨t1,t2,_⟩ := r8 I1 d
 refine ⟨t1,t2,?_⟩
 rw [m.trees]
 refine Calls.callWith_builtin rfl (Calls.evalArgs_plain (Calls.spliced_cons (aX (he pins s1 σ H1 _ I1 q1) fun iv s2 ⟨y,H2,I2,ry,q2⟩ =>
  Calls.spliced_cons (aX (hf pins s2 σ H2 _ I2 q2) fun fv s3 ⟨z,H3,I3,rz,ov,g,q3⟩ => Calls.spliced_nil ?_))))
 exact wH hu I3 g ry rz fun w' s4 I4 rw' => ⟨_,H3,I4,rw',q3⟩
theorem lZ (ho : PE X o td) (he : PE X e ty) (hf : PE X f tx) (m : M2 X o "pop" apos e f cpos) : PE X (.Call (.Attribute o "pop" apos) [e,f] [] cpos) (wJ td ty tx) := by
 intro pins s σ H Q I h
 refine wpAny_Call_method m.base m.few m.line PySem.F.plainAttrs_dict PySem.F.slot_dict_pop PySem.F.type_dict_pop (aX (ho pins s σ H _ I h) fun u s1 ⟨x,H1,I1,rx,a,ex,d,q1⟩ => ?_)
 subst ex
 obtain rfl : u = Value.ref a := rx
 obtain ⟨t1,t2,_⟩ := r8 I1 d
 refine ⟨t1,t2,?_⟩
 rw [m.trees]
 refine Calls.callWith_builtin rfl (Calls.evalArgs_plain (Calls.spliced_cons (aX (he pins s1 σ H1 _ I1 q1) fun iv s2 ⟨y,H2,I2,ry,q2⟩ =>
  Calls.spliced_cons (aX (hf pins s2 σ H2 _ I2 q2) fun fv s3 ⟨z,H3,I3,rz,kvs,k,ea,ey,q3,q4⟩ => Calls.spliced_nil ?_))))
 subst ey
 cases l : aK kvs k with
 | some v => exact yc I3 ea ry l (.inr ⟨fv,rfl⟩) fun w' s4 I4 rw' => ⟨v,_,I4,rw',q3 v l⟩
 | none => exact wD I3 ea ry l fun s4 I4 => ⟨z,H3,I4,rz,q4 l⟩
end
section
variable {X : Cx} {pins : List (Addr × Obj)} {σ : St} {H : Hp} {s : Shared} {a : Addr} {kvs : List (Key × V)} {A : Around} {E : Value -> Shared -> Prop}
end
section
variable {X : Cx} {pins : List (Addr × Obj)} {σ : St} {H : Hp} {s : Shared} {a : Addr} {y : V} {u : Value} {A : Around} {E : Value -> Shared -> Prop}
end
end L2
namespace Att
open PySem PySem.W PySem.Calls PyProof.Rows
theorem hG {P : Params} {h : Heap} : ∀ (ns : List Int) (vs : List Value),WellAll P h vs (ns.map WData.int) -> IntsAre vs ns := by
 intro ns
 induction ns with
 | nil =>
  intro vs w
  rw [List.map_nil] at w
  cases w
  exact .nil
 | cons n ns ih =>
  intro vs w
  rw [By] at w
  cases w with
  | cons a b =>
   cases a
   exact .cons _ _ (ih _ b)
theorem qx {l : OpenLaw} {n : Nat} (hn : l.most = some n) {P : Params} {h : Heap} {args : List WData} {vals : List Value}
  (hpre : l.row.toRowW.claim.pre args = true) (hwl : WellAll P h vals args) :
  ∃ a vs ns,vals = [Value.ref a] /\ args = [WData.list (ns.map WData.int)] /\ h.get? a = some { cls := .type "list",data := .seq vs.toArray } /\ IntsAre vs ns /\ ns.length <= n := by
 have hsh : WShape.hasAll [] args [.list .int] = true := (pre_splitW hpre).1
 have hc : l.pre.holds [] { args := args } = true := (pre_splitW hpre).2
 obtain ⟨d,r,rfl,h1,h2⟩ := hasAllW_cons hsh
 obtain rfl := hasAllW_nil h2
 obtain ⟨xs,rfl,h3⟩ := hasW_list h1
 obtain ⟨ns,rfl⟩ := items_int h3
 have hlen : ns.length <= n := by
  unfold OpenLaw.pre at hc
  have h4 : (WTm.not (.lt (.lit (.int (n : Int))) (.len (.arg 0)))).holds [] { args := [.list (ns.map .int)] } = true := by
   have h4 := (holds_andW hc).1
   rw [hn] at h4
   exact h4
  have h5 := condW_of h4 (w_not (w_lt w_lit (w_len_list (w_arg rfl))))
  rw [B2] at h5
  refine Nat.le_of_not_lt fun q => ?_
  have q' : (n : Int) < ((ns.length : Nat) : Int) := by omega
  first
   | (rw [decide_eq_true q'] at h5; exact absurd h5 (by decide))
   | (simp at h5; omega)
 cases hwl with
 | cons w1 w2 =>
  cases w2
  cases w1 with
  | list ho hall => exact ⟨_,_,ns,rfl,rfl,ho,hG ns _ hall,hlen⟩
theorem qy (l : OpenLaw) (args : List WData) : l.row.toRowW.claim.post args (.bool true) args = true :=
 postW_of (r := l.row.toRowW) (X := (true == true))
  (show WShape.has [] (.bool true) .bool = true by first | rfl | decide | simp [WShape.has,WShape.arms,WShape.armsAll])
  (show (WTm.eq .res (.lit (.bool true))).value [] { args := args,res := some (.bool true),after := args } = some (.bool (true == true)) from w_eq_bool (w_res rfl) w_lit) rfl
theorem ma {l : OpenLaw} {n : Nat} {q : Program} {loose : List Str} {XP : (Str -> Option Value) -> Heap -> Prop} {YP : World -> Heap -> Prop} {d : DefRec}
  (hn : l.most = some n) (hdf : d.params.defaults = [])
  (call : ∀ (w : World) (s₀ s₁ : Shared) (mg mb : Str -> Option Value) (fa : Addr) (o : Obj) (pm cd doc : Value) (a : Addr) (vs : List Value) (ns : List Int),
   Ground q loose [] XP w s₀ mg mb s₁.heap -> YP w s₁.heap ->
   s₁.heap.get? fa = some o -> o.data = .func (docDef d.name d.params d.body d.scope pm cd doc) -> s₁.heap.CodeRec cd d.name -> mg d.name = some (.ref fa) ->
   s₁.heap.get? a = some { cls := .type "list",data := .seq vs.toArray } -> IntsAre vs ns -> ns.length <= n -> s₁.gens = #[] ->
   codeAny (model l.prog w) callerA (.call (.ref fa) ⟨[.ref a],[]⟩) (fun r s' => r = .ok (.ret (.bool true)) /\ OldK s₁.heap s'.heap /\ s'.os = s₁.os /\ AllBare s'.gens) s₁) :
  WalkO q loose XP YP l.row.toRowW d [] (fun f vs => PySem.call f vs) := by
 intro w s₀ s₁ mg mb G Y fa o pm cd doc dV kV ho hd hcd hD hmg hg args vals as hpre hlay hrd hwl hlo
 obtain rfl : dV = .none := Dflts.none hD hdf
 obtain rfl : kV = .none := Dflts.noKw hD
 obtain ⟨a,vs,ns,rfl,rfl,hobj,hints,hlen⟩ := qx hn hpre hwl
 refine enter_call (codeAny_mono (call w s₀ s₁ mg mb fa o pm cd doc a vs ns G Y ho (fd_plain hd) hcd hmg hobj hints hlen hg) fun r s' hq => ?_)
 obtain ⟨rfl,h2,h3,h4⟩ := hq
 exact ⟨.inl ⟨.bool true,.bool true,[],rfl,fun _ => rfl,.bool true,qy l _,fun _ => ⟨List.Pairwise.nil,fun _ hm => (nomatch hm)⟩⟩,h2,h3,h4⟩
section
variable {prog : Program} {w : World} {A : Around} {E : Value -> Shared -> Prop} {s : Shared} {K : Frag}
end
end Att
namespace L2
open PySem PySem.Spec PyProof.Rows
theorem jF : ∀ {vs : List Value} {ns : List Int},IntsAre vs ns -> aN (ns.map V.int) vs
 | _,_,.nil => .nil
 | _,_,.cons n t h => .cons ⟨t,rfl⟩ (jF h)
def wK (H : Hp) : Prop := ∀ b,H b = none ∨ ∃ o xs,H b = some (.frz o (.lst xs))
theorem sd {P : Program} {w : World} {K : B1} {mg mb : Str -> Option Value} {CX : pe} {k : Nat} {fa a : Addr} {fd : FuncData} {x : Str} {sp : Sp} {s₁ : Shared} {vs : List Value} {ns : List Int}
  (KX : K.In s₁.heap) (hns : s₁.heap.Ns mainGlobals mg) (hb : s₁.heap.Ns builtinsNs mb) (hbb : ∀ x : Str,x ≠ "__name__" -> mb x = bootBuiltins x) (hlim : s₁.heap.NoLimit) (hg : s₁.gens = #[])
  (ha : s₁.heap.get? a = some { cls := .type "list",data := .seq vs.toArray }) (hi : IntsAre vs ns) (hl : ns.length <= sizeLine) (hr : bA k callerA)
  (F : ∀ base : Heap,K.In base -> base.Ns mainGlobals mg -> aZ P w K mg base CX k fa fd [x] sp) (hbind : ∀ (s : Shared) (u : Value),BindsTo s fd ⟨[u],[]⟩ [(x,u)])
  (hsp : ∀ H : Hp,wK H -> bv K H a (ns.map V.int) -> sp [.ref a] H (fun v _ => v = .bl true) fun _ _ _ => False)
  (hCX : ∀ H e s',CX [] H s₁ (fun _ _ _ => False) e s' -> False) :
  codeAny (model P w) callerA (.call (.ref fa) ⟨[.ref a],[]⟩) (fun r s' => r = .ok (.ret (.bool true)) /\ OldK s₁.heap s'.heap /\ s'.os = s₁.os /\ AllBare s'.gens) s₁ := by
 have rv := jF hi
 have lenV := hi.length
 have core : ∀ H : Hp,wK H -> bv K H a (ns.map V.int) -> dv P w H s₁.heap -> (∀ b,H b ≠ none -> b = a) -> (H a ≠ none -> K.lookup a = none) ->
   codeAny (model P w) callerA (.call (.ref fa) ⟨[.ref a],[]⟩) (fun r s' => r = .ok (.ret (.bool true)) /\ OldK s₁.heap s'.heap /\ s'.os = s₁.os /\ AllBare s'.gens) s₁ := by
  intro H hO hS hok hA hK
  have base_of : ∀ {b : Addr} {o : Obj},s₁.heap.get? b = some o -> H b = none -> (j0 s₁.heap H).get? b = some o := fun e n => rM e n
  have noA : ∀ {b : Addr} {o : Obj} {es : Array DictEntry} {ep : Nat},s₁.heap.get? b = some o -> o.data = .dict es ep -> H b = none := fun {b o es ep} e d => by
   cases q : H b with
   | none => rfl
   | some u =>
    have e' : b = a := hA b (by rw [q]; simp)
    subst e'
    rw [ha] at e; cases e
    have d' : Data.seq vs.toArray _ = Data.dict es ep := d
    cases d'
  have nsK : ∀ {b : Addr} {m : Str -> Option Value},s₁.heap.Ns b m -> (j0 s₁.heap H).Ns b m := fun {b m} ⟨o,es,ep,e,d,r⟩ => ⟨o,es,ep,base_of e (noA e d),d,r⟩
  have hKb : K.In (j0 s₁.heap H) := fun b o e => base_of (KX b o e) (by
   cases q : H b with
   | none => rfl
   | some u =>
    have e' : b = a := hA b (by rw [q]; simp)
    subst e'
    rw [hK (by rw [q]; simp)] at e; cases e)
  have hM : Mod K mg (j0 s₁.heap H) := ⟨hKb,nsK hns,⟨mb,nsK hb,hbb⟩,let ⟨mc,h1,h2⟩ := hlim; ⟨mc,nsK h1,h2⟩⟩
  have e0 : jj P w K mg (j0 s₁.heap H) callerA [] s₁ H := ⟨rfl,hM,fun b o e => ug e,Nat.le_of_eq (qi _ _),trivial,fun b hb => absurd (show b ∈ ([] : List Addr) from hb) (by simp),hok,.of_eq hg⟩
  refine codeAny_mono ((F _ hKb (nsK hns)).run callerA [] s₁ H ⟨[.ref a],[]⟩ [.ref a] [.ref a] _ _ hr e0 (hbind s₁ (.ref a)) (.cons rfl .nil) (hsp H hO hS)) fun r s' h => ?_
  cases r with
  | error e => exact (hCX H e s' h).elim
  | ok fl =>
   cases fl with
   | next => exact False.elim h
   | brk => exact False.elim h
   | cont => exact False.elim h
   | ret u =>
    obtain ⟨v,H',os,bare,un,hok',r',q⟩ := h
    have q' : v = .bl true := q
    subst q'
    obtain rfl : u = Value.bool true := r'
    refine ⟨rfl,OldK.of_keep fun b o e => ?_,os,bare⟩
    cases q : H b with
    | none => exact un.keep b o e q (by intro z; exact absurd (show b ∈ ([] : List Addr) from z) (by simp)) (by simp)
    | some u =>
     rcases hO b with z | ⟨ob,xs,z⟩
     ·rw [q] at z; cases z
     ·have z2 := un.frzs b ob _ z
      obtain ⟨e1,_⟩ := hok b _ z
      obtain ⟨e2,_⟩ := hok' b _ z2
      rw [e] at e1; cases e1
      exact e2
 cases hk : K.lookup a with
 | some o =>
  have e := KX a o hk
  rw [ha] at e
  cases e
  refine core (fun _ => none) (fun _ => .inl rfl) (.inr ⟨_,vs.toArray,_,hk,rfl,rfl,rfl,by rw [BL,lenV]; exact hl,by simpa using rv⟩) (fun b u z => by have z' : (none : Option HO) = some u := z; cases z') (fun b z => absurd rfl z) fun z => absurd rfl z
 | none =>
  refine core (fun b => if b = a then some (.frz { cls := .type "list",data := .seq vs.toArray } (.lst (ns.map V.int))) else none) (fun b => ?_) (.inl (.inr ⟨{ cls := .type "list",data := .seq vs.toArray },if_pos rfl⟩)) (fun b u z => ?_) (fun b z => ?_) fun _ => hk
  ·by_cases hb : b = a
   ·exact .inr ⟨_,_,if_pos hb⟩
   ·exact .inl (if_neg hb)
  ·by_cases hb : b = a
   ·have z' := (if_pos hb).symm.trans z
    cases z'
    subst hb
    exact ⟨ha,by rw [B2]; exact hl,vs,_,rv,ha⟩
   ·have z' := (if_neg hb).symm.trans z
    cases z'
  ·by_cases hb : b = a
   ·exact hb
   ·exact absurd (if_neg hb) z
theorem uz {l : PySem.W.OpenLaw} {n k : Nat} {q : Program} {loose : List Str} {XP : (Str -> Option Value) -> Heap -> Prop} {YP : World -> Heap -> Prop} {d : DefRec} {K : Params -> B1} {CX : World -> pe} {sp : World -> Sp} {x : Str}
  (hn : l.most = some n) (hn2 : n <= sizeLine) (hdf : d.params.defaults = []) (hr : bA k callerA)
  (hY : ∀ (w : World) (h : Heap),YP w h -> (K w.params).In h)
  (F : ∀ (w : World) (mg : Str -> Option Value) (fa : Addr) (h : Heap),(K w.params).In h -> h.Ns mainGlobals mg -> mg d.name = some (.ref fa) ->
   ∃ fd : FuncData,(∀ (s : Shared) (u : Value),BindsTo s fd ⟨[u],[]⟩ [(x,u)]) /\
    ∀ base : Heap,(K w.params).In base -> base.Ns mainGlobals mg -> aZ l.prog w (K w.params) mg base (CX w) k fa fd [x] (sp w))
  (hsp : ∀ (w : World) (H : Hp) (a : Addr) (ns : List Int),ns.length <= n -> wK H -> bv (K w.params) H a (ns.map V.int) -> sp w [.ref a] H (fun v _ => v = .bl true) fun _ _ _ => False)
  (hCX : ∀ (w : World) (H : Hp) (s : Shared) (e : Value) (s' : Shared),CX w [] H s (fun _ _ _ => False) e s' -> False) :
  PySem.W.WalkO q loose XP YP l.row.toRowW d [] (fun f vs => PySem.call f vs) := by
 refine Att.ma hn hdf fun w s₀ s₁ mg mb fa o pm cd doc a vs ns G Y ho hd hcd hmg hobj hints hlen hg => ?_
 have KX := hY w _ Y
 obtain ⟨fd,hb,hF⟩ := F w mg fa _ KX G.T.g hmg
 exact sd KX G.T.g G.T.b G.T.builtins G.T.nolimit hg hobj hints (BZ hlen hn2) hr hF hb (fun H hO hS => hsp w H a ns hlen hO hS) fun H e s' => hCX w H s₁ e s'
def cV (s : Stmt) : Arguments := match s with
 | .FunctionDef _ a _ _ _ _ _ _ _ _ => a
 | _ => { posonlyargs := [],args := [],vararg := none,kwonlyargs := [],kw_defaults := [],kwarg := none,defaults := [] }
def bN (s : Stmt) : List Stmt := match s with
 | .FunctionDef _ _ b _ _ _ _ _ _ _ => b
 | _ => []
def ap (s : Stmt) : Scope := match s with
 | .FunctionDef _ _ _ _ _ _ sc _ _ _ => sc
 | _ => { kind := .function,names := [],isGenerator := false,isCoroutine := false }
abbrev bg : pe := fun _ _ _ _ _ _ => False
abbrev E0 : XK := fun _ _ _ => False
theorem me {X : Cx} : iz bg X E0 := fun _ _ _ _ _ _ _ h => h.elim
section
variable {P : Program} {w : World} {K : B1} {mg : Str -> Option Value} {base : Heap}
end
theorem cu {A : Around} {k : Nat} (hr : bA k A) : A.units + 1 < cLine := Nat.lt_of_le_of_lt (Nat.add_le_add_left (by decide : 1 <= 64) _) hr.units
section
variable {X : Cx}
theorem pv (i : Nat) {x : Str} {pos : Pos} (hN : X.N[i]? = some x := by rfl) (hv : xM X.env.scope x := by first | exact Or.inl rfl | exact Or.inr (Or.inl rfl) | exact Or.inr (Or.inr rfl)) (hd : (x == ("__debug__" : Str)) = false := by decide)
  (hcd : (x == ("__classdict__" : Str)) = false := by decide) : PE X (.Name x pos) (uh i) := wj hN hv hd hcd
end
theorem bX {A B : Prop} (h : B) : if false = true then A else B := by
 rw [if_neg BE]
 exact h
theorem bI {A B : Prop} (h : A) : if true = true then A else B := by
 rw [if_pos rfl]
 exact h
def aB (H H' : Hp) : Prop := ∀ b o,H b = some o -> H' b = some o
theorem aB.refl (H : Hp) : aB H H := fun _ _ h => h
theorem aB.trans {H H1 H2 : Hp} (a : aB H H1) (b : aB H1 H2) : aB H H2 := fun c o h => b c o (a c o h)
theorem aB.free {H H' : Hp} (e : aB H H') {l : Addr} (h : H' l = Option.none) : H l = Option.none := by
 cases q : H l with
 | none => rfl
 | some o =>
  rw [e l o q] at h
  cases h
theorem aB.seq {K : B1} {H H' : Hp} {a : Addr} {xs : List V} (e : aB H H') (h : bv K H a xs) : bv K H' a xs := by
 rcases h with (h | ⟨o,h⟩) | h
 ·exact .inl (.inl (e _ _ h))
 ·exact .inl (.inr ⟨o,e _ _ h⟩)
 ·exact .inr h
section
variable {X : Cx}
theorem c9 : eU X (binaryOp .Mult) (rI (fun i j => IntMulOk i j) fun i j => .int (i * j)) := zS fun _ _ _ _ _ _ _ hc q => mul_int q hc
theorem bc : eU X (binaryOp .FloorDiv) (rI (fun i j => j ≠ 0 /\ Builtin.divisionGoesByPylong i j = false) fun i j => .int (i.fdiv j)) := zS fun _ _ _ _ _ _ _ hc q => floordiv_int hc.1 q (.inl hc.2)
theorem hW : eU X (binaryOp .Pow) (rI (fun i j => 0 <= j /\ (Builtin.Int.intBits i : Int) * j <= 2 ^ 27) fun i j => .int (i ^ j.toNat)) := zS fun _ _ _ _ _ _ _ hc q => pow_int hc.1 hc.2 q
theorem mf : cr X (.builtin "isinstance") (fun xs H Q => ∃ i,xs = [.int i,.ty "int"] /\ Q (.bl true) H) := by
 intro pins s σ H xs us Q I r h
 obtain ⟨i,rfl,q⟩ := h
 obtain ⟨u,w',rfl,⟨t,rfl⟩,e2⟩ := vals2 r
 cases e2
 exact PySem.call_isinstance (PySem.isinstance_true (Tx := "int") PySem.F.isi_meta_int PySem.F.isi_self_int) ⟨rfl,⟨.bl true,H,I,rfl,q⟩⟩
theorem kr : cr X (.builtin "isinstance") (fun xs H Q => ∃ i,xs = [.int i,.ty "bool"] /\ Q (.bl false) H) := by
 intro pins s σ H xs us Q I r h
 obtain ⟨i,rfl,q⟩ := h
 obtain ⟨u,w',rfl,⟨t,rfl⟩,e2⟩ := vals2 r
 cases e2
 exact PySem.call_isinstance (PySem.isinstance_false_int (T := "bool") (by decide) PySem.F.isi_meta_bool PySem.F.sub_int_bool) ⟨.bl false,H,I.tok _,rfl,q⟩
theorem mh : cr X (.builtin "isinstance") (fun xs H Q => ∃ i,xs = [.bl i,.ty "bool"] /\ Q (.bl true) H) := by
 intro pins s σ H xs us Q I r h
 obtain ⟨i,rfl,q⟩ := h
 obtain ⟨u,w',rfl,e1,e2⟩ := vals2 r
 cases e1
 cases e2
 exact PySem.call_isinstance (PySem.isinstance_true (Tx := "bool") PySem.F.isi_meta_bool PySem.F.isi_self_bool) ⟨rfl,⟨.bl true,H,I,rfl,q⟩⟩
theorem mi : cr X (.builtin "isinstance") (fun xs H Q => ∃ a ys,xs = [.ref a,.ty "tuple"] /\ cR X.K H a ys /\ Q (.bl true) H) := by
 intro pins s σ H xs us Q I r h
 obtain ⟨a,ys,rfl,hs,q⟩ := h
 obtain ⟨u,w',rfl,e1,e2⟩ := vals2 r
 cases e1
 cases e2
 obtain ⟨its,_,p1,_⟩ := I.tuple hs
 exact PySem.call_isinstance (PySem.isinstance_true (Tx := "tuple") PySem.F.isi_meta_tuple PySem.F.isi_self_tuple) ⟨p1.typeIs,⟨.bl true,H,I,rfl,q⟩⟩
end
end L2
namespace Sw
open PySem
def Bd (n : Nat) (x : Int) : Prop := x.natAbs < 2 ^ n
theorem Bd.mono {m n : Nat} {x : Int} (h : Bd m x) (e : m <= n) : Bd n x := BO h (Nat.pow_le_pow_right (by decide) e)
theorem Bd.of_le {n : Nat} {x y : Int} (h : Bd n y) (e : x.natAbs <= y.natAbs) : Bd n x := Nat.lt_of_le_of_lt e h
theorem Bd.mul {m n : Nat} {x y : Int} (h : Bd m x) (g : Bd n y) : Bd (m + n) (x * y) := by
 unfold Bd at *
 rw [Int.natAbs_mul,Nat.pow_add]
 exact Nat.mul_lt_mul_of_lt_of_le h (Nat.le_of_lt g) (Nat.lt_of_le_of_lt (BY _) g)
theorem Bd.add {k : Nat} {x y : Int} (h : Bd k x) (g : Bd k y) : Bd (k + 1) (x + y) := by
 unfold Bd at *
 rw [Nat.pow_succ]
 generalize 2 ^ k = p at h g ⊢
 omega
theorem Bd.ok {m n : Nat} {x y : Int} (h : Bd m x) (g : Bd n y) (e : m + n <= 134217728 := by decide) : IntMulOk x y :=
 IntMulOk.of_le (intBits_le_iff.mpr h) (intBits_le_iff.mpr g) e
theorem Bd.div {n : Nat} {x y : Int} (h : Bd n y) (y0 : y ≠ 0) (e : n <= 9000 := by decide) : Builtin.divisionGoesByPylong x y = false := by
 refine PyProof.noPylong_of_log2 ((Nat.log2_lt (by omega)).mpr ?_)
 exact BO h (Nat.pow_le_pow_right (by decide) e)
theorem Bd.one : Bd 1 1 := by unfold Bd; decide
def bD (a b : Int) : Int := ((Int.gcd a b : Nat) : Int)
theorem uA (a b : Int) : 0 <= bD a b := Int.natCast_nonneg _
theorem nD (a b : Int) : bD (-a) b = bD a b := by unfold bD; rw [Int.neg_gcd]
theorem nE (a b : Int) : bD a (-b) = bD a b := by unfold bD; rw [Int.gcd_neg]
theorem jG {g l : Int} (hl : 0 < l) : bD l (g.fmod l) = bD g l := by
 unfold bD
 have e : g.fmod l = g - (g.fdiv l) * l := by rw [Int.fmod_def,Int.mul_comm]
 rw [e,Int.gcd_comm l,Int.gcd_sub_mul_right_left]
def se (i : Int) : Int := if i < 0 then -i else i
theorem pj (i : Int) : 0 <= se i := by unfold se; split <;> omega
theorem sg (a b : Int) : bD (se a) (se b) = bD a b := by
 unfold se
 split <;> split <;> simp only [nD,nE]
theorem jH {g : Int} (h : 0 <= g) : bD g 0 = g := by
 unfold bD; rw [Int.gcd_zero_right]; omega
theorem fR {a b : Int} (h : bD a b = 0) : a = 0 /\ b = 0 := by
 unfold bD at h
 exact Int.gcd_eq_zero_iff.mp (by omega)
theorem iF (a b : Int) : bD a b ∣ a := Int.gcd_dvd_left ..
theorem fj (a b : Int) : bD a b ∣ b := Int.gcd_dvd_right ..
structure Fr (p q a b : Int) : Prop where
 pos : 0 < q
 low : bD p q = 1
 same : p * b = a * q
 bt : p.natAbs <= a.natAbs
 bb : q.natAbs <= b.natAbs
structure si (p q : Int) : Prop where
 pos : 0 < q
 low : bD p q = 1
theorem Fr.to {p q a b : Int} (h : Fr p q a b) : si p q := ⟨h.pos,h.low⟩
theorem gQ {p q k : Int} (h : bD p q = 1) (d : q ∣ p * k) : q ∣ k := by
 have c : Int.gcd q p = 1 := by unfold bD at h; rw [Int.gcd_comm]; omega
 have d' : q.natAbs ∣ p.natAbs * k.natAbs := by rw [<- Int.natAbs_mul]; exact Int.natAbs_dvd_natAbs.mpr d
 exact Int.natAbs_dvd_natAbs.mp (Nat.Coprime.dvd_of_dvd_mul_left (show Nat.Coprime q.natAbs p.natAbs from c) d')
theorem nG {p q p' q' : Int} (h : si p q) (h' : si p' q') (e : p * q' = p' * q) : p = p' /\ q = q' := by
 have d1 : q ∣ q' := gQ h.low (by rw [e]; exact Int.dvd_mul_left ..)
 have d2 : q' ∣ q := gQ h'.low (by rw [<- e]; exact Int.dvd_mul_left ..)
 have eq : q = q' := by
  have n1 := Int.le_of_dvd h'.pos d1
  have n2 := Int.le_of_dvd h.pos d2
  omega
 subst eq
 exact ⟨Int.eq_of_mul_eq_mul_right (by have := h.pos; omega) e,rfl⟩
def jh (a b : Int) : Int := if b < 0 then -bD a b else bD a b
theorem nH {a b : Int} (h : b ≠ 0) : jh a b ≠ 0 := by
 have g : bD a b ≠ 0 := fun z => h (fR z).2
 unfold jh; split <;> omega
theorem v3 {a b : Int} (h : b ≠ 0) : Fr (a.fdiv (jh a b)) (b.fdiv (jh a b)) a b := by
 have g : bD a b ≠ 0 := fun z => h (fR z).2
 have p : 0 < bD a b := by have := uA a b; omega
 have c0 := nH (a := a) h
 have da : jh a b ∣ a := by
  unfold jh; split
  ·exact Int.neg_dvd.mpr (iF a b)
  ·exact iF a b
 have db : jh a b ∣ b := by
  unfold jh; split
  ·exact Int.neg_dvd.mpr (fj a b)
  ·exact fj a b
 obtain ⟨x,hx⟩ := da
 obtain ⟨y,hy⟩ := db
 have ex : a.fdiv (jh a b) = x := by
  conv => lhs; arg 1; rw [hx]
  exact Int.mul_fdiv_cancel_left x c0
 have ey : b.fdiv (jh a b) = y := by
  conv => lhs; arg 1; rw [hy]
  exact Int.mul_fdiv_cancel_left y c0
 rw [ex,ey]
 have yp : 0 < y := by
  have e := hy
  unfold jh at e
  rcases (by omega : y < 0 ∨ y = 0 ∨ 0 < y) with q | q | q
  ·exfalso
   split at e
   ·rename_i hb
    have := Int.mul_neg_of_pos_of_neg p q
    rw [Int.neg_mul] at e
    omega
   ·have := Int.mul_neg_of_pos_of_neg p q
    omega
  ·rw [q] at hy; omega
  ·exact q
 have lowx : bD x y = 1 := by
  have m : bD (jh a b * x) (jh a b * y) = bD a b * bD x y := by
   show ((Int.gcd _ _ : Nat) : Int) = _ * ((Int.gcd x y : Nat) : Int)
   rw [Int.gcd_mul_left,Int.natCast_mul]
   congr 1
   unfold jh; split <;> omega
  rw [<- hx,<- hy] at m
  exact Int.eq_one_of_mul_eq_self_right g m.symm
 refine ⟨yp,lowx,?_,?_,?_⟩
 ·conv => lhs; rw [hy]
  conv => rhs; rw [hx]
  rw [<- Int.mul_assoc,Int.mul_comm x]
 ·have : a.natAbs = (jh a b).natAbs * x.natAbs := by conv => lhs; rw [hx]; rw [Int.natAbs_mul]
  rw [this]
  exact Nat.le_mul_of_pos_left _ (by omega)
 ·have : b.natAbs = (jh a b).natAbs * y.natAbs := by conv => lhs; rw [hy]; rw [Int.natAbs_mul]
  rw [this]
  exact Nat.le_mul_of_pos_left _ (by omega)
end Sw
namespace L2
open PySem
inductive yj (K : B1) (H : Hp) : V -> String -> Bool -> Prop where
 | ii (i : Int) : yj K H (.int i) "int" true
 | ib (i : Int) : yj K H (.int i) "bool" false
 | bb (b : Bool) : yj K H (.bl b) "bool" true
 | tt (a : Addr) (ys : List V) (h : cR K H a ys) : yj K H (.ref a) "tuple" true
theorem mj {X : Cx} : cr X (.builtin "isinstance") (fun xs H Q => ∃ x T b,xs = [x,.ty T] /\ yj X.K H x T b /\ Q (.bl b) H) := by
 intro pins s σ H xs us Q I r h
 obtain ⟨x,T,b,rfl,i,q⟩ := h
 cases i with
 | ii i => exact mf pins s σ H _ us Q I r ⟨i,rfl,q⟩
 | ib i => exact kr pins s σ H _ us Q I r ⟨i,rfl,q⟩
 | bb i => exact mh pins s σ H _ us Q I r ⟨i,rfl,q⟩
 | tt a ys h => exact mi pins s σ H _ us Q I r ⟨a,ys,rfl,h,q⟩
end L2
namespace Sw
open PySem L2
theorem dT {p A B : Prop} [Decidable p] (h : p) (a : A) : if decide p = true then A else B := by rw [if_pos (decide_eq_true h)]; exact a
theorem dF {p A B : Prop} [Decidable p] (h : ¬ p) (b : B) : if decide p = true then A else B := by rw [if_neg (by simp [h])]; exact b
theorem d2 {p A B : Prop} [Decidable p] (h1 : p -> A) (h2 : ¬ p -> B) : if decide p = true then A else B := by
 by_cases h : p
 ·exact dT h (h1 h)
 ·exact dF h (h2 h)
theorem nT {p A B : Prop} [Decidable p] (h : ¬ p) (a : A) : if (!decide p) = true then A else B := by rw [if_pos (by simp [h])]; exact a
theorem nF {p A B : Prop} [Decidable p] (h : p) (b : B) : if (!decide p) = true then A else B := by rw [if_neg (by simp [h])]; exact b
theorem vi {a b : Int} (h : a = b) : V.int a = V.int b := by rw [h]
theorem vj {a b : Int} (h : V.int a = V.int b) : a = b := by cases h; rfl
theorem xJ {a b : Int} {A B : Prop} (h1 : a = b -> A) (h2 : a ≠ b -> B) : if decide (V.int a = V.int b) = true then A else B := d2 (fun h => h1 (vj h)) fun h => h2 fun e => h (vi e)
theorem Bh {a b : Int} {A B : Prop} (h1 : a ≠ b -> A) (h2 : a = b -> B) : if (!decide (V.int a = V.int b)) = true then A else B := by
 by_cases h : a = b
 ·exact nF (vi h) (h2 h)
 ·exact nT (fun e => h (vj e)) (h1 h)
theorem Bs {a b : Int} {A B : Prop} (h : a ≠ b) (x : A) : if (!decide (V.int a = V.int b)) = true then A else B := nT (fun e => h (vj e)) x
theorem AA {a b : Int} {A B : Prop} (h : a = b) (x : B) : if (!decide (V.int a = V.int b)) = true then A else B := nF (vi h) x
section
variable {X : Cx} {k j : Nat} {x : Str} {ps : List Str} {sp : Sp} {p pos : Pos} {e : Expr} {es : List Expr} {t : TA}
end
def pk : Sp := fun vs H Q _ => ∃ a b : Int,vs = [.int a,.int b] /\ Q (.int (bD a b)) H
def nJ (K : B1) : Sp := fun vs H Q _ => ∃ (a : Addr) (ns : List Int) (k : Int),vs = [.ref a,.int k] /\ bv K H a (ns.map V.int) /\ 0 <= k /\ ∀ v : Int,Q (.int v) H
def ku : Sp := fun vs H Q _ => ∃ v : Int,vs = [.int v] /\ Q (.bl true) H
def pq (K : B1) : Sp := fun vs H Q _ => ∃ (a : Addr) (ns : List Int),vs = [.ref a] /\ bv K H a (ns.map V.int) /\ ns.length <= 63 /\ ∀ H',Q (.bl true) H'
theorem uB {ns : List Int} {k : Int} (h0 : 0 <= k) (h : k < (((ns.map V.int).length : Nat) : Int)) : ∃ v : Int,gN (ns.map V.int) k = some (.int v) := by
 rw [B2] at h
 have hk : k.toNat < ns.length := by omega
 have ek : k = ((k.toNat : Nat) : Int) := by omega
 have q : gN (ns.map V.int) ((k.toNat : Nat) : Int) = some (.int ns[k.toNat]) := c8 (by rw [BM,BG hk] <;> rfl)
 rw [<- ek] at q
 exact ⟨_,q⟩
theorem cut {t u : TS} {D : Ends} {σ : L2.St} {H : Hp} (I : L2.St -> Hp -> Prop) (h1 : ∀ N : L2.St -> Hp -> Prop,(∀ σ H,I σ H -> N σ H) -> t { D with nx := N } σ H) (h2 : ∀ σ H,I σ H -> u D σ H) : xP t u D σ H := h1 _ h2
theorem yk {K : B1} {H H' : Hp} {a : Addr} {xs : List V} (e : aB H H') (h : cR K H a xs) : cR K H' a xs := by
 rcases h with (h | ⟨o,h⟩) | h
 ·exact .inl (.inl (e _ _ h))
 ·exact .inl (.inr ⟨o,e _ _ h⟩)
 ·exact .inr h
theorem ae {H : Hp} {p : Addr} (h : H p = none) (o : HO) : aB H (aq H p o) := fun b u q => by rw [aj (aQ q h)]; exact q
theorem uC {a b : Int} (h : 0 < b) : jh a b = bD a b := by unfold jh; rw [if_neg (by omega)]
theorem sj {n : Nat} {a b : Int} (b0 : b ≠ 0) (h : Bd n b) : Bd n (jh a b) := by
 have d : bD a b ∣ b := fj a b
 have k := Nat.le_of_dvd (by omega) (Int.natAbs_dvd_natAbs.mpr d)
 refine h.of_le ?_
 unfold jh
 split <;> omega
def Pair (H : Hp) (Q : VK) (p q : Int) : Prop := ∀ (t : Addr) (H' : Hp),aB H H' -> H' t = some (.tup [.int p,.int q]) -> Q (.ref t) H'
def uD : Sp := fun vs H Q _ => ∃ a b : Int,vs = [.int a,.int b] /\ b ≠ 0 /\ Bd 8500 b /\ ∀ p q : Int,Fr p q a b -> Pair H Q p q
structure fc (K : B1) (n : Nat) (H : Hp) (t : Addr) (p q : Int) : Prop where
 at_ : cR K H t [.int p,.int q]
 pos : 0 < q
 bp : Bd n p
 bq : Bd n q
theorem fc.same {K : B1} {n : Nat} {H H' : Hp} {t : Addr} {p q : Int} (h : fc K n H t p q) (e : aB H H') : fc K n H' t p q := ⟨yk e h.at_,h.pos,h.bp,h.bq⟩
theorem fc.mono {K : B1} {m n : Nat} {H : Hp} {t : Addr} {p q : Int} (h : fc K m H t p q) (e : m <= n) : fc K n H t p q := ⟨h.at_,h.pos,h.bp.mono e,h.bq.mono e⟩
structure bz (K : B1) (x qual : Str) (st : Stmt) (dV : Value) (f : Addr) (fd : FuncData) : Prop where
 ex : ∃ (oc : Value) (od : Option Addr) (kV doc pm : Value) (an : Option Addr) (cdv ct : Value) (osl : Array (Option Value)),
  fd = C9 x qual (cV st) (bN st) (ap st) dV kV doc pm an cdv ct /\ K.lookup f = some ⟨oc,od,.func fd,osl⟩ /\ Ca K cdv qual = true
 kp : C7 K (.ref f) = true
section
variable {P : Program} {w : World} {K : B1} {mg : Str -> Option Value} {base : Heap}
theorem bz.ok {x qual : Str} {st : Stmt} {dV : Value} {f : Addr} {fd : FuncData} {N ps : List Str} {k : Nat} {sp : Sp} (F : bz K x qual st dV f fd) (S : ax N ps (ap st)) (len : ∀ vs H Q E,sp vs H Q E -> vs.length = ps.length)
  (hbody : ∀ (cdv : Value) (A : Around) (outer : List Env) (s : Shared) (H : Hp) (vs : List V) (Q : VK) (E : XK),bA k (A.deeper (PyProof.Rows.envOfC qual (ap st) s.heap.objs.size f cdv)) -> sp vs H Q E ->
   ∃ t,gZ (gi bg P w K mg base N qual (ap st) f cdv A outer s H E).nox (bN st) t /\ t { nx := fun _ H' => Q .non H',rt := Q } (start N vs) H) : aZ P w K mg base bg (k + 1) f fd ps sp := by
 obtain ⟨oc,od,kV,doc,pm,an,cdv,ct,osl,rfl,lk,hcd⟩ := F.ex
 refine vX lk hcd S len fun A outer s H vs Q E hr hsp => ?_
 obtain ⟨t,h,q⟩ := hbody cdv A outer s H vs Q E hr hsp
 exact ⟨t,h.nox,q⟩
theorem bz.binds {x qual : Str} {st : Stmt} {T : Addr} {f : Addr} {fd : FuncData} {ps : List Str} {o : Obj} {items : Array Value} {n : Nat} {ds : List Value} (F : bz K x qual st (.ref T) f fd) (ho : K.lookup T = some o) (hs : o.data = .seq items n)
  (h : ∀ (kV doc pm : Value) (an : Option Addr) (cdv ct : Value) (us : List Value),(us ++ ds).length = ps.length -> ∃ k : Option (Array Value) -> Sem (List (Str × Value)),bindArgs (C9 x qual (cV st) (bN st) (ap st) (.ref T) kV doc pm an cdv ct) ⟨us,[]⟩ = seqItems? (.ref T) >>= k /\ k (some items) = pure (ps.zip (us ++ ds))) : Binds K fd ps ds := by
 obtain ⟨oc,od,kV,doc,pm,an,cdv,ct,osl,rfl,lk,hcd⟩ := F.ex
 intro s us KX hl
 obtain ⟨k,h1,h2⟩ := h kV doc pm an cdv ct us hl
 exact PySem.W.binds_K KX rfl ho hs h1 h2
theorem bz.binds0 {x qual : Str} {st : Stmt} {dV : Value} {f : Addr} {fd : FuncData} {ps : List Str} (F : bz K x qual st dV f fd)
  (h : ∀ (kV doc pm : Value) (an : Option Addr) (cdv ct : Value) (us : List Value),us.length = ps.length -> bindArgs (C9 x qual (cV st) (bN st) (ap st) dV kV doc pm an cdv ct) ⟨us,[]⟩ = pure (ps.zip us)) : Binds K fd ps [] := by
 obtain ⟨oc,od,kV,doc,pm,an,cdv,ct,osl,rfl,lk,hcd⟩ := F.ex
 exact .all (h kV doc pm an cdv ct)
theorem aH {x qual : Str} {st : Stmt} {f : Addr} {oc dV : Value} {od an : Option Addr} {osl : Array (Option Value)} {kV doc pm cdv ct : Value} (l : K.lookup f = some ⟨oc,od,.func (C9 x qual (cV st) (bN st) (ap st) dV kV doc pm an cdv ct),osl⟩)
  (c : Ca K cdv qual = true) (k : C7 K (.ref f) = true) : bz K x qual st dV f (C9 x qual (cV st) (bN st) (ap st) dV kV doc pm an cdv ct) := ⟨⟨oc,od,kV,doc,pm,an,cdv,ct,osl,rfl,l,c⟩,k⟩
end
section
variable {X : Cx} {k j : Nat} {x : Str} {ps : List Str} {sp : Sp} {p pos : Pos} {e : Expr} {es : List Expr} {t : TA} {dvs : List V}
end
def nK (K : B1) : Sp := fun vs H Q _ => ∃ (t t' : Addr) (p q p' q' : Int),vs = [.ref t,.ref t'] /\ fc K 4000 H t p q /\ fc K 4000 H t' p' q' /\ ∀ r s : Int,Fr r s (p * p') (q * q') -> Pair H Q r s
theorem sk {x y k : Int} (h : x * k = y * k) (k0 : k ≠ 0) : x = y := Int.eq_of_mul_eq_mul_right k0 h
theorem wL {x y : Int} (h : 0 < x) (g : 0 < y) : x * y ≠ 0 := by have := Int.mul_pos h g; omega
end Sw
namespace XH
open PySem
structure Mv (fs ch : List Addr) (h h' : Heap) : Prop where
 keep : ∀ b o,b ∉ fs -> b ∉ ch -> h.get? b = some o -> h'.get? b = some o
 slot : ∀ b o,b ∈ fs -> b ∉ ch -> h.get? b = some o -> ∃ sl,h'.get? b = some { o with slots := sl }
 there : ∀ b o,h.get? b = some o -> ∃ o',h'.get? b = some o'
theorem Mv.refl (fs ch : List Addr) (h : Heap) : Mv fs ch h h := ⟨fun _ _ _ _ q => q,fun _ o _ _ q => ⟨o.slots,q⟩,fun _ o q => ⟨o,q⟩⟩
theorem Mv.trans {fs c1 c2 ch : List Addr} {h h1 h2 : Heap} (x : Mv fs c1 h h1) (y : Mv fs c2 h1 h2) (k1 : ∀ b,b ∈ c1 -> b ∈ ch) (k2 : ∀ b,b ∈ c2 -> b ∈ ch) : Mv fs ch h h2 where
 keep := fun b o hf hc q => y.keep b o hf (fun z => hc (k2 b z)) (x.keep b o hf (fun z => hc (k1 b z)) q)
 slot := fun b o hf hc q => by
  obtain ⟨sl,q1⟩ := x.slot b o hf (fun z => hc (k1 b z)) q
  obtain ⟨sl2,q2⟩ := y.slot b _ hf (fun z => hc (k2 b z)) q1
  exact ⟨sl2,q2⟩
 there := fun b o q => by
  obtain ⟨o1,q1⟩ := x.there b o q
  exact y.there b o1 q1
inductive v4 where
 | new
 | fl (v : Value)
def v4.Is (F : Addr -> Prop) (h : Heap) (e : Addr) (vs : Array Value) : v4 -> Prop
 | .new => vs[1]? = some .none
 | .fl v => ∃ T oT ts,vs[1]? = some (.ref T) /\ F T /\ T ≠ e /\ h.get? T = some oT /\ oT.data = .fields ts /\ ts[3]? = some v
def Fz (vs : Array Value) : Prop := 1 < vs.size /\ vs[2]? = some .none
theorem Fz.set {vs : Array Value} (h : Fz vs) (v : Value) : Fz (vs.setIfInBounds 1 v) := ⟨by simpa using h.1,by rw [Array.getElem?_setIfInBounds]; simp [h.2]⟩
structure XO (F : Addr -> Prop) (h : Heap) (e : Addr) (cls : Value) (dx : Option Addr) (st : v4) : Prop where
 ex : ∃ oe vs,h.get? e = some oe /\ oe.cls = cls /\ oe.dict = dx /\ oe.data = .fields vs /\ Fz vs /\ st.Is F h e vs
 fr : F e
theorem XO.mono {F G : Addr -> Prop} {h : Heap} {e : Addr} {cls : Value} {dx : Option Addr} {st : v4} (x : XO F h e cls dx st) (k : ∀ b,F b -> G b) : XO G h e cls dx st := by
 obtain ⟨⟨oe,vs,a,b,c,d,f,g⟩,fr⟩ := x
 refine ⟨⟨oe,vs,a,b,c,d,f,?_⟩,k _ fr⟩
 cases st with
 | new => exact g
 | fl v =>
  obtain ⟨T,oT,ts,g1,g2,g3⟩ := g
  exact ⟨T,oT,ts,g1,k _ g2,g3⟩
theorem jI (o : Obj) (f : Array Value -> Array Value) : (o.mapFields f).dict = o.dict := by
 obtain ⟨c,d,dt,sl⟩ := o
 cases dt <;> rfl
section
variable {M : Model} {A : Around} {E : Value -> Shared -> Prop} {s : Shared}
theorem ml {base : Heap} {env : Env} {outer : List Env} {L e : Addr} {oe : Obj} {vs : Array Value} {head : Value} {had : Bool} {Q : Unit -> Shared -> Prop}
  (hfr : A.frames = some (env :: outer)) (hl : s.heap.FunFrames base (env :: outer)) (hf : env.frame = some L) (he : s.heap.get? e = some oe) (hd : oe.data = .fields vs) (hsz : 1 < vs.size)
  (h : ∀ h' T,Mv ((env :: outer).filterMap (·.frame)) [e] s.heap h' -> s.heap.get? T = none -> T ≠ e -> h'.get? e = some (oe.mapFields (·.setIfInBounds 1 (.ref T))) ->
   (∃ oT ts,h'.get? T = some oT /\ oT.data = .fields ts /\ ts[3]? = some (rawInt L)) -> Q () { s with heap := h' }) :
  wpAny M A (do let a <- frameOf env; let pl <- entryPlaceOf L had; let b <- EntryCells.newEntry head a .none (rawInt L) .none pl; setField (.ref e) 1 b) Q E s := by
 have hne : e ∉ (env :: outer).filterMap (·.frame) := by
  intro hm
  obtain ⟨_,o,ho,hnf⟩ := hl.mem hm
  rw [he] at ho
  cases ho
  exact hnf vs hd
 apply wpAny_bind
 apply wpAny_frameOf_fun hfr hl hf
 intro h1 hs
 apply wpAny_bind
 apply wpAny_entryPlaceOf
 intro pl hpl
 unfold EntryCells.newEntry newFields
 apply wpAny_bind
 refine wpAny_newObj_type ?_ (hpl.sizeOk5 ..)
 have e1 : h1.get? e = some oe := (hs.2.1 e hne).trans he
 generalize hob : ({ cls := .type "traceback",dict := none,data := .fields ([head,.ref L,.none,rawInt L,.none] ++ (if pl.isEmpty then List.replicate 6 Value.none else pl)).toArray } : Obj) = ob
 have e2 := Heap.get?_push_of_some (h := h1) ob e1
 refine wpAny_setField e2 hd hsz ?_
 have hTe : h1.objs.size ≠ e := Ci (Heap.lt_size e1)
 have d3 := Obj.data_mapFields hd (·.setIfInBounds 1 (Value.ref h1.objs.size))
 have e3 := Heap.get?_update_self (Obj.mapFields (·.setIfInBounds 1 (Value.ref h1.objs.size))) e2 (Obj.isFreed_of_fields d3)
 have kp : ∀ b o,b ≠ e -> h1.get? b = some o -> ((h1.push ob).update e (Obj.mapFields (·.setIfInBounds 1 (Value.ref h1.objs.size)))).get? b = some o := by
  intro b o hb q
  rw [Heap.get?_update_other _ _ (Ne.symm hb)]
  exact Heap.get?_push_of_some _ q
 have t3 : ((h1.push ob).update e (Obj.mapFields (·.setIfInBounds 1 (Value.ref h1.objs.size)))).get? h1.objs.size = some ob := by
  rw [Heap.get?_update_other _ _ (Ne.symm hTe)]
  exact Heap.get?_push_size h1 (by rw [<- hob]; rfl)
 refine h _ h1.objs.size ⟨?_,?_,?_⟩ ?_ hTe e3 ?_
 ·intro b o hb hc q
  exact kp b o (fun z => hc (by rw [z]; exact B5.mpr rfl)) ((hs.2.1 b hb).trans q)
 ·intro b o hb hc q
  obtain ⟨sl,q1⟩ := hs.2.2 b o q
  exact ⟨sl,kp b _ (fun z => hc (by rw [z]; exact B5.mpr rfl)) q1⟩
 ·intro b o q
  by_cases hb : b = e
  ·subst hb
   exact ⟨_,e3⟩
  ·obtain ⟨sl,q1⟩ := hs.2.2 b o q
   exact ⟨_,kp b _ hb q1⟩
 ·exact Heap.get?_none_of_le (by rw [hs.1]; exact B3 _)
 ·subst hob
  refine ⟨_,_,t3,rfl,?_⟩
  rcases hpl with rfl | ⟨_,_,_,_,_,_,_,rfl⟩ <;> simp
theorem qA {F : Addr -> Prop} {e : Addr} {cls v : Value} {dx fl : Option Addr} {Q : Unit -> Shared -> Prop} (x : XO F s.heap e cls dx (.fl v))
  (h : ∀ h' T,F T -> Mv [] [T] s.heap h' -> XO F h' e cls dx (.fl (fl.elim .none fun f => rawInt f)) -> Q () { s with heap := h' }) : wpAny M A (setFlight (.ref e) fl) Q E s := by
 obtain ⟨⟨oe,vs,he,hc,hdx,hd,hsz,T,oT,ts,h1,hF,hTe,hT,hdT,h3⟩,fr⟩ := x
 have z3 : 3 < ts.size := (Array.getElem?_eq_some_iff.mp h3).1
 have oth : ∀ b,b ≠ T -> (s.heap.update T (Obj.mapFields (·.setIfInBounds 3 (fl.elim Value.none fun f => rawInt f)))).get? b = s.heap.get? b := fun b hb => Heap.get?_update_other _ _ (Ne.symm hb)
 have t4 := Heap.get?_update_self (Obj.mapFields (·.setIfInBounds 3 (fl.elim Value.none fun f => rawInt f))) hT (Obj.isFreed_of_fields (Obj.data_mapFields hdT _))
 unfold setFlight
 apply wpAny_bind
 apply wpAny_field he hd h1
 rw [if_pos (by simp)]
 apply wpAny_setField hT hdT z3
 refine h _ T hF ⟨?_,fun b o hb => absurd hb (by simp),?_⟩ ⟨⟨oe,vs,(oth e (Ne.symm hTe)).trans he,hc,hdx,hd,hsz,T,_,_,h1,hF,hTe,t4,Obj.data_mapFields hdT _,by simp [z3]⟩,fr⟩
 ·intro b o _ hb q
  exact (oth b (fun z => hb (by rw [z]; exact B5.mpr rfl))).trans q
 ·intro b o q
  by_cases hb : b = T
  ·subst hb
   exact ⟨_,t4⟩
  ·exact ⟨o,(oth b hb).trans q⟩
theorem uE {F : Addr -> Prop} {base : Heap} {env : Env} {outer : List Env} {L e : Addr} {cls : Value} {dx : Option Addr} {st : v4} {Q : Unit -> Shared -> Prop}
  (hfr : A.frames = some (env :: outer)) (hl : s.heap.FunFrames base (env :: outer)) (hf : env.frame = some L) (x : XO F s.heap e cls dx st)
  (h : ∀ h' ch,(∀ b ∈ ch,F b) -> Mv ((env :: outer).filterMap (·.frame)) ch s.heap h' -> XO (fun b => F b ∨ s.heap.get? b = none) h' e cls dx (.fl (rawInt L)) -> Q () { s with heap := h' }) : wpAny M A (noteFrame (.ref e) env) Q E s := by
 obtain ⟨⟨oe,vs,he,hc,hdx,hd,hsz,hst⟩,fr⟩ := x
 unfold noteFrame
 simp only [hf]
 cases st with
 | new =>
  apply wpAny_bind
  apply wpAny_field he hd hst
  rw [if_neg (by decide)]
  refine ml hfr hl hf he hd hsz.1 fun h' T mv tn tne he' ⟨oT,ts,hT,hdT,h3⟩ => ?_
  refine h h' [e] (fun b hb => by rw [B5.mp hb]; exact fr) mv ⟨⟨_,_,he',?_,?_,Obj.data_mapFields hd _,hsz.set _,T,oT,ts,by simp [hsz.1],.inr tn,tne,hT,hdT,h3⟩,.inl fr⟩
  ·rw [Obj.cls_mapFields]; exact hc
  ·rw [jI]; exact hdx
 | fl v =>
  obtain ⟨T,oT,ts,h1,hF,hTe,hT,hdT,h3⟩ := hst
  have z3 : 3 < ts.size := (Array.getElem?_eq_some_iff.mp h3).1
  apply wpAny_bind
  apply wpAny_field he hd h1
  rw [if_pos (by simp)]
  apply wpAny_bind
  apply wpAny_field hT hdT h3
  by_cases hv : (v == rawInt L) = true
  ·rw [if_pos hv]
   have ev : v = rawInt L := beq_iff_eq.mp hv
   subst ev
   refine wpAny_pure (h s.heap [] (fun b hb => absurd hb (by simp)) (.refl ..) ⟨⟨oe,vs,he,hc,hdx,hd,hsz,T,oT,ts,h1,.inl hF,hTe,hT,hdT,h3⟩,.inl fr⟩)
  ·rw [if_neg hv]
   apply wpAny_bind
   apply wpAny_setField hT hdT z3
   have oth : ∀ b,b ≠ T -> (s.heap.update T (Obj.mapFields (·.setIfInBounds 3 Value.none))).get? b = s.heap.get? b := fun b hb => Heap.get?_update_other _ _ (Ne.symm hb)
   have t4 := Heap.get?_update_self (Obj.mapFields (·.setIfInBounds 3 Value.none)) hT (Obj.isFreed_of_fields (Obj.data_mapFields hdT _))
   have nrec : ∀ b o,s.heap.get? b = some o -> (∀ vs,o.data ≠ .fields vs) -> b ≠ T := by
    intro b o hb hn z
    rw [z,hT] at hb
    cases hb
    exact hn ts hdT
   have mv1 : Mv ((env :: outer).filterMap (·.frame)) [T] s.heap (s.heap.update T (Obj.mapFields (·.setIfInBounds 3 Value.none))) := by
    refine ⟨fun b o _ hb q => (oth b (fun z => hb (by rw [z]; exact B5.mpr rfl))).trans q,fun b o _ hb q => ⟨o.slots,(oth b (fun z => hb (by rw [z]; exact B5.mpr rfl))).trans q⟩,fun b o q => ?_⟩
    by_cases hb : b = T
    ·subst hb
     exact ⟨_,t4⟩
    ·exact ⟨o,(oth b hb).trans q⟩
   refine ml (s := { s with heap := s.heap.update T (Obj.mapFields (·.setIfInBounds 3 Value.none)) }) hfr (hl.of_keeps fun b o hb hn => ⟨o,(oth b (nrec b o hb hn)).trans hb,rfl⟩) hf ((oth e (Ne.symm hTe)).trans he) hd hsz.1 fun h' T2 mv tn tne he' ⟨oT2,ts2,hT2,hdT2,h32⟩ => ?_
   refine h h' [T,e] ?_ (mv1.trans mv (fun b hb => by simp at hb; simp [hb]) (fun b hb => by simp at hb; simp [hb])) ⟨⟨_,_,he',?_,?_,Obj.data_mapFields hd _,hsz.set _,T2,oT2,ts2,by simp [hsz.1],.inr ?_,tne,hT2,hdT2,h32⟩,.inl fr⟩
   ·intro b hb
    simp at hb
    rcases hb with rfl | rfl
    ·exact hF
    ·exact fr
   ·rw [Obj.cls_mapFields]; exact hc
   ·rw [jI]; exact hdx
   ·cases q : s.heap.get? T2 with
    | none => rfl
    | some o =>
     obtain ⟨o',q'⟩ := mv1.there T2 o q
     rw [q'] at tn
     cases tn
end
end XH
namespace L2
open PySem PySem.Spec PyProof.Rows XH
structure eF (P : Program) (w : World) (outer : List Env) (H : Hp) (s : Shared) (a : Addr) (H' : Hp) (cls : Value) (dx : Option Addr) (st : v4) (s' : Shared) : Prop where
 os : s'.os = s.os
 bare : AllBare s'.gens
 un : Un (gL outer) [] H H' s.heap s'.heap
 hok : dv P w H' s'.heap
 xo : XO (fun b => s.heap.get? b = none /\ H' b = none) s'.heap a cls dx st
def cA (P : Program) (w : World) : pe := fun outer H s E e s' => ∃ a H' cls dx st,e = .ref a /\ eF P w outer H s a H' cls dx st s' /\ E cls dx H'
section
variable {P : Program} {w : World} {H H' : Hp} {h h' h0 : Heap} {fs ch : List Addr} {a : Addr} {o : HO}
theorem aR.there (x : aR P w H h a o) : ∃ u,h.get? a = some u := by
 cases o with
 | lst xs => obtain ⟨_,_,_,_,e⟩ := x; exact ⟨_,e⟩
 | tup xs => obtain ⟨_,_,_,_,e,_⟩ := x; exact ⟨_,e⟩
 | dK kvs => obtain ⟨_,_,_,_,_,_,_,e,_⟩ := x; exact ⟨_,e⟩
 | dT kvs => obtain ⟨_,_,_,_,_,_,_,e,_⟩ := x; exact ⟨_,e⟩
 | set S n => obtain ⟨_,_,_,_,e,_⟩ := x; exact ⟨_,e⟩
 | ins C dx fs => obtain ⟨_,_,_,e,_⟩ := x; exact ⟨_,e⟩
 | own y => exact x
 | xd fs => obtain ⟨_,⟨_,_,_,e,_⟩,_⟩ := x; exact ⟨_,e⟩
 | rng lo hi => obtain ⟨_,_,_,e⟩ := x; exact ⟨_,e⟩
 | frz ob u => obtain ⟨e,_⟩ := x; exact ⟨_,e⟩
 | tbl ps => exact ⟨_,show h.get? a = some _ from x⟩
 | met f y => exact ⟨_,show h.get? a = some _ from x⟩
 | ext φ => obtain ⟨_,⟨_,e⟩,_⟩ := x; exact ⟨_,e⟩
theorem dv.none_of (k : dv P w H h) (q : h.get? a = none) : H a = none := by
 cases r : H a with
 | none => rfl
 | some o =>
  obtain ⟨u,e⟩ := (k a o r).there
  rw [q] at e
  cases e
theorem v5 (u : Un fs [] H H' h0 h) (m : Mv fs ch h h') (hc : ∀ b ∈ ch,h0.get? b = none) : Un fs [] H H' h0 h' where
 keep := fun b o q n hb hx => m.keep b o hb (fun z => by rw [hc b z] at q; cases q) (u.keep b o q n hb hx)
 slot := fun b o q n hb hx => by
  obtain ⟨sl,q1⟩ := u.slot b o q n hb hx
  obtain ⟨sl2,q2⟩ := m.slot b _ hb (fun z => by rw [hc b z] at q; cases q) q1
  exact ⟨sl2,q2⟩
 free := u.free
 there := fun b o q hx => by
  obtain ⟨o1,q1⟩ := u.there b o q hx
  exact m.there b o1 q1
 tups := u.tups
 frzs := u.frzs
 tbls := u.tbls
theorem sq (k : dv P w H h) (m : Mv fs ch h h') (hc : ∀ b ∈ ch,H b = none) (hf : ∀ b ∈ fs,H b = none) : dv P w H h' := fun a o e =>
 (k a o e).stay (fun b u hb q => by
  have t : H b ≠ none := by
   rcases hb with z | z
   ·rw [z,e]; exact fun y => nomatch y
   ·rw [z]; exact fun y => nomatch y
  exact m.keep b u (fun z => t (hf b z)) (fun z => t (hc b z)) q) (fun _ q => q) fun _ _ q => q
theorem _root_.XH.Mv.wider (m : Mv [] ch h h') : Mv fs ch h h' := ⟨fun b o _ hc q => m.keep b o (by simp) hc q,fun b o _ hc q => ⟨o.slots,m.keep b o (by simp) hc q⟩,m.there⟩
theorem pA {base : Heap} (u : Un fs [] H H' h h') : ∀ {l : List Env},h.FunFrames base l -> (∀ b ∈ gL l,b ∈ fs /\ H b = none) -> h'.FunFrames base l
 | [],_,_ => trivial
 | env :: r,⟨hk,⟨L,o,hf,hn,ho,hd⟩,hr⟩,hs => by
  have hL : L ∈ gL (env :: r) := by unfold gL; rw [Cv,hf]; exact C8
  obtain ⟨sl,e⟩ := u.slot L o ho (hs L hL).2 (hs L hL).1 (by simp)
  exact ⟨hk,⟨L,_,hf,hn,e,hd⟩,pA u hr fun b hb => hs b (by unfold gL; rw [Cv,hf]; exact BV _ hb)⟩
end
section
variable {P : Program} {w : World} {H H' : Hp} {s s' : Shared} {a L : Addr} {cls v : Value} {dx : Option Addr} {st : v4} {env : Env} {outer : List Env} {base : Heap} {M : Model} {A : Around} {Z : Value -> Shared -> Prop} {Q : Unit -> Shared -> Prop}
theorem eF.frees (c : eF P w outer H s a H' cls dx st s') (hl : s.heap.FunFrames base outer) (hH : ∀ b ∈ gL outer,H b = none) : ∀ b ∈ gL outer,H' b = none := fun b hb => by
 obtain ⟨_,o,ho,_⟩ := hl.mem hb
 exact c.un.free b o ho (hH b hb) (by simp)
theorem eF.note (c : eF P w (env :: outer) H s a H' cls dx st s') (hfr : A.frames = some (env :: outer)) (hf : env.frame = some L) (hl : s.heap.FunFrames base (env :: outer)) (hH : ∀ b ∈ gL (env :: outer),H b = none)
  (h : ∀ s'',eF P w (env :: outer) H s a H' cls dx (.fl (rawInt L)) s'' -> Q () s'') : wpAny M A (noteFrame (.ref a) env) Q Z s' := by
 refine uE hfr (pA c.un hl fun b hb => ⟨hb,hH b hb⟩) hf c.xo fun h' ch hch mv x => h _ ?_
 refine ⟨c.os,c.bare,v5 c.un mv fun b hb => (hch b hb).1,sq c.hok mv (fun b hb => (hch b hb).2) (c.frees hl hH),x.mono ?_⟩
 rintro b (q | q)
 ·exact q
 ·refine ⟨?_,c.hok.none_of q⟩
  cases r : s.heap.get? b with
  | none => rfl
  | some o =>
   obtain ⟨o',r'⟩ := c.un.there b o r (by simp)
   rw [r'] at q
   cases q
theorem eF.flight {fl : Option Addr} (c : eF P w outer H s a H' cls dx (.fl v) s') (hl : s.heap.FunFrames base outer) (hH : ∀ b ∈ gL outer,H b = none)
  (h : ∀ s'',eF P w outer H s a H' cls dx (.fl (fl.elim .none fun f => rawInt f)) s'' -> Q () s'') : wpAny M A (setFlight (.ref a) fl) Q Z s' := by
 refine qA c.xo fun h' T hT mv x => h _ ⟨c.os,c.bare,v5 c.un mv.wider fun b hb => ?_,sq c.hok (mv.wider (fs := gL outer)) (fun b hb => ?_) (c.frees hl hH),x⟩
 ·rw [B5.mp hb]; exact hT.1
 ·rw [B5.mp hb]; exact hT.2
end
def XS (X : Cx) (E : St -> XK) : Value -> Shared -> Prop := fun e s' => ∃ σ H0 s0,ar X [] σ H0 s0 /\ cA X.prog X.w X.stack H0 s0 (E σ) e s'
def eG (X : Cx) (E : St -> XK) : Prop := ∀ (pins : List (Addr × Obj)) (σ : St) (H : Hp) (s : Shared) (e : Value) (s' : Shared),ar X pins σ H s -> cA X.prog X.w X.stack H s (E σ) e s' -> X.xe e s'
theorem cH {X : Cx} {E : St -> XK} : eG (X.wish (XS X E)) E := fun pins σ H s e s' I c => ⟨σ,H,s,I.unwish.pins_of (fun p hp => absurd hp (by simp)),c⟩
def nL (sp : Sp) (dvs : List V) (E : St -> XK) (t : TA) : TE := fun σ H Q => t σ H fun vs H1 => sp (vs ++ dvs) H1 Q (E σ)
section
variable {X : Cx} {k : Nat} {f C : Addr} {fd : FuncData} {ps : List Str} {sp : Sp} {dvs : List V} {ds : List Value} {E : St -> XK} {x m : Str} {p pos apos : Pos} {e o : Expr} {es : List Expr} {ta : TE} {t : TA}
theorem pB {pins : List (Addr × Obj)} {σ : St} {H : Hp} {s : Shared} {Q : VK} {us : List Value} {vs : List V} (F : aZ X.prog X.w X.K X.mg X.base (cA X.prog X.w) k f fd ps sp) (hr : bA k X.A) (hb : Binds X.K fd ps ds) (hd : aN dvs ds) (hx : eG X E)
  (I : ar X pins σ H s) (r : aN vs us) (h : sp (vs ++ dvs) H Q (E σ)) : wpAny (model X.prog X.w) X.A (call (.ref f) us) (EP X pins σ Q) X.xe s := by
 have r2 : aN (vs ++ dvs) (us ++ ds) := r.append hd
 have hl : (us ++ ds).length = ps.length := by rw [<- r2.length]; exact F.len _ _ _ _ h
 refine wpAny_call (codeAny_mono (F.run X.A X.stack s H ⟨us,[]⟩ (us ++ ds) (vs ++ dvs) Q (E σ) hr I.env0 (hb s us I.kIn hl) r2 h) fun r s' hq => ?_)
 cases r with
 | error e => exact hx pins σ H s e s' I hq
 | ok fl =>
  cases fl with
  | ret u => exact I.after hq
  | next => exact False.elim hq
  | brk => exact False.elim hq
  | cont => exact False.elim hq
theorem mn (F : aZ X.prog X.w X.K X.mg X.base (cA X.prog X.w) k f fd ps sp) (hr : bA k X.A) (hg : Gl X x) (hm : X.mg x = some (.ref f)) (hk : C7 X.K (.ref f) = true) (hb : Binds X.K fd ps ds) (hd : aN dvs ds) (hx : eG X E)
  (ha : PA X (e :: es) t) (hdb : (x == ("__debug__" : Str)) = false := by decide) (he : starEach (e :: es) X.env = (false,eval e X.env) :: starEach es X.env := by rfl) (hpl : (backTo pos (starEach es X.env)).any (·.1) = false := by rfl) :
  PE X (.Call (.Name x p) (e :: es) [] pos) (nL sp dvs E t) := by
 intro pins s σ H Q I h
 refine wpAny_Call_Name_kw (cQ I hg hm ?_ hdb)
 refine CV (h₀ := X.base) I.ok.mod.kin hk (aX (ha pos pins s σ H _ I h) fun us s1 ⟨vs,H1,I1,r,q⟩ => ⟨I1.kIn,?_⟩) he hpl
 exact pB F hr hb hd hx I1 r q
end
theorem gZ.toX {X : Cx} {E' : Value -> Shared -> Prop} {st : List Stmt} {t : TS} (h : gZ (X.wish E') st t) (k : ∀ e s,E' e s -> X.xe e s) : gZ X st t := fun pins s σ H D I hw =>
 wpAny_mono (h pins s σ H D (I.wish _) hw) (fun _ _ q => q.unwish) fun e s z => k e s z
section
variable {P : Program} {w : World} {K : B1} {mg : Str -> Option Value} {base : Heap}
theorem ss {N : List Str} {qual : Str} {scope : Scope} {f : Addr} {cd : Value} {A : Around} {outer : List Env} {s : Shared} {H : Hp} {E : XK} {e : Value} {s' : Shared}
  (h : XS (gi (cA P w) P w K mg base N qual scope f cd A outer s H E) (fun _ => E) e s') : (gi (cA P w) P w K mg base N qual scope f cd A outer s H E).xe e s' := by
 obtain ⟨σ,H0,s0,I,a,H',cls,dx,st,rfl,c,hE⟩ := h
 show wpAny (model P w) (A.deeper (envOfC qual scope s.heap.objs.size f cd)) (leaving (envOfC qual scope s.heap.objs.size f cd) (.ref a)) (fun _ s'' => cA P w outer H s E (.ref a) s'') (fun e' s'' => cA P w outer H s E e' s'') s'
 unfold leaving
 apply wpAny_bind
 refine c.note (L := s.heap.objs.size) I.ok.frames rfl I.stack I.stkFree fun s1 c1 => ?_
 refine c1.flight I.stack I.stkFree fun s2 c2 => ?_
 have J := I.call' c2.os c2.un c2.hok c2.bare (fun b z => absurd z (by simp))
 refine ⟨a,H',cls,dx,_,rfl,⟨J.os,c2.bare,J.base,c2.hok,c2.xo.mono fun b q => ⟨?_,q.2⟩⟩,hE⟩
 cases r : s.heap.get? b with
 | none => rfl
 | some o =>
  obtain ⟨o',r'⟩ := I.base.there b o r (fun z => absurd (show b ∈ ([] : List Addr) from z) (by simp))
  rw [q.1] at r'
  cases r'
theorem wM {k : Nat} {f : Addr} {name qual : Str} {params : Arguments} {body : List Stmt} {scope : Scope} {dV kV doc pm cdv ct oc : Value} {an od : Option Addr}
  {osl : Array (Option Value)} {N ps : List Str} {sp : Sp} (lk : K.lookup f = some ⟨oc,od,.func (C9 name qual params body scope dV kV doc pm an cdv ct),osl⟩) (hcd : Ca K cdv qual = true) (S : ax N ps scope)
  (len : ∀ vs H Q E,sp vs H Q E -> vs.length = ps.length)
  (hbody : ∀ (A : Around) (outer : List Env) (s : Shared) (H : Hp) (vs : List V) (Q : VK) (E : XK),bA k (A.deeper (envOfC qual scope s.heap.objs.size f cdv)) -> sp vs H Q E ->
   ∃ t,gZ ((gi (cA P w) P w K mg base N qual scope f cdv A outer s H E).wish (XS (gi (cA P w) P w K mg base N qual scope f cdv A outer s H E) fun _ => E)) body t /\ t { nx := fun _ H' => Q .non H',rt := Q } (start N vs) H) :
  aZ P w K mg base (cA P w) (k + 1) f (C9 name qual params body scope dV kV doc pm an cdv ct) ps sp := by
 refine vX lk hcd S len fun A outer s H vs Q E hr hsp => ?_
 obtain ⟨t,h,q⟩ := hbody A outer s H vs Q E hr hsp
 exact ⟨t,h.toX fun e s' z => ss z,q⟩
theorem aZ.noraise {k : Nat} {f : Addr} {fd : FuncData} {ps : List Str} {sp sp0 : Sp} (F : aZ P w K mg base (cA P w) k f fd ps sp) (h : ∀ vs H Q E,sp0 vs H Q E -> sp vs H Q E0) : aZ P w K mg base bg k f fd ps sp0 :=
 ⟨fun vs H Q E q => F.len vs H Q E0 (h _ _ _ _ q),fun A outer s H args us vs Q E hr he hb hv hs => codeAny_mono (F.run A outer s H args us vs Q E0 hr he hb hv (h _ _ _ _ hs)) fun r s' hq => by
  cases r with
  | error e => obtain ⟨_,_,_,_,_,_,_,z⟩ := hq; exact z.elim
  | ok fl => cases fl <;> exact hq⟩
end
abbrev Cx.tried (X : Cx) (pins : List (Addr × Obj)) : Cx := { X with pn := X.pn ++ pins }
abbrev Cx.suite (X : Cx) (pins : List (Addr × Obj)) (a : Addr) : Cx := { X with A := X.A.mark (some (.ref a)),calm := false,pn := X.pn ++ pins,xe := fun _ _ => False }
def cm (n : Bool) (a : Addr) (cls : Value) (dx : Option Addr) : HO := .ext fun h => ∃ ox vs,h.get? a = some ox /\ ox.cls = cls /\ ox.dict = dx /\ ox.data = .fields vs /\ vs[2]? = some .none /\ (n = true -> 1 < vs.size /\ vs[1]? = some .none)
abbrev nM := cm false
theorem kx {P : Program} {w : World} {H : Hp} {h : Heap} {n : Bool} {a : Addr} {cls : Value} {dx : Option Addr} {ox : Obj} {vs : Array Value} (h1 : h.get? a = some ox) (h2 : ox.cls = cls) (h3 : ox.dict = dx) (h4 : ox.data = .fields vs) (h6 : vs[2]? = some .none) (h5 : n = true -> 1 < vs.size /\ vs[1]? = some .none) : aR P w H h a (cm n a cls dx) :=
 ⟨⟨ox,vs,h1,h2,h3,h4,h6,h5⟩,⟨ox,h1⟩,fun _ _ ⟨oy,ws,q,r⟩ kp => ⟨oy,ws,kp _ q,r⟩⟩
abbrev TH := Ends -> St -> Value -> Option Addr -> Hp -> Addr -> Prop
def PH (X : Cx) (hs : List ExceptHandler) (th : TH) : Prop :=
 ∀ (pins : List (Addr × Obj)) (σ : St) (H0 : Hp) (s0 : Shared) (D : Ends) (a : Addr) (H' : Hp) (cls v : Value) (dx : Option Addr) (s' : Shared),ar X pins σ H0 s0 -> eF X.prog X.w X.stack H0 s0 a H' cls dx (.fl v) s' -> th D σ cls dx H' a ->
  wpAny (model X.prog X.w) X.A (handleBy (.ref a) X.env hs) (SP X pins D) X.xe s'
section
variable {X : Cx} {pins : List (Addr × Obj)} {σ : St} {H H' : Hp} {s s' : Shared}
theorem ar.tried (I : ar X pins σ H s) : ar (X.tried pins) [] σ H s :=
 ⟨⟨I.ok.mod,I.ok.kind,I.ok.glob,I.ok.blt,I.ok.above,I.ok.inj,I.ok.has,I.ok.cab,I.ok.hd,I.ok.frames,I.ok.stk,I.ok.exf,I.ok.bs,I.ok.bsz,I.ok.noex,I.ok.exfs,I.ok.funs,I.ok.frf⟩,
  I.os,I.bare,I.base,I.loc,I.cell,I.free,I.freeC,fun p hp => I.pin p (by simpa using hp),I.hok,I.len⟩
theorem ar.untried (I : ar (X.tried pins) [] σ H s) : ar X pins σ H s :=
 ⟨⟨I.ok.mod,I.ok.kind,I.ok.glob,I.ok.blt,I.ok.above,I.ok.inj,I.ok.has,I.ok.cab,I.ok.hd,I.ok.frames,I.ok.stk,I.ok.exf,I.ok.bs,I.ok.bsz,I.ok.noex,I.ok.exfs,I.ok.funs,I.ok.frf⟩,
  I.os,I.bare,I.base,I.loc,I.cell,I.free,I.freeC,fun p hp => I.pin p (by simpa using hp),I.hok,I.len⟩
theorem ar.insuite (I : ar X pins σ H s) (a : Addr) : ar (X.suite pins a) [] σ H s :=
 ⟨⟨I.ok.mod,I.ok.kind,I.ok.glob,I.ok.blt,I.ok.above,I.ok.inj,I.ok.has,I.ok.cab,fun z => (Bool.noConfusion z),I.ok.frames,I.ok.stk,I.ok.exf,I.ok.bs,I.ok.bsz,I.ok.noex,I.ok.exfs,I.ok.funs,I.ok.frf⟩,
  I.os,I.bare,I.base,I.loc,I.cell,I.free,I.freeC,fun p hp => I.pin p (by simpa using hp),I.hok,I.len⟩
theorem ar.outsuite {a : Addr} (ok : X.Ok) (I : ar (X.suite pins a) [] σ H s) : ar X pins σ H s :=
 ⟨ok,I.os,I.bare,I.base,I.loc,I.cell,I.free,I.freeC,fun p hp => I.pin p (by simpa using hp),I.hok,I.len⟩
theorem ar.unbound {n : Str} {i : Nat} {h' : Heap} {m : Str -> Option Value} {v : Option Value} {t' : Nat} (I : ar X pins σ H s) (hi : X.N[i]? = some n) (hN : X.N.Nodup)
  (hm : ∀ (j : Nat) (x : Str) (v : V),X.N[j]? = some x -> σ[j]? = some (some v) -> xM X.env.scope x -> ∃ u,RelV v u /\ Look X.env s.heap m x u)
  (hn : h'.Ns X.env.locals (fun x => if x = n then v else m x)) (hs : Heap.SameBut X.env.locals s.heap h') : ar X pins (σ.set i none) H { s with heap := h',toks := t' } := by
 obtain ⟨m0,hn0,_⟩ := id I.loc
 obtain ⟨oL,_,_,hoL,_⟩ := id hn0
 have cne := I.cne
 have low : ∀ b o,X.s₀.heap.get? b = some o -> b ≠ X.env.locals := fun b o e => BA (BO (Heap.lt_size e) I.ok.above)
 refine ⟨I.ok,I.os,I.bare,⟨fun b o e n hb hx => ?_,fun b o e n hb hx => ?_,I.base.free,fun b o e hx => ?_,I.base.tups,I.base.frzs,I.base.tbls⟩,⟨_,hn,fun j y v' e1 e2 e3 => ?_⟩,fun y c e => ?_,I.free,I.freeC,fun p hp => ?_,fun b ob e => ?_,by simpa using I.len⟩
 ·exact (hs.2 b (low b o e)).trans (I.base.keep b o e n hb hx)
 ·obtain ⟨sl,e1⟩ := I.base.slot b o e n hb hx
  exact ⟨sl,(hs.2 b (low b o e)).trans e1⟩
 ·obtain ⟨o',e1⟩ := I.base.there b o e hx
  exact ⟨o',(hs.2 b (low b o e)).trans e1⟩
 ·by_cases hj : j = i
  ·subst hj
   rw [List.getElem?_set] at e2
   simp at e2
  ·rw [List.getElem?_set_ne (Ne.symm hj)] at e2
   obtain ⟨u',r',q⟩ := hm j y v' e1 e2 e3
   refine ⟨u',r',?_⟩
   rcases q with ⟨k,e⟩ | ⟨k,c,e,z⟩
   ·refine .inl ⟨k,?_⟩
    have : y ≠ n := fun e => hj (ip hN e1 (e ▸ hi))
    simp [this,e]
   ·exact .inr ⟨k,c,e,z.sameBut hs (cne y c e)⟩
 ·obtain ⟨w',z⟩ := I.cell y c e
  exact ⟨w',z.sameBut hs (cne y c e)⟩
 ·obtain ⟨e,n,ne,nf,d⟩ := I.pin p hp
  exact ⟨(hs.2 p.1 ne).trans e,n,ne,nf,d⟩
 ·refine (I.hok b ob e).stay (fun c w' hc q => (hs.2 c ?_).trans q) (fun _ q => q) fun _ _ q => q
  rintro rfl
  rcases hc with rfl | hc
  ·rw [I.free] at e; cases e
  ·rw [I.free] at hc; cases hc
theorem iG {fs : List Addr} {h0 h : Heap} {a : Addr} {o : HO} (u : Un fs [] H H' h0 h) (n0 : h0.get? a = none) (na : H' a = none) : Un fs [] H (aq H' a o) h0 h where
 keep := u.keep
 slot := u.slot
 free := fun b ob q n hx => by
  have : b ≠ a := fun z => by rw [z,n0] at q; cases q
  rw [aj this]
  exact u.free b ob q n hx
 there := u.there
 tups := fun b xs e => by
  have q := u.tups b xs e
  rw [aj (aQ q na)]
  exact q
 frzs := fun b o' w' e => by
  have q := u.frzs b o' w' e
  rw [aj (aQ q na)]
  exact q
 tbls := fun b ps e => by
  obtain ⟨mo,q⟩ := u.tbls b ps e
  exact ⟨mo,by rw [aj (aQ q na)]; exact q⟩
theorem jJ {P : Program} {w : World} {h : Heap} {a : Addr} {o : HO} (k : dv P w H h) (na : H a = none) (new : aR P w (aq H a o) h a o) : dv P w (aq H a o) h := fun b u e => by
 by_cases hb : b = a
 ·subst hb; rw [ac] at e; cases e; exact new
 ·rw [aj hb] at e
  exact (k b u e).stay (fun c v _ q => q) (fun c q => by rw [aj (aQ q na)]; exact q) fun c xs q => by rw [aj (aQ q na)]; exact q
theorem eF.caughtN {a : Addr} {cls : Value} {dx : Option Addr} (I : ar X pins σ H s) (c : eF X.prog X.w X.stack H s a H' cls dx .new s') : ar X pins σ (aq H' a (cm true a cls dx)) s' := by
 obtain ⟨⟨oe,vs,he,hc,hd,hda,hz,hn⟩,n0,na⟩ := c.xo
 refine I.call' c.os (iG c.un n0 na) (jJ c.hok na (kx he hc hd hda hz.2 fun _ => ⟨hz.1,hn⟩)) c.bare fun b z => absurd z (by simp)
theorem eF.caught {a : Addr} {cls : Value} {dx : Option Addr} {st : v4} (I : ar X pins σ H s) (c : eF X.prog X.w X.stack H s a H' cls dx st s') : ar X pins σ (aq H' a (nM a cls dx)) s' := by
 obtain ⟨⟨oe,vs,he,hc,hd,hda,hz,_⟩,n0,na⟩ := c.xo
 refine I.call' c.os (iG c.un n0 na) (jJ c.hok na (kx he hc hd hda hz.2 fun z => nomatch z)) c.bare fun b z => absurd z (by simp)
end
section
variable {X : Cx} {body : List Stmt} {h₀ : ExceptHandler} {hs : List ExceptHandler} {pos : Pos} {th : TH}
def AB (tb : (St -> XK) -> TS) (th : TH) : TS := fun D σ H => tb (fun σ' cls dx H' => ∀ a,H' a = none -> th D σ' cls dx H' a) D σ H
theorem SP.untried {pins : List (Addr × Obj)} {E : Value -> Shared -> Prop} {D : Ends} {f : Flow} {s' : Shared} (h : SP ((X.tried pins).wish E) [] D f s') : SP X pins D f s' := by
 cases f with
 | next => obtain ⟨σ',H',I,q⟩ := h; exact ⟨σ',H',I.unwish.untried,q⟩
 | brk => obtain ⟨σ',H',I,q⟩ := h; exact ⟨σ',H',I.unwish.untried,q⟩
 | cont => obtain ⟨σ',H',I,q⟩ := h; exact ⟨σ',H',I.unwish.untried,q⟩
 | ret u => obtain ⟨v,σ',H',I,r,q⟩ := h; exact ⟨v,σ',H',I.unwish.untried,r,q⟩
theorem nN {tb : (St -> XK) -> TS} (hstk : X.stack = X.env :: X.outer) (hfm : X.env.frame = some X.env.locals)
  (hb : ∀ (pins : List (Addr × Obj)) (E : St -> XK),gZ ((X.tried pins).wish (XS (X.tried pins) E)) body (tb E)) (hh : PH X (h₀ :: hs) th) : PS X (.Try body (h₀ :: hs) [] [] pos) (AB tb th) := by
 intro pins s σ H D I h
 refine wpAny_Try_except ?_
 refine wpAny_mono (hb pins _ [] s σ H D (I.tried.wish _) h) (fun f s1 q => ?_) fun e s1 hx => ?_
 ·have q := q.untried
  cases f with
  | next => exact wpAny_execs_nil q
  | brk => exact q
  | cont => exact q
  | ret u => exact q
 ·obtain ⟨σ',H0,s0,I0,a,H',cls,dx,st,rfl,c,hE⟩ := hx
  have c' : eF X.prog X.w (X.env :: X.outer) H0 s0 a H' cls dx st s1 := hstk ▸ c
  have J := I0.untried
  have fr : X.A.frames = some (X.env :: X.outer) := by rw [<- hstk]; exact J.ok.frames
  have st1 : s0.heap.FunFrames X.base (X.env :: X.outer) := by rw [<- hstk]; exact J.stack
  have sf : ∀ b ∈ gL (X.env :: X.outer),H0 b = none := by rw [<- hstk]; exact J.stkFree
  refine c'.note fr hfm st1 sf fun s2 c2 => ?_
  refine c2.flight st1 sf fun s3 c3 => ?_
  exact hh pins σ' H0 s0 D a H' cls _ dx s3 J (hstk ▸ c3) (hE a c3.xo.fr.2)
theorem nO : PH X [] (fun _ _ _ _ _ _ => False) := fun _ _ _ _ _ _ _ _ _ _ _ _ _ h => h.elim
end
structure XT (K : B1) (C : Addr) : Prop where
 ty : PySem.W.typeIn K (.ref C) = some (.type "type")
 cl : (PySem.W.clsIn K C).isSome = true
 ex : CL K (.ref C) (.type "BaseException") = some true
theorem fS {K : B1} {M : Model} {h : Heap} {C : Addr} (X : K.In h) (e : (PySem.W.clsIn K C).isSome = true) : PySem.W.Looks M h (isType (.ref C)) true := by
 unfold PySem.W.clsIn at e
 split at e
 ·rename_i ho
  intro A' Q' E' s' k q
  unfold isType loadHead
  exact wpAny_bind (wpAny_loadPart (k _ _ (X _ _ ho)) (wpAny_pure q))
 ·cases e
structure XG (K : B1) (C : Addr) : Prop where
 ga : BK K (.ref C) "__getattribute__" = some (some (.builtin "BaseException.__getattribute__"))
 gt : BK K (.ref C) "__getattr__" = some none
 be : PySem.W.mroIn K C (.type "BaseException") = some true
section
variable {prog : Program} {w : World} {A : Around} {E : Value -> Shared -> Prop} {K : B1} {h : Heap} {g : Array GenState} {d : Drawn} {t : Nat} {os : OsState} {x C : Addr} {ox : Obj} {od : Option Obj} {name : Str}
open PySem.W in
theorem qB {nameV : Value} {Q : Unit -> Shared -> Prop} (X : K.In h) (I : InstAt h x ox C od) (G : XG K C) (hq : Q () ⟨h,g,d,t,os⟩) :
  wpAny (model prog w) A (checkBuiltinCall "BaseException.__getattribute__" ⟨[.ref x,nameV],[]⟩) Q E ⟨h,g,d,t,os⟩ := by
 have hk : builtinKind "BaseException.__getattribute__" = some .slot := by decide +kernel
 have hs : splitId "BaseException.__getattribute__" = some ("BaseException","__getattribute__") := by decide +kernel
 have l0 := I.type (M := model prog w)
 have l1 := looks_mroIn (M := model prog w) X G.be
 have ha := F.args_bexc_ga (.ref x) nameV
 have l2 : Looks (model prog w) h (isInstance (.ref x) (.type "BaseException")) true := l0.andThen l1
 simp only [checkBuiltinCall,hk,hs]
 refine wpAny_bind ?_
 unfold isInstance
 have hx := I.at_
 have hc := I.cls
 repeat (first | (with_reducible refine wpAny_loadPart_at hx ?_; rw [hc]) | with_reducible refine l1.at ?_ | wp_step)
 exact hq
open PySem.W in
theorem iH {tk : Tok} {gv a : Value} {Q : Fin -> Shared -> Prop} (X : K.In h) (I : InstAt h x ox C od) (hf : findObj K C od name = some (.bind gv a))
  (hq : wpAny (model prog w) A (call gv [a,.ref x,.ref C]) (fun v s' => Q (.done (.ret v)) s') E ⟨h,g,d,t,os⟩) :
  wpAny (model prog w) A (Builtin.«object.__getattribute__» ⟨[.ref x,.str name tk],[]⟩) Q E ⟨h,g,d,t,os⟩ := by
 have l0 := I.type (M := model prog w)
 have l1 := looks_find (M := model prog w) X I hf
 unfold Builtin.«object.__getattribute__»
 refine wpAny_bind (wpAny_pure (wpAny_bind (wpAny_pure (wpAny_bind (l0.at (wpAny_bind (l1.at ?_)))))))
 show wpAny _ _ (holding [a] (call gv [a,.ref x,.ref C]) >>= ret) _ _ _
 exact wpAny_bind (wpAny_holding (wpAny_mono hq (fun v s' z => wpAny_pure z) fun _ _ z => z))
open PySem.W in
theorem wN {tk : Tok} {fill expr : Bool} {Q : Value -> Shared -> Prop} (X : K.In h) (I : InstAt h x ox C od) (G : XG K C)
  (hq : ∀ A' : Around,wpAny (model prog w) A' (Builtin.«object.__getattribute__» ⟨[.ref x,.str name tk],[]⟩) (fun fin s' => match fin with | .done (.ret v) => wpAny (model prog w) A (handedOut v) Q E s' | _ => False) (fun _ _ => False) ⟨h,g,d,t,os⟩) :
  wpAny (model prog w) A (getAttrBy (.ref x) (.str name tk) fill expr) Q E ⟨h,g,d,t,os⟩ := by
 have l0 := I.type (M := model prog w)
 have l1 := looks_findIn (M := model prog w) X G.ga
 have l2 := looks_findIn (M := model prog w) X G.gt
 have fb := F.attrBase_ValueError
 have f3 := fb.ga.bind (.ref x)
 unfold getAttrBy
 refine wpAny_holding (wpAny_bind (l0.at (wpAny_bind (l1.at ?_))))
 have hx2 : (Value.builtin "BaseException.__getattribute__" == Value.builtin "object.__getattribute__") = false := by decide +kernel
 simp only [hx2,Bool.and_false,Cg,if_false]
 unfold getAttrByItsOwn hookBefore
 refine wpAny_bind ?_
 rw [if_pos (show onTheHeap (.ref C) = true from rfl)]
 refine l2.at ?_
 refine wpAny_bind (wpAny_attempt (wpAny_holding ?_))
 unfold callGetattribute
 rw [if_neg (by cases expr <;> exact BE)]
 unfold boundAndCalled
 refine wpAny_bind (wpAny_of_eq f3 ?_)
 refine wpAny_call (codeAny_call_builtin fb.ga.plain F.entry_bexc_ga (qB X I G (wpAny_mono (hq _) (fun fin s' z => ?_) fun _ _ z => z.elim)))
 rcases fin with (_ | _ | _ | _) | _ <;> first | exact z.elim | exact z
end
section
variable {prog : Program} {w : World} {A : Around} {E : Value -> Shared -> Prop} {K : B1}
theorem iI {h : Heap} {g : Array GenState} {d : Drawn} {t : Nat} {os : OsState} {e C C' : Addr} {oe : Obj} {b : Bool} {Q : Bool -> Shared -> Prop} (KX : K.In h) (he : h.get? e = some oe) (hc : oe.cls = .ref C) (T : XT K C')
  (hsub : CL K (.ref C) (.ref C') = some b) (hq : Q b ⟨h,g,d,t,os⟩) : wpAny (model prog w) A (excMatches (.ref e) (.ref C')) Q E ⟨h,g,d,t,os⟩ := by
 have l1 := PySem.W.looks_typeIn (M := model prog w) KX T.ty
 have l2 := PySem.W.looks_subIn (M := model prog w) KX T.ex
 have l3 := PySem.W.looks_subIn (M := model prog w) KX hsub
 have l4 := fS (M := model prog w) KX T.cl
 have l5 : PySem.W.Looks (model prog w) h (isInstance (.ref C') (.type "tuple")) false := l1.andThen (PySem.W.Looks.of_pure tc_notTuple)
 have l6 : PySem.W.Looks (model prog w) h (isExcClass (.ref C')) true := by
  unfold isExcClass
  refine l4.andThen ?_
  exact l2
 unfold excMatches
 repeat (first | with_reducible refine wpAny_bind (l5.at ?_) | with_reducible refine wpAny_bind (l6.at ?_) | with_reducible refine wpAny_bind (l3.at ?_) | (with_reducible refine wpAny_loadPart_at he ?_; rw [hc]) | wp_step)
 cases b <;> (wp_walk; exact hq)
end
def yn (i : Nat) (D : Ends) : Ends := { nx := fun σ H => D.nx (σ.set i none) H,rt := D.rt,bk := fun σ H => D.bk (σ.set i none) H,ct := fun σ H => D.ct (σ.set i none) H }
section
variable {X : Cx} {x n : Str} {np pos : Pos} {b0 : Stmt} {suite : List Stmt} {rest : List ExceptHandler} {i : Nat} {C' : Addr} {t : TS} {th : TH}
theorem uF {pins : List (Addr × Obj)} {a : Addr} {D : Ends} {f : Flow} {s : Shared} {M : Model} {A : Around} {E : Value -> Shared -> Prop} (ok : X.Ok) (hN : X.N.Nodup) (hi : X.N[i]? = some n) (hloc : X.env.scope.names.lookup n = some .local)
  (q : SP (X.suite pins a) [] (yn i D) f s) : wpAny M A (do bindName X.env n .none; unbindBehindTheSuite X.env n pos) (fun _ s' => SP X pins D f s') E s := by
 have hcls : (X.env.scope.kind == .class || (X.env.scope.kind == .module && X.env.locals != X.env.globals)) = false := by rw [ok.kind]; rfl
 cases f with
 | next =>
  obtain ⟨σ,H,I,q⟩ := q
  have J := I.outsuite ok
  obtain ⟨m,hn,hl⟩ := id J.loc
  exact wpAny_nameGoes_keeps hloc hn hcls fun h' v hn' hs => ⟨_,H,J.unbound hi hN hl hn' hs,q⟩
 | brk =>
  obtain ⟨σ,H,I,q⟩ := q
  have J := I.outsuite ok
  obtain ⟨m,hn,hl⟩ := id J.loc
  exact wpAny_nameGoes_keeps hloc hn hcls fun h' v hn' hs => ⟨_,H,J.unbound hi hN hl hn' hs,q⟩
 | cont =>
  obtain ⟨σ,H,I,q⟩ := q
  have J := I.outsuite ok
  obtain ⟨m,hn,hl⟩ := id J.loc
  exact wpAny_nameGoes_keeps hloc hn hcls fun h' v hn' hs => ⟨_,H,J.unbound hi hN hl hn' hs,q⟩
 | ret u =>
  obtain ⟨v,σ,H,I,r,q⟩ := q
  have J := I.outsuite ok
  obtain ⟨m,hn,hl⟩ := id J.loc
  exact wpAny_nameGoes_keeps hloc hn hcls fun h' v' hn' hs => ⟨v,_,H,J.unbound hi hN hl hn' hs,r,q⟩
theorem SP.outsuite {pins : List (Addr × Obj)} {a : Addr} {D : Ends} {f : Flow} {s : Shared} (ok : X.Ok) (h : SP (X.suite pins a) [] D f s) : SP X pins D f s := by
 cases f with
 | next => obtain ⟨σ',H',I,q⟩ := h; exact ⟨σ',H',I.outsuite ok,q⟩
 | brk => obtain ⟨σ',H',I,q⟩ := h; exact ⟨σ',H',I.outsuite ok,q⟩
 | cont => obtain ⟨σ',H',I,q⟩ := h; exact ⟨σ',H',I.outsuite ok,q⟩
 | ret u => obtain ⟨v,σ',H',I,r,q⟩ := h; exact ⟨v,σ',H',I.outsuite ok,r,q⟩
theorem su {E : St -> XK} (hstk : X.stack = X.env :: X.outer) (hfm : X.env.frame = some X.env.locals) : PassesOwn (model X.prog X.w) X.A X.env (XS X E) := by
 intro e s1 hx
 obtain ⟨σ',H0,s0,J,a,H',cls,dx,st,rfl,c,hE⟩ := hx
 have c' : eF X.prog X.w (X.env :: X.outer) H0 s0 a H' cls dx st s1 := hstk ▸ c
 have fr : X.A.frames = some (X.env :: X.outer) := by rw [<- hstk]; exact J.ok.frames
 have st1 : s0.heap.FunFrames X.base (X.env :: X.outer) := by rw [<- hstk]; exact J.stack
 have sf : ∀ b ∈ gL (X.env :: X.outer),H0 b = none := by rw [<- hstk]; exact J.stkFree
 unfold notedBy
 refine c'.note fr hfm st1 sf fun s2 c2 => ?_
 unfold cameBackBy
 obtain ⟨oe,vs,he,_,_,hd,_,T,_,_,h1,_⟩ := c2.xo.ex
 apply wpAny_bind
 apply wpAny_field he hd h1
 rw [if_neg (by simp)]
 refine c2.flight st1 sf fun s3 c3 => ?_
 exact ⟨σ',H0,s0,J,a,H',cls,dx,_,rfl,hstk ▸ c3,hE⟩
end
def rE : List Value := [.type "ValueError",.type "Exception",.type "BaseException",.type "object"]
theorem wO {K : B1} {h : Heap} {C : Addr} {bmB : List Value} {nw : String} (X : K.In h) (q : CZ K C bmB nw = true) :
  ∃ bm N nm qn bs hdct sn sub ab col dd k0 k1 k2 k3 k5 mN,h.get? C = some (excClassObj nm qn C N bs bm hdct sn sub ab col dd k0 k1 k2 k3 k5 nw) /\ h.Ns N mN /\ mN "__init__" = none /\ OwnTail h bmB bm := by
 unfold CZ at q
 split at q
 ·rename_i dd cd sl ho
  split at q
  ·rename_i C' bm k0 k1 k2 k3 n k5 hm hs
   simp only [Cc,beq_iff_eq,Bool.not_eq_true'] at q
   obtain ⟨⟨⟨⟨⟨e1,e2⟩,hdel⟩,ht⟩,hok⟩,hni⟩ := q
   subst e1 e2
   obtain ⟨nm,bs,mro,ns,qn,hd,sn,sub,ab,col,del⟩ := cd
   dsimp only at hm hdel hok hni
   subst hm hdel
   obtain ⟨l⟩ := sl
   have hl : l = [k0,k1,k2,k3,some (.builtin n),k5] := hs
   subst hl
   exact ⟨bm,ns,nm,qn,bs,hd,sn,sub,ab,col,dd,k0,k1,k2,k3,k5,_,X _ _ ho,.of_isNs (PySem.W.isNs_of_in X hok),PySem.W.nsMap_none_of_in X hok hni,PySem.W.tail_of_in X ht⟩
  ·cases q
 ·cases q
def wP (C : Addr) (E : St -> XK) (t : TA) : TS := fun _ σ H => t σ H fun vs H1 => vs.length <= sizeLine /\ E σ (.ref C) none H1
section
variable {X : Cx} {x : Str} {np cpos pos : Pos} {e₀ : Expr} {rest : List Expr} {C : Addr} {t : TA} {E : St -> XK}
theorem pC {pins : List (Addr × Obj)} {σ : St} {H : Hp} {s : Shared} {h' : Heap} {e : Addr} {us : List Value} (I : ar X pins σ H s) (mk : Heap.MadeExcOf s.heap h' e (.ref C) us) : eF X.prog X.w X.stack H s e H (.ref C) none .new { s with heap := h' } := by
 obtain ⟨t,ht,_,_⟩ := mk.there
 exact ⟨rfl,I.bare,Un.kept mk.keeps,I.hok.kept mk.keeps,⟨⟨_,_,ht,rfl,rfl,rfl,⟨by show 1 < 6; decide,rfl⟩,rfl⟩,mk.new,I.hok.none_of mk.new⟩⟩
theorem dD (q : CZ X.K C rE "ValueError.__new__" = true) (hg : Gl X x) (hm : X.mg x = some (.ref C)) (hc : X.calm = true) (hp : eG X E) (ha : PA X (e₀ :: rest) t) (hd : (x == ("__debug__" : Str)) = false := by decide)
  (he : starEach (e₀ :: rest) X.env = (false,eval e₀ X.env) :: starEach rest X.env := by rfl) (hpl : (backTo cpos (starEach rest X.env)).any (·.1) = false := by rfl) :
  PS X (.Raise (some (.Call (.Name x np) (e₀ :: rest) [] cpos)) none pos) (wP C E t) := by
 intro pins s σ H D I h
 obtain ⟨bm,N,nm,qn,bs,hdct,sn,sub,ab,col,dd,k0,k1,k2,k3,k5,mN,hC,hN,hni,TL⟩ := wO I.ok.mod.kin q
 have F := PySem.F.excBase_ValueError
 have W := ha cpos pins s σ H _ I h
 refine wpAny_Raise_call_subT (C := C) (nm := nm) (q := qn) (N := N) (bs := bs) (bm := bm) (hdct := hdct) (sn := sn) (sub := sub) (ab := ab) (col := col) (dd := dd) (k0 := k0) (k1 := k1) (k2 := k2) (k3 := k3) (k5 := k5) (mN := mN)
  F (TL.hasType F.hasBase) (I.ok.hd hc) (by rw [he]; exact hpl) hni (cQ I hg hm ⟨rfl,?_⟩ hd)
 rw [he] at W ⊢
 refine Calls.evalArgs_plain (aX W fun us s2 ⟨vs,H1,I1,r,hl,z⟩ => ⟨rfl,by rw [<- r.length]; exact hl,I1.bk _ _ hC,hN.keeps I1.bk,TL.keeps I1.bk,fun h' e mk => ?_⟩)
 exact hp pins σ H1 s2 _ _ I1 ⟨e,H1,.ref C,none,.new,rfl,pC I1 mk,z⟩
end
structure XI (K : B1) (C : Addr) : Prop where
 gg : XG K C
 cl : (PySem.W.clsIn K C).isSome = true
 at_ : BK K (.ref C) "__class__" = some (some (.builtin "object.__class__"))
 gt : PySem.W.specialIn K (.builtin "object.__class__") "__get__" = some (some (.builtin "getset_descriptor.__get__"))
 tk : PySem.W.takesIn K (.builtin "object.__class__") = some true
 ob : PySem.W.mroIn K C (.type "object") = some true
theorem findObj_cls {K : B1} {C : Addr} {od : Option Obj} (x : XI K C) : PySem.W.findObj K C od "__class__" = some (.bind (.builtin "getset_descriptor.__get__") (.builtin "object.__class__")) := by
 obtain ⟨cd,hc⟩ := CD.mp x.cl
 unfold PySem.W.findObj
 rw [hc,Option.bind_some,x.at_,Option.bind_some]
 simp [x.gt,x.tk]
theorem iJ {K : B1} {a C : Addr} (x : XI K C) : PySem.W.KitX K (.ref a) (.ref C) (fun h => ∃ ox od,PySem.W.InstAt h a ox C od) where
 ty := fun _ _ _ ⟨_,_,I⟩ => I.type
 it := fun _ _ X _ => fS X x.cl
 ne := fun h tp dd its n sl X htp => by
  refine Bool.eq_false_iff.mpr fun q => ?_
  have e : C = tp := Value.ref.inj (beq_iff_eq.mp q)
  subst e
  have c := x.cl
  unfold PySem.W.clsIn at c
  split at c
  ·rename_i ho
   have z := (X _ _ ho).symm.trans htp
   cases z
  ·cases c
 ca := fun {_ _ _ _ _ s} X I k => by
  obtain ⟨ox,od,I⟩ := I
  obtain ⟨hh,g,d,t,os⟩ := s
  unfold getAttr? getAttrBy?
  refine wpAny_bind (wpAny_mkText (wpAny_bind (wpAny_attempt (wN (h := hh) X I x.gg fun A' => iH X I (findObj_cls x) ?_))))
  exact wpAny_call (PySem.W.class_get (s := ⟨hh,g,d,t + 1,os⟩) (ox := ox) (od := od) X I x.ob (PySem.W.handed_on rfl (wpAny_pure k)))
def pD (H : Hp) (dx : Option Addr) : Prop := match dx with
 | none => True
 | some d => ∃ fs,H d = some (.xd fs)
theorem ky {X : Cx} {pins : List (Addr × Obj)} {σ : St} {H : Hp} {s : Shared} {a C : Addr} {n : Bool} {dx : Option Addr} (I : ar X pins σ H s) (e : H a = some (cm n a (.ref C) dx)) (d : pD H dx) : ∃ ox od,PySem.W.InstAt s.heap a ox C od := by
 obtain ⟨⟨ox,vs,h1,h2,h3,h4,_⟩,_⟩ := (show aR X.prog X.w H s.heap a (cm n a (.ref C) dx) from I.hok a _ e)
 have nc : PySem.W.notCls ox = true := by unfold PySem.W.notCls; rw [h4]
 cases dx with
 | none => exact ⟨ox,none,h1,h2,nc,by rw [h3]; trivial⟩
 | some d' =>
  obtain ⟨fs,hd⟩ := d
  obtain ⟨mA,⟨o,es,ep,e',_⟩,_⟩ := (show aR X.prog X.w H s.heap d' (.xd fs) from I.hok d' _ hd)
  exact ⟨ox,some o,h1,h2,nc,by rw [h3]; exact e'⟩
inductive AC (K : B1) (C : Addr) : V -> Bool -> Prop where
 | own {D : Addr} {b : Bool} (h : BR K (.ref C) (.ref D) = some b) : AC K C (.ref D) b
 | ty {T : String} {b : Bool} (h : BR K (.ref C) (.type T) = some b) : AC K C (.ty T) b
theorem eX {X : Cx} {K : B1} (hK : X.K = K) : cr X (.builtin "isinstance") (fun xs H Q => ∃ a C dx c b,xs = [.ref a,c] /\ (∃ n,H a = some (cm n a (.ref C) dx)) /\ pD H dx /\ XI K C /\ AC K C c b /\ Q (.bl b) H) := by
 subst hK
 intro pins s σ H xs us Q I r h
 obtain ⟨a,C,dx,c,b,rfl,⟨n,e⟩,d,xi,xs,q⟩ := h
 obtain ⟨u,w',rfl,e1,e2⟩ := vals2 r
 cases e1
 cases xs with
 | own h =>
  cases e2
  exact C3 (iJ xi) I.kIn (ky I e d) h (fun z => nomatch z) fun tk => ⟨.bl b,H,I.tok tk,rfl,q⟩
 | ty h =>
  cases e2
  exact C3 (iJ xi) I.kIn (ky I e d) h (fun z => nomatch z) fun tk => ⟨.bl b,H,I.tok tk,rfl,q⟩
abbrev Cx.block (X : Cx) (scope : Scope) (cl : List (Str × Addr)) (C : Addr) (N : List Str) (own : Str) (fp : List Addr) (s : Shared) (H : Hp) : Cx :=
 { X with env := compEnvC scope cl C X.env,N := N,s₀ := s,H₀ := H,outer := X.stack,stack := X.stack,ex := fp,fn := fun y => y == own,pn := [],xe := fun _ _ => False }
structure iK (X : Cx) (scope : Scope) (cl : List (Str × Addr)) (own : Str) (ys : List Str) (js : List Nat) : Prop where
 clos : closureFor scope X.env = pure cl
 nocell : (scope.names.all fun p => !(p.2 == .cell)) = true
 kind : scope.kind = .function
 loc : (scope.names.all fun p => !(p.2 == .local) || scope.names.lookup p.1 == some .local) = true
 ownL : scope.names.lookup own = some .local
 sub : ∀ p ∈ cl,X.env.cells.lookup p.1 = some p.2
 has : ((relabel scope X.env).names.all fun p => !(p.2 == .cell || p.2 == .free) || (cl.lookup p.1).isSome) = true
 noown : cl.lookup own = none
 nd : (own :: ys).Nodup
 at_ : ∀ (i : Nat) (y : Str),ys[i]? = some y -> ∃ j : Nat,js[i]? = some j /\ X.N[j]? = some y /\ (X.env.scope.names.lookup y = some .cell ∨ X.env.scope.names.lookup y = some .free) /\ ((relabel scope X.env).names.lookup y = some .cell ∨ (relabel scope X.env).names.lookup y = some .free)
 len : js.length = ys.length
def bu (js : List Nat) (σ : St) : St := js.map fun j => (σ[j]?).getD none
def v6 (js : List Nat) (te : TE) (σ : St) (Q : VK) : It -> Hp -> Prop := fun J H1 => ∀ p,H1 p = none -> ∃ W : Nat -> Nat -> List V -> Hp -> Prop,(∃ m,W 0 m [] (aq H1 p (.lst []))) /\
 ∀ i m ys H2,W i m ys H2 -> H2 p = some (.lst ys) /\ ((J.stop i H2 /\ Q (.ref p) H2) ∨ (J.go i H2 /\ ys.length < sizeLine /\ ∀ x H3,J.yld i H2 x H3 -> te (some x :: bu js σ) H3 fun y H4 => H4 p = some (.lst ys) /\ ∃ m',m' < m /\ W (i + 1) m' (ys ++ [y]) (aq H4 p (.lst (ys ++ [y])))))
def yo (wi : TI) (js : List Nat) (te : TE) : TE := fun σ H Q => wi σ H (v6 js te σ Q)
theorem lookup_all {α : Type} {f : Str × α -> Bool} {x : Str} {a : α} : ∀ {l : List (Str × α)},l.all f = true -> l.lookup x = some a -> f (x,a) = true := by
 intro l h e
 exact CQ.mp h _ (C4 e)
section
variable {prog : Program} {w : World} {A : Around} {R : Result -> Shared -> Prop} {s : Shared}
theorem kB {elt target iter : Expr} {scope : Scope} {pos : Pos} {it acc : Value} {env : Env} (I : Nat -> Shared -> Prop)
  (turn : ∀ n s,I n s -> wpAny (model prog w) A (pyNext it) (fun r s1 => match r with
   | none => R (.ok .next) s1
   | some v => wpAny (model prog w) A (letOwnedTupleGo target it v) (fun _ s2 => wpAny (model prog w) A (assign target env v) (fun _ s3 => wpAny (model prog w) A (eval elt env) (fun x s4 =>
     wpAny (model prog w) A (call (.builtin "list.append") [acc,x]) (fun _ s5 => ∃ m,m < n /\ I m s5) (fun _ _ => False) s4) (fun _ _ => False) s3) (fun _ _ => False) s2) (fun _ _ => False) s1) (fun _ _ => False) s)
  (n : Nat) (h : I n s) : codeAny (model prog w) A (.compLoop (.ListComp elt [⟨target,iter,[],0⟩] scope pos) 0 it acc env) R s := by
 apply codeAny_loop rfl I ?_ n h
 intro n s hI
 show wpAny _ _ ((compTurn (.ListComp elt [⟨target,iter,[],0⟩] scope pos) 0 it acc env).onRaise _) _ _ s
 apply wpAny_noted
 rw [compTurn_list1]
 apply wpAny_bind
 apply wpAny_standAt
 apply wpAny_bind
 refine wpAny_mono (turn n s hI) (fun r s1 h1 => ?_) fun _ _ z => z.elim
 cases r with
 | none => exact wpAny_pure h1
 | some v =>
  apply wpAny_bind
  refine wpAny_mono h1 (fun _ s2 h2 => ?_) fun _ _ z => z.elim
  apply wpAny_bind
  refine wpAny_mono h2 (fun _ s3 h3 => ?_) fun _ _ z => z.elim
  apply wpAny_bind
  apply wpAny_bind
  refine wpAny_mono h3 (fun x s4 h4 => ?_) fun _ _ z => z.elim
  apply wpAny_bind
  refine wpAny_mono h4 (fun _ s5 h5 => ?_) fun _ _ z => z.elim
  exact wpAny_pure (wpAny_pure ⟨rfl,h5⟩)
end
section
variable {X : Cx} {scope : Scope} {cl : List (Str × Addr)} {own : Str} {ys : List Str} {js : List Nat} {fp : List Addr} {pins : List (Addr × Obj)} {σ : St} {H : Hp} {s s4 : Shared}
theorem eI {h1 : Heap} (ok : iK X scope cl own ys js) (I : ar X pins σ H s) (hf : ∀ b ∈ fp,ef X pins H b) (hlt : ∀ b ∈ fp,b < s.heap.objs.size) (hns : h1.Ns s.heap.objs.size (fun _ => none))
  (hk : ∀ b o,s.heap.get? b = some o -> h1.get? b = some o) (tk : Nat) :
  ar (X.block scope cl s.heap.objs.size (own :: ys) own fp s H) [] (none :: bu js σ) H { s with heap := h1,toks := tk } := by
 have sub : ∀ y c,cl.lookup y = some c -> X.env.cells.lookup y = some c := fun y c e => ok.sub (y,c) (C4 e)
 refine ⟨⟨I.ok.mod,ok.kind,I.ok.glob,I.ok.blt,B3 _,fun x y c e1 e2 => I.ok.inj x y c (sub x c e1) (sub y c e2),fun x hx => ?_,fun x c e1 e2 => ?_,I.ok.hd,I.ok.frames,.inl rfl,fun b hb => ⟨BA (hlt b hb),fun x c e => (hf b hb).2.2.2.2.1 x c (sub x c e)⟩,
  I.bs,BZ I.ok.bsz I.sz,fun b o e hb => ?_,fun b hb z => ?_,I.stack,I.stkFree⟩,rfl,I.bare,Un.kept hk,⟨_,hns,fun i y v e1 e2 e3 => ?_⟩,fun y c e => ?_,I.hok.fresh (B3 _),fun y c e => I.freeC y c (sub y c e),fun p hp => absurd (show p ∈ ([] : List (Addr × Obj)) from hp) (by simp),I.hok.kept hk,?_⟩
 ·have hx' : (relabel scope X.env).names.lookup x = some .cell ∨ (relabel scope X.env).names.lookup x = some .free := hx
  rcases hx' with z | z
  ·have q := lookup_all ok.has z
   simp only [beq_self_eq_true,Bool.true_or,Bool.not_true,Bool.false_or] at q
   exact CD.mp q
  ·have q := lookup_all ok.has z
   simp only [beq_self_eq_true,Bool.or_true,Bool.not_true,Bool.false_or] at q
   exact CD.mp q
 ·have e1' : (x == own) = true := e1
  have e : x = own := beq_iff_eq.mp e1'
  have e2' : cl.lookup x = some c := e2
  rw [e,ok.noown] at e2'
  cases e2'
 ·rcases (hf b hb).2.2.2.1 with z | z
  ·exact I.ok.noex b o e z
  ·exact absurd (BO (Heap.lt_size (I.ok.bs b o e).1) z) (Nat.lt_irrefl _)
 ·rcases B9.mp (I.stkSub b z) with q | q
  ·exact (hf b hb).2.1 q
  ·exact (hf b hb).2.2.1 q
 ·cases i with
  | zero => cases e2
  | succ i =>
   have e1' : ys[i]? = some y := e1
   obtain ⟨j,hj,hN,hX,hc⟩ := ok.at_ i y e1'
   have e2' : (bu js σ)[i]? = some (some v) := e2
   unfold bu at e2'
   rw [BM,hj] at e2'
   have hs : σ[j]? = some (some v) := by
    cases q : σ[j]? with
    | none => rw [Cw,q] at e2'; cases e2'
    | some o => rw [Cw,q] at e2'; exact e2'
   obtain ⟨m,hn,hl⟩ := I.loc
   obtain ⟨u,r,l⟩ := hl j y v hN hs (hX.elim (fun z => .inr (.inl z)) fun z => .inr (.inr z))
   refine ⟨u,r,.inr ⟨hc,?_⟩⟩
   rcases l with ⟨k,_⟩ | ⟨k,c,hcl,hcell⟩
   ·have k' : X.env.scope.names.lookup y = some .local := k
    rcases hX with z | z <;> (rw [z] at k'; cases k')
   ·have ex : ∃ c',cl.lookup y = some c' := by
     rcases hc with z | z
     ·have q := lookup_all ok.has z
      simp only [beq_self_eq_true,Bool.true_or,Bool.not_true,Bool.false_or] at q
      exact CD.mp q
     ·have q := lookup_all ok.has z
      simp only [beq_self_eq_true,Bool.or_true,Bool.not_true,Bool.false_or] at q
      exact CD.mp q
    obtain ⟨c',hc'⟩ := ex
    have e := sub y c' hc'
    rw [hcl] at e
    cases e
    obtain ⟨oc,hoc,hd⟩ := hcell
    exact ⟨c,hc',oc,hk _ _ hoc,hd⟩
 ·obtain ⟨v,oc,hoc,hd⟩ := I.cell y c (sub y c e)
  exact ⟨v,oc,hk _ _ hoc,hd⟩
 ·show (none :: bu js σ).length = (own :: ys).length
  simp [bu,ok.len]
theorem gk {H' : Hp} {h' : Heap} {σ' : St} (I : ar X pins σ H s) (hf : ∀ b ∈ fp,ef X pins H b) (J : ar (X.block scope cl s.heap.objs.size (own :: ys) own fp s H) [] σ' H' s4) (hs : Heap.SameBut s.heap.objs.size s4.heap h') :
  ar X pins σ H' { s4 with heap := h' } := by
 have low : ∀ b o,s.heap.get? b = some o -> b ≠ s.heap.objs.size := fun b o e => BA (Heap.lt_size e)
 have B := J.base
 have u : Un (gL X.stack) fp H H' s.heap h' := {
  keep := fun b o q n hb hx => (hs.2 b (low b o q)).trans (B.keep b o q n hb hx)
  slot := fun b o q n hb hx => by
   obtain ⟨sl,e⟩ := B.slot b o q n hb hx
   exact ⟨sl,(hs.2 b (low b o q)).trans e⟩
  free := B.free
  there := fun b o q hx => by
   obtain ⟨o',e⟩ := B.there b o q hx
   exact ⟨o',(hs.2 b (low b o q)).trans e⟩
  tups := B.tups
  frzs := B.frzs
  tbls := B.tbls }
 have hn : H' s.heap.objs.size = none := J.free
 have hk : dv X.prog X.w H' h' := fun a o e => (J.hok a o e).stay (fun b v hb q => (hs.2 b (by
  intro z
  rcases hb with z' | z'
  ·rw [<- z',z,hn] at e; cases e
  ·rw [z,hn] at z'; cases z')).trans q) (fun _ q => q) fun _ _ q => q
 exact I.call' (s' := { s4 with heap := h' }) (ch := fp) J.os u hk J.bare fun b hb => ⟨(hf b hb).2.2.2.1,(hf b hb).2.1,(hf b hb).2.2.2.2.1,(hf b hb).2.2.2.2.2⟩
end
section
variable {X : Cx} {scope : Scope} {cl : List (Str × Addr)} {own : Str} {ys : List Str} {js : List Nat} {elt iter : Expr} {px pos : Pos} {wi : TI} {te : TE}
theorem pE (hc : X.calm = true) (ok : iK X scope cl own ys js) (hi : PI X (.Name own px) iter wi)
  (he : ∀ (C : Addr) (fp : List Addr) (s : Shared) (H : Hp),PE (X.block scope cl C (own :: ys) own fp s H) elt te)
  (hs : ∀ x,foldedSetIterable iter X.env x = pure x := by intro _; rfl) : PE X (.ListComp elt [⟨.Name own px,iter,[],0⟩] scope pos) (yo wi js te) := by
 intro pins s σ H Q I h
 rw [eval_ListComp]
 have ncell : ∀ y ∈ scope.names,y.2 ≠ .cell := fun y hy z => by
  have q := CQ.mp ok.nocell y hy
  rw [z] at q
  simp at q
 have nloc : ∀ y ∈ scope.names,y.2 = .local -> scope.names.lookup y.1 = some .local := fun y hy z => by
  have q := CQ.mp ok.loc y hy
  rw [z] at q
  simpa using q
 refine wpAny_comprehension_free (use := none) rfl hs ok.clos ok.kind nloc (aX (hi pins s σ H _ I h) fun v s1 h1 => aX h1 fun itv s2 h2 => ?_)
 obtain ⟨it,fp,tn,J,H2,rfl,I2,T,st2,f2,q2⟩ := h2
 obtain ⟨W,⟨m0,w0⟩,turn⟩ := q2 s2.heap.objs.size (I2.hok.fresh (B3 _))
 refine wpAny_newObj_type (wpAny_newFunctionEnv ncell (by intro y hy; simp at hy) (fun h1 hns hsb => ?_) ok.kind)
 have I3 := I2.laid (a := s2.heap.objs.size) (o := .lst []) (h' := s2.heap.push { cls := .type "list",dict := none,data := .seq ([] : List Value).toArray }) (t' := s2.toks) (fun b u q => Heap.get?_push_of_some _ q) (B3 _)
  ⟨BY _,[],0,.nil,Heap.get?_push_size _ rfl⟩
 have fpo : ∀ b ∈ fp,b < s2.heap.objs.size := fun b hb => by
  obtain ⟨o,e,_⟩ := T.obj 0 _ st2 b hb
  exact Heap.lt_size e
 have f3 : ∀ b ∈ fp,ef X pins (aq H2 s2.heap.objs.size (.lst [])) b := fun b hb => ⟨by rw [aj (BA (fpo b hb))]; exact (f2 b hb).1,(f2 b hb).2⟩
 generalize hs3 : ({ s2 with heap := s2.heap.push { cls := .type "list",dict := none,data := .seq ([] : List Value).toArray },toks := s2.toks } : Shared) = s3 at I3
 have e3 : s3.heap = s2.heap.push { cls := .type "list",dict := none,data := .seq ([] : List Value).toArray } := by rw [<- hs3]
 have lt3 : ∀ b ∈ fp,b < s3.heap.objs.size := fun b hb => by rw [e3,Heap.size_push]; exact CN (fpo b hb)
 dsimp only at hns hsb ⊢
 rw [<- e3] at hns hsb
 have hk : ∀ b o,s3.heap.get? b = some o -> h1.get? b = some o := fun b o e => hsb.extBut b o (BA (Heap.lt_size e)) (Heap.get?_push_of_some _ e)
 have J0 := eI (h1 := h1) ok I3 f3 lt3 hns hk (s2.toks + 0)
 have t0 : tn 0 h1 := T.keep 0 _ _ st2 fun b hb o e => hk b o (by rw [e3]; exact Heap.get?_push_of_some _ e)
 have fpB : ∀ {H' : Hp},(∀ b ∈ fp,H' b = none) -> ∀ b ∈ fp,ef (X.block scope cl s3.heap.objs.size (own :: ys) own fp s3 (aq H2 s2.heap.objs.size (.lst []))) [] H' b := fun {H'} hn b hb =>
  ⟨hn b hb,BA (lt3 b hb),fun z => (B9.mp (I3.stkSub b z)).elim (f3 b hb).2.1 (f3 b hb).2.2.1,.inl hb,fun x c e => (f3 b hb).2.2.2.2.1 x c (ok.sub (x,c) (C4 e)),fun p hp => absurd (show p ∈ ([] : List (Addr × Obj)) from hp) (by simp)⟩
 have loop : codeAny (model X.prog X.w) X.A (.compLoop (.ListComp elt [⟨.Name own px,iter,[],0⟩] scope pos) 0 (.ref it) (.ref s2.heap.objs.size) (compEnvC scope cl s3.heap.objs.size X.env))
   (compPost (model X.prog X.w) X.A X.xe none (EP X pins σ Q) (.ref s2.heap.objs.size) s3.heap.objs.size) { s3 with heap := h1,toks := s2.toks + 0 } := by
  refine kB (fun n s' => ∃ i zs o0 H',ar (X.block scope cl s3.heap.objs.size (own :: ys) own fp s3 (aq H2 s2.heap.objs.size (.lst []))) [] (o0 :: bu js σ) H' s' /\ tn i s'.heap /\ (∀ b ∈ fp,H' b = none) /\ W i n zs H') ?_ m0
   ⟨0,[],none,_,J0,t0,fun b hb => (f3 b hb).1,w0⟩
  rintro n s5 ⟨i,zs,o0,H5,I5,t5,n5,w5⟩
  obtain ⟨hD,hw⟩ := turn i n zs H5 w5
  rcases hw with ⟨stop,qn⟩ | ⟨go,hz,step⟩
  ·refine aX (T.done (X.block scope cl s3.heap.objs.size (own :: ys) own fp s3 (aq H2 s2.heap.objs.size (.lst []))) rfl rfl rfl hc i [] s5 _ H5 (fun _ _ => False) I5 (fpB n5) t5 stop) fun r s6 ⟨hr,I6⟩ => ?_
   subst hr
   obtain ⟨m,hn,_⟩ := id I6.loc
   exact ⟨m,hn,fun h' hs' => ⟨V.ref s2.heap.objs.size,H5,gk I3 f3 I6 hs',rfl,qn⟩⟩
  ·refine aX (T.item (X.block scope cl s3.heap.objs.size (own :: ys) own fp s3 (aq H2 s2.heap.objs.size (.lst []))) rfl rfl rfl hc i [] s5 _ H5 (fun _ _ => False) I5 (fpB n5) t5 go) fun r s6 ⟨u,hr,h6⟩ => ?_
   subst hr
   refine aX h6 fun _ s7 ⟨x,H7,I7,r7,y7,t7,n7⟩ => ?_
   have I7' := I7.pinned (fpB n7) (T.obj _ _ t7)
   have hst := step x H7 y7
   have own' : (relabel scope X.env).names.lookup own = some .local := lookup_relabel_local ok.ownL
   refine aX (bJ (X := X.block scope cl s3.heap.objs.size (own :: ys) own fp s3 (aq H2 s2.heap.objs.size (.lst []))) (i := 0) (x := own) (pos := px) ok.nd rfl (.inl own') (.inr own') _ s7 _ H7 x u (fun σ' H' => σ' = some x :: bu js σ /\ H' = H7) I7' r7 ⟨rfl,rfl⟩) fun _ s8 ⟨σ8,H8,I8,e8,eH8⟩ => ?_
   subst e8 eH8
   refine aX (he _ _ _ _ _ s8 _ H8 _ I8 hst) fun yv s9 ⟨y,H9,I9,r9,hD9,m',hm,w9⟩ => ?_
   refine aX (bP _ s9 _ H9 (.ref s2.heap.objs.size) [y] (.ref s2.heap.objs.size) [yv] (fun _ H' => H' = aq H9 s2.heap.objs.size (.lst (zs ++ [y]))) I9 rfl (.cons r9 .nil) ⟨_,zs,y,rfl,rfl,hD9,hz,rfl⟩) fun _ s10 ⟨_,H10,I10,_,e10⟩ => ?_
   subst e10
   refine ⟨m',hm,i + 1,zs ++ [y],some x,_,I10.unpinned,T.keep _ _ _ t7 fun b hb o e => (I10.pin (b,o) (BC _ (BC _ (bH hb e)))).1,fun b hb => ?_,w9⟩
   obtain ⟨o,e,d⟩ := T.obj _ _ t7 b hb
   exact (I10.pin (b,o) (BC _ (BC _ (bH hb e)))).2.1
 subst hs3
 exact codeAny_compStart_list loop (T.self _ 0 _ _ _ t0 loop)
end
open PySem.Builtin PySem.Builtin.ObjectAttr
structure XA (K : B1) (C S : Addr) : Prop where
 sa : BK K (.ref C) "__setattr__" = some (some (.builtin "object.__setattr__"))
 mro : (PySem.W.clsIn K C).map (·.mro) = some (.ref C :: .ref S :: rE)
 dct : PySem.W.hasDictIn K C = true
 ob : PySem.W.mroIn K C (.type "object") = some true
theorem sv (self : Value) (C S : Addr) : refuseLoop self "__setattr__" (.ref C :: .ref S :: rE) = pure () := by
 rw [refuseLoop_ref,refuseLoop_ref]
 kernel_rfl
section
variable {prog : Program} {w : World} {A : Around} {E : Value -> Shared -> Prop} {s : Shared} {K : B1} {x C S : Addr} {ox : Obj} {od : Option Obj} {name : Str} {v : Value}
open PySem.W in
theorem uG {R : Result -> Shared -> Prop} {tk : Tok} (X : K.In s.heap) (I : InstAt s.heap x ox C od) (N : XA K C S) (hn : findIn K (.ref C) name = some none)
  (h : wpAny (model prog w) A.in1 (storeInOwnDict (.ref x) (.ref C) (.str name tk) name v false) (fun fin s' => match fin with | .done f => R (.ok f) s' | .again c' => c'.quiet = true /\ codeAny (model prog w) A c' R s') (fun e s' => R (.error e) s') s) :
  codeAny (model prog w) A (.call (.builtin "object.__setattr__") ⟨[.ref x,.str name tk,v],[]⟩) R s := by
 have so := PySem.F.store_object
 obtain ⟨cd,hc,hm⟩ := CA.mp N.mro
 have sub : Looks (model prog w) s.heap (isInstance (.ref x) (.type "object")) true := I.type.andThen (looks_mroIn X N.ob)
 have lm : Looks (model prog w) s.heap (mroOf (.ref C)) cd.mro := (looks_clsIn X hc).andThen .now
 have ck : ∀ {A' : Around} {Q' : Unit -> Shared -> Prop} {E' : Value -> Shared -> Prop},Q' () s -> wpAny (model prog w) A' (checkBuiltinCall "object.__setattr__" ⟨[.ref x,.str name tk,v],[]⟩) Q' E' s := fun {A' Q' E'} q =>
  check_slot (M := model prog w) (A := A') (E := E') (s := s) (i := "object.__setattr__") (owner := "object") (n := "__setattr__") (self := .ref x) (rest := [.str name tk,v]) (kw := []) (Q := Q') so.kind so.split sub (so.args (.ref x) (.str name tk) v) q
 refine codeAny_call_builtin so.slot.plain so.entry (ck ?_)
 rw [osa_eq,refuse_eq]
 refine wpAny_bind (wpAny_bind (I.type.here ?_))
 refine wpAny_bind (lm.here ?_)
 rw [hm,sv]
 refine wpAny_pure (wpAny_bind ?_)
 refine I.type.here (wpAny_bind ?_)
 refine (looks_findIn X hn).here (wpAny_bind (wpAny_pure ?_))
 exact h
open PySem.W in
theorem uH {vs : Array Value} {Q : Unit -> Shared -> Prop} (X : K.In s.heap) (he : s.heap.get? x = some ox) (hc : ox.cls = .ref C) (hdx : ox.dict = none) (hda : ox.data = .fields vs) (N : XA K C S) (hn : findIn K (.ref C) name = some none)
  (h : ∀ h',(∀ b o,b ≠ x -> s.heap.get? b = some o -> h'.get? b = some o) -> h'.get? x = some { ox with dict := some s.heap.objs.size } -> h'.Ns1 s.heap.objs.size (fun y => if y = name then some v else none) ->
   Q () { s with heap := h',toks := s.toks + 2 }) : wpAny (model prog w) A (setAttr (.ref x) name v) Q E s := by
 have I : InstAt s.heap x ox C none := ⟨he,hc,by unfold notCls; rw [hda],by rw [hdx]; trivial⟩
 apply set_plain X I N.sa
 have I2 : InstAt ({ s with toks := s.toks + 1 } : Shared).heap x ox C none := I
 apply uG (s := { s with toks := s.toks + 1 }) X I2 N hn
 obtain ⟨cd,hcd,hd⟩ := any_some N.dct
 obtain ⟨oc,odi,oda,osl⟩ := ox
 dsimp only at hc hdx hda
 subst hc hdx hda
 refine wpAny_bind (wpAny_pure (wpAny_bind (wpAny_bind (wpAny_loadPart he ?_))))
 refine wpAny_bind (Looks.here (s := { s with toks := s.toks + 1 }) (looks_clsIn X hcd) ?_)
 rw [hd]
 show wpAny _ _ (alloc { cls := .type "dict",data := .dict #[] } >>= fun d => update x (fun o => { o with dict := some d }) >>= fun _ => dictMade (.ref C) x d) _ _ _
 refine wpAny_bind (wpAny_alloc ?_)
 have lt := Heap.lt_size he
 have hne : x ≠ s.heap.objs.size := BA lt
 have he1 := Heap.get?_push_of_some (h := s.heap) { cls := .type "dict",data := .dict #[] } he
 have e1 : (s.heap.push BQ).get? s.heap.objs.size = some BQ := Heap.get?_push_size s.heap rfl
 have e2 : (s.heap.push BQ).Ns s.heap.objs.size (fun _ => none) := ⟨BQ,#[],_,e1,rfl,(fun e he => absurd he (by simp)),fun _ => rfl⟩
 refine wpAny_bind (wpAny_update he1 ?_)
 refine wpAny_pure ?_
 have up : ∀ b,b ≠ x -> ((s.heap.push BQ).update x (fun o => { o with dict := some s.heap.objs.size })).get? b = (s.heap.push BQ).get? b := fun b hb => Heap.get?_update_other _ _ (Ne.symm hb)
 have e3 : ((s.heap.push BQ).update x (fun o => { o with dict := some s.heap.objs.size })).Ns1 s.heap.objs.size (fun _ => none) := (Heap.Ns1.of_empty e2).at fun o q => (up _ (Ne.symm hne)).trans q
 have e4 : ((s.heap.push BQ).update x (fun o => { o with dict := some s.heap.objs.size })).get? x = some ⟨.ref C,some s.heap.objs.size,.fields vs,osl⟩ := Heap.get?_update_self _ he1 rfl
 refine wpAny_bind (wpAny_pure (wpAny_bind ?_))
 refine wpAny_nsSet1 (s := ⟨(s.heap.push BQ).update x (fun o => { o with dict := some s.heap.objs.size }),s.gens,s.drawn,s.toks + 1,s.os⟩) e3 fun h' hn2 hs2 => ?_
 obtain ⟨oD,esD,epD,hoD,hdD,hcD⟩ := hn2.count (ns := [name]) (PySem.Within.cons (ns := []) name v (fun y hy => absurd rfl hy))
 refine wpAny_bind (wpAny_lookBehind hoD (by rw [hdD]; exact pastItsLine_dict (BZ hcD (by show 1 <= sizeLine + 1; decide))) ?_)
 refine wpAny_pure (h h' (fun b o hb q => ?_) ((hs2.2 x hne).trans e4) hn2)
 have hbd : b ≠ s.heap.objs.size := BA (Heap.lt_size q)
 exact (hs2.2 b hbd).trans ((up b hb).trans (Heap.get?_push_of_some _ q))
end
def yq (K : B1) (ta tv : TE) (f : Str) : TS := fun D σ H => tv σ H fun y H1 => ta σ H1 fun x H2 => ∃ a C S n,x = .ref a /\ H2 a = some (cm n a (.ref C) none) /\ XA K C S /\ BK K (.ref C) f = some none /\
 ∀ d,H2 d = none -> D.nx σ (aq (aq H2 d (.xd [(f,y)])) a (cm n a (.ref C) (some d)))
section
variable {X : Cx} {o value : Expr} {f : Str} {pos pos' : Pos} {ta tv : TE}
theorem uI {pins : List (Addr × Obj)} {σ : St} {H : Hp} {s : Shared} {a C S : Addr} {y : V} {u : Value} {n : Bool} {A : Around} {E : Value -> Shared -> Prop} {Q : Unit -> Shared -> Prop} (I : ar X pins σ H s) (e : H a = some (cm n a (.ref C) none)) (N : XA X.K C S)
  (hn : BK X.K (.ref C) f = some none) (ry : RelV y u) (h : ∀ d s',H d = none -> ar X pins σ (aq (aq H d (.xd [(f,y)])) a (cm n a (.ref C) (some d))) s' -> Q () s') :
  wpAny (model X.prog X.w) A (setAttr (.ref a) f u) Q E s := by
 obtain ⟨⟨ox,vs,h1,h2,h3,h4,h6,h5⟩,_⟩ := (show aR X.prog X.w H s.heap a (cm n a (.ref C) none) from I.hok a _ e)
 refine uH I.kIn h1 h2 h3 h4 N hn fun h' kp ha hd => ?_
 have nd : H s.heap.objs.size = none := I.hok.fresh (B3 _)
 have ad : a ≠ s.heap.objs.size := aQ e nd
 refine h s.heap.objs.size _ nd ?_
 have ne : ∀ b o,H b = some o -> b ≠ s.heap.objs.size := fun b o q => aQ q nd
 have nea : ∀ b,H b = none -> b ≠ a := fun b q z => by rw [z,e] at q; cases q
 refine I.un (t' := s.toks + 2) (h' := h') ⟨?_,?_,?_,?_,?_,?_,?_⟩ ?_
 ·intro b o q n hb _
  exact kp b o (nea b n) q
 ·intro b o q n hb _
  exact ⟨o.slots,kp b o (nea b n) q⟩
 ·intro b o q n _
  rw [aj (nea b n),aj (BA (Heap.lt_size q))]
  exact n
 ·intro b o q _
  by_cases hb : b = a
  ·subst hb
   exact ⟨_,ha⟩
  ·exact ⟨o,kp b o hb q⟩
 ·intro b xs q
  have hb : b ≠ a := bS q e (by intro z; cases z)
  rw [aj hb,aj (ne b _ q)]
  exact q
 ·intro b o' u' q
  have hb : b ≠ a := bS q e (by intro z; cases z)
  rw [aj hb,aj (ne b _ q)]
  exact q
 ·intro b ps q
  have hb : b ≠ a := bS q e (by intro z; cases z)
  exact ⟨#[],by rw [aj hb,aj (ne b _ q),q]; simp⟩
 ·intro b ob q
  by_cases hb : b = a
  ·subst hb
   rw [ac] at q
   cases q
   exact kx ha h2 rfl h4 h6 h5
  ·rw [aj hb] at q
   by_cases hbd : b = s.heap.objs.size
   ·subst hbd
    rw [ac] at q
    cases q
    refine ⟨_,hd,fun g => ?_⟩
    show dh (Ce g [(f,y)]) (if g = f then some u else none)
    by_cases hg : g = f
    ·subst hg
     rw [if_pos rfl]
     simp only [Ce,beq_self_eq_true]
     exact ry
    ·rw [if_neg hg]
     have : (g == f) = false := beq_eq_false_iff_ne.mpr hg
     simp only [Ce,this]
     trivial
   ·rw [aj hbd] at q
    refine (I.hok b ob q).stay (fun c v hc z => kp c v (fun y => ?_) z) (fun c z => ?_) fun c xs z => ?_
    ·rcases hc with z' | z'
     ·exact hb (z'.symm.trans y)
     ·rw [y,e] at z'; cases z'
    ·have hc : c ≠ a := bS z e (by intro z; cases z)
     rw [aj hc,aj (ne c _ z)]
     exact z
    ·have hc : c ≠ a := bS z e (by intro z; cases z)
     rw [aj hc,aj (ne c _ z)]
     exact z
end
section
variable {X : Cx} {o e value : Expr} {f : Str} {pos pos' : Pos} {ta tv : TE}
theorem uJ {K : B1} (hK : X.K = K) (ha : PE X o ta) (hv : PE X value tv) (hs : swapsWith value (some (.Attribute o f pos')) pos.line X.env = pure false) : PS X (.Assign [.Attribute o f pos'] value pos) (yq K ta tv f) := by
 subst hK
 intro pins s σ H D I h
 refine plainObj_wpAny_Assign_Attribute (aX (hv pins s σ H _ I h) fun u s1 ⟨y,H1,I1,ry,q⟩ => aX (ha pins s1 σ H1 _ I1 q) fun ov s2 ⟨x,H2,I2,rx,a,C,S,nb,ex,ea,n,hn,q2⟩ => ?_) hs
 subst ex
 obtain rfl : ov = Value.ref a := rx
 exact uI I2 ea n hn ry fun d s3 nd I3 => ⟨σ,_,I3,q2 d nd⟩
end
theorem uK {K : B1} {h : Heap} {N : Addr} {mg : Str -> Option Value} {n : Str} {v : Value} (X : K.In h) (G : h.Ns N mg) (e : B6 K N n = some (some v)) : mg n = some v := by
 obtain ⟨o,es,ep,ho,hd,_,hf⟩ := G
 unfold B6 at e
 split at e
 ·rename_i q
  have z := X _ _ q
  rw [ho] at z
  cases z
  cases hd
  split at e
  ·rename_i he
   cases e
   rw [<- hf]
   unfold nsFind findBy
   rw [<- Array.find?_toList,he]
   rfl
  ·split at e <;> cases e
 ·cases e
structure zU (K : B1) (C f : Addr) : Prop where
 ex : ∃ bm N nm q bs hdct sn sub ab col dd k0 k1 k2 k3 k5,K.lookup C = some (excClassObj nm q C N bs bm hdct sn sub ab col dd k0 k1 k2 k3 k5 "ValueError.__new__") /\ PySem.W.nsOkIn K N = true /\ B6 K N "__init__" = some (some (.ref f)) /\ PySem.W.tailIn K rE bm = true
 fn : PySem.W.typeIn K (.ref f) = some (.type "function")
 kp : C7 K (.ref C) = true
section
variable {prog : Program} {w : World} {A : Around} {E : Value -> Shared -> Prop} {h : Heap} {g : Array GenState} {d : Drawn} {t : Nat} {os : OsState}
variable {nm q : Str} {C N : Addr} {bs bm : List Value} {hdct : Bool} {sn : List Str} {sub : List Value} {ab : Bool} {col : Option Bool} {dd : Option Addr} {k0 k1 k2 k3 k5 : Option Value}
theorem iL {mN : Str -> Option Value} {rest : List Value} {fI : Addr} {oI : Obj} {Q : Fin -> Shared -> Prop} (tl : OwnTail h rE bm)
  (cl : h.get? C = some (excClassObj nm q C N bs bm hdct sn sub ab col dd k0 k1 k2 k3 k5 "ValueError.__new__")) (nn : h.Ns N mN) (ni : mN "__init__" = some (.ref fI)) (gI : h.get? fI = some oI) (cI : oI.cls = .type "function")
  (kq : ∀ h' e,Heap.MadeExcOf h h' e (.ref C) rest -> wpAny (model prog w) A (call (.ref fI) (.ref e :: rest)) (fun r s' => r = .none /\ Q (.done (.ret (.ref e))) s') E ⟨h',g,d,t,os⟩) (lr : rest.length <= sizeLine) :
  wpAny (model prog w) A (Builtin.«type.__call__» ⟨.ref C :: rest,[]⟩) Q E ⟨h,g,d,t,os⟩ := by
 have FV := PySem.F.excBase_ValueError
 repeat (first | with_reducible refine wpAny_loadPart_at cl ?_ | with_reducible refine wpAny_madeBy_exc cl ?_ | wp_step)
 refine codeAny_call_builtin_code (Code.quiet_builtin _ FV.quiet) (wpAny_check_new_subT FV tl cl ?_)
 refine codeAny_exc_new_subT FV tl cl ?_ lr
 show wpAny _ _ _ _ _ _
 generalize hp : (h.push { cls := .type "tuple",data := .seq rest.toArray }).push { cls := .ref C,data := .fields #[.ref h.objs.size,.none,.none,.none,.bool false,.none] } = h2
 have kp : ∀ b o,h.get? b = some o -> h2.get? b = some o := fun b o z => by rw [<- hp]; exact Heap.get?_push_of_some _ (Heap.get?_push_of_some _ z)
 have ge : h2.get? (h.objs.size + 1) = some { cls := .ref C,data := .fields #[.ref h.objs.size,.none,.none,.none,.bool false,.none] } := by rw [<- hp]; heap_get
 have gt : h2.get? h.objs.size = some { cls := .type "tuple",data := .seq rest.toArray } := by rw [<- hp]; exact Heap.get?_push_of_some _ (Heap.get?_push_at rfl rfl)
 have cl2 := kp _ _ cl
 have nn2 : h2.Ns N mN := nn.keeps kp
 have self : (Value.ref C :: bm).contains (.ref C) = true := by simp
 unfold isInstance
 repeat (first | with_reducible refine wpAny_loadPart_at ge ?_ | (with_reducible refine wpAny_isSubtype_exc cl2 ?_; rw [self]) | wp_step)
 show wpAny _ _ (typeLookup (.ref C) _) _ _ _
 refine wpAny_typeLookup_tail cl2 nn2 (tl.keeps kp) FV.mroIs FV.init.lookup ?_
 rw [ni]
 refine wpAny_holding (wpAny_bind ?_)
 unfold bindSpecial
 refine wpAny_bind (wpAny_typeOf (T := "function") ⟨_,kp _ _ gI,cI⟩ ?_)
 rw [if_pos (by decide)]
 refine wpAny_pure (wpAny_bind ?_)
 refine wpAny_mono (kq h2 (h.objs.size + 1) ⟨kp,Heap.get?_none_of_le (Nat.le_succ _),h.objs.size,ge,Heap.get?_none_of_le (B3 _),gt⟩) (fun r s' hr => ?_) fun _ _ z => z
 obtain ⟨rfl,z⟩ := hr
 wp_walk
 exact z
theorem qC {mN : Str -> Option Value} {rest : List Value} {fI : Addr} {oI : Obj} {Q : Value -> Shared -> Prop} (tl : OwnTail h rE bm)
  (cl : h.get? C = some (excClassObj nm q C N bs bm hdct sn sub ab col dd k0 k1 k2 k3 k5 "ValueError.__new__")) (nn : h.Ns N mN) (ni : mN "__init__" = some (.ref fI)) (gI : h.get? fI = some oI) (cI : oI.cls = .type "function")
  (kq : ∀ h' e,Heap.MadeExcOf h h' e (.ref C) rest -> wpAny (model prog w) (A.under (.builtin "type.__call__" ⟨.ref C :: rest,[]⟩)) (call (.ref fI) (.ref e :: rest)) (fun r s' => r = .none /\ Q (.ref e) s') E ⟨h',g,d,t,os⟩) (lr : rest.length <= sizeLine) :
  wpAny (model prog w) A (call (.ref C) rest) Q E ⟨h,g,d,t,os⟩ := by
 have a1 := tc_lookup
 have a2 := tc_bind (.ref C)
 have ty : (⟨h,g,d,t,os⟩ : Shared).TypeIs (.ref C) "type" := ⟨_,cl,rfl⟩
 refine wpAny_call (codeAny_of_tree ?_)
 show wpAny _ _ (callAny (.ref C) _) _ _ _
 repeat (any_goals (first | assumption | with_reducible refine wpAny_loadPart_at cl ?_ | wp_step))
 refine ⟨rfl,?_⟩
 refine codeAny_call_builtin_at (Code.quiet_builtin _ (by decide +kernel)) entry_typeCall (wpAny_check_type_call_sub cl ?_)
 exact iL tl cl nn ni gI cI (fun h' e mk => kq h' e mk) lr
end
section
variable {X : Cx} {x : Str} {p pos : Pos} {e : Expr} {es : List Expr} {C fI : Addr} {t : TA} {k : Nat} {fd : FuncData} {ps : List Str} {sp : Sp}
theorem sw {pins : List (Addr × Obj)} {σ : St} {H : Hp} {s : Shared} {Q : Value -> Shared -> Prop} {us : List Value} {vs : List V} {E : Value -> Shared -> Prop} {R : Addr -> Hp -> Prop} (M : zU X.K C fI) (F : aZ X.prog X.w X.K X.mg X.base bg k fI fd ps sp) (hr : bA (k + 1) X.A) (hb : Binds X.K fd ps [])
  (I : ar X pins σ H s) (r : aN vs us) (lr : vs.length <= sizeLine) (h : ∀ a,H a = none -> sp (.ref a :: vs) (aq H a (cm true a (.ref C) none)) (fun v H2 => v = .non /\ R a H2) E0)
  (hq : ∀ a h' H2 s2,Heap.MadeExcOf s.heap h' a (.ref C) us -> s2.os = s.os -> AllBare s2.gens -> Un (gL X.stack) [] H H2 s.heap s2.heap -> dv X.prog X.w H2 s2.heap -> R a H2 -> Q (.ref a) s2) :
  wpAny (model X.prog X.w) X.A (call (.ref C) us) Q E s := by
 obtain ⟨bm,N,nm,qn,bs,hdct,sn,sub,ab,col,dd,k0,k1,k2,k3,k5,lk,ok,ini,tl⟩ := M.ex
 have KX := I.kIn
 have lr' : us.length <= sizeLine := by rw [<- r.length]; exact lr
 have fn := M.fn
 unfold PySem.W.typeIn at fn
 obtain ⟨oI,gI,cI⟩ := CA.mp fn
 have nn : s.heap.Ns N (s.heap.nsMap N) := .of_isNs (PySem.W.isNs_of_in KX ok)
 have key := fun h' a (mk : Heap.MadeExcOf s.heap h' a (.ref C) us) => (pC I mk).caughtN I
 have un := fun h' a (mk : Heap.MadeExcOf s.heap h' a (.ref C) us) => iG (o := cm true a (.ref C) none) (Un.kept (fs := gL X.stack) (ex := []) (H := H) mk.keeps) mk.new (I.hok.none_of mk.new)
 obtain ⟨hh,g,d,tk,os⟩ := s
 refine qC (PySem.W.tail_of_in KX tl) (KX _ _ lk) nn (uK KX nn ini) (KX _ _ gI) cI (fun h' a mk => ?_) lr'
 have I2 := key h' a mk
 have na : H a = none := I.hok.none_of mk.new
 have hs := h a na
 have r2 : aN (V.ref a :: vs) (Value.ref a :: us) := .cons rfl r
 have hl : (Value.ref a :: us ++ []).length = ps.length := by
  rw [D1,<- r2.length]
  exact F.len _ _ _ _ hs
 have hb' := hb ⟨h',g,d,tk,os⟩ (Value.ref a :: us) I2.kIn hl
 rw [D1] at hb'
 refine wpAny_call (codeAny_mono (F.run _ X.stack _ _ ⟨Value.ref a :: us,[]⟩ (Value.ref a :: us) _ _ E0 (hr.make C us []) (I2.env0.make C us []) hb' r2 hs) fun rr s' hq' => ?_)
 cases rr with
 | error z => exact hq'.elim
 | ok fl =>
  cases fl with
  | ret u =>
   obtain ⟨v,H2,os',bare,un2,hok,rv,ev,q2⟩ := hq'
   subst ev
   exact ⟨rv,hq a h' H2 s' mk os' bare ((un h' a mk).trans un2) hok q2⟩
  | next => exact False.elim hq'
  | brk => exact False.elim hq'
  | cont => exact False.elim hq'
end
section
variable {M : Model} {A : Around} {E : Value -> Shared -> Prop} {env : Env}
variable {nm q : Str} {C N : Addr} {bs bm : List Value} {hdct : Bool} {sn : List Str} {sub : List Value} {ab : Bool} {col : Option Bool} {dd : Option Addr} {k0 k1 k2 k3 k5 : Option Value} {nw : String}
theorem qE {s : Shared} {x : Sem Value} {Q : Flow -> Shared -> Prop} (hb : bm.contains (.type "BaseException") = true) (hh : A.handled = none)
  (h : wpAny M A x (fun v s1 => ∃ e dx ws sl,v = .ref e /\ s1.heap.get? C = some (excClassObj nm q C N bs bm hdct sn sub ab col dd k0 k1 k2 k3 k5 nw) /\ s1.heap.get? e = some ⟨.ref C,dx,.fields ws,sl⟩ /\ ws[1]? = some .none /\ E (.ref e) s1) E s) :
  wpAny M A (raiseStmt env (some x) none) Q E s := by
 have cb : (Value.ref C :: bm).contains (.type "BaseException") = true := by rw [List.contains_cons,hb,Bool.or_true]
 unfold raiseStmt
 apply wpAny_bind
 refine wpAny_mono h (fun v s1 h1 => ?_) fun _ _ z => z
 obtain ⟨e,dx,ws,sl,rfl,cl,ge,n1,he⟩ := h1
 obtain ⟨hp,g,d,tk,os⟩ := s1
 repeat (first | with_reducible refine wpAny_loadPart_at ge ?_ | with_reducible refine wpAny_loadPart_at cl ?_ | (with_reducible refine wpAny_isSubtype_exc cl ?_; rw [cb]) | wp_step)
 rw [n1]
 refine wpAny_pure ?_
 rw [if_neg (by decide)]
 exact wpAny_pure (wpAny_raiseNew_none hh he)
end
def del (H : Hp) (a : Addr) : Hp := fun b => if b = a then none else H b
theorem dW {H : Hp} {a b : Addr} (h : b ≠ a) : del H a b = H b := if_neg h
theorem iM {H : Hp} {a : Addr} : del H a a = none := if_pos rfl
theorem wQ {fs : List Addr} {H H2 : Hp} {h0 h : Heap} {a : Addr} (u : Un fs [] H H2 h0 h) (na : H a = none) : Un fs [] H (del H2 a) h0 h where
 keep := u.keep
 slot := u.slot
 free := fun b o q n hx => by
  by_cases hb : b = a
  ·rw [hb,iM]
  ·rw [dW hb]; exact u.free b o q n hx
 there := u.there
 tups := fun b xs e => by rw [dW (aQ e na)]; exact u.tups b xs e
 frzs := fun b o w e => by rw [dW (aQ e na)]; exact u.frzs b o w e
 tbls := fun b ps e => by rw [dW (aQ e na)]; exact u.tbls b ps e
theorem uL {P : Program} {w : World} {H : Hp} {h : Heap} {a : Addr} {φ : Heap -> Prop} (k : dv P w H h) (e : H a = some (.ext φ)) : dv P w (del H a) h := fun b o q => by
 by_cases hb : b = a
 ·rw [hb,iM] at q; cases q
 ·rw [dW hb] at q
  refine (k b o q).stay (fun c v _ z => z) (fun c z => ?_) fun c xs z => ?_
  ·rw [dW (bS z e (by intro y; cases y))]; exact z
  ·rw [dW (bS z e (by intro y; cases y))]; exact z
def pG (C : Addr) (sp : Sp) (E : St -> XK) (t : TA) : TS := fun _ σ H => t σ H fun vs H1 => vs.length <= sizeLine /\ ∀ a,H1 a = none -> sp (.ref a :: vs) (aq H1 a (cm true a (.ref C) none)) (fun v H2 => v = .non /\ ∃ d,H2 a = some (cm true a (.ref C) (some d)) /\ E σ (.ref C) (some d) (del H2 a)) E0
section
variable {X : Cx} {x : Str} {np cpos pos : Pos} {e₀ : Expr} {rest : List Expr} {C fI : Addr} {t : TA} {k : Nat} {fd : FuncData} {ps : List Str} {sp : Sp} {E : St -> XK}
theorem qF (M : zU X.K C fI) (F : aZ X.prog X.w X.K X.mg X.base bg k fI fd ps sp) (hr : bA (k + 1) X.A) (hg : Gl X x) (hm : X.mg x = some (.ref C)) (hb : Binds X.K fd ps []) (hc : X.calm = true) (hp : eG X E) (ha : PA X (e₀ :: rest) t) (hd : (x == ("__debug__" : Str)) = false := by decide)
  (he : starEach (e₀ :: rest) X.env = (false,eval e₀ X.env) :: starEach rest X.env := by rfl) (hpl : (backTo cpos (starEach rest X.env)).any (·.1) = false := by rfl) :
  PS X (.Raise (some (.Call (.Name x np) (e₀ :: rest) [] cpos)) none pos) (pG C sp E t) := by
 intro pins s σ H D I h
 obtain ⟨bm,N,nm,qn,bs,hdct,sn,sub,ab,col,dd,k0,k1,k2,k3,k5,lk,ok,ini,tl⟩ := M.ex
 have bb : bm.contains (.type "BaseException") = true := (PySem.W.tail_of_in I.kIn tl).hasType PySem.F.excBase_ValueError.hasBase
 have body : wpAny (model X.prog X.w) X.A (eval (.Call (.Name x np) (e₀ :: rest) [] cpos) X.env) (fun v s1 => ∃ e dx ws sl,v = .ref e /\ s1.heap.get? C = some (excClassObj nm qn C N bs bm hdct sn sub ab col dd k0 k1 k2 k3 k5 "ValueError.__new__") /\ s1.heap.get? e = some ⟨.ref C,dx,.fields ws,sl⟩ /\ ws[1]? = some .none /\ X.xe (.ref e) s1) X.xe s := by
  refine wpAny_Call_Name_kw (cQ I hg hm ?_ hd)
  refine CV (h₀ := X.base) I.ok.mod.kin M.kp (aX (ha cpos pins s σ H _ I h) fun us s1 ⟨vs,H1,I1,r,lr,q⟩ => ⟨I1.kIn,?_⟩) he hpl
  refine sw M F hr hb I1 r lr q fun a h' H2 s2 mk os bare un hok q2 => ?_
  obtain ⟨d,ed,hE⟩ := q2
  have I2 := I1.call' os un hok bare (fun b z => absurd z (by simp))
  obtain ⟨⟨ox,ws,g1,g2,g3,g4,g6,g5⟩,_⟩ := (show aR X.prog X.w H2 s2.heap a (cm true a (.ref C) (some d)) from hok a _ ed)
  have na := I1.hok.none_of mk.new
  obtain ⟨oc,odx,oda,osl⟩ := ox
  dsimp only at g2 g3 g4
  subst g2 g3 g4
  refine ⟨a,some d,ws,osl,rfl,I2.kIn _ _ lk,g1,(g5 rfl).2,hp pins σ H1 s1 _ _ I1 ⟨a,del H2 a,.ref C,some d,.new,rfl,⟨os,bare,wQ un na,uL hok ed,⟨⟨_,ws,g1,rfl,rfl,rfl,⟨(g5 rfl).1,g6⟩,(g5 rfl).2⟩,mk.new,iM⟩⟩,hE⟩⟩
 rw [arm_exec_Raise]
 apply wpAny_bind
 apply wpAny_standAt
 refine qE (C := C) (nm := nm) (q := qn) (N := N) (bs := bs) (bm := bm) (hdct := hdct) (sn := sn) (sub := sub) (ab := ab) (col := col) (dd := dd) (k0 := k0) (k1 := k1) (k2 := k2) (k3 := k3) (k5 := k5) (nw := "ValueError.__new__") bb (I.ok.hd hc) ?_
 apply wpAny_bind
 refine wpAny_mono body (fun v s1 h1 => ?_) fun _ _ z => z
 apply wpAny_bind
 apply wpAny_standAt
 exact wpAny_pure h1
end
theorem jm : entryFor table "proto.unchain" = some Builtin.«proto.unchain» := entryFor_of_fast (by kernel_rfl)
def jn (hd : Option Value) (H : Hp) : Prop := ∀ v,hd = some v -> ∃ a n cls dx,v = .ref a /\ H a = some (cm n a cls dx)
section
variable {prog : Program} {w : World} {A : Around} {E : Value -> Shared -> Prop} {s : Shared}
end
structure sx (hd : Option Value) (P : Program) (w : World) (K : B1) (tg : Expr) (J : It) (fp : List Addr) (it : Addr) (tn : Nat -> Heap -> Prop) : Prop where
 mem : it ∈ fp
 obj : ∀ i h,tn i h -> ∀ b ∈ fp,∃ o,h.get? b = some o /\ ∀ v,o.data ≠ .cell v
 keep : ∀ i h h',tn i h -> (∀ b ∈ fp,∀ o,h.get? b = some o -> h'.get? b = some o) -> tn i h'
 item : ∀ (X : Cx),X.prog = P -> X.w = w -> X.K = K -> X.A.handled = hd -> ∀ (i : Nat) (pins : List (Addr × Obj)) (s : Shared) (σ : St) (H : Hp) (E : Value -> Shared -> Prop),ar X pins σ H s -> (∀ b ∈ fp,ef X pins H b) -> tn i s.heap -> J.go i H ->
  wpAny (model P w) X.A (pyNext (.ref it)) (fun r s1 => ∃ u,r = some u /\
   wpAny (model P w) X.A (letOwnedTupleGo tg (.ref it) u) (fun _ s2 => ∃ x H',ar X pins σ H' s2 /\ RelV x u /\ J.yld i H x H' /\ tn (i + 1) s2.heap /\ ∀ b ∈ fp,H' b = none) E s1) E s
 done : ∀ (X : Cx),X.prog = P -> X.w = w -> X.K = K -> X.A.handled = hd -> ∀ (i : Nat) (pins : List (Addr × Obj)) (s : Shared) (σ : St) (H : Hp) (E : Value -> Shared -> Prop),ar X pins σ H s -> (∀ b ∈ fp,ef X pins H b) -> tn i s.heap -> J.stop i H ->
  wpAny (model P w) X.A (pyNext (.ref it)) (fun r s1 => r = none /\ ar X pins σ H s1) E s
 self : ∀ (A : Around) (i : Nat) (s : Shared) (Q : Value -> Shared -> Prop) (E : Value -> Shared -> Prop),tn i s.heap -> Q (.ref it) s -> wpAny (model P w) A (pyIter (.ref it)) Q E s
def yr (hd : Option Value) (X : Cx) (pins : List (Addr × Obj)) (σ : St) (tg : Expr) (R : It -> Hp -> Prop) (itv : Value) (s2 : Shared) : Prop :=
 ∃ (it : Addr) (fp : List Addr) (tn : Nat -> Heap -> Prop) (J : It) (H' : Hp),itv = .ref it /\ ar X pins σ H' s2 /\ sx hd X.prog X.w X.K tg J fp it tn /\ tn 0 s2.heap /\ (∀ b ∈ fp,ef X pins H' b) /\ R J H'
def AD (hd : Option Value) (X : Cx) (tg iter : Expr) (wi : TI) : Prop :=
 ∀ (pins : List (Addr × Obj)) (s : Shared) (σ : St) (H : Hp) (R : It -> Hp -> Prop),ar X pins σ H s -> wi σ H R ->
  wpAny (model X.prog X.w) X.A (eval iter X.env) (fun v s1 => wpAny (model X.prog X.w) X.A (pyIter v) (yr hd X pins σ tg R) X.xe s1) X.xe s
section
variable {X : Cx} {tg : Expr} {hd : Option Value}
end
section
variable {X : Cx} {scope : Scope} {cl : List (Str × Addr)} {own : Str} {ys : List Str} {js : List Nat} {elt iter : Expr} {px pos : Pos} {wi : TI} {te : TE} {hd : Option Value}
end
def yt (K : B1) (C' : Addr) (i : Nat) (t : Addr -> TS) (r : TH) : TH := fun D σ cls dx H a => ∃ C b,cls = .ref C /\ CL K (.ref C) (.ref C') = some b /\
 if b = true then t a (yn i D) (σ.set i (some (.ref a))) (aq H a (nM a cls dx)) else r D σ cls dx H a
section
variable {X : Cx} {x n : Str} {np pos : Pos} {b0 : Stmt} {suite : List Stmt} {rest : List ExceptHandler} {i : Nat} {C' : Addr} {tA : Addr -> TS} {th : TH}
theorem nP (T : XT X.K C') (hg : Gl X x) (hm : X.mg x = some (.ref C')) (hN : X.N.Nodup) (hi : X.N[i]? = some n) (hloc : X.env.scope.names.lookup n = some .local)
  (hs : ∀ (pins : List (Addr × Obj)) (a : Addr),gZ (X.suite pins a) (b0 :: suite) (tA a)) (hrest : PH X rest th) (hd : (x == ("__debug__" : Str)) = false := by decide) :
  PH X (.ExceptHandler (some (.Name x np)) (some n) (b0 :: suite) pos :: rest) (yt X.K C' i tA th) := by
 intro pins σ H0 s0 D a H' cls v dx s' I c h
 obtain ⟨C,b,rfl,hsub,h⟩ := h
 have J : ar X pins σ H' s' := I.call' c.os c.un c.hok c.bare (fun b z => absurd z (by simp))
 obtain ⟨oe,vs,he,hc,_,_,_⟩ := c.xo.ex
 refine wpAny_handleBy_cons (codeAny_handlers_test (cQ (X := X.suite pins a) (J.insuite a) hg hm ?_ hd)) (by intro q; cases q)
 have KX := J.kIn
 obtain ⟨hh,g,d,tk,os⟩ := s'
 refine iI KX he hc T hsub ?_
 cases b with
 | false => exact hrest pins σ H0 s0 D a H' _ v dx _ I c h
 | true =>
  refine codeAny_handlers_suite_as ?_
  refine c.flight I.stack I.stkFree fun s2 c2 => ?_
  have J2 := (c2.caught I).insuite a
  refine dw (X := X.suite pins a) (v := V.ref a) J2 hN hi (.inl hloc) (show RelV (V.ref a) (Value.ref a) from rfl) (fun s3 I3 => ?_) (.inr hloc)
  refine wpAny_mono (hs pins a [] s3 _ _ _ I3 h) (fun f s4 q => ?_) fun _ _ z => z.elim
  exact uF I.ok hN hi hloc q
end
structure cv (hd : Option Value) (k : Nat) (A : Around) : Prop where
 hd : A.handled = hd
 dp : A.depth + 3 * k + 5 < recursionLimit
 un : A.units + 16 * k + 200 < cLine
theorem cv.mono {hd : Option Value} {j k : Nat} {A : Around} (r : cv hd k A) (h : j <= k) : cv hd j A := ⟨r.hd,by have := r.dp; omega,by have := r.un; omega⟩
theorem cv.deeper {hd : Option Value} {k : Nat} {A : Around} (r : cv hd (k + 1) A) (env : Env) : cv hd k (A.deeper env) :=
 ⟨r.hd,by have := r.dp; show A.depth + 1 + 3 * k + 5 < _; omega,by have := r.un; show A.units + 3 + 16 * k + 200 < _; omega⟩
theorem cv.depth {hd : Option Value} {k : Nat} {A : Around} (r : cv hd k A) : A.depth < recursionLimit := by have := r.dp; omega
theorem bA.h {k : Nat} {A : Around} (r : bA k A) : cv none k A := ⟨r.hd,r.dp,r.un⟩
theorem bA.suite {k : Nat} {A : Around} (r : bA k A) (v : Value) : cv (some v) k (A.mark (some v)) := ⟨rfl,r.dp,r.un⟩
structure qG (hd : Option Value) (P : Program) (w : World) (K : B1) (mg : Str -> Option Value) (base : Heap) (k : Nat) (f : Addr) (fd : FuncData) (ps : List Str) (sp : Sp) : Prop where
 len : ∀ vs H Q E,sp vs H Q E -> vs.length = ps.length
 run : ∀ (A : Around) (outer : List Env) (s : Shared) (H : Hp) (args : Args) (us : List Value) (vs : List V) (Q : VK) (E : XK),cv hd k A -> jj P w K mg base A outer s H -> BindsTo s fd args (ps.zip us) -> aN vs us -> sp vs H Q E ->
  codeAny (model P w) A (.call (.ref f) args) (CR bg outer P w H s Q E) s
section
variable {P : Program} {w : World} {K : B1} {mg : Str -> Option Value} {base : Heap} {hd : Option Value}
theorem qG.calm {k : Nat} {f : Addr} {fd : FuncData} {ps : List Str} {sp : Sp} (F : qG none P w K mg base k f fd ps sp) : aZ P w K mg base bg k f fd ps sp :=
 ⟨F.len,fun A outer s H args us vs Q E hr => F.run A outer s H args us vs Q E hr.h⟩
def v7 (hd : Option Value) (P : Program) (w : World) (K : B1) (mg : Str -> Option Value) (base : Heap) (N : List Str) (qual : Str) (scope : Scope) (f : Addr) (cd : Value) (A : Around) (outer : List Env) (s : Shared) (H : Hp) (E : XK) : Cx :=
 { gi bg P w K mg base N qual scope f cd A outer s H E with calm := hd.isNone }
theorem nQ {N ps : List Str} {qual : Str} {scope : Scope} {f : Addr} {cd : Value} {A : Around} {outer : List Env} {s s1 : Shared} {H : Hp} {E : XK} {us : List Value} {vs : List V}
  (S : ax N ps scope) (hA : A.handled = hd) (e0 : jj P w K mg base A outer s H) (hl : vs.length = ps.length) (r : aN vs us)
  (x : InCallC s s.heap.objs.size (bindL (envOfC qual scope s.heap.objs.size f cd).kindOf (ps.zip us) fun _ => none) (cellsFrom (s.heap.objs.size + 1) scope.names []) (bindC (envOfC qual scope s.heap.objs.size f cd).kindOf (ps.zip us) fun _ => none) s1) :
  ar (v7 hd P w K mg base N qual scope f cd A outer s H E) [] (start N vs) H s1 := by
 have e0' : jj P w K mg base { A with handled := none } outer s H := ⟨e0.frames,e0.mod,e0.bs,e0.bsz,e0.funs,e0.frf,e0.hok,e0.bare⟩
 have I := jC (CX := bg) (E := E) S (A := { A with handled := none }) rfl e0' hl r x
 have hh : (v7 hd P w K mg base N qual scope f cd A outer s H E).calm = true -> (v7 hd P w K mg base N qual scope f cd A outer s H E).A.handled = none := fun z => by
  cases hd with
  | none => exact hA
  | some v => cases (show false = true from z)
 exact ⟨⟨I.ok.mod,I.ok.kind,I.ok.glob,I.ok.blt,I.ok.above,I.ok.inj,I.ok.has,I.ok.cab,hh,I.ok.frames,I.ok.stk,I.ok.exf,I.ok.bs,I.ok.bsz,I.ok.noex,I.ok.exfs,I.ok.funs,I.ok.frf⟩,
  I.os,I.bare,I.base,I.loc,I.cell,I.free,I.freeC,I.pin,I.hok,I.len⟩
theorem wR {k : Nat} {f : Addr} {name qual : Str} {params : Arguments} {body : List Stmt} {scope : Scope} {dV kV doc pm cdv ct oc : Value} {an od : Option Addr}
  {osl : Array (Option Value)} {N ps : List Str} {sp : Sp} (lk : K.lookup f = some ⟨oc,od,.func (C9 name qual params body scope dV kV doc pm an cdv ct),osl⟩) (hcd : Ca K cdv qual = true) (S : ax N ps scope)
  (len : ∀ vs H Q E,sp vs H Q E -> vs.length = ps.length)
  (hbody : ∀ (A : Around) (outer : List Env) (s : Shared) (H : Hp) (vs : List V) (Q : VK) (E : XK),cv hd k (A.deeper (envOfC qual scope s.heap.objs.size f cdv)) -> sp vs H Q E ->
   ∃ t,gZ (v7 hd P w K mg base N qual scope f cdv A outer s H E) body t /\ t { nx := fun _ H' => Q .non H',rt := Q } (start N vs) H) :
  qG hd P w K mg base (k + 1) f (C9 name qual params body scope dV kV doc pm an cdv ct) ps sp := by
 refine ⟨len,fun A outer s H args us vs Q E hr e0 hb r hsp => ?_⟩
 have hl := len _ _ _ _ hsp
 have KX : K.In s.heap := e0.mod.kin.keeps fun b o e => (e0.bs b o e).1
 have lim : s.heap.NoLimit := e0.mod.nolimit.keeps fun b o e => (e0.bs b o e).1
 have hkind : ∀ y ∈ ps.zip us,scope.names.lookup y.1 = some .local ∨ (scope.names.lookup y.1 = some .cell /\ ((cellsFrom (s.heap.objs.size + 1) scope.names []).lookup y.1).isSome = true) := fun ⟨n,v⟩ hy => by
  rcases S.par n (List.of_mem_zip hy).1 with q | q
  ·exact .inl q
  ·exact .inr ⟨q,PySem.W.cellsFrom_some _ _ _ (.inl q)⟩
 refine codeAny_call_function hr.depth (KX _ _ lk) rfl S.co S.gen rfl (PySem.W.codeRec_of KX hcd) (hb _ _ _ _ ?_)
 refine wpAny_newFunctionEnv_cells S.kind hkind fun env he s1 x => ?_
 subst he
 refine ⟨lim.keeps x.toInCall.keep,codeAny_func ?_⟩
 obtain ⟨t,ht,hq⟩ := hbody A outer s H vs Q E (hr.deeper _) hsp
 have I : ar (v7 hd P w K mg base N qual scope f cdv A outer s H E) [] (start N vs) H s1 := nQ S hr.hd e0 hl r x
 refine wpAny_mono (ht [] s1 (start N vs) H _ I hq) (fun fl s' hs => ?_) fun e s' hs => hs
 have fin : ∀ {σ' : St} {H' : Hp} {v : V} {u : Value},ar (v7 hd P w K mg base N qual scope f cdv A outer s H E) [] σ' H' s' -> RelV v u -> Q v H' -> CE outer P w H s Q u s' :=
  fun {σ' H' v u} J rv q => ⟨v,H',J.os,J.bare,J.base,J.hok,rv,q⟩
 cases fl with
 | ret u =>
  obtain ⟨v,σ',H',J,rv,q⟩ := hs
  exact fin J rv q
 | next =>
  obtain ⟨σ',H',J,q⟩ := hs
  exact fin (v := V.non) (u := Value.none) J rfl q
 | brk =>
  obtain ⟨_,_,_,q⟩ := hs
  exact False.elim q
 | cont =>
  obtain ⟨_,_,_,q⟩ := hs
  exact False.elim q
end
section
variable {X : Cx} {k : Nat} {f : Addr} {fd : FuncData} {ps : List Str} {sp : Sp} {dvs : List V} {ds : List Value} {x : Str} {p pos : Pos} {e : Expr} {es : List Expr} {t : TA} {hd : Option Value}
theorem pH {pins : List (Addr × Obj)} {σ : St} {H : Hp} {s : Shared} {Q : VK} {us : List Value} {vs : List V} (F : qG hd X.prog X.w X.K X.mg X.base k f fd ps sp) (hr : cv hd k X.A) (hb : Binds X.K fd ps ds) (hv : aN dvs ds)
  (I : ar X pins σ H s) (r : aN vs us) (h : sp (vs ++ dvs) H Q E0) : wpAny (model X.prog X.w) X.A (call (.ref f) us) (EP X pins σ Q) X.xe s := by
 have r2 : aN (vs ++ dvs) (us ++ ds) := r.append hv
 have hl : (us ++ ds).length = ps.length := by rw [<- r2.length]; exact F.len _ _ _ _ h
 refine wpAny_call (codeAny_mono (F.run X.A X.stack s H ⟨us,[]⟩ (us ++ ds) (vs ++ dvs) Q E0 hr I.env0 (hb s us I.kIn hl) r2 h) fun r s' hq => ?_)
 cases r with
 | error e => exact False.elim hq
 | ok fl =>
  cases fl with
  | ret u => exact I.after hq
  | next => exact False.elim hq
  | brk => exact False.elim hq
  | cont => exact False.elim hq
theorem sy (F : qG hd X.prog X.w X.K X.mg X.base k f fd ps sp) (hr : cv hd k X.A) (hg : Gl X x) (hm : X.mg x = some (.ref f)) (hk : C7 X.K (.ref f) = true) (hb : Binds X.K fd ps ds) (hv : aN dvs ds)
  (ha : PA X (e :: es) t) (hdb : (x == ("__debug__" : Str)) = false := by decide) (he : starEach (e :: es) X.env = (false,eval e X.env) :: starEach es X.env := by rfl) (hpl : (backTo pos (starEach es X.env)).any (·.1) = false := by rfl) :
  PE X (.Call (.Name x p) (e :: es) [] pos) (lS sp dvs E0 t) := by
 intro pins s σ H Q I h
 refine wpAny_Call_Name_kw (cQ I hg hm ?_ hdb)
 refine CV (h₀ := X.base) I.ok.mod.kin hk (aX (ha pos pins s σ H _ I h) fun us s1 ⟨vs,H1,I1,r,q⟩ => ⟨I1.kIn,?_⟩) he hpl
 exact pH F hr hb hv I1 r q
end
end L2
namespace Sw
open PySem L2 XH
structure Dx (P : Program) (w : World) (K : B1) (mg : Str -> Option Value) (base : Heap) (CX : pe) (k : Nat) (x : Str) (ps : List Str) (dvs : List V) (sp : Sp) where
 f : Addr
 fd : FuncData
 ok : aZ P w K mg base CX k f fd ps sp
 m : mg x = some (.ref f)
 q : C7 K (.ref f) = true
 b : Binds K fd ps []
 bd : ∃ ds,Binds K fd ps ds /\ aN dvs ds
def Dx.calm {P : Program} {w : World} {K : B1} {mg : Str -> Option Value} {base : Heap} {k : Nat} {x : Str} {ps : List Str} {dvs : List V} {sp sp0 : Sp} (D : Dx P w K mg base (cA P w) k x ps dvs sp) (h : ∀ vs H Q E,sp0 vs H Q E -> sp vs H Q E0) : Dx P w K mg base bg k x ps dvs sp0 :=
 ⟨D.f,D.fd,D.ok.noraise h,D.m,D.q,D.b,D.bd⟩
section
variable {X : Cx} {k j : Nat} {x : Str} {ps : List Str} {sp : Sp} {p pos : Pos} {e : Expr} {es : List Expr} {t : TA} {dvs : List V} {E : St -> XK}
theorem aY (D : Dx X.prog X.w X.K X.mg X.base bg k x ps dvs sp) (hr : bA j X.A) (hk : k <= j) (hg : Gl X x) (ha : PA X (e :: es) t) (hdb : (x == ("__debug__" : Str)) = false := by decide)
  (he : starEach (e :: es) X.env = (false,eval e X.env) :: starEach es X.env := by rfl) (hpl : (backTo pos (starEach es X.env)).any (·.1) = false := by rfl) :
  PE X (.Call (.Name x p) (e :: es) [] pos) (lS sp [] E0 t) :=
 pf D.ok (hr.mono hk) hg D.m D.q D.b .nil me ha hdb he hpl
theorem uM (D : Dx X.prog X.w X.K X.mg X.base bg k x ps dvs sp) (hr : bA j X.A) (hk : k <= j) (hg : Gl X x) (ha : PA X (e :: es) t) (hdb : (x == ("__debug__" : Str)) = false := by decide)
  (he : starEach (e :: es) X.env = (false,eval e X.env) :: starEach es X.env := by rfl) (hpl : (backTo pos (starEach es X.env)).any (·.1) = false := by rfl) :
  PE X (.Call (.Name x p) (e :: es) [] pos) (lS sp dvs E0 t) := by
 obtain ⟨ds,hb,hv⟩ := D.bd
 exact pf D.ok (hr.mono hk) hg D.m D.q hb hv me ha hdb he hpl
theorem gn (D : Dx X.prog X.w X.K X.mg X.base (cA X.prog X.w) k x ps dvs sp) (hr : bA j X.A) (hk : k <= j) (hg : Gl X x) (hx : eG X E) (ha : PA X (e :: es) t) (hdb : (x == ("__debug__" : Str)) = false := by decide)
  (he : starEach (e :: es) X.env = (false,eval e X.env) :: starEach es X.env := by rfl) (hpl : (backTo pos (starEach es X.env)).any (·.1) = false := by rfl) :
  PE X (.Call (.Name x p) (e :: es) [] pos) (nL sp [] E t) :=
 mn D.ok (hr.mono hk) hg D.m D.q D.b .nil hx ha hdb he hpl
theorem uN (D : Dx X.prog X.w X.K X.mg X.base (cA X.prog X.w) k x ps dvs sp) (hr : bA j X.A) (hk : k <= j) (hg : Gl X x) (hx : eG X E) (ha : PA X (e :: es) t) (hdb : (x == ("__debug__" : Str)) = false := by decide)
  (he : starEach (e :: es) X.env = (false,eval e X.env) :: starEach es X.env := by rfl) (hpl : (backTo pos (starEach es X.env)).any (·.1) = false := by rfl) :
  PE X (.Call (.Name x p) (e :: es) [] pos) (nL sp dvs E t) := by
 obtain ⟨ds,hb,hv⟩ := D.bd
 exact mn D.ok (hr.mono hk) hg D.m D.q hb hv hx ha hdb he hpl
end
theorem bz.okX {P : Program} {w : World} {K : B1} {mg : Str -> Option Value} {base : Heap} {x qual : Str} {st : Stmt} {dV : Value} {f : Addr} {fd : FuncData} {N ps : List Str} {k : Nat} {sp : Sp} (F : bz K x qual st dV f fd) (S : ax N ps (ap st)) (len : ∀ vs H Q E,sp vs H Q E -> vs.length = ps.length)
  (hbody : ∀ (cdv : Value) (A : Around) (outer : List Env) (s : Shared) (H : Hp) (vs : List V) (Q : VK) (E : XK),bA k (A.deeper (PyProof.Rows.envOfC qual (ap st) s.heap.objs.size f cdv)) -> sp vs H Q E ->
   ∃ t,gZ ((gi (cA P w) P w K mg base N qual (ap st) f cdv A outer s H E).wish (XS (gi (cA P w) P w K mg base N qual (ap st) f cdv A outer s H E) fun _ => E)) (bN st) t /\ t { nx := fun _ H' => Q .non H',rt := Q } (start N vs) H) : aZ P w K mg base (cA P w) (k + 1) f fd ps sp := by
 obtain ⟨oc,od,kV,doc,pm,an,cdv,ct,osl,rfl,lk,hcd⟩ := F.ex
 exact wM lk hcd S len fun A outer s H vs Q E hr hsp => hbody cdv A outer s H vs Q E hr hsp
def pI (c : Addr) : Sp := fun vs H Q E => ∃ a b : Int,vs = [.int a,.int b] /\ Bd 8500 b /\ (b ≠ 0 -> ∀ p q : Int,Fr p q a b -> Pair H Q p q) /\ (b = 0 -> E (.ref c) none H)
theorem wS {c : Addr} : ∀ vs H Q E,uD vs H Q E -> pI c vs H Q E0 := fun vs H Q E ⟨a,b,e,b0,hb,q⟩ => ⟨a,b,e,hb,fun _ => q,fun z => absurd z b0⟩
end Sw
namespace L2
open PySem PySem.Spec PyProof.Rows XH
theorem dE {X : Cx} {K : B1} (hK : X.K = K) : cr X (.builtin "isinstance") (fun xs H Q => ∃ x t T b,xs = [x,.ty T] /\ dC K H x t /\ BR K t (.type T) = some b /\ Q (.bl b) H) := by
 subst hK
 intro pins s σ H xs us Q I r h
 obtain ⟨x,t,T,b,rfl,ty,e,q⟩ := h
 obtain ⟨u,w',rfl,e1,e2⟩ := vals2 r
 cases e2
 exact qo I e1 ty e fun tk => ⟨.bl b,H,I.tok tk,rfl,q⟩
end L2
namespace Sw
open PySem L2 XH
inductive Wh (K : B1) (H : Hp) : V -> Bool -> Prop where
 | mk {x : V} {t : Value} {b1 b2 : Bool} (ty : dC K H x t) (h1 : BR K t (.type "int") = some b1) (h2 : BR K t (.type "bool") = some b2) : Wh K H x (b1 && !b2)
section
variable {K : B1} {H : Hp}
theorem nR (i : Int) : Wh K H (.int i) true := .mk (b1 := true) (b2 := false) (.int i) (by kernel_rfl) (by kernel_rfl)
theorem v8 (b : Bool) : Wh K H (.bl b) false := .mk (b1 := true) (b2 := true) (.bl b) (by kernel_rfl) (by kernel_rfl)
theorem kC {H' : Hp} (g : aB H H') {x : V} {t : Value} (h : dC K H x t) : dC K H' x t := by
 cases h with
 | non => exact .non
 | bl b => exact .bl b
 | int i => exact .int i
 | str x => exact .str x
 | flt x => exact .flt x
 | lst e => exact .lst (g _ _ e)
 | frz e => exact .frz (g _ _ e)
 | tup e => exact .tup (g _ _ e)
 | dK e => exact .dK (g _ _ e)
 | dT e => exact .dT (g _ _ e)
 | ins e c a n k m => exact .ins (g _ _ e) c a n k m
theorem Wh.same {H' : Hp} (g : aB H H') {x : V} {b : Bool} (h : Wh K H x b) : Wh K H' x b := by
 cases h with
 | mk ty h1 h2 => exact .mk (kC g ty) h1 h2
end
def wT (K : B1) : Sp := fun vs H Q _ => ∃ (x : V) (b : Bool),vs = [x] /\ Wh K H x b /\ Q (.bl b) H
inductive mq (K : B1) (H : Hp) : V -> Bool -> Prop where
 | no {x : V} {t : Value} (ty : dC K H x t) (h : BR K t (.type "tuple") = some false) : mq K H x false
 | len {a : Addr} {ys : List V} (e : H a = some (.tup ys)) (h : ((ys.length : Nat) : Int) ≠ 2) : mq K H (.ref a) false
 | top {a : Addr} {y z : V} (e : H a = some (.tup [y,z])) (h : Wh K H y false) : mq K H (.ref a) false
 | bot {a : Addr} {y z : V} (e : H a = some (.tup [y,z])) (h : Wh K H y true) (h' : Wh K H z false) : mq K H (.ref a) false
 | two {a : Addr} {p q : Int} (e : H a = some (.tup [.int p,.int q])) : mq K H (.ref a) (decide (1 <= q) && decide (bD p q = 1))
theorem mq.same {K : B1} {H H' : Hp} (g : aB H H') {x : V} {b : Bool} (h : mq K H x b) : mq K H' x b := by
 cases h with
 | no ty h => exact .no (kC g ty) h
 | len e h => exact .len (g _ _ e) h
 | top e h => exact .top (g _ _ e) (h.same g)
 | bot e h h' => exact .bot (g _ _ e) (h.same g) (h'.same g)
 | two e => exact .two (g _ _ e)
def nS (K : B1) : Sp := fun vs H Q _ => ∃ (x : V) (b : Bool),vs = [x] /\ mq K H x b /\ Q (.bl b) H
theorem hZ (K : B1) : BR K (.type "tuple") (.type "tuple") = some true := by kernel_rfl
theorem wU {K : B1} {H : Hp} {a : Addr} {xs : List V} (e : H a = some (.lst xs)) : mq K H (.ref a) false := .no (.lst e) (by kernel_rfl)
theorem sC {K : B1} {H : Hp} (i : Int) : mq K H (.int i) false := .no (.int i) (by kernel_rfl)
theorem sD {K : B1} {H : Hp} (x : Str) : mq K H (.str x) false := .no (.str x) (by kernel_rfl)
theorem gp {K : B1} {H : Hp} {a : Addr} {p q : Int} {b : Bool} (e : H a = some (.tup [.int p,.int q])) (h : (decide (1 <= q) && decide (bD p q = 1)) = b) : mq K H (.ref a) b := h ▸ .two e
end Sw
namespace L2
open PySem PySem.Spec PyProof.Rows XH
def wV : V -> Prop
 | .bl _ => True
 | .int _ => True
 | .str _ => True
 | .non => True
 | _ => False
theorem mr {A : Around} {s : Shared} {v : V} {u w : Value} (h : wV v) (r1 : RelV v u) (r2 : RelV v w) : SeqAt.EqAt A s u w true := by
 cases v with
 | bl b =>
  cases r1
  cases r2
  have z := SeqAt.EqAt.bool_bool (A := A) (s := s) b b
  rw [beq_self_eq_true] at z
  exact z
 | int i =>
  obtain ⟨t,rfl⟩ := r1
  obtain ⟨t',rfl⟩ := r2
  have z := SeqAt.EqAt.int_int (A := A) (s := s) i t i t'
  rw [beq_self_eq_true] at z
  exact z
 | str i =>
  obtain ⟨t,rfl⟩ := r1
  obtain ⟨t',rfl⟩ := r2
  have z := SeqAt.EqAt.str_str (A := A) (s := s) i t i t'
  rw [beq_self_eq_true] at z
  exact z
 | non =>
  cases r1
  cases r2
  exact SeqAt.EqAt.same _
 | _ => exact absurd h (fun z => z)
theorem gq {A : Around} {s : Shared} : ∀ {zs : List V} {us ws : List Value},(∀ z ∈ zs,wV z) -> aN zs us -> aN zs ws -> ∀ j (h1 : j < us.length) (h2 : j < ws.length),SeqAt.EqAt A s us[j] ws[j] true
 | _,_,_,_,.nil,.nil,j,h1,_ => absurd h1 (by simp)
 | _,_,_,hs,.cons r1 _,.cons r2 _,0,_,_ => mr (hs _ (C8)) r1 r2
 | _,_,_,hs,.cons _ t1,.cons _ t2,j + 1,h1,h2 => gq (fun z hz => hs z (BV _ hz)) t1 t2 j (by simpa using h1) (by simpa using h2)
theorem wW {X : Cx} (hu : X.A.units < cLine) : eU X (compareOp .Eq) (fun x y H Q => ∃ a b zs,x = .ref a /\ y = .ref b /\ bv X.K H a zs /\ bv X.K H b zs /\ (∀ z ∈ zs,wV z) /\ Q (.bl true) H) := by
 intro pins s σ H x y v u Q I rx ry h
 obtain ⟨a,b,zs,rfl,rfl,h1,h2,hs,hq⟩ := h
 cases rx
 cases ry
 obtain ⟨i1,r1,p1,_⟩ := I.list h1
 obtain ⟨i2,r2,p2,_⟩ := I.list h2
 refine SeqAt.eq_listAt (e := fun _ => true) p1.isList p2.isList (by simp [<- r1.length,<- r2.length]) hu (fun j g1 g2 => ?_) ?_
 ·exact gq (A := X.A.in1) (s := s) hs r1 r2 j (by simpa using g1) (by simpa using g2)
 ·exact ⟨.bl true,H,I,by show Value.bool _ = Value.bool _; simp,hq⟩
theorem sE {X : Cx} (hu : X.A.units < cLine) : eU X (compareOp .NotEq) (fun x y H Q => ∃ a b zs,x = .ref a /\ y = .ref b /\ bv X.K H a zs /\ bv X.K H b zs /\ (∀ z ∈ zs,wV z) /\ Q (.bl false) H) := by
 intro pins s σ H x y v u Q I rx ry h
 obtain ⟨a,b,zs,rfl,rfl,h1,h2,hs,hq⟩ := h
 cases rx
 cases ry
 obtain ⟨i1,r1,p1,_⟩ := I.list h1
 obtain ⟨i2,r2,p2,_⟩ := I.list h2
 refine SeqAt.RcNeAt.lists (e := fun _ => true) p1.isList p2.isList (by simp [<- r1.length,<- r2.length]) hu (fun j g1 g2 => ?_) _ _ _ _ ⟨.bl false,H,I,by show Value.bool _ = Value.bool _; simp,hq⟩
 exact gq (A := X.A.in1) (s := s) hs r1 r2 j (by simpa using g1) (by simpa using g2)
end L2
namespace Sw
open PySem L2 XH PyProof.Rows
structure ue (hd : Option Value) (P : Program) (w : World) (K : B1) (mg : Str -> Option Value) (base : Heap) (k : Nat) (x : Str) (ps : List Str) (sp : Sp) where
 f : Addr
 fd : FuncData
 ok : qG hd P w K mg base k f fd ps sp
 m : mg x = some (.ref f)
 q : C7 K (.ref f) = true
 b : Binds K fd ps []
def ue.calm {P : Program} {w : World} {K : B1} {mg : Str -> Option Value} {base : Heap} {k : Nat} {x : Str} {ps : List Str} {sp : Sp} (D : ue none P w K mg base k x ps sp) : Dx P w K mg base bg k x ps [] sp :=
 ⟨D.f,D.fd,D.ok.calm,D.m,D.q,D.b,⟨[],D.b,.nil⟩⟩
structure AE (P : Program) (w : World) (K : B1) (mg : Str -> Option Value) (base : Heap) (k : Nat) (C : Addr) (ps : List Str) (sp : Sp) where
 f : Addr
 fd : FuncData
 ok : aZ P w K mg base bg k f fd ps sp
 ci : zU K C f
 b : Binds K fd ps []
section
variable {X : Cx} {k j : Nat} {x : Str} {ps : List Str} {sp : Sp} {p np pos cpos : Pos} {e : Expr} {es : List Expr} {t : TA} {hd : Option Value} {C : Addr} {E : L2.St -> XK}
theorem iN (D : ue hd X.prog X.w X.K X.mg X.base k x ps sp) (hr : cv hd j X.A) (hk : k <= j) (hg : Gl X x) (ha : PA X (e :: es) t) (hdb : (x == ("__debug__" : Str)) = false := by decide)
  (he : starEach (e :: es) X.env = (false,eval e X.env) :: starEach es X.env := by rfl) (hpl : (backTo pos (starEach es X.env)).any (·.1) = false := by rfl) :
  PE X (.Call (.Name x p) (e :: es) [] pos) (lS sp [] E0 t) :=
 sy D.ok (hr.mono hk) hg D.m D.q D.b .nil ha hdb he hpl
theorem uO (D : AE X.prog X.w X.K X.mg X.base k C ps sp) (hr : bA j X.A) (hk : k + 1 <= j) (hg : Gl X x) (hm : X.mg x = some (.ref C)) (hc : X.calm = true) (hp : eG X E) (ha : PA X (e :: es) t) (hdb : (x == ("__debug__" : Str)) = false := by decide)
  (he : starEach (e :: es) X.env = (false,eval e X.env) :: starEach es X.env := by rfl) (hpl : (backTo cpos (starEach es X.env)).any (·.1) = false := by rfl) :
  PS X (.Raise (some (.Call (.Name x np) (e :: es) [] cpos)) none pos) (pG C sp E t) :=
 qF D.ci D.ok (hr.mono hk) hg hm D.b hc hp ha hdb he hpl
end
theorem bz.okH {hd : Option Value} {P : Program} {w : World} {K : B1} {mg : Str -> Option Value} {base : Heap} {x qual : Str} {st : Stmt} {dV : Value} {f : Addr} {fd : FuncData} {N ps : List Str} {k : Nat} {sp : Sp} (F : bz K x qual st dV f fd) (S : ax N ps (ap st)) (len : ∀ vs H Q E,sp vs H Q E -> vs.length = ps.length)
  (hbody : ∀ (cdv : Value) (A : Around) (outer : List Env) (s : Shared) (H : Hp) (vs : List V) (Q : VK) (E : XK),cv hd k (A.deeper (envOfC qual (ap st) s.heap.objs.size f cdv)) -> sp vs H Q E ->
   ∃ t,gZ (v7 hd P w K mg base N qual (ap st) f cdv A outer s H E) (bN st) t /\ t { nx := fun _ H' => Q .non H',rt := Q } (start N vs) H) : qG hd P w K mg base (k + 1) f fd ps sp := by
 obtain ⟨oc,od,kV,doc,pm,an,cdv,ct,osl,rfl,lk,hcd⟩ := F.ex
 exact wR lk hcd S len fun A outer s H vs Q E hr hsp => hbody cdv A outer s H vs Q E hr hsp
theorem wX {hd : Option Value} {H H' : Hp} (h : jn hd H) (g : aB H H') : jn hd H' := fun v e => by
 obtain ⟨a,n,cls,dx,e1,e2⟩ := h v e
 exact ⟨a,n,cls,dx,e1,g _ _ e2⟩
theorem fT {H H' : Hp} {p : Addr} (g : aB H H') (h : H p = none) (o : HO) : aB H (aq H' p o) := fun b u q => by
 rw [aj (aQ q h)]
 exact g b u q
def kD (X : Cx) (scope : Scope) (ys : List Str) (js : List Nat) : Prop := ∀ (i : Nat) (y : Str),ys[i]? = some y -> ∃ j : Nat,js[i]? = some j /\ X.N[j]? = some y /\ (X.env.scope.names.lookup y = some .cell ∨ X.env.scope.names.lookup y = some .free) /\ ((relabel scope X.env).names.lookup y = some .cell ∨ (relabel scope X.env).names.lookup y = some .free)
theorem yu {X : Cx} {scope : Scope} : kD X scope [] [] := fun i y h => by simp at h
theorem AF {X : Cx} {scope : Scope} {ys : List Str} {js : List Nat} {y : Str} {j : Nat} (t : kD X scope ys js) (h1 : X.N[j]? = some y := by rfl) (h2 : X.env.scope.names.lookup y = some .cell ∨ X.env.scope.names.lookup y = some .free := by first | exact Or.inl rfl | exact Or.inr rfl)
  (h3 : (relabel scope X.env).names.lookup y = some .cell ∨ (relabel scope X.env).names.lookup y = some .free := by first | exact Or.inl rfl | exact Or.inr rfl) : kD X scope (y :: ys) (j :: js) := fun i z h => by
 cases i with
 | zero =>
  cases h
  exact ⟨j,rfl,h1,h2,h3⟩
 | succ i => exact t i z h
inductive qH (X : Cx) : List (Str × Addr) -> Prop where
 | nil : qH X []
 | cons {y : Str} {c : Addr} {cl : List (Str × Addr)} (h : X.env.cells.lookup y = some c) (t : qH X cl) : qH X ((y,c) :: cl)
theorem qH.all {X : Cx} {cl : List (Str × Addr)} (h : qH X cl) : ∀ p ∈ cl,X.env.cells.lookup p.1 = some p.2 := by
 induction h with
 | nil => intro p hp; simp at hp
 | cons h _ ih =>
  intro p hp
  rcases B9.mp hp with e | e
  ·rw [e]; exact h
  ·exact ih p e
theorem yw {X : Cx} {scope : Scope} {cl : List (Str × Addr)} {own : Str} {ys : List Str} {js : List Nat} (a : kD X scope ys js) (s : qH X cl) (nd : (own :: ys).Nodup) (len : js.length = ys.length) (clos : closureFor scope X.env = pure cl) (nocell : (scope.names.all fun p => !(p.2 == .cell)) = true) (kind : scope.kind = .function)
  (loc : (scope.names.all fun p => !(p.2 == .local) || scope.names.lookup p.1 == some .local) = true) (ownL : scope.names.lookup own = some .local) (has : ((relabel scope X.env).names.all fun p => !(p.2 == .cell || p.2 == .free) || (cl.lookup p.1).isSome) = true) (noown : cl.lookup own = none) : iK X scope cl own ys js :=
 ⟨clos,nocell,kind,loc,ownL,s.all,has,noown,nd,a,len⟩
def Bt (H : Hp) (a C : Addr) (dx : Option Addr) : Prop := (∃ n,H a = some (cm n a (.ref C) dx)) /\ pD H dx
section
variable {K : B1} {cs : List Addr} {S C D : Addr} {i j : Nat}
end
def kE (C : Addr) (f : Str) : Sp := fun vs H Q _ => ∃ a y n,vs = [.ref a,y] /\ H a = some (cm n a (.ref C) none) /\ ∀ d,H d = none -> Q .non (L2.aq (L2.aq H d (.xd [(f,y)])) a (cm n a (.ref C) (some d)))
theorem uP {H : Hp} {Q : VK} {a C : Addr} {f : Str} {y : V} (na : H a = none) (h : ∀ d H2,aB H H2 -> H2 a = some (cm true a (.ref C) (some d)) -> H2 d = some (.xd [(f,y)]) -> d ≠ a -> aB H (del H2 a) -> del H2 a d = some (.xd [(f,y)]) -> Q .non H2) {E : XK} :
  kE C f [.ref a,y] (L2.aq H a (cm true a (.ref C) none)) Q E := by
 refine ⟨a,y,true,rfl,ac,fun d hd => ?_⟩
 have ne : d ≠ a := by
  intro z
  rw [z,ac] at hd
  cases hd
 have nd : H d = none := by rwa [aj ne] at hd
 have g : aB H (L2.aq (L2.aq (L2.aq H a (cm true a (.ref C) none)) d (.xd [(f,y)])) a (cm true a (.ref C) (some d))) := fT (fT (fT (fun _ _ q => q) na _) nd _) na _
 have e2 : L2.aq (L2.aq (L2.aq H a (cm true a (.ref C) none)) d (.xd [(f,y)])) a (cm true a (.ref C) (some d)) d = some (.xd [(f,y)]) := by rw [aj ne,ac]
 exact h d _ g ac e2 ne (fun b o q => by rw [dW (aQ q na)]; exact g b o q) (by rw [dW ne]; exact e2)
structure du (P : Program) (w : World) (K : B1) (mg : Str -> Option Value) (base : Heap) (CX : pe) (k : Nat) (f : Addr) (ps : List Str) (dvs : List V) (sp : Sp) where
 fd : FuncData
 ok : aZ P w K mg base CX k f fd ps sp
 b : Binds K fd ps []
 bd : ∃ ds,Binds K fd ps ds /\ aN dvs ds
def du.calm {P : Program} {w : World} {K : B1} {mg : Str -> Option Value} {base : Heap} {k : Nat} {f : Addr} {ps : List Str} {dvs : List V} {sp sp0 : Sp} (D : du P w K mg base (cA P w) k f ps dvs sp) (h : ∀ vs H Q E,sp0 vs H Q E -> sp vs H Q E0) : du P w K mg base bg k f ps dvs sp0 :=
 ⟨D.fd,D.ok.noraise h,D.b,D.bd⟩
def nU (K : B1) (m : Str) (f : Addr) (sp : Sp) (dvs : List V) (ta : TE) (t : TA) : TE := fun σ H Q => ta σ H fun x H1 => ∃ a C dx fs,x = .ref a /\ H1 a = some (.ins C dx fs) /\ pc K C /\ dm K C m f /\ fs.lookup m = none /\
 t σ H1 fun vs H2 => sp (x :: (vs ++ dvs)) H2 Q E0
section
variable {X : Cx} {k j : Nat} {f C : Addr} {ps : List Str} {sp : Sp} {dvs : List V} {x m : Str} {p pos apos : Pos} {e o : Expr} {es : List Expr} {ta tb : TE} {t : TA}
theorem wY (M : Mk X.K C f) (D : du X.prog X.w X.K X.mg X.base bg k f ps dvs sp) (hr : bA j X.A) (hk : k + 1 <= j) (hg : Gl X x) (hm : X.mg x = some (.ref C)) (hdb : (x == ("__debug__" : Str)) = false := by decide) : PE X (.Call (.Name x p) [] [] pos) (vW C sp [] E0 dn) :=
 rT M D.ok (hr.mono hk) hg hm D.b .nil me hdb
theorem sG {pins : List (Addr × Obj)} {σ : L2.St} {H1 : Hp} {s1 : Shared} {Q : VK} {a dx : Addr} {fs : List (Str × V)} {pl : Sem Bool} {ds : List Value} (F : aZ X.prog X.w X.K X.mg X.base bg k f fd ps sp) (hr : bA k X.A) (hb : Binds X.K fd ps ds) (hd : aN dvs ds) (ha : PA X (e :: es) t)
  (hst : starEach (e :: es) X.env = (false,eval e X.env) :: starEach es X.env) (hpl : (backTo pos (starEach es X.env)).any (·.1) = false)
  (I1 : ar X pins σ H1 s1) (ea : H1 a = some (.ins C dx fs)) (c : pc X.K C) (hm : dm X.K C m f) (l : fs.lookup m = none) (q : t σ H1 fun vs H2 => sp (.ref a :: (vs ++ dvs)) H2 Q E0) :
  wpAny (model X.prog X.w) X.A (getMethod (.ref a) m pl) (fun fx s2 => wpAny (model X.prog X.w) X.A (callWith pos fx.1 fx.2 (backTo pos (starEach (e :: es) X.env)) (backToKw pos (keywordEach [] X.env))) (EP X pins σ Q) X.xe s2) X.xe s1 := by
 refine dR I1 ea c hm l ?_
 refine CV (first := [.ref a]) (h₀ := X.base) I1.ok.mod.kin hm.kp (aX (ha pos pins s1 σ H1 _ I1 q) fun us s2 ⟨vs,H2,I2,r,q2⟩ => ⟨I2.kIn,?_⟩) hst hpl
 exact nj (us := .ref a :: us) (vs := .ref a :: vs) F hr hb hd me I2 (.cons rfl r) q2
theorem fo {pl : Sem Bool} (he : PE X o ta) (D : du X.prog X.w X.K X.mg X.base bg k f ps dvs sp) (hr : bA j X.A) (hk : k <= j) (ha : PA X (e :: es) t)
  (hst : starEach (e :: es) X.env = (false,eval e X.env) :: starEach es X.env := by rfl) (hpl : (backTo pos (starEach es X.env)).any (·.1) = false := by rfl)
  (ht : eval (.Call (.Attribute o m apos) (e :: es) [] pos) X.env = (do
   let ov <- eval o X.env
   standAt apos.atName
   let (f,first) <- holding [ov] (getMethod ov m pl)
   callWith pos f first (backTo pos (starEach (e :: es) X.env)) (backToKw pos (keywordEach [] X.env))) := by rfl) :
  PE X (.Call (.Attribute o m apos) (e :: es) [] pos) (nU X.K m f sp [] ta t) := by
 intro pins s σ H Q I h
 refine Cj (pl := pl) (aX (he pins s σ H _ I h) fun u s1 ⟨x,H1,I1,rx,a,C,dx,fs,ex,ea,c,hm,l,q⟩ => ?_) ht
 subst ex
 obtain rfl : u = Value.ref a := rx
 exact sG D.ok (hr.mono hk) D.b .nil ha hst hpl I1 ea c hm l q
theorem sH {pl : Sem Bool} (he : PE X o ta) (D : du X.prog X.w X.K X.mg X.base bg k f ps dvs sp) (hr : bA j X.A) (hk : k <= j)
  (ht : eval (.Call (.Attribute o m apos) [] [] pos) X.env = (do
   let ov <- eval o X.env
   standAt apos.atName
   let (f,first) <- holding [ov] (getMethod ov m pl)
   callWith pos f first (backTo pos (starEach [] X.env)) (backToKw pos (keywordEach [] X.env))) := by rfl) :
  PE X (.Call (.Attribute o m apos) [] [] pos) (nU X.K m f sp [] ta dn) := by
 intro pins s σ H Q I h
 refine Cj (pl := pl) (aX (he pins s σ H _ I h) fun u s1 ⟨x,H1,I1,rx,a,C,dx,fs,ex,ea,c,hm,l,q⟩ => ?_) ht
 subst ex
 obtain rfl : u = Value.ref a := rx
 refine dR I1 ea c hm l ?_
 exact PySem.W.callWith_K0 (first := [.ref a]) I1.kIn hm.kp (nj (us := [.ref a]) (vs := [.ref a]) D.ok (hr.mono hk) D.b .nil me I1 (.cons rfl .nil) q)
end
def kG (K : B1) (m : Str) (f : Addr) (sp : Sp) (dvs : List V) (E : L2.St -> XK) (ta : TE) (t : TA) : TE := fun σ H Q => ta σ H fun x H1 => ∃ a C dx fs,x = .ref a /\ H1 a = some (.ins C dx fs) /\ pc K C /\ dm K C m f /\ fs.lookup m = none /\
 t σ H1 fun vs H2 => sp (x :: (vs ++ dvs)) H2 Q (E σ)
section
variable {X : Cx} {k j : Nat} {f C : Addr} {ps : List Str} {sp : Sp} {dvs : List V} {x m : Str} {p pos apos : Pos} {e o : Expr} {es : List Expr} {ta tb : TE} {t : TA} {E : L2.St -> XK}
theorem jK {pins : List (Addr × Obj)} {σ : L2.St} {H1 : Hp} {s1 : Shared} {Q : VK} {a dx : Addr} {fs : List (Str × V)} {pl : Sem Bool} {ds : List Value} {fd : FuncData} (F : aZ X.prog X.w X.K X.mg X.base (cA X.prog X.w) k f fd ps sp) (hr : bA k X.A) (hb : Binds X.K fd ps ds) (hd : aN dvs ds) (hx : eG X E) (ha : PA X (e :: es) t)
  (hst : starEach (e :: es) X.env = (false,eval e X.env) :: starEach es X.env) (hpl : (backTo pos (starEach es X.env)).any (·.1) = false)
  (I1 : ar X pins σ H1 s1) (ea : H1 a = some (.ins C dx fs)) (c : pc X.K C) (hm : dm X.K C m f) (l : fs.lookup m = none) (q : t σ H1 fun vs H2 => sp (.ref a :: (vs ++ dvs)) H2 Q (E σ)) :
  wpAny (model X.prog X.w) X.A (getMethod (.ref a) m pl) (fun fx s2 => wpAny (model X.prog X.w) X.A (callWith pos fx.1 fx.2 (backTo pos (starEach (e :: es) X.env)) (backToKw pos (keywordEach [] X.env))) (EP X pins σ Q) X.xe s2) X.xe s1 := by
 refine dR I1 ea c hm l ?_
 refine CV (first := [.ref a]) (h₀ := X.base) I1.ok.mod.kin hm.kp (aX (ha pos pins s1 σ H1 _ I1 q) fun us s2 ⟨vs,H2,I2,r,q2⟩ => ⟨I2.kIn,?_⟩) hst hpl
 exact pB (us := .ref a :: us) (vs := .ref a :: vs) F hr hb hd hx I2 (.cons rfl r) q2
theorem sI {pl : Sem Bool} (D : du X.prog X.w X.K X.mg X.base (cA X.prog X.w) k f ps dvs sp) (hr : bA j X.A) (hk : k <= j) (hx : eG X E) (he : PE X o ta) (ha : PA X (e :: es) t)
  (hst : starEach (e :: es) X.env = (false,eval e X.env) :: starEach es X.env := by rfl) (hpl : (backTo pos (starEach es X.env)).any (·.1) = false := by rfl)
  (ht : eval (.Call (.Attribute o m apos) (e :: es) [] pos) X.env = (do
   let ov <- eval o X.env
   standAt apos.atName
   let (f,first) <- holding [ov] (getMethod ov m pl)
   callWith pos f first (backTo pos (starEach (e :: es) X.env)) (backToKw pos (keywordEach [] X.env))) := by rfl) :
  PE X (.Call (.Attribute o m apos) (e :: es) [] pos) (kG X.K m f sp [] E ta t) := by
 intro pins s σ H Q I h
 refine Cj (pl := pl) (aX (he pins s σ H _ I h) fun u s1 ⟨x,H1,I1,rx,a,C,dx,fs,ex,ea,c,hm,l,q⟩ => ?_) ht
 subst ex
 obtain rfl : u = Value.ref a := rx
 exact jK D.ok (hr.mono hk) D.b .nil hx ha hst hpl I1 ea c hm l q
theorem uQ {pl : Sem Bool} (D : du X.prog X.w X.K X.mg X.base (cA X.prog X.w) k f ps dvs sp) (hr : bA j X.A) (hk : k <= j) (hx : eG X E) (he : PE X o ta) (ha : PA X (e :: es) t)
  (hst : starEach (e :: es) X.env = (false,eval e X.env) :: starEach es X.env := by rfl) (hpl : (backTo pos (starEach es X.env)).any (·.1) = false := by rfl)
  (ht : eval (.Call (.Attribute o m apos) (e :: es) [] pos) X.env = (do
   let ov <- eval o X.env
   standAt apos.atName
   let (f,first) <- holding [ov] (getMethod ov m pl)
   callWith pos f first (backTo pos (starEach (e :: es) X.env)) (backToKw pos (keywordEach [] X.env))) := by rfl) :
  PE X (.Call (.Attribute o m apos) (e :: es) [] pos) (kG X.K m f sp dvs E ta t) := by
 intro pins s σ H Q I h
 obtain ⟨ds,hb,hv⟩ := D.bd
 refine Cj (pl := pl) (aX (he pins s σ H _ I h) fun u s1 ⟨x,H1,I1,rx,a,C,dx,fs,ex,ea,c,hm,l,q⟩ => ?_) ht
 subst ex
 obtain rfl : u = Value.ref a := rx
 exact jK D.ok (hr.mono hk) hb hv hx ha hst hpl I1 ea c hm l q
end
end Sw
namespace L2
open PySem PySem.Spec PyProof.Rows XH
def v9 (x : Str) : It := ⟨fun i _ => i < x.cps.size,fun i H v H' => H' = H /\ ∃ c,x.cps[i]? = some c /\ v = .str ⟨#[c]⟩,fun i _ => i = x.cps.size⟩
theorem fU {P : Program} {w : World} {K : B1} {tg : Expr} {ty : String} (hty : ty = "str_ascii_iterator" ∨ ty = "str_iterator") (it : Addr) (x : Str) (t : Tok) : Turn P w K tg (v9 x) [it] it (fun i h => h.IsStrIter it ty x t i) where
 mem := by simp
 obj := fun i h st b hb => by
  have e : b = it := by simpa using hb
  subst e
  obtain ⟨o,e,c,d⟩ := st
  exact ⟨o,e,fun v z => by rw [d] at z; cases z⟩
 keep := fun i h h' st k => by
  obtain ⟨o,e,c,d⟩ := st
  exact ⟨o,k it (by simp) o e,c,d⟩
 item := by
  intro X hP hw hK hc i pins s σ H E I hf st hg
  subst hP hw hK
  obtain ⟨f0,f1,f2,f3,f4,f5⟩ := hf it (by simp)
  have W : Walks X.prog X.w X.A it [it] [it] x.cps.size (SignAt x) (fun i h => h.IsStrIter it ty x t i) := by
   rcases hty with rfl | rfl
   ·exact Walks.strAscii (I.ok.hd hc) it x t
   ·exact Walks.strWide (I.ok.hd hc) it x t
  refine W.item i s _ _ hg st fun v h' tk hv st' kk => ?_
  obtain ⟨c,u,hc',rfl⟩ := hv
  have I1 : ar X pins σ H { s with heap := h',toks := tk } := I.turned (fun b o hb e => kk b o (by simpa using hb) e) f0 f1 f3 f4 f5
  obtain ⟨o,e,c1,d1⟩ := id st'
  refine ⟨_,rfl,iq (s := { s with heap := h',toks := tk }) (n := ty) e c1 d1 (by rcases hty with rfl | rfl <;> decide) ⟨.str ⟨#[c]⟩,H,I1,⟨u,rfl⟩,⟨rfl,c,hc',rfl⟩,st',fun b hb => (hf b hb).1⟩⟩
 done := by
  intro X hP hw hK hc i pins s σ H E I hf st hg
  subst hP hw hK
  obtain ⟨f0,f1,f2,f3,f4,f5⟩ := hf it (by simp)
  have W : Walks X.prog X.w X.A it [it] [it] x.cps.size (SignAt x) (fun i h => h.IsStrIter it ty x t i) := by
   rcases hty with rfl | rfl
   ·exact Walks.strAscii (I.ok.hd hc) it x t
   ·exact Walks.strWide (I.ok.hd hc) it x t
  have hg' : i = x.cps.size := hg
  subst hg'
  exact W.done s _ _ st fun h' tk kk => ⟨rfl,I.turned (fun b o hb e => kk b o (by simpa using hb) e) f0 f1 f3 f4 f5⟩
 self := fun _ _ _ _ _ st h => by
  rcases hty with rfl | rfl
  ·exact wpAny_pyIter_striter_ascii st h
  ·exact wpAny_pyIter_striter_wide st h
def AG (tl : TE) : TI := fun σ H R => tl σ H fun x H1 => ∃ z,x = .str z /\ R (v9 z) H1
section
variable {X : Cx} {tg : Expr}
theorem wZ {l : Expr} {tl : TE} (hl : PE X l tl) : PI X tg l (AG tl) := by
 intro pins s σ H R I h
 refine aX (hl pins s σ H _ I h) fun v s1 ⟨x,H1,I1,r1,q1⟩ => ?_
 obtain ⟨z,rfl,q⟩ := q1
 obtain ⟨t,rfl⟩ := r1
 have fin : ∀ {ty : String} {o : Obj},(ty = "str_ascii_iterator" ∨ ty = "str_iterator") -> (s1.heap.push o).IsStrIter s1.heap.objs.size ty z t 0 -> Al X pins σ tg R (.ref s1.heap.objs.size) { s1 with heap := s1.heap.push o } := fun {ty o} hty st => by
  refine ⟨s1.heap.objs.size,[s1.heap.objs.size],_,_,H1,rfl,I1.kept (t' := s1.toks) fun b o e => Heap.get?_push_of_some _ e,fU hty _ z t,st,fun b hb => ?_,q⟩
  have e : b = s1.heap.objs.size := by simpa using hb
  subst e
  exact I1.fpOk (B3 _) (I1.hok.fresh (B3 _))
 cases ha : z.cps.all (· < 128)
 ·exact wpAny_pyIter_wide ha (fin (.inr rfl) ⟨_,Heap.get?_push_size _ rfl,rfl,rfl⟩)
 ·exact wpAny_pyIter_ascii ha (fin (.inl rfl) ⟨_,Heap.get?_push_size _ rfl,rfl,rfl⟩)
end
theorem uR {z : Str} {g : TG} {tb : TS} {D : Ends} {σ : St} {H : Hp} (Pv : Nat -> St -> Hp -> Prop) (h0 : Pv 0 σ H)
  (hs : ∀ i c σ H,z.cps[i]? = some c -> Pv i σ H -> g (.str ⟨#[c]⟩) σ H fun σ2 H2 => tb { D with nx := Pv (i + 1),ct := Pv (i + 1),bk := D.nx } σ2 H2) (hd : ∀ σ H,Pv z.cps.size σ H -> D.nx σ H) :
  ∃ W : Nat -> Nat -> St -> Hp -> Prop,(∃ m,W 0 m σ H) /\ ∀ i m σ H,W i m σ H ->
   ((v9 z).stop i H /\ D.nx σ H) ∨ ((v9 z).go i H /\ ∃ N : St -> Hp -> Prop,(∀ σ' H',N σ' H' -> ∃ m',m' < m /\ W (i + 1) m' σ' H') /\ ∀ x H',(v9 z).yld i H x H' -> g x σ H' fun σ2 H2 => tb { D with nx := N,ct := N,bk := D.nx } σ2 H2) := by
 refine ⟨fun i m σ H => m = z.cps.size - i /\ i <= z.cps.size /\ Pv i σ H,⟨z.cps.size,by simp,BY _,h0⟩,?_⟩
 rintro i m σ H ⟨rfl,hi,p⟩
 by_cases hlt : i < z.cps.size
 ·refine .inr ⟨hlt,Pv (i + 1),fun σ' H' p' => ⟨z.cps.size - (i + 1),by omega,rfl,hlt,p'⟩,fun x H' y => ?_⟩
  obtain ⟨e,c,hc,rfl⟩ := y
  subst e
  exact hs i c σ _ hc p
 ·have e : i = z.cps.size := by omega
  subst e
  exact .inl ⟨rfl,hd σ H p⟩
def cW (x : Str) (lo hi : Option Int) : Str := ⟨((x.cps.toList.drop (HT.dL x.length 0 lo)).take (HT.dL x.length x.length hi - HT.dL x.length 0 lo)).toArray⟩
theorem yx (lo hi : Option Int) (n : Nat) : Builtin.Str.strSliceIndices lo hi 1 n = (Cs (HT.dL n n hi - HT.dL n 0 lo)).map (HT.dL n 0 lo + ·) := by
 have h1 : (match lo with | none => (0 : Int) | some i => max 0 (min (if i < 0 then i + (n : Int) else i) n)) = ((HT.dL n 0 lo : Nat) : Int) := by
  cases lo with
  | none => simp [HT.dL]
  | some i =>
   simp only [HT.dL]
   by_cases h : i < 0
   ·simp only [h,if_true] <;> omega
   ·simp only [h,if_false] <;> omega
 have h2 : (match hi with | none => (n : Int) | some i => max 0 (min (if i < 0 then i + (n : Int) else i) n)) = ((HT.dL n n hi : Nat) : Int) := by
  cases hi with
  | none => simp [HT.dL]
  | some i =>
   simp only [HT.dL]
   by_cases h : i < 0
   ·simp only [h,if_true] <;> omega
   ·simp only [h,if_false] <;> omega
 rw [<- sliceRange_one,<- h1,<- h2]
 cases lo <;> cases hi <;> rfl
theorem mt (x : Str) (l u : Option (Int × Tok)) : (⟨((slicePicked x l u none).filterMap (x.cps[·]?)).toArray⟩ : Str) = cW x (l.map (·.1)) (u.map (·.1)) := by
 show (⟨((Builtin.Str.strSliceIndices (l.map (·.1)) (u.map (·.1)) 1 x.length).filterMap (x.cps[·]?)).toArray⟩ : Str) = _
 rw [yx,pick_run]
 rfl
theorem de (x : Str) (lo hi : Option Int) : (cW x lo hi).length <= x.length := by
 show ((x.cps.toList.drop _).take _).toArray.size <= x.cps.size
 rw [BL,CI,List.length_drop]
 simp only [BF]
 omega
theorem nV (x : Str) (l u : Option (Int × Tok)) (h : (slicePicked x l u none).length = x.length) : cW x (l.map (·.1)) (u.map (·.1)) = x := by
 have h' : (Builtin.Str.strSliceIndices (l.map (·.1)) (u.map (·.1)) 1 x.length).length = x.length := h
 rw [yx,B2,List.length_range] at h'
 have hs : HT.dL x.length x.length (u.map (·.1)) <= x.length ∨ x.length < HT.dL x.length x.length (u.map (·.1)) := by omega
 have hu : HT.dL x.length x.length (u.map (·.1)) <= x.length := by
  cases u with
  | none => exact B3 _
  | some p =>
   show (if p.1 < 0 then (p.1 + (x.length : Int)).toNat else min p.1.toNat x.length) <= x.length
   by_cases hp : p.1 < 0
   ·rw [if_pos hp]; omega
   ·rw [if_neg hp]; omega
 unfold cW
 by_cases hx : x.length = 0
 ·have e : x.cps.toList = [] := by
   have : x.cps.toList.length = 0 := by rw [BF]; exact hx
   exact List.eq_nil_of_length_eq_zero this
  rw [e,List.drop_nil,List.take_nil]
  obtain ⟨c⟩ := x
  have e' : c = #[] := Array.toList_inj.mp (by simpa using e)
  rw [e']
 ·have h0 : HT.dL x.length 0 (l.map (·.1)) = 0 := by omega
  rw [h0,List.drop_zero,List.take_of_length_le (by rw [BF]; show x.length <= _; omega)]
theorem part_of {v : Value} {o : Option Int} (p : IsPart v o) : ∃ l : Option (Int × Tok),partValue l = v /\ l.map (·.1) = o := by
 cases p with
 | none => exact ⟨none,rfl,rfl⟩
 | int i t => exact ⟨some (i,t),rfl,rfl⟩
theorem fq {X : Cx} : Ao X (fun x lo hi H Q => ∃ z,x = .str z /\ z.length <= sizeLine /\ Q (.str (cW z lo hi)) H) := by
 intro pins s σ H x v vl vu lo hi sl Q I rx hs pl pu h
 obtain ⟨z,rfl,hz,q⟩ := h
 obtain ⟨t,rfl⟩ := rx
 obtain ⟨l,rfl,rfl⟩ := part_of pl
 obtain ⟨u,rfl,rfl⟩ := part_of pu
 refine ⟨"str",_,slot_str_getitem.lookup,typeIs_str s z t,?_⟩
 refine wpAny_getItem_str_slice (l := l) (u := u) (st := none) hs rfl ?_
 unfold sliceMade
 by_cases hw : (slicePicked z l u none).length = z.length
 ·rw [if_pos (by simp [hw])]
  refine ⟨.str (cW z (l.map (·.1)) (u.map (·.1))),H,I,⟨t,by rw [nV z l u hw]⟩,q⟩
 ·rw [if_neg (by simp [hw])]
  rw [mt]
  exact ⟨BZ (de _ _ _) hz,.str (cW z (l.map (·.1)) (u.map (·.1))),H,I.tok _,⟨_,rfl⟩,q⟩
end L2
namespace Sw
open PySem PySem.NumText
end Sw
namespace L2
open PySem PySem.Spec PyProof.Rows XH
section
variable {X : Cx} {a b e o : Expr} {es : List Expr} {t te to : TE} {ta : TA} {pos apos cpos : Pos} {x y : Str}
theorem mw {z : Str} {p : Pos} (hg : Gl X x) (h : ∃ t,X.mg x = some (.str z t)) (hd : (x == ("__debug__" : Str)) = false := by decide) : PE X (.Name x p) (tC (.str z)) := by
 obtain ⟨t,h⟩ := h
 exact bx hg h ⟨t,rfl⟩ hd
theorem iO {i : Int} {p : Pos} (hg : Gl X x) (h : ∃ t,X.mg x = some (.int i t)) (hd : (x == ("__debug__" : Str)) = false := by decide) : PE X (.Name x p) (tC (.int i)) := by
 obtain ⟨t,h⟩ := h
 exact bx hg h ⟨t,rfl⟩ hd
end
end L2
namespace Sw
open PySem L2 XH PySem.NumText
def sL (z : Str) : List Nat := z.cps.toList
def Bi (l : List Nat) : Str := ⟨l.toArray⟩
theorem iP (z : Str) : (sL z).length = z.length := by simp [sL,Str.length]
theorem w6 (x y : Str) : sL (x ++ y) = sL x ++ sL y := by
 show (x.cps ++ y.cps).toList = _
 rw [Array.toList_append]
 rfl
theorem w8 (z : Str) (c : Nat) : (!(Builtin.Str.occurrences z (Bi [c]) 0 z.length 1).isEmpty) = decide (c ∈ sL z) := StrLaws.found_one z c
theorem AH {b : Bool} {A B : Prop} (h1 : b = false -> A) (h2 : b = true -> B) : if (!b) = true then A else B := by
 cases b with
 | false => exact bI (h1 rfl)
 | true => exact bX (h2 rfl)
theorem nW {xs : List V} {i : Int} (h0 : 0 <= i) (h : i < (xs.length : Int)) : ∃ v ∈ xs,gN xs i = some v := by
 have hk : i.toNat < xs.length := by omega
 have ek : i = ((i.toNat : Nat) : Int) := by omega
 refine ⟨xs[i.toNat],List.getElem_mem hk,?_⟩
 have q : gN xs ((i.toNat : Nat) : Int) = some xs[i.toNat] := c8 (BG hk)
 rw [<- ek] at q
 exact q
theorem uS {xs : List Nat} {i : Int} (h0 : 0 <= i) (h : i < (xs.length : Int)) : ∃ v,gN xs i = some v := by
 have hk : i.toNat < xs.length := by omega
 have ek : i = ((i.toNat : Nat) : Int) := by omega
 refine ⟨xs[i.toNat],?_⟩
 have q : gN xs ((i.toNat : Nat) : Int) = some xs[i.toNat] := c8 (BG hk)
 rw [<- ek] at q
 exact q
end Sw
namespace L2
open PySem PySem.Spec PyProof.Rows XH
section
variable {X : Cx}
theorem mx : ∀ {ws : List Str} {us : List Value},aN (ws.map V.str) us -> StrsAre us ws
 | [],_,h => by cases h; exact .nil
 | w :: ws,_,h => by
  cases h with
  | cons r rr =>
   obtain ⟨t,rfl⟩ := r
   exact .cons _ _ (mx rr)
end
end L2
namespace Sw
open PySem L2 XH PySem.NumText
structure lL (X : Cx) (es : List Expr) (t : TA) : Prop where
 h : PA X es t
theorem kH {X : Cx} : lL X [] dn := ⟨ag⟩
theorem kI {X : Cx} {z : Str} {p : Pos} {j} {es : List Expr} {t : TA} (h : lL X es t) : lL X (.Constant (.str z) j p :: es) (aL (tC (.str z)) t) := ⟨aa bL h.h⟩
theorem kJ {X : Cx} {es : List Expr} {t : TA} {pos : Pos} (h : lL X es t) : PE X (.List es pos) (iy t) := bj h.h
def xc : Str := "abcdefghijklmnopqrstuvwxyz"
def Nm (z : Str) : Prop := 1 <= (sL z).length /\ (sL z).length <= 12 /\ ∀ c ∈ sL z,97 <= c /\ c <= 122
theorem kK (c : Nat) : (!(Builtin.Str.occurrences xc (Bi [c]) 0 xc.length 1).isEmpty) = decide (97 <= c /\ c <= 122) := by
 rw [w8]
 have e : sL xc = (Cs 26).map (97 + ·) := by decide
 rw [e]
 apply decide_eq_decide.mpr
 constructor
 ·intro h
  obtain ⟨i,hi,rfl⟩ := BH.mp h
  have := List.mem_range.mp hi
  omega
 ·intro h
  exact BH.mpr ⟨c - 97,List.mem_range.mpr (by omega),by omega⟩
def iQ (K : B1) : Sp := fun vs H Q _ => ∃ x : V,vs = [x] /\ ((∃ z : Str,x = .str z /\ z.length <= 1000000 /\ (Nm z -> Q (.bl true) H) /\ (¬ Nm z -> Q (.bl false) H)) ∨ ∃ ty,dC K H x ty /\ BR K ty (.type "str") = some false /\ Q (.bl false) H)
def fz (x : V) : Prop := ∃ z,x = .str z /\ Nm z
def cO (K : B1) (H : Hp) (x : V) : Prop := (∃ z,x = .str z /\ z.length <= 1000000 /\ ¬ Nm z) ∨ ∃ ty,dC K H x ty /\ BR K ty (.type "str") = some false
theorem cO.same {K : B1} {H H' : Hp} {x : V} (g : aB H H') (h : cO K H x) : cO K H' x := by
 rcases h with h | ⟨ty,a,b⟩
 ·exact .inl h
 ·exact .inr ⟨ty,kC g a,b⟩
def yy : Sp := fun _ _ _ _ => False
theorem sJ {z : Str} (h : Nm z) : z.length <= 1000000 := by
 have := h.2.1
 have e := iP z
 omega
def wa : Sp := fun vs H Q _ => ∃ (l : Addr) (xs : List V),vs = [.ref l] /\ H l = some (.lst xs) /\ (∀ x ∈ xs,fz x) /\ Q .non H
def dX (K : B1) (c : Addr) : Sp := fun vs H Q E => ∃ (l : Addr) (xs : List V),vs = [.ref l] /\ H l = some (.lst xs) /\ (∀ x ∈ xs,fz x ∨ cO K H x) /\ ((∀ x ∈ xs,fz x) -> Q .non H) /\ ((¬ ∀ x ∈ xs,fz x) -> ∀ H',aB H H' -> E (.ref c) none H')
theorem xf {K : B1} {c : Addr} {vs : List V} {H : Hp} {Q : VK} {E : XK} (h : wa vs H Q E) : dX K c vs H Q E0 := by
 obtain ⟨l,xs,e,h1,h2,h3⟩ := h
 exact ⟨l,xs,e,h1,fun x hx => .inl (h2 x hx),fun _ => h3,fun z => absurd h2 z⟩
end Sw
namespace So
open PySem PyProof.Rows
section
variable {prog : Program} {w : World} {A : Around} {E : Value -> Shared -> Prop} {s : Shared} {κ : KeyKind} {kd : SortKind}
end
section
variable {κ : KeyKind} {kd : SortKind} {a b out : Array Keyed} {ia ib : Nat}
end
section
variable {prog : Program} {w : World} {A : Around} {E : Value -> Shared -> Prop} {s : Shared} {κ : KeyKind} {kd : SortKind}
end
section
variable {κ : KeyKind} {kd : SortKind} {a b out : Array Keyed} {na nb : Nat}
end
section
variable {prog : Program} {w : World} {A : Around} {E : Value -> Shared -> Prop} {s : Shared} {κ : KeyKind} {kd : SortKind}
end
section
variable {prog : Program} {w : World} {A : Around} {E : Value -> Shared -> Prop} {s : Shared} {κ : KeyKind} {kd : SortKind}
end
section
variable {prog : Program} {w : World} {A : Around} {E : Value -> Shared -> Prop} {s : Shared} {κ : KeyKind} {kd : SortKind}
end
section
variable {prog : Program} {w : World} {A : Around} {E : Value -> Shared -> Prop} {s : Shared} {κ : KeyKind} {kd : SortKind}
end
section
variable {prog : Program} {w : World} {A : Around} {E : Value -> Shared -> Prop} {s : Shared} {κ : KeyKind} {kd : SortKind}
end
section
variable {κ : KeyKind} {kd : SortKind}
end
section
variable {prog : Program} {w : World} {A : Around} {E : Value -> Shared -> Prop} {s : Shared} {κ : KeyKind} {kd : SortKind}
end
section
variable {prog : Program} {w : World} {A : Around} {E : Value -> Shared -> Prop} {s : Shared} {κ : KeyKind} {kd : SortKind}
end
section
variable {prog : Program} {w : World} {A : Around} {E : Value -> Shared -> Prop} {s : Shared} {κ : KeyKind}
end
end So
namespace L2
open PySem PySem.Spec PyProof.Rows XH
def xK (a : Addr) (o : Obj) (kvs : List (Key × V)) : It :=
 ⟨fun i H => H a = some (.frz o (.dK kvs)) /\ i < kvs.length,fun i H v H' => H' = H /\ ∃ k x,kvs[i]? = some (k,x) /\ v = kV k,fun i H => H a = some (.frz o (.dK kvs)) /\ i = kvs.length⟩
theorem pJ {P : Program} {w : World} {k : Key} {u : Value} (h : (az P w).is k u = true) : RelV (kV k) u := by
 rcases bE h with ⟨i,t,rfl,rfl⟩ | ⟨x,t,rfl,rfl⟩
 ·exact ⟨t,rfl⟩
 ·exact ⟨t,rfl⟩
theorem sK {κ : Type} : ∀ {kvs : List (κ × V)} {vs : List (κ × Value)} (r : KV kvs vs) (i : Nat) {k : κ} {x : V},kvs[i]? = some (k,x) -> ∃ u,vs[i]? = some (k,u) /\ RelV x u
 | _,_,.nil,i,k,x,h => by simp at h
 | _,_,.cons (b := q) r t,0,k,x,h => by
  simp at h
  subst h
  obtain ⟨q1,q2⟩ := q
  have e : k = q1 := r.1
  subst e
  exact ⟨q2,by simp,r.2⟩
 | _,_,.cons r t,i + 1,k,x,h => by
  obtain ⟨u,e,rx⟩ := sK t i (by simpa using h)
  exact ⟨u,by simpa using e,rx⟩
theorem mB {X : Cx} {pins : List (Addr × Obj)} {σ : St} {H : Hp} {s : Shared} {a : Addr} {o : Obj} {kvs : List (Key × V)} {es0 : Array DictEntry} {ep : Nat} (I : ar X pins σ H s) (h : H a = some (.frz o (.dK kvs))) (hd : o.data = .dict es0 ep) :
  ∃ vs,KV kvs vs /\ s.heap.DictAt (az X.prog X.w) a vs ep := by
 obtain ⟨ho,z,y,vs,rel,ob,es,ep',e,c,d,rest⟩ := (show aR X.prog X.w H s.heap a (.frz o (.dK kvs)) from I.hok a _ h)
 rw [ho] at e
 cases e
 have e2 : ep' = ep := by rw [hd] at d; cases d; rfl
 subst e2
 exact ⟨vs,rel,o,es,ho,c,d,rest⟩
theorem qI {P : Program} {w : World} {K : B1} {tg : Expr} (it a : Addr) (o : Obj) (kvs : List (Key × V)) {es0 : Array DictEntry} {ep : Nat} (hd : o.data = .dict es0 ep) : Turn P w K tg (xK a o kvs) [it] it (fun i h => h.IsKeyIter it a i kvs.length ep) where
 mem := by simp
 obj := fun i h st b hb => by
  have e : b = it := by simpa using hb
  subst e
  obtain ⟨o,e,c,d⟩ := st
  exact ⟨o,e,fun v z => by rw [d] at z; cases z⟩
 keep := fun i h h' st k => by
  obtain ⟨o,e,c,d⟩ := st
  exact ⟨o,k it (by simp) o e,c,d⟩
 item := by
  intro X hP hw hK hc i pins s σ H E I hf st hg
  subst hP hw hK
  obtain ⟨f0,f1,f2,f3,f4,f5⟩ := hf it (by simp)
  obtain ⟨hz,hlt⟩ := hg
  obtain ⟨vs,rel,D⟩ := mB I hz hd
  obtain ⟨⟨k,x⟩,hx⟩ : ∃ p,kvs[i]? = some p := ⟨kvs[i],BG hlt⟩
  obtain ⟨u,hu,_⟩ := sK rel i hx
  have st' := st
  rw [rel.length] at st'
  refine wpAny_pyNext_dict_item st' D hu fun key h' hkey hit' hs' => ?_
  rw [<- rel.length] at hit'
  have I1 : ar X pins σ H { s with heap := h',toks := s.toks } := I.turned (fun b ob hb e => hs'.extBut b ob hb e) f0 f1 f3 f4 f5
  obtain ⟨oi,ei,ci,di⟩ := id hit'
  exact ⟨_,rfl,iq (s := { s with heap := h' }) (n := "dict_keyiterator") ei ci di (by decide) ⟨kV k,H,I1,pJ hkey,⟨rfl,k,x,hx,rfl⟩,hit',fun b hb => (hf b hb).1⟩⟩
 done := by
  intro X hP hw hK hc i pins s σ H E I hf st hg
  subst hP hw hK
  obtain ⟨f0,f1,f2,f3,f4,f5⟩ := hf it (by simp)
  obtain ⟨hz,rfl⟩ := hg
  obtain ⟨vs,rel,D⟩ := mB I hz hd
  rw [rel.length] at st
  refine wpAny_pyNext_dict_end (I.ok.hd hc) st D (by simp) fun h' he' => ⟨rfl,I.turned (t' := s.toks) (fun b ob hb e => he' b ob hb e) f0 f1 f3 f4 f5⟩
 self := fun _ _ _ _ _ st h => wpAny_pyIter_keyiter st h
def NF (X : Cx) (a : Addr) : Prop := ∀ o u,X.H₀ a ≠ some (.frz o u)
theorem ar.nf {X : Cx} {pins : List (Addr × Obj)} {σ : St} {H : Hp} {s : Shared} {a : Addr} {kvs : List (Key × V)} (I : ar X pins σ H s) (h : H a = some (.dK kvs)) : NF X a := fun o u e => by
 have := I.base.frzs a o u e
 rw [h] at this
 cases this
theorem ar.freeze {X : Cx} {pins : List (Addr × Obj)} {σ : St} {H : Hp} {s : Shared} {a : Addr} {kvs : List (Key × V)} {o : Obj} (I : ar X pins σ H s) (h : H a = some (.dK kvs)) (ho : s.heap.get? a = some o) : ar X pins σ (aq H a (.frz o (.dK kvs))) s := by
 refine I.un (H' := aq H a (.frz o (.dK kvs))) (h' := s.heap) (t' := s.toks) ⟨fun b ob q n _ _ => q,fun b ob q n _ _ => ⟨ob.slots,q⟩,fun b ob q n _ => ?_,fun b ob q _ => ⟨ob,q⟩,fun b xs q => ?_,fun b ob u q => ?_,fun b ps q => ⟨#[],?_⟩⟩ ?_
 ·rw [aj (fun z => by subst z; rw [h] at n; cases n)]; exact n
 ·rw [aj (fun z => by subst z; rw [h] at q; cases q)]; exact q
 ·rw [aj (fun z => by subst z; rw [h] at q; cases q)]; exact q
 ·rw [aj (fun z => by subst z; rw [h] at q; cases q),q]; simp
 ·intro b u q
  by_cases hb : b = a
  ·subst hb
   rw [ac] at q
   cases q
   exact ⟨ho,(I.hok b _ h).stay (fun _ _ _ q => q) (fun c q => by rw [aj (fun z => by subst z; rw [h] at q; cases q)]; exact q) fun c xs q => by rw [aj (fun z => by subst z; rw [h] at q; cases q)]; exact q⟩
  ·rw [aj hb] at q
   exact (I.hok b _ q).stay (fun _ _ _ q => q) (fun c q => by rw [aj (fun z => by subst z; rw [h] at q; cases q)]; exact q) fun c xs q => by rw [aj (fun z => by subst z; rw [h] at q; cases q)]; exact q
theorem ar.thaw {X : Cx} {pins : List (Addr × Obj)} {σ : St} {H : Hp} {s : Shared} {a : Addr} {kvs : List (Key × V)} {o : Obj} (I : ar X pins σ H s) (h : H a = some (.frz o (.dK kvs))) (nf : NF X a) : ar X pins σ (aq H a (.dK kvs)) s := by
 have hn : ∀ {b : Addr} {u : HO},H b = some u -> (∀ o' v,u ≠ .frz o' v) -> aq H a (.dK kvs) b = some u := fun {b u} q n => by
  rw [aj (fun z => by subst z; rw [h] at q; cases q; exact n _ _ rfl)]; exact q
 have hf : ∀ {b : Addr},H b = none -> aq H a (.dK kvs) b = none := fun {b} n => by
  rw [aj (fun z => by subst z; rw [h] at n; cases n)]; exact n
 refine ⟨I.ok,I.os,I.bare,⟨I.base.keep,I.base.slot,fun b ob q n hx => hf (I.base.free b ob q n hx),I.base.there,fun b xs q => hn (I.base.tups b xs q) (fun _ _ z => nomatch z),fun b ob u q => ?_,fun b ps q => ?_⟩,I.loc,I.cell,hf I.free,fun y c e => hf (I.freeC y c e),fun p hp => ?_,?_,I.len⟩
 ·have q' := I.base.frzs b ob u q
  rw [aj (fun z => by subst z; exact nf _ _ q)]
  exact q'
 ·obtain ⟨more,q'⟩ := I.base.tbls b ps q
  exact ⟨more,hn q' (fun _ _ z => nomatch z)⟩
 ·obtain ⟨p1,p2,p3⟩ := I.pin p hp
  exact ⟨p1,hf p2,p3⟩
 ·intro b u q
  by_cases hb : b = a
  ·subst hb
   rw [ac] at q
   cases q
   obtain ⟨_,q2⟩ := (show aR X.prog X.w H s.heap b (.frz o (.dK kvs)) from I.hok b _ h)
   exact aR.stay (o := .dK kvs) q2 (fun _ _ _ q => q) (fun c q => hn q (fun _ _ z => nomatch z)) fun c xs q => hn q (fun _ _ z => nomatch z)
  ·rw [aj hb] at q
   exact (I.hok b _ q).stay (fun _ _ _ q => q) (fun c q => hn q (fun _ _ z => nomatch z)) fun c xs q => hn q (fun _ _ z => nomatch z)
def yz (X : Cx) (tl : TE) : TI := fun σ H R => tl σ H fun x H1 => ∃ a kvs,x = .ref a /\ H1 a = some (.dK kvs) /\ ∀ o,NF X a -> R (xK a o kvs) (aq H1 a (.frz o (.dK kvs)))
section
variable {X : Cx} {tg : Expr}
theorem pK {l : Expr} {tl : TE} (hl : PE X l tl) : PI X tg l (yz X tl) := by
 intro pins s σ H R I h
 refine aX (hl pins s σ H _ I h) fun v s1 ⟨x,H1,I1,r1,q1⟩ => ?_
 obtain ⟨a,kvs,rfl,hk,q⟩ := q1
 cases r1
 obtain ⟨z,y,vs,rel,ob,es,ep,e,c,d,rest⟩ := (show aR X.prog X.w H1 s1.heap a (.dK kvs) from I1.hok a _ hk)
 have D : s1.heap.DictAt (az X.prog X.w) a vs ep := ⟨ob,es,e,c,d,rest⟩
 have I2 := I1.freeze hk e
 refine wpAny_pyIter_dict y D ?_
 refine ⟨s1.heap.objs.size,[s1.heap.objs.size],_,_,_,rfl,I2.kept (t' := s1.toks) fun b o e => Heap.get?_push_of_some _ e,qI _ a ob kvs d,⟨_,Heap.get?_push_size _ rfl,rfl,by rw [rel.length]; rfl⟩,fun b hb => ?_,q ob (I1.nf hk)⟩
 have e : b = s1.heap.objs.size := by simpa using hb
 subst e
 exact I2.fpOk (B3 _) (I2.hok.fresh (B3 _))
end
def zV (X : Cx) (P : Hp -> Prop) (H : Hp) : Prop := ∃ a o kvs,H a = some (.frz o (.dK kvs)) /\ NF X a /\ P (aq H a (.dK kvs))
def AI (X : Cx) (D : Ends) : Ends := { nx := fun σ => zV X (D.nx σ),bk := fun σ => zV X (D.bk σ),ct := fun σ => zV X (D.ct σ),rt := fun v => zV X (D.rt v) }
theorem sO {X : Cx} {st : Stmt} {t : TS} (h : PS X st t) : PS X st (fun D σ H => t (AI X D) σ H) := by
 intro pins s σ H D I q
 refine aX (h pins s σ H _ I q) fun f s1 q1 => ?_
 cases f with
 | next =>
  obtain ⟨σ',H',I',a,o,kvs,e,nf,p⟩ := q1
  exact ⟨σ',_,I'.thaw e nf,p⟩
 | brk =>
  obtain ⟨σ',H',I',a,o,kvs,e,nf,p⟩ := q1
  exact ⟨σ',_,I'.thaw e nf,p⟩
 | cont =>
  obtain ⟨σ',H',I',a,o,kvs,e,nf,p⟩ := q1
  exact ⟨σ',_,I'.thaw e nf,p⟩
 | ret u =>
  obtain ⟨v,σ',H',I',r,a,o,kvs,e,nf,p⟩ := q1
  exact ⟨v,σ',_,I'.thaw e nf,r,p⟩
theorem sP {a : Addr} {o : Obj} {kvs : List (Key × V)} {g : TG} {tb : TS} {D : Ends} {σ : St} {H : Hp} (Pv : Nat -> St -> Hp -> Prop) (h0 : Pv 0 σ H) (hz : ∀ i σ H,i <= kvs.length -> Pv i σ H -> H a = some (.frz o (.dK kvs)))
  (hs : ∀ i k x σ H,kvs[i]? = some (k,x) -> Pv i σ H -> g (kV k) σ H fun σ2 H2 => tb { D with nx := Pv (i + 1),ct := Pv (i + 1),bk := D.nx } σ2 H2) (hd : ∀ σ H,Pv kvs.length σ H -> D.nx σ H) :
  ∃ W : Nat -> Nat -> St -> Hp -> Prop,(∃ m,W 0 m σ H) /\ ∀ i m σ H,W i m σ H ->
   ((xK a o kvs).stop i H /\ D.nx σ H) ∨ ((xK a o kvs).go i H /\ ∃ N : St -> Hp -> Prop,(∀ σ' H',N σ' H' -> ∃ m',m' < m /\ W (i + 1) m' σ' H') /\ ∀ x H',(xK a o kvs).yld i H x H' -> g x σ H' fun σ2 H2 => tb { D with nx := N,ct := N,bk := D.nx } σ2 H2) := by
 refine ⟨fun i m σ H => m = kvs.length - i /\ i <= kvs.length /\ Pv i σ H,⟨kvs.length,by simp,BY _,h0⟩,?_⟩
 rintro i m σ H ⟨rfl,hi,p⟩
 by_cases hlt : i < kvs.length
 ·refine .inr ⟨⟨hz i σ H hi p,hlt⟩,Pv (i + 1),fun σ' H' p' => ⟨kvs.length - (i + 1),by omega,rfl,hlt,p'⟩,fun x H' y => ?_⟩
  obtain ⟨e,k,v,hk,rfl⟩ := y
  subst e
  exact hs i k v σ _ hk p
 ·have e : i = kvs.length := by omega
  subst e
  exact .inl ⟨⟨hz _ σ H hi p,rfl⟩,hd σ H p⟩
def kL (js : List Nat) (tc : TT) (te : TE) (σ : St) (Q : VK) : It -> Hp -> Prop := fun J H1 => ∀ p,H1 p = none -> ∃ W : Nat -> Nat -> List V -> Hp -> Prop,(∃ m,W 0 m [] (aq H1 p (.lst []))) /\
 ∀ i m ys H2,W i m ys H2 -> H2 p = some (.lst ys) /\ ((J.stop i H2 /\ Q (.ref p) H2) ∨ (J.go i H2 /\ ys.length < sizeLine /\ ∀ x H3,J.yld i H2 x H3 -> tc (some x :: bu js σ) H3 fun b H4 =>
  if b = true then te (some x :: bu js σ) H4 fun y H5 => H5 p = some (.lst ys) /\ ∃ m',m' < m /\ W (i + 1) m' (ys ++ [y]) (aq H5 p (.lst (ys ++ [y]))) else ∃ m',m' < m /\ W (i + 1) m' ys H4))
def pL (wi : TI) (js : List Nat) (tc : TT) (te : TE) : TE := fun σ H Q => wi σ H (kL js tc te σ Q)
section
variable {prog : Program} {w : World} {A : Around} {R : Result -> Shared -> Prop} {s : Shared}
theorem gR {elt target iter cond : Expr} {scope : Scope} {pos : Pos} {it acc : Value} {env : Env} (I : Nat -> Shared -> Prop)
  (turn : ∀ n s,I n s -> wpAny (model prog w) A (pyNext it) (fun r s1 => match r with
   | none => R (.ok .next) s1
   | some v => wpAny (model prog w) A (letOwnedTupleGo target it v) (fun _ s2 => wpAny (model prog w) A (assign target env v) (fun _ s3 => wpAny (model prog w) A (isTrue cond env (eval cond env)) (fun ok s4 =>
     if ok = true then wpAny (model prog w) A (eval elt env) (fun x s5 => wpAny (model prog w) A (call (.builtin "list.append") [acc,x]) (fun _ s6 => ∃ m,m < n /\ I m s6) (fun _ _ => False) s5) (fun _ _ => False) s4
     else ∃ m,m < n /\ I m s4) (fun _ _ => False) s3) (fun _ _ => False) s2) (fun _ _ => False) s1) (fun _ _ => False) s)
  (n : Nat) (h : I n s) : codeAny (model prog w) A (.compLoop (.ListComp elt [⟨target,iter,[cond],0⟩] scope pos) 0 it acc env) R s := by
 apply codeAny_loop rfl I ?_ n h
 intro n s hI
 show wpAny _ _ ((compTurn (.ListComp elt [⟨target,iter,[cond],0⟩] scope pos) 0 it acc env).onRaise _) _ _ s
 apply wpAny_noted
 rw [compTurn_list]
 apply wpAny_bind
 apply wpAny_standAt
 apply wpAny_bind
 refine wpAny_mono (turn n s hI) (fun r s1 h1 => ?_) fun _ _ z => z.elim
 cases r with
 | none => exact wpAny_pure h1
 | some v =>
  apply wpAny_bind
  refine wpAny_mono h1 (fun _ s2 h2 => ?_) fun _ _ z => z.elim
  apply wpAny_bind
  refine wpAny_mono h2 (fun _ s3 h3 => ?_) fun _ _ z => z.elim
  apply wpAny_bind
  refine wpAny_mono (wpAny_tests_one h3) (fun ok s4 h4 => ?_) fun _ _ z => z.elim
  cases ok with
  | true =>
   apply wpAny_bind
   apply wpAny_bind
   refine wpAny_mono h4 (fun x s5 h5 => ?_) fun _ _ z => z.elim
   apply wpAny_bind
   refine wpAny_mono h5 (fun _ s6 h6 => ?_) fun _ _ z => z.elim
   exact wpAny_pure (wpAny_pure ⟨rfl,h6⟩)
  | false =>
   have h4' : ∃ m,m < n /\ I m s4 := h4
   exact wpAny_pure ⟨rfl,h4'⟩
end
section
variable {X : Cx} {scope : Scope} {cl : List (Str × Addr)} {own : Str} {ys : List Str} {js : List Nat} {elt iter cond : Expr} {px pos : Pos} {wi : TI} {te : TE} {tc : TT}
theorem qJ (hc : X.calm = true) (ok : iK X scope cl own ys js) (hi : PI X (.Name own px) iter wi)
  (hq : ∀ (C : Addr) (fp : List Addr) (s : Shared) (H : Hp),PT (X.block scope cl C (own :: ys) own fp s H) cond tc)
  (he : ∀ (C : Addr) (fp : List Addr) (s : Shared) (H : Hp),PE (X.block scope cl C (own :: ys) own fp s H) elt te)
  (hs : ∀ x,foldedSetIterable iter X.env x = pure x := by intro _; rfl) : PE X (.ListComp elt [⟨.Name own px,iter,[cond],0⟩] scope pos) (pL wi js tc te) := by
 intro pins s σ H Q I h
 rw [eval_ListComp]
 have ncell : ∀ y ∈ scope.names,y.2 ≠ .cell := fun y hy z => by
  have q := CQ.mp ok.nocell y hy
  rw [z] at q
  simp at q
 have nloc : ∀ y ∈ scope.names,y.2 = .local -> scope.names.lookup y.1 = some .local := fun y hy z => by
  have q := CQ.mp ok.loc y hy
  rw [z] at q
  simpa using q
 refine wpAny_comprehension_free (use := none) rfl hs ok.clos ok.kind nloc (aX (hi pins s σ H _ I h) fun v s1 h1 => aX h1 fun itv s2 h2 => ?_)
 obtain ⟨it,fp,tn,J,H2,rfl,I2,T,st2,f2,q2⟩ := h2
 obtain ⟨W,⟨m0,w0⟩,turn⟩ := q2 s2.heap.objs.size (I2.hok.fresh (B3 _))
 refine wpAny_newObj_type (wpAny_newFunctionEnv ncell (by intro y hy; simp at hy) (fun h1 hns hsb => ?_) ok.kind)
 have I3 := I2.laid (a := s2.heap.objs.size) (o := .lst []) (h' := s2.heap.push { cls := .type "list",dict := none,data := .seq ([] : List Value).toArray }) (t' := s2.toks) (fun b u q => Heap.get?_push_of_some _ q) (B3 _)
  ⟨BY _,[],0,.nil,Heap.get?_push_size _ rfl⟩
 have fpo : ∀ b ∈ fp,b < s2.heap.objs.size := fun b hb => by
  obtain ⟨o,e,_⟩ := T.obj 0 _ st2 b hb
  exact Heap.lt_size e
 have f3 : ∀ b ∈ fp,ef X pins (aq H2 s2.heap.objs.size (.lst [])) b := fun b hb => ⟨by rw [aj (BA (fpo b hb))]; exact (f2 b hb).1,(f2 b hb).2⟩
 generalize hs3 : ({ s2 with heap := s2.heap.push { cls := .type "list",dict := none,data := .seq ([] : List Value).toArray },toks := s2.toks } : Shared) = s3 at I3
 have e3 : s3.heap = s2.heap.push { cls := .type "list",dict := none,data := .seq ([] : List Value).toArray } := by rw [<- hs3]
 have lt3 : ∀ b ∈ fp,b < s3.heap.objs.size := fun b hb => by rw [e3,Heap.size_push]; exact CN (fpo b hb)
 dsimp only at hns hsb ⊢
 rw [<- e3] at hns hsb
 have hk : ∀ b o,s3.heap.get? b = some o -> h1.get? b = some o := fun b o e => hsb.extBut b o (BA (Heap.lt_size e)) (Heap.get?_push_of_some _ e)
 have J0 := eI (h1 := h1) ok I3 f3 lt3 hns hk (s2.toks + 0)
 have t0 : tn 0 h1 := T.keep 0 _ _ st2 fun b hb o e => hk b o (by rw [e3]; exact Heap.get?_push_of_some _ e)
 have fpB : ∀ {H' : Hp},(∀ b ∈ fp,H' b = none) -> ∀ b ∈ fp,ef (X.block scope cl s3.heap.objs.size (own :: ys) own fp s3 (aq H2 s2.heap.objs.size (.lst []))) [] H' b := fun {H'} hn b hb =>
  ⟨hn b hb,BA (lt3 b hb),fun z => (B9.mp (I3.stkSub b z)).elim (f3 b hb).2.1 (f3 b hb).2.2.1,.inl hb,fun x c e => (f3 b hb).2.2.2.2.1 x c (ok.sub (x,c) (C4 e)),fun p hp => absurd (show p ∈ ([] : List (Addr × Obj)) from hp) (by simp)⟩
 have loop : codeAny (model X.prog X.w) X.A (.compLoop (.ListComp elt [⟨.Name own px,iter,[cond],0⟩] scope pos) 0 (.ref it) (.ref s2.heap.objs.size) (compEnvC scope cl s3.heap.objs.size X.env))
   (compPost (model X.prog X.w) X.A X.xe none (EP X pins σ Q) (.ref s2.heap.objs.size) s3.heap.objs.size) { s3 with heap := h1,toks := s2.toks + 0 } := by
  refine gR (fun n s' => ∃ i zs o0 H',ar (X.block scope cl s3.heap.objs.size (own :: ys) own fp s3 (aq H2 s2.heap.objs.size (.lst []))) [] (o0 :: bu js σ) H' s' /\ tn i s'.heap /\ (∀ b ∈ fp,H' b = none) /\ W i n zs H') ?_ m0
   ⟨0,[],none,_,J0,t0,fun b hb => (f3 b hb).1,w0⟩
  rintro n s5 ⟨i,zs,o0,H5,I5,t5,n5,w5⟩
  obtain ⟨hD,hw⟩ := turn i n zs H5 w5
  rcases hw with ⟨stop,qn⟩ | ⟨go,hz,step⟩
  ·refine aX (T.done (X.block scope cl s3.heap.objs.size (own :: ys) own fp s3 (aq H2 s2.heap.objs.size (.lst []))) rfl rfl rfl hc i [] s5 _ H5 (fun _ _ => False) I5 (fpB n5) t5 stop) fun r s6 ⟨hr,I6⟩ => ?_
   subst hr
   obtain ⟨m,hn,_⟩ := id I6.loc
   exact ⟨m,hn,fun h' hs' => ⟨V.ref s2.heap.objs.size,H5,gk I3 f3 I6 hs',rfl,qn⟩⟩
  ·refine aX (T.item (X.block scope cl s3.heap.objs.size (own :: ys) own fp s3 (aq H2 s2.heap.objs.size (.lst []))) rfl rfl rfl hc i [] s5 _ H5 (fun _ _ => False) I5 (fpB n5) t5 go) fun r s6 ⟨u,hr,h6⟩ => ?_
   subst hr
   refine aX h6 fun _ s7 ⟨x,H7,I7,r7,y7,t7,n7⟩ => ?_
   have I7' := I7.pinned (fpB n7) (T.obj _ _ t7)
   have hst := step x H7 y7
   have own' : (relabel scope X.env).names.lookup own = some .local := lookup_relabel_local ok.ownL
   refine aX (bJ (X := X.block scope cl s3.heap.objs.size (own :: ys) own fp s3 (aq H2 s2.heap.objs.size (.lst []))) (i := 0) (x := own) (pos := px) ok.nd rfl (.inl own') (.inr own') _ s7 _ H7 x u (fun σ' H' => σ' = some x :: bu js σ /\ H' = H7) I7' r7 ⟨rfl,rfl⟩) fun _ s8 ⟨σ8,H8,I8,e8,eH8⟩ => ?_
   subst e8 eH8
   refine aX (hq _ _ _ _ _ s8 _ H8 _ I8 hst) fun ok s9 ⟨H9,I9,h9⟩ => ?_
   have frame : ∀ {s' : Shared} {H' : Hp},ar (X.block scope cl s3.heap.objs.size (own :: ys) own fp s3 (aq H2 s2.heap.objs.size (.lst []))) ([] ++ fi fp s7.heap) (some x :: bu js σ) H' s' -> tn (i + 1) s'.heap /\ ∀ b ∈ fp,H' b = none := fun {s' H'} I' =>
    ⟨T.keep _ _ _ t7 fun b hb o e => (I'.pin (b,o) (BC _ (BC _ (bH hb e)))).1,fun b hb => by
     obtain ⟨o,e,d⟩ := T.obj _ _ t7 b hb
     exact (I'.pin (b,o) (BC _ (BC _ (bH hb e)))).2.1⟩
   cases ok with
   | true =>
    refine aX (he _ _ _ _ _ s9 _ H9 _ I9 h9) fun yv s10 ⟨y,H10,I10,r10,hD10,m',hm,w10⟩ => ?_
    refine aX (bP _ s10 _ H10 (.ref s2.heap.objs.size) [y] (.ref s2.heap.objs.size) [yv] (fun _ H' => H' = aq H10 s2.heap.objs.size (.lst (zs ++ [y]))) I10 rfl (.cons r10 .nil) ⟨_,zs,y,rfl,rfl,hD10,hz,rfl⟩) fun _ s11 ⟨_,H11,I11,_,e11⟩ => ?_
    subst e11
    exact ⟨m',hm,i + 1,zs ++ [y],some x,_,I11.unpinned,(frame I11).1,(frame I11).2,w10⟩
   | false =>
    obtain ⟨m',hm,w10⟩ := h9
    exact ⟨m',hm,i + 1,zs,some x,_,I9.unpinned,(frame I9).1,(frame I9).2,w10⟩
 subst hs3
 exact codeAny_compStart_list loop (T.self _ 0 _ _ _ t0 loop)
end
section
variable {X : Cx}
theorem qK : Ap X "dict.setdefault" (fun x vs H Q => ∃ a kvs k v,x = .ref a /\ vs = [kV k,v] /\ H a = some (.dK kvs) /\ kvs.length < sizeLine /\ (∀ w,aK kvs k = some w -> Q w H) /\ (aK kvs k = none -> Q v (aq H a (.dK (putK kvs k v))))) := by
 intro pins s σ H x vs v us Q I rx rv h
 obtain ⟨a,kvs,k,y,rfl,rfl,hk,hz,q1,q2⟩ := h
 cases rx
 obtain ⟨u,w',rfl,ru,rw'⟩ := vals2 rv
 obtain ⟨z,hS,ws,rel,D⟩ := iB I.hok hk
 refine call_meetsIn F.slot_dict_setdefault D.typeIs F.entry_dict_setdefault (F.args_dict_setdefault_3 _ _ _) (kt_meets_setdefault (az X.prog X.w) a (eE ru) hS w') ⟨ws,D,by rw [<- rel.length]; exact z,fun v' hv => ?_,fun hn h' D' hs' => ?_⟩
 ·have r := rel.val k
  rw [hv] at r
  cases e : aK kvs k with
  | none => rw [e] at r; exact r.elim
  | some y' =>
   rw [e] at r
   exact ⟨y',H,I.tok _,r,q1 y' e⟩
 ·have r := rel.val k
  rw [hn] at r
  have e : aK kvs k = none := by
   cases e : aK kvs k with
   | none => rfl
   | some y' => rw [e] at r; exact r.elim
  obtain ⟨od,_,_,ho,_⟩ := id D'
  refine ⟨y,_,fQ I (by rw [hk]; trivial) hs' ⟨od,ho⟩ (km (by have := cE kvs k y; omega) hS (rel.put k rw') D'),rw',q2 e⟩
end
section
variable {prog : Program} {w : World} {κ : Type} [DecidableEq κ] {knd : KeyKind prog w κ} {A : Around} {E : Value -> Shared -> Prop} {s : Shared}
end
theorem uT : typeLookup (.type "list_reverseiterator") "__len__" = pure none := by
 rw [typeLookup_type,builtinLookup_eq_fast]
 kernel_rfl
theorem sQ : typeLookup (.type "list_reverseiterator") "__length_hint__" = pure (some (.builtin "list_reverseiterator.__length_hint__")) := by
 rw [typeLookup_type,builtinLookup_eq_fast]
 kernel_rfl
section
variable {prog : Program} {w : World} {A : Around} {R : Result -> Shared -> Prop} {s : Shared} {I l S : Addr} {items : Array Value}
abbrev xg (items : Array Value) : Nat -> Value -> Prop := fun i v => items[items.size - 1 - i]? = some v
theorem nX (hh : A.in1.handled = none) (hlI : l ≠ I) (hSI : S ≠ I) (hSl : S ≠ l) (res : Value) (c : Nat) (hit : s.heap.IsRevIter I l ((items.size : Int) - 1)) (hl : s.heap.IsList l items)
  (hS : s.heap.get? S = some { cls := .type "list",data := .seq #[] c }) (hn : items.size <= sizeLine)
  (fin : ∀ s' acc c',Moved [S,I] (fun a b => b = a) s s' -> s'.heap.get? S = some { cls := .type "list",dict := none,data := .seq acc c',slots := #[] } -> ItemsOf (xg items) acc items.size -> R (.ok (.ret res)) s') :
  wpAny (model prog w) A.in1 (Builtin.List.listExtendWith (.ref S) (.ref I) res)
   (fun fin s' => match fin with | .done f => R (.ok f) s' | .again c' => c'.quiet = true /\ codeAny (model prog w) A c' R s') (fun e s' => R (.error e) s') s := by
 have ty : s.TypeIs (.ref I) "list_reverseiterator" := hit.typeIs
 have ns : Builtin.List.listSameRef (.ref S) (.ref I) = false := by
  simp [Builtin.List.listSameRef,hSI]
 unfold Builtin.List.listExtendWith
 apply wpAny_bind
 apply wpAny_typeOf ty
 rw [if_neg (by rw [ns]; decide)]
 apply wpAny_bind
 apply wpAny_pyIter_revIter hit
 apply wpAny_bind
 apply wpAny_holding
 unfold Builtin.List.listLengthHint
 apply wpAny_bind
 apply wpAny_specialOf ty uT
 show wpAny _ _ (specialOf (Value.ref I) (Str.ofString "__length_hint__") >>= _) _ _ s
 apply wpAny_bind
 apply wpAny_specialOf ty sQ
 generalize hid : ("list_reverseiterator.__length_hint__" : String) = id0
 wp_delta
 rw [show splitId id0 = some ("list_reverseiterator","__length_hint__") from by subst hid; decide +kernel]
 subst hid
 apply wpAny_bind
 refine wpAny_isInstance (b := true) ty (by rw [isSubtype_type]; kernel_rfl) ?_
 apply wpAny_pure
 rw [if_neg (by decide)]
 have W := (Walks.listRev (prog := prog) (w := w) hh I l hlI items).toS
 have out : S ∉ [I,l] := by
  simp only [B9,Bw,or_false,not_or]
  exact ⟨hSI,hSl⟩
 have st : (0 : Nat) <= items.size /\ s.heap.IsRevIter I l ((items.size : Int) - 1 - ((0 : Nat) : Int)) /\ s.heap.IsList l items := ⟨BY _,by simpa using hit,hl⟩
 apply wpAny_pure
 refine ⟨plainId_quiet PySem.F.plain_extend_loop _,?_⟩
 exact codeAny_extend_loopS W hn S out res items.size 0 s #[] c rfl (BY _) st hS (ItemsOf.nil _) fin
theorem sR {E : Value -> Shared -> Prop} {Q : Value -> Shared -> Prop} (hh : A.handled = none) (hlI : l ≠ I) (hit : s.heap.IsRevIter I l ((items.size : Int) - 1)) (hl : s.heap.IsList l items) (hn : items.size <= sizeLine)
  (fin : ∀ h' tk acc c',(∀ b o,b ≠ I -> s.heap.get? b = some o -> h'.get? b = some o) -> h'.get? s.heap.objs.size = some { cls := .type "list",dict := none,data := .seq acc c',slots := #[] } -> ItemsOf (xg items) acc items.size -> Q (.ref s.heap.objs.size) { s with heap := h',toks := tk }) :
  wpAny (model prog w) A (call (.type "list") [.ref I]) Q E s := by
 have lI : I < s.heap.objs.size := by
  obtain ⟨o,e,_⟩ := hit
  exact Heap.lt_size e
 have ll : l < s.heap.objs.size := by
  obtain ⟨o,e,_⟩ := hl
  exact Heap.lt_size e
 refine callType_codes (Q₁ := fun v s1 => v = .ref s.heap.objs.size /\ s1 = { s with heap := s.heap.push { cls := .type "list",data := .seq #[] } }) PySem.F.called_list (PySem.F.typeCall_list_1 _) PySem.F.entry_list_init (code_list_new _ ⟨rfl,rfl⟩) ?_
 rintro v s1 ⟨rfl,rfl⟩
 have e0 : (s.heap.push { cls := .type "list",data := .seq #[] }).get? s.heap.objs.size = some { cls := .type "list",data := .seq #[] } := Heap.get?_push_size _ rfl
 refine ⟨⟨_,e0,rfl⟩,PySem.F.args_list_init_2 _ _,?_⟩
 show wpAny _ _ (Builtin.List.listItems (.ref s.heap.objs.size) >>= fun old => Builtin.List.listUpdate (.ref s.heap.objs.size) (fun _ => #[]) >>= fun _ => letGo old.toList.reverse >>= fun _ => Builtin.List.listExtendWith (.ref s.heap.objs.size) (.ref I) .none) _ _ _
 apply wpAny_bind
 unfold Builtin.List.listItems
 apply wpAny_bind
 apply wpAny_seqItems e0 rfl
 apply wpAny_pure
 show wpAny _ _ (updateSeq s.heap.objs.size (fun _ => #[]) >>= fun _ => letGo (#[] : Array Value).toList.reverse >>= fun _ => Builtin.List.listExtendWith (.ref s.heap.objs.size) (.ref I) .none) _ _ _
 apply wpAny_bind
 apply wpAny_updateSeq e0 rfl
 have e1 := Heap.get?_update_self (Obj.mapSeq (fun _ => (#[] : Array Value))) e0 rfl
 have old : ∀ b o,b ≠ s.heap.objs.size -> s.heap.get? b = some o -> ((s.heap.push { cls := .type "list",data := .seq #[] }).update s.heap.objs.size (Obj.mapSeq (fun _ => (#[] : Array Value)))).get? b = some o := fun b o hb e =>
  (Heap.get?_update_other _ _ (Ne.symm hb)).trans (Heap.get?_push_of_some _ e)
 apply wpAny_bind
 apply wpAny_letGo
 refine nX (A := A.in1) (by simpa using hh) hlI (Ci lI) (Ci ll) .none _ ?_ ?_ e1 hn fun s' acc c' mv eS it => ?_
 ·obtain ⟨o,e,z⟩ := hit
  exact ⟨o,old _ _ (BA lI) e,z⟩
 ·obtain ⟨o,e,z⟩ := hl
  exact ⟨o,old _ _ (BA ll) e,z⟩
 ·obtain ⟨h',g',d',tk',os'⟩ := s'
  have eg : g' = s.gens := mv.gens
  have ed : d' = s.drawn := mv.drawn
  have eo : os' = s.os := mv.os
  subst eg ed eo
  refine ⟨rfl,fin h' tk' acc c' (fun b o hb e => ?_) eS it⟩
  refine mv.heap b o ?_ (old b o (BA (Heap.lt_size e)) e)
  simp only [B9,Bw,or_false,not_or]
  exact ⟨BA (Heap.lt_size e),hb⟩
end
theorem mC : ∀ {xs : List V} {us : List Value},aN xs us -> aN xs.reverse us.reverse
 | _,_,.nil => .nil
 | _,_,.cons r t => by
  rw [List.reverse_cons,List.reverse_cons]
  exact (mC t).append (.cons r .nil)
theorem qL {us : List Value} {acc : Array Value} (h : ItemsOf (xg us.toArray) acc us.toArray.size) : acc.toList = us.reverse := by
 obtain ⟨h1,h2⟩ := h
 refine List.ext_getElem? fun i => ?_
 by_cases hi : i < acc.size
 ·have e := h2 i acc[i] (C2 hi)
  rw [BU,C2 hi,List.getElem?_reverse (by simpa [h1] using hi)]
  simpa using e.symm
 ·rw [CP (by simpa using hi),CP (by rw [List.length_reverse]; simp [h1] at hi; omega)]
def AJ (K : B1) (te : TE) : TE := fun σ H Q => te σ H fun x H1 => ∃ a xs,x = .ref a /\ bv K H1 a xs /\ ∀ l,H1 l = none -> Q (.ref l) (aq H1 l (.lst xs.reverse))
section
variable {X : Cx} {e : Expr} {te : TE} {p1 p2 pos pos2 : Pos}
theorem nY (hc : X.calm = true) (g1 : Gl X "list") (m1 : X.mg "list" = none) (g2 : Gl X "reversed") (m2 : X.mg "reversed" = none) (b1 : bootBuiltins "list" = some (.type "list")) (b2 : bootBuiltins "reversed" = some (.type "reversed")) (he : PE X e te)
  (hs : starEach [e] X.env = [(false,eval e X.env)] := by rfl) :
  PE X (.Call (.Name "list" p1) [.Call (.Name "reversed" p2) [e] [] pos2] [] pos) (AJ X.K te) := by
 intro pins s σ H Q I h
 apply wpAny_Call_Name_kw
 refine dM I g1 m1 b1 ?_ (by decide) (by decide)
 refine CF ?_ rfl rfl
 refine Calls.spliced_cons (x := eval (.Call (.Name "reversed" p2) [e] [] pos2) X.env) (rest := []) ?_
 apply wpAny_Call_Name_kw
 refine dM I g2 m2 b2 ?_ (by decide) (by decide)
 refine CF ?_ hs rfl
 rw [hs]
 refine Calls.spliced_cons (x := eval e X.env) (rest := []) (aX (he pins s σ H _ I h) fun v s1 ⟨x,H1,I1,r1,a,xs,ex,hq,q⟩ => ?_)
 subst ex
 cases r1
 apply Calls.spliced_nil
 obtain ⟨its,rv,pl,hz⟩ := I1.list hq
 have hli : s1.heap.IsList a its.toArray := pl.isList
 have alt : a < s1.heap.objs.size := by
  obtain ⟨o,eo,_⟩ := id hli
  exact Heap.lt_size eo
 apply call_reversed_list hli
 apply Calls.spliced_nil
 have I2 : ar X pins σ H1 { s1 with heap := s1.heap.push (revObj a ((its.toArray.size : Int) - 1)),toks := s1.toks } := I1.kept fun b o e => Heap.get?_push_of_some _ e
 have sz : its.toArray.size = xs.length := by rw [BL,rv.length]
 refine sR (l := a) (items := its.toArray) (I.ok.hd hc) (BA alt) ⟨_,Heap.get?_push_size _ rfl,rfl,rfl⟩ (hli.push _) (by rw [sz]; exact hz) fun h' tk acc c' kp eL itm => ?_
 have er := qL itm
 have sl : s1.heap.objs.size <= (s1.heap.push (revObj a ((its.toArray.size : Int) - 1))).objs.size := by
  rw [Heap.size_push]
  exact Nat.le_succ _
 refine ⟨.ref _,_,I1.laid (a := (s1.heap.push (revObj a ((its.toArray.size : Int) - 1))).objs.size) (o := .lst xs.reverse) (h' := h') (t' := tk) (fun b o eo => kp b o (BA (Heap.lt_size eo)) (Heap.get?_push_of_some _ eo)) sl ?_,rfl,q _ (I1.hok.fresh sl)⟩
 refine ⟨by rw [List.length_reverse]; exact hz,acc.toList,c',by rw [er]; exact mC rv,?_⟩
 rw [Array.toArray_toList]
 exact eL
end
section
variable {prog : Program} {w : World} {A : Around} {R : Result -> Shared -> Prop} {I : Addr} {fp wr : List Addr} {G : Array GenState -> Array GenState -> Prop} {n : Nat} {P : Nat -> Value -> Prop} {St : Nat -> Shared -> Prop}
end
section
variable {prog : Program} {w : World} {A : Around} {E : Value -> Shared -> Prop} {s : Shared}
end
section
variable {X : Cx} {e : Expr} {te : TE} {p1 p2 pos pos2 : Pos}
end
theorem qM {X : Cx} : cr X (.builtin "len") (fun xs H Q => ∃ a kvs,xs = [.ref a] /\ Rd H a (.dK kvs) /\ Q (.int kvs.length) H) := by
 intro pins s σ H xs us Q I r h
 obtain ⟨a,kvs,rfl,e,q⟩ := h
 obtain ⟨u,rfl,r1⟩ := vals1 r
 cases r1
 exact yd I e fun t s' I' => ⟨.int kvs.length,H,I',⟨t,rfl⟩,q⟩
end L2
namespace Sw
open PySem L2
inductive Led (ps : List (Str × Str)) (x : Str) : Str -> Prop where
 | self : Led ps x x
 | step {y z : Str} : Led ps x y -> (y,z) ∈ ps -> Led ps x z
theorem Led.closed {ps : List (Str × Str)} {x y : Str} {S : Str -> Prop} (hx : S x) (hc : ∀ a b,S a -> (a,b) ∈ ps -> S b) (l : Led ps x y) : S y := by
 induction l with
 | self => exact hx
 | step _ m ih => exact hc _ _ ih m
def bw (ks : List Str) (v : V) : List (Key × V) := ks.map fun y => (.inr y,v)
def bT (ks : List Str) (y : Str) : List Str := if y ∈ ks then ks else ks ++ [y]
theorem eJ (ks : List Str) (v : V) : (bw ks v).length = ks.length := B2 _
theorem sS (ks : List Str) (v : V) (y : Str) : ((bw ks v).any fun kv => decide (kv.1 = (.inr y : Key))) = decide (y ∈ ks) := by
 unfold bw
 rw [D2]
 simp
theorem fV (ks : List Str) (v : V) (y : Str) : aK (bw ks v) (.inr y) = if y ∈ ks then some v else none := by
 induction ks with
 | nil => rfl
 | cons k ks ih =>
  by_cases e : k = y
  ·subst e
   rw [if_pos (by simp)]
   exact a8 rfl
  ·have n : ¬ ((.inr k : Key) = .inr y) := fun z => e (Sum.inr.inj z)
   have h : aK (bw (k :: ks) v) (.inr y) = aK (bw ks v) (.inr y) := a9 n
   rw [h,ih]
   simp [Ne.symm e,show ¬ y = k from fun z => e z.symm]
theorem iR (ks : List Str) (v : V) (y : Str) : putK (bw ks v) (.inr y) v = bw (bT ks y) v := by
 unfold putK bT
 rw [sS]
 by_cases h : y ∈ ks
 ·rw [if_pos (decide_eq_true h),if_pos h]
  unfold bw
  rw [CG]
  refine List.map_congr_left fun z hz => ?_
  show (if (.inr z : Key) = .inr y then ((.inr z : Key),v) else (.inr z,v)) = _
  split <;> rfl
 ·rw [if_neg (by simpa using h),if_neg h]
  unfold bw
  simp
theorem fW {ks : List Str} {y z : Str} : z ∈ bT ks y ↔ z ∈ ks ∨ z = y := by
 unfold bT
 split
 ·rename_i h
  constructor
  ·exact .inl
  ·rintro (k | rfl)
   ·exact k
   ·exact h
 ·simp
theorem nZ {ks : List Str} {y : Str} (h : ks.Nodup) : (bT ks y).Nodup := by
 unfold bT
 split
 ·exact h
 ·rename_i n
  rw [Ck]
  refine ⟨h,by simp,?_⟩
  intro a ha b hb
  simp at hb
  subst hb
  exact fun e => n (e ▸ ha)
theorem iS (ks : List Str) (y : Str) : ks.length <= (bT ks y).length /\ ((bT ks y).length = ks.length -> y ∈ ks) /\ (bT ks y).length <= ks.length + 1 := by
 unfold bT
 split
 ·rename_i h
  exact ⟨B3 _,fun _ => h,Nat.le_succ _⟩
 ·simp
def iT (l ks : List Str) : Nat := (l.filter fun y => !decide (y ∈ ks)).length
theorem uU (l : List Str) {ks ks' : List Str} (h : ∀ y ∈ ks,y ∈ ks') : iT l ks' <= iT l ks := by
 unfold iT
 induction l with
 | nil => exact B3 _
 | cons a l ih =>
  by_cases h1 : a ∈ ks
  ·simp [h1,h a h1,ih]
  ·by_cases h2 : a ∈ ks'
   ·simp [h1,h2]; omega
   ·simp [h1,h2]; omega
theorem mD (l ks : List Str) : iT l ks <= l.length := CO _ _
theorem uV {l ks ks' : List Str} {y : Str} (h : ∀ z ∈ ks,z ∈ ks') (yl : y ∈ l) (n : y ∉ ks) (y' : y ∈ ks') : iT l ks' < iT l ks := by
 unfold iT
 induction l with
 | nil => simp at yl
 | cons a l ih =>
  have le := uU l h
  unfold iT at le
  by_cases e : a = y
  ·subst e
   simp [n,y']
   omega
  ·have yl' : y ∈ l := by
    rcases B9.mp yl with z | z
    ·exact absurd z.symm e
    ·exact z
   have ih := ih yl'
   by_cases h1 : a ∈ ks
   ·simp [h1,h a h1]; exact ih
   ·by_cases h2 : a ∈ ks'
    ·simp [h1,h2]; omega
    ·simp [h1,h2]; exact ih
theorem qO {l ks : List Str} {y : Str} (yl : y ∈ l) : (bT ks y).length + iT l (bT ks y) <= ks.length + iT l ks := by
 by_cases h : y ∈ ks
 ·unfold bT
  rw [if_pos h]
  exact B3 _
 ·have lt := uV (ks' := bT ks y) (fun z hz => fW.mpr (.inl hz)) yl h (fW.mpr (.inr rfl))
  have := (iS ks y).2.2
  omega
def c7 : Str := "abcdefghijklmnopqrstuvwxyz"
theorem pM {i : Int} (h0 : 0 <= i) (h : i < 26) : ∃ c,gN c7.cps.toList i = some c := by
 refine uS h0 ?_
 have e : c7.cps.toList.length = 26 := by decide
 rw [e]
 exact h
def cX : List (Str × List Str) -> Str -> Str -> List (Str × List Str)
 | [],x,y => [(x,[y])]
 | (a,ys) :: r,x,y => if a = x then (a,bT ys y) :: r else (a,ys) :: cX r x y
def pN (rows : List (Str × List Str)) (x y : Str) : Prop := ∃ ys,(x,ys) ∈ rows /\ y ∈ ys
theorem n8 {a : Str} {ys : List Str} {r : List (Str × List Str)} {x y : Str} : pN ((a,ys) :: r) x y ↔ (a = x /\ y ∈ ys) ∨ pN r x y := by
 constructor
 ·rintro ⟨zs,h,k⟩
  rcases B9.mp h with e | e
  ·cases e; exact .inl ⟨rfl,k⟩
  ·exact .inr ⟨zs,e,k⟩
 ·rintro (⟨rfl,k⟩ | ⟨zs,h,k⟩)
  ·exact ⟨ys,by simp,k⟩
  ·exact ⟨zs,by simp [h],k⟩
structure bO (rows : List (Str × List Str)) (ps : List (Str × Str)) : Prop where
 mem : ∀ a b,pN rows a b ↔ (a,b) ∈ ps
 keys : (rows.map (·.1)).Nodup
 few : rows.length <= ps.length
 small : ∀ p ∈ rows,p.2.length <= ps.length /\ p.2.Nodup
theorem bO.nil : bO [] [] := ⟨fun a b => ⟨fun ⟨_,h,_⟩ => by simp at h,fun h => by simp at h⟩,by simp,by simp,fun p hp => by simp at hp⟩
def bR (H : Hp) : List (Str × List Str) -> List Addr -> Prop
 | [],[] => True
 | (_,ys) :: rows,r :: rs => H r = some (.dK (bw ys (.bl true))) /\ bR H rows rs
 | _,_ => False
def dY : List (Str × List Str) -> List Addr -> List (Key × V)
 | (x,_) :: rows,r :: rs => (.inr x,.ref r) :: dY rows rs
 | _,_ => []
theorem bR.same {H H' : Hp} (g : aB H H') : ∀ {rows : List (Str × List Str)} {rs : List Addr},bR H rows rs -> bR H' rows rs
 | [],[],_ => trivial
 | _ :: _,_ :: _,h => ⟨g _ _ h.1,bR.same g h.2⟩
 | [],_ :: _,h => h.elim
 | _ :: _,[],h => h.elim
theorem bR.other {H : Hp} {a : Addr} {o : HO} : ∀ {rows : List (Str × List Str)} {rs : List Addr},bR H rows rs -> a ∉ rs -> bR (aq H a o) rows rs
 | [],[],_,_ => trivial
 | _ :: _,r :: _,h,n => ⟨by rw [aj (fun e => n (by simp [e]))]; exact h.1,bR.other h.2 fun k => n (by simp [k])⟩
 | [],_ :: _,h,_ => h.elim
 | _ :: _,[],h,_ => h.elim
theorem bR.at_some {H : Hp} {x y : Str} {w : V} : ∀ {rows : List (Str × List Str)} {rs : List Addr},bR H rows rs -> rs.Nodup -> aK (dY rows rs) (.inr x) = some w ->
  ∃ r ys,w = .ref r /\ r ∈ rs /\ (x,ys) ∈ rows /\ H r = some (.dK (bw ys (.bl true))) /\ bR (aq H r (.dK (bw (bT ys y) (.bl true)))) (cX rows x y) rs /\ dY (cX rows x y) rs = dY rows rs
 | [],[],_,_,e => by cases e
 | (c,ys) :: rows,r :: rs,h,nd,e => by
  by_cases z : c = x
  ·subst z
   have e' : aK (dY ((c,ys) :: rows) (r :: rs)) (.inr c) = some (.ref r) := a8 rfl
   rw [e'] at e
   cases e
   refine ⟨r,ys,rfl,by simp,by simp,h.1,?_,?_⟩
   ·unfold cX
    rw [if_pos rfl]
    exact ⟨ac,h.2.other (Bx.mp nd).1⟩
   ·unfold cX
    rw [if_pos rfl]
    rfl
  ·have n : ¬ ((.inr c : Key) = .inr x) := fun q => z (Sum.inr.inj q)
   have e' : aK (dY ((c,ys) :: rows) (r :: rs)) (.inr x) = aK (dY rows rs) (.inr x) := a9 n
   rw [e'] at e
   obtain ⟨r',ys',rfl,hr,hm,hH,hD,hT⟩ := bR.at_some (y := y) h.2 (Bx.mp nd).2 e
   refine ⟨r',ys',rfl,by simp [hr],by simp [hm],hH,?_,?_⟩
   ·unfold cX
    rw [if_neg z]
    refine ⟨?_,hD⟩
    rw [aj]
    ·exact h.1
    ·intro q
     exact (Bx.mp nd).1 (q ▸ hr)
   ·unfold cX
    rw [if_neg z]
    show _ :: _ = _ :: _
    rw [hT]
 | [],_ :: _,h,_,_ => h.elim
 | _ :: _,[],h,_,_ => h.elim
theorem bR.at_none {H : Hp} {x y : Str} {p : Addr} : ∀ {rows : List (Str × List Str)} {rs : List Addr},bR H rows rs -> aK (dY rows rs) (.inr x) = none ->
  cX rows x y = rows ++ [(x,[y])] /\ dY (rows ++ [(x,[y])]) (rs ++ [p]) = dY rows rs ++ [(.inr x,.ref p)] /\ ∀ b,¬ pN rows x b
 | [],[],_,_ => ⟨rfl,rfl,fun b ⟨_,h,_⟩ => by simp at h⟩
 | (c,ys) :: rows,r :: rs,h,e => by
  have z : ¬ c = x := fun z => by
   subst z
   have e' : aK (dY ((c,ys) :: rows) (r :: rs)) (.inr c) = some (.ref r) := a8 rfl
   rw [e'] at e
   cases e
  have n : ¬ ((.inr c : Key) = .inr x) := fun q => z (Sum.inr.inj q)
  have e' : aK (dY ((c,ys) :: rows) (r :: rs)) (.inr x) = aK (dY rows rs) (.inr x) := a9 n
  rw [e'] at e
  obtain ⟨h1,h2,h3⟩ := bR.at_none (y := y) (p := p) h.2 e
  refine ⟨?_,?_,fun b hb => ?_⟩
  ·unfold cX
   rw [if_neg z,h1]
   rfl
  ·exact congrArg (((.inr c : Key),V.ref r) :: ·) h2
  ·rcases n8.mp hb with ⟨q,_⟩ | k
   ·exact z q
   ·exact h3 b k
 | [],_ :: _,h,_ => h.elim
 | _ :: _,[],h,_ => h.elim
structure DD (H : Hp) (d : Addr) (rows : List (Str × List Str)) : Prop where
 ex : ∃ rs : List Addr,bR H rows rs /\ H d = some (.dK (dY rows rs)) /\ rs.Nodup /\ d ∉ rs
theorem DD.same {H H' : Hp} {d : Addr} {rows : List (Str × List Str)} (h : DD H d rows) (g : aB H H') : DD H' d rows := by
 obtain ⟨rs,h1,h2,h3,h4⟩ := h.ex
 exact ⟨rs,h1.same g,g _ _ h2,h3,h4⟩
def og : Option Str -> V
 | none => .non
 | some p => .str p
def aP (es : List (Str × Option Str)) : List (Key × V) := es.map fun e => (.inr e.1,og e.2)
def aI (es : List (Str × Option Str)) : List Str := es.map (·.1)
theorem dZ (es : List (Str × Option Str)) : (aP es).length = (aI es).length := by simp [aP,aI]
theorem gr : ∀ (es : List (Str × Option Str)) (b : Str),(aK (aP es) (.inr b)).isSome = decide (b ∈ aI es)
 | [],b => by simp [aP,aI,aK]
 | (c,o) :: es,b => by
  by_cases e : c = b
  ·subst e
   have : aK (aP ((c,o) :: es)) (.inr c) = some (og o) := a8 rfl
   rw [this]
   simp [aI]
  ·have n : ¬ ((.inr c : Key) = .inr b) := fun z => e (Sum.inr.inj z)
   have h : aK (aP ((c,o) :: es)) (.inr b) = aK (aP es) (.inr b) := a9 n
   rw [h,gr es b]
   have e' : ¬ b = c := fun z => e z.symm
   show decide (b ∈ aI es) = decide (b ∈ c :: aI es)
   rw [decide_eq_decide]
   simp [e']
theorem oh {es : List (Str × Option Str)} {b : Str} (h : b ∉ aI es) : aK (aP es) (.inr b) = none := by
 have := gr es b
 rw [decide_eq_false h] at this
 cases e : aK (aP es) (.inr b) with
 | none => rfl
 | some => rw [e] at this; cases this
theorem qP {es : List (Str × Option Str)} {b nm : Str} (h : b ∉ aI es) : putK (aP es) (.inr b) (.str nm) = aP (es ++ [(b,some nm)]) := by
 rw [eD _ (oh h)]
 simp [aP,og]
theorem sT {es : List (Str × Option Str)} (nd : (aI es).Nodup) {i : Nat} {y : Str} {o : Option Str} (h : es[i]? = some (y,o)) : aK (aP es) (.inr y) = some (og o) := by
 induction es generalizing i with
 | nil => simp at h
 | cons e es ih =>
  obtain ⟨c,oc⟩ := e
  cases i with
  | zero =>
   simp at h
   obtain ⟨rfl,rfl⟩ := h
   exact a8 rfl
  | succ i =>
   have hm : y ∈ aI es := BH.mpr ⟨(y,o),BI (by simpa using h),rfl⟩
   have nd' := Bx.mp nd
   have n : ¬ ((.inr c : Key) = .inr y) := fun z => nd'.1 (by rw [Sum.inr.inj z]; exact hm)
   have hv : aK (aP ((c,oc) :: es)) (.inr y) = aK (aP es) (.inr y) := a9 n
   rw [hv]
   exact ih nd'.2 (by simpa using h)
structure cJ (ps : List (Str × Str)) (good : Str) (es : List (Str × Option Str)) : Prop where
 first : es[0]? = some (good,none)
 nd : (aI es).Nodup
 led : ∀ y ∈ aI es,Led ps good y
 par : ∀ (i : Nat) (y : Str) (o : Option Str),es[i]? = some (y,o) -> (o = none -> i = 0) /\ ∀ p,o = some p -> (p,y) ∈ ps /\ ∃ j o',j < i /\ es[j]? = some (p,o')
 room : (aI es).length + iT (ps.map (·.2)) (aI es) <= 1001
theorem cJ.start (ps : List (Str × Str)) (good : Str) (few : ps.length <= 1000) : cJ ps good [(good,none)] where
 first := rfl
 nd := by simp [aI]
 led := fun y hy => by simp [aI] at hy; subst hy; exact .self
 par := fun i y o h => by
  cases i with
  | zero => simp at h; exact ⟨fun _ => rfl,fun p hp => by rw [<- h.2] at hp; cases hp⟩
  | succ i => simp at h
 room := by
  have := mD (ps.map (·.2)) (aI [(good,none)])
  rw [B2] at this
  show 1 + _ <= _
  omega
theorem d4 (es : List (Str × Option Str)) (b : Str) (o : Option Str) : aI (es ++ [(b,o)]) = aI es ++ [b] := by simp [aI]
theorem cJ.add {ps : List (Str × Str)} {good : Str} {es : List (Str × Option Str)} (h : cJ ps good es) {nm b : Str} (hn : nm ∈ aI es) (hb : b ∉ aI es) (hp : (nm,b) ∈ ps) : cJ ps good (es ++ [(b,some nm)]) where
 first := by
  rw [BB]
  ·exact h.first
  ·exact (B4.mp h.first).1
 nd := by
  rw [d4,Ck]
  refine ⟨h.nd,by simp,?_⟩
  intro u hu v hv
  simp at hv
  subst hv
  exact fun z => hb (z ▸ hu)
 led := fun y hy => by
  rw [d4] at hy
  rcases BN.mp hy with k | k
  ·exact h.led y k
  ·simp at k
   subst k
   exact .step (h.led nm hn) hp
 par := fun i y o hi => by
  by_cases c : i < es.length
  ·rw [BB c] at hi
   obtain ⟨h1,h2⟩ := h.par i y o hi
   refine ⟨h1,fun p e => ?_⟩
   obtain ⟨k1,j,o',jl,ej⟩ := h2 p e
   exact ⟨k1,j,o',jl,by rw [BB (by omega)]; exact ej⟩
  ·rw [BX (by omega)] at hi
   have e0 : i - es.length = 0 := by
    rcases CW (i - es.length) with z | z
    ·exact z
    ·rw [CP (by simp; omega)] at hi; cases hi
   rw [e0] at hi
   simp at hi
   obtain ⟨rfl,rfl⟩ := hi
   refine ⟨(fun z => nomatch z),fun p e => ?_⟩
   cases e
   obtain ⟨q,hq,rfl⟩ := BH.mp hn
   obtain ⟨j,hj⟩ := C5.mp hq
   have jl := (B4.mp hj).1
   exact ⟨hp,j,q.2,by omega,by rw [BB jl]; exact hj⟩
 room := by
  have := qO (ks := aI es) (show b ∈ ps.map (·.2) from BH.mpr ⟨_,hp,rfl⟩)
  have e : bT (aI es) b = aI es ++ [b] := if_neg hb
  rw [e] at this
  rw [d4]
  exact BZ this h.room
theorem cJ.good {ps : List (Str × Str)} {good : Str} {es : List (Str × Option Str)} (h : cJ ps good es) : good ∈ aI es := BH.mpr ⟨(good,none),BI h.first,rfl⟩
theorem sU {H H' : Hp} (g : aB H H') (a : Addr) (o : HO) : aB (aq H a o) (aq H' a o) := fun b u e => by
 by_cases z : b = a
 ·subst z
  rw [ac] at e ⊢
  exact e
 ·rw [aj z] at e ⊢
  exact g b u e
theorem uW {ys : List Str} {v x : V} {i : Nat} {k : Key} (h : (bw ys v)[i]? = some (k,x)) : ∃ b,ys[i]? = some b /\ k = .inr b := by
 unfold bw at h
 rw [BM] at h
 cases e : ys[i]? with
 | none => rw [e] at h; cases h
 | some b => rw [e] at h; cases h; exact ⟨b,rfl,rfl⟩
structure uX (ps : List (Str × Str)) (good : Str) (es : List (Str × Option Str)) : Prop where
 base : cJ ps good es
 all : ∀ y,y ∈ aI es ↔ Led ps good y
def ie : Sp := fun vs H Q _ => ∃ (d : Addr) (good : Str) (rows : List (Str × List Str)) (ps : List (Str × Str)),vs = [.ref d,.str good] /\ DD H d rows /\ bO rows ps /\ ps.length <= 1000 /\
 ∀ (ah : Addr) (H' : Hp) (es : List (Str × Option Str)),aB H H' -> H' ah = some (.dK (aP es)) -> uX ps good es -> Q (.ref ah) H'
theorem xh {H : Hp} {rows : List (Str × List Str)} {rs : List Addr} {ps : List (Str × Str)} {x : Str} (dr : bR H rows rs) (nd : rs.Nodup) (ok : bO rows ps) :
  (aK (dY rows rs) (.inr x) = none /\ ∀ b,(x,b) ∉ ps) ∨ ∃ r ys,aK (dY rows rs) (.inr x) = some (.ref r) /\ r ∈ rs /\ H r = some (.dK (bw ys (.bl true))) /\ ys.length <= ps.length /\ ys.Nodup /\ ∀ b,b ∈ ys ↔ (x,b) ∈ ps := by
 cases e : aK (dY rows rs) (.inr x) with
 | none =>
  refine .inl ⟨rfl,fun b hb => ?_⟩
  exact (dr.at_none (y := x) (p := 0) e).2.2 b ((ok.mem x b).mpr hb)
 | some w =>
  obtain ⟨r,ys,rfl,hr,hm,hH,_,_⟩ := dr.at_some (y := x) nd e
  refine .inr ⟨r,ys,rfl,hr,hH,(ok.small _ hm).1,(ok.small _ hm).2,fun b => ?_⟩
  rw [<- ok.mem]
  constructor
  ·exact fun h => ⟨ys,hm,h⟩
  ·rintro ⟨zs,hz,hb⟩
   have : zs = ys := by
    have inj : ∀ {l : List (Str × List Str)},(l.map (·.1)).Nodup -> ∀ {a b c},(a,b) ∈ l -> (a,c) ∈ l -> b = c := by
     intro l
     induction l with
     | nil => intro _ a b c h; simp at h
     | cons p l ih =>
      intro nd a b c h1 h2
      have nd' := Bx.mp nd
      rcases B9.mp h1 with e1 | e1
      ·rcases B9.mp h2 with e2 | e2
       ·rw [<- e1] at e2; cases e2; rfl
       ·exact absurd (BH.mpr ⟨(a,c),e2,by rw [<- e1]⟩) nd'.1
      ·rcases B9.mp h2 with e2 | e2
       ·exact absurd (BH.mpr ⟨(a,b),e1,by rw [<- e2]⟩) nd'.1
       ·exact ih nd'.2 e1 e2
    exact inj ok.keys hz hm
   rw [<- this]
   exact hb
structure Way (ps : List (Str × Str)) (good goal : Str) (c : List Str) : Prop where
 first : c[0]? = some good
 last : c.getLast? = some goal
 nd : c.Nodup
 pair : ∀ (i : Nat) (a b : Str),c[i]? = some a -> c[i + 1]? = some b -> (a,b) ∈ ps
 alone : goal = good -> c = [good]
 few : c.length <= 1001
structure Back (ps : List (Str × Str)) (good goal : Str) (es : List (Str × Option Str)) (rc : List Str) (o : Option Str) : Prop where
 nd : rc.Nodup
 pair : ∀ (i : Nat) (a b : Str),rc[i]? = some a -> rc[i + 1]? = some b -> (b,a) ∈ ps
 first : rc.head? = some goal ∨ (rc = [] /\ o = some goal)
 nxt : ∀ y,o = some y -> ∃ (i : Nat) (oy : Option Str),es[i]? = some (y,oy) /\ (∀ x ∈ rc,∃ (j : Nat) (ox : Option Str),i < j /\ es[j]? = some (x,ox)) /\ (∀ a,rc.getLast? = some a -> (y,a) ∈ ps) /\ rc.length + i < es.length
 fin : o = none -> rc.getLast? = some good
 alone : goal = good -> rc = [] ∨ (rc = [good] /\ o = none)
 few : rc.length <= es.length
theorem fX {es : List (Str × Option Str)} {i : Nat} {y : Str} {o : Option Str} (h : es[i]? = some (y,o)) : (aI es)[i]? = some y := by
 unfold aI
 rw [BM,h]
 rfl
theorem yA {xs : List Str} (nd : xs.Nodup) {i j : Nat} {y : Str} (h1 : xs[i]? = some y) (h2 : xs[j]? = some y) : i = j := by
 obtain ⟨l1,e1⟩ := B4.mp h1
 obtain ⟨l2,e2⟩ := B4.mp h2
 exact (List.getElem_inj nd).mp (e1.trans e2.symm)
theorem cJ.at {ps : List (Str × Str)} {good : Str} {es : List (Str × Option Str)} (h : cJ ps good es) {i j : Nat} {y : Str} {o o' : Option Str} (h1 : es[i]? = some (y,o)) (h2 : es[j]? = some (y,o')) : i = j :=
 yA h.nd (fX h1) (fX h2)
theorem Back.start {ps : List (Str × Str)} {good goal : Str} {es : List (Str × Option Str)} (hg : goal ∈ aI es) : Back ps good goal es [] (some goal) where
 nd := List.nodup_nil
 pair := fun i a b h => by simp at h
 first := .inr ⟨rfl,rfl⟩
 nxt := fun y e => by
  cases e
  obtain ⟨p,hp,rfl⟩ := BH.mp hg
  obtain ⟨i,hi⟩ := C5.mp hp
  refine ⟨i,p.2,hi,by simp,by simp,?_⟩
  have := (B4.mp hi).1
  simpa using this
 fin := fun e => nomatch e
 alone := fun _ => .inl rfl
 few := by simp
theorem Back.step {ps : List (Str × Str)} {good goal : Str} {es : List (Str × Option Str)} (ab : cJ ps good es) {rc : List Str} {y : Str} {oy : Option Str} {i : Nat} (h : Back ps good goal es rc (some y)) (hi : es[i]? = some (y,oy)) : Back ps good goal es (rc ++ [y]) oy := by
 obtain ⟨i',oy',h1,h2,h3,h4⟩ := h.nxt y rfl
 obtain rfl := ab.at hi h1
 have par := ab.par i y oy hi
 have ny : y ∉ rc := fun m => by
  obtain ⟨j,ox,lt,e⟩ := h2 y m
  have := ab.at hi e
  omega
 refine ⟨?_,?_,?_,?_,?_,?_,?_⟩
 ·rw [Ck]
  refine ⟨h.nd,by simp,?_⟩
  intro u hu v hv
  simp at hv
  subst hv
  exact fun z => ny (z ▸ hu)
 ·intro k a b ha hb
  by_cases c : k + 1 < rc.length
  ·rw [BB (by omega)] at ha
   rw [BB c] at hb
   exact h.pair k a b ha hb
  ·have kl : k + 1 < (rc ++ [y]).length := (B4.mp hb).1
   simp at kl
   have ke : k + 1 = rc.length := by omega
   rw [BX (by omega),ke] at hb
   simp at hb
   subst hb
   rw [BB (by omega)] at ha
   refine h3 a ?_
   rw [List.getLast?_eq_getElem?,<- ha]
   congr 1
   omega
 ·rcases h.first with k | ⟨rfl,k⟩
  ·left
   cases rc with
   | nil => simp at k
   | cons z zs => simpa using k
  ·cases k
   left
   rfl
 ·intro p e
  obtain ⟨hp,j,o',jl,ej⟩ := par.2 p e
  refine ⟨j,o',ej,?_,?_,?_⟩
  ·intro x hx
   rcases BN.mp hx with k | k
   ·obtain ⟨j2,ox,lt,e2⟩ := h2 x k
    exact ⟨j2,ox,by omega,e2⟩
   ·simp at k
    subst k
    exact ⟨i,oy,jl,hi⟩
  ·intro a ha
   simp at ha
   subst ha
   exact hp
  ·simp
   omega
 ·intro e
  have i0 := par.1 e
  subst i0
  rw [ab.first] at hi
  cases hi
  simp
 ·intro e
  subst e
  rcases h.alone rfl with rfl | ⟨_,k⟩
  ·rcases h.first with k | ⟨_,k⟩
   ·simp at k
   ·cases k
    right
    have := ab.at hi ab.first
    subst this
    rw [ab.first] at hi
    cases hi
    exact ⟨rfl,rfl⟩
  ·cases k
 ·simp
  omega
theorem Back.way {ps : List (Str × Str)} {good goal : Str} {es : List (Str × Option Str)} (ab : cJ ps good es) {rc : List Str} (h : Back ps good goal es rc none) : Way ps good goal rc.reverse where
 first := by
  have := h.fin rfl
  rw [<- List.head?_eq_getElem?,List.head?_reverse]
  exact this
 last := by
  rw [List.getLast?_reverse]
  rcases h.first with k | ⟨_,k⟩
  ·exact k
  ·cases k
 nd := by
  unfold List.Nodup
  rw [List.pairwise_reverse]
  exact h.nd.imp fun n => Ne.symm n
 pair := fun i a b ha hb => by
  have l : i + 1 < rc.reverse.length := (B4.mp hb).1
  rw [List.length_reverse] at l
  rw [List.getElem?_reverse (by omega)] at ha hb
  refine h.pair (rc.length - 1 - (i + 1)) b a hb ?_
  rw [<- ha]
  congr 1
  omega
 alone := fun e => by
  rcases h.alone e with k | ⟨k,_⟩
  ·subst k
   have := h.fin rfl
   simp at this
  ·rw [k]
   rfl
 few := by
  rw [List.length_reverse]
  have := h.few
  have r := ab.room
  have l : (aI es).length = es.length := by simp [aI]
  omega
def mE (es : List (Str × Option Str)) : Option (Option V) -> Nat
 | some (some (.str y)) => (aI es).idxOf y + 1
 | _ => 0
theorem mF {ps : List (Str × Str)} {good : Str} {es : List (Str × Option Str)} (ab : cJ ps good es) {i : Nat} {y : Str} {o : Option Str} (h : es[i]? = some (y,o)) : mE es (some (some (.str y))) = i + 1 := by
 show (aI es).idxOf y + 1 = i + 1
 have hk := fX h
 obtain ⟨l,e⟩ := B4.mp hk
 rw [<- e,ab.nd.idxOf_getElem]
theorem sV {ps : List (Str × Str)} {good : Str} {es : List (Str × Option Str)} (ab : cJ ps good es) {i : Nat} {y : Str} {o : Option Str} (h : es[i]? = some (y,o)) : mE es (some (some (og o))) < mE es (some (some (.str y))) := by
 rw [mF ab h]
 cases o with
 | none => exact Nat.succ_pos _
 | some p =>
  obtain ⟨_,j,o',jl,ej⟩ := (ab.par i y _ h).2 p rfl
  show mE es (some (some (.str p))) < _
  rw [mF ab ej]
  omega
def xj : Sp := fun vs H Q _ => ∃ (ah : Addr) (goal good : Str) (ps : List (Str × Str)) (es : List (Str × Option Str)),vs = [.ref ah,.str goal] /\ H ah = some (.dK (aP es)) /\ cJ ps good es /\ goal ∈ aI es /\
 ∀ (l : Addr) (H' : Hp) (c : List Str),aB H H' -> H' l = some (.lst (c.map V.str)) -> Way ps good goal c -> Q (.ref l) H'
end Sw
namespace L2
open PySem PySem.Spec PyProof.Rows XH
section
variable {X : Cx} {scope : Scope} {cl : List (Str × Addr)} {own : Str} {ys : List Str} {js : List Nat} {elt iter cond : Expr} {px pos : Pos} {wi : TI} {te : TE} {tc : TT}
theorem jL {i : Nat} {y : Str} {py spos : Pos} (hN : X.N.Nodup) (hi' : X.N[i]? = some y) (hy : X.env.scope.names.lookup y = some .local) (hc : X.calm = true) (ok : iK X scope cl own ys js) (hi : PI X (.Name own px) iter wi)
  (hq : ∀ (C : Addr) (fp : List Addr) (s : Shared) (H : Hp),PT (X.block scope cl C (own :: ys) own fp s H) cond tc)
  (he : ∀ (C : Addr) (fp : List Addr) (s : Shared) (H : Hp),PE (X.block scope cl C (own :: ys) own fp s H) elt te)
  (hsw : swapsWith (.ListComp elt [⟨.Name own px,iter,[cond],0⟩] scope pos) (some (.Name y py)) spos.line X.env = pure true := by rfl) (hs : ∀ x,foldedSetIterable iter X.env x = pure x := by intro _; rfl) :
  PS X (.Assign [.Name y py] (.ListComp elt [⟨.Name own px,iter,[cond],0⟩] scope pos) spos) (xR (pL wi js tc te) (bG i)) := by
 intro pins s σ H D I h
 have ncell : ∀ y ∈ scope.names,y.2 ≠ .cell := fun y hy z => by
  have q := CQ.mp ok.nocell y hy
  rw [z] at q
  simp at q
 have nloc : ∀ y ∈ scope.names,y.2 = .local -> scope.names.lookup y.1 = some .local := fun y hy z => by
  have q := CQ.mp ok.loc y hy
  rw [z] at q
  simpa using q
 show wpAny _ _ (exec _ X.env) _ _ _
 rw [exec_Assign_Name_used _ _ _ _ hsw]
 refine wpAny_bind (wpAny_standAt (wpAny_bind ?_))
 show wpAny _ X.A (do let _ <- comprehension (.ListComp elt [⟨.Name own px,iter,[cond],0⟩] scope pos) scope X.env _ (newList []) false (eval iter X.env) (some (assign (.Name y py) X.env))) _ _ s
 refine wpAny_bind (wpAny_mono (wpAny_comprehension_free (use := some (assign (.Name y py) X.env)) (Q := fun _ s' => SP X pins D .next s') rfl hs ok.clos ok.kind nloc (aX (hi pins s σ H _ I h) fun v s1 h1 => aX h1 fun itv s2 h2 => ?_)) (fun _ s' hq => wpAny_pure (wpAny_pure hq)) fun _ _ e => e)
 obtain ⟨it,fp,tn,J,H2,rfl,I2,T,st2,f2,q2⟩ := h2
 obtain ⟨W,⟨m0,w0⟩,turn⟩ := q2 s2.heap.objs.size (I2.hok.fresh (B3 _))
 refine wpAny_newObj_type (wpAny_newFunctionEnv ncell (by intro y hy; simp at hy) (fun h1 hns hsb => ?_) ok.kind)
 have I3 := I2.laid (a := s2.heap.objs.size) (o := .lst []) (h' := s2.heap.push { cls := .type "list",dict := none,data := .seq ([] : List Value).toArray }) (t' := s2.toks) (fun b u q => Heap.get?_push_of_some _ q) (B3 _)
  ⟨BY _,[],0,.nil,Heap.get?_push_size _ rfl⟩
 have fpo : ∀ b ∈ fp,b < s2.heap.objs.size := fun b hb => by
  obtain ⟨o,e,_⟩ := T.obj 0 _ st2 b hb
  exact Heap.lt_size e
 have f3 : ∀ b ∈ fp,ef X pins (aq H2 s2.heap.objs.size (.lst [])) b := fun b hb => ⟨by rw [aj (BA (fpo b hb))]; exact (f2 b hb).1,(f2 b hb).2⟩
 generalize hs3 : ({ s2 with heap := s2.heap.push { cls := .type "list",dict := none,data := .seq ([] : List Value).toArray },toks := s2.toks } : Shared) = s3 at I3
 have e3 : s3.heap = s2.heap.push { cls := .type "list",dict := none,data := .seq ([] : List Value).toArray } := by rw [<- hs3]
 have lt3 : ∀ b ∈ fp,b < s3.heap.objs.size := fun b hb => by rw [e3,Heap.size_push]; exact CN (fpo b hb)
 dsimp only at hns hsb ⊢
 rw [<- e3] at hns hsb
 have hk : ∀ b o,s3.heap.get? b = some o -> h1.get? b = some o := fun b o e => hsb.extBut b o (BA (Heap.lt_size e)) (Heap.get?_push_of_some _ e)
 have J0 := eI (h1 := h1) ok I3 f3 lt3 hns hk (s2.toks + 0)
 have t0 : tn 0 h1 := T.keep 0 _ _ st2 fun b hb o e => hk b o (by rw [e3]; exact Heap.get?_push_of_some _ e)
 have fpB : ∀ {H' : Hp},(∀ b ∈ fp,H' b = none) -> ∀ b ∈ fp,ef (X.block scope cl s3.heap.objs.size (own :: ys) own fp s3 (aq H2 s2.heap.objs.size (.lst []))) [] H' b := fun {H'} hn b hb =>
  ⟨hn b hb,BA (lt3 b hb),fun z => (B9.mp (I3.stkSub b z)).elim (f3 b hb).2.1 (f3 b hb).2.2.1,.inl hb,fun x c e => (f3 b hb).2.2.2.2.1 x c (ok.sub (x,c) (C4 e)),fun p hp => absurd (show p ∈ ([] : List (Addr × Obj)) from hp) (by simp)⟩
 have loop : codeAny (model X.prog X.w) X.A (.compLoop (.ListComp elt [⟨.Name own px,iter,[cond],0⟩] scope pos) 0 (.ref it) (.ref s2.heap.objs.size) (compEnvC scope cl s3.heap.objs.size X.env))
   (compPost (model X.prog X.w) X.A X.xe (some (assign (.Name y py) X.env)) (fun _ s' => SP X pins D .next s') (.ref s2.heap.objs.size) s3.heap.objs.size) { s3 with heap := h1,toks := s2.toks + 0 } := by
  refine gR (fun n s' => ∃ i zs o0 H',ar (X.block scope cl s3.heap.objs.size (own :: ys) own fp s3 (aq H2 s2.heap.objs.size (.lst []))) [] (o0 :: bu js σ) H' s' /\ tn i s'.heap /\ (∀ b ∈ fp,H' b = none) /\ W i n zs H') ?_ m0
   ⟨0,[],none,_,J0,t0,fun b hb => (f3 b hb).1,w0⟩
  rintro n s5 ⟨i,zs,o0,H5,I5,t5,n5,w5⟩
  obtain ⟨hD,hw⟩ := turn i n zs H5 w5
  rcases hw with ⟨stop,qn⟩ | ⟨go,hz,step⟩
  ·refine aX (T.done (X.block scope cl s3.heap.objs.size (own :: ys) own fp s3 (aq H2 s2.heap.objs.size (.lst []))) rfl rfl rfl hc i [] s5 _ H5 (fun _ _ => False) I5 (fpB n5) t5 stop) fun r s6 ⟨hr,I6⟩ => ?_
   subst hr
   obtain ⟨m,hn,_⟩ := id I6.loc
   have J : ar X pins σ H5 s6 := gk (h' := s6.heap) I3 f3 I6 (Heap.SameBut.refl _ _)
   have fC := I3.fpOk (B3 _) (show H5 s3.heap.objs.size = none from I6.free)
   obtain ⟨k0,k1,k2,k3,k4,k5⟩ := fC
   show wpAny _ X.A (assign (.Name y py) X.env (.ref s2.heap.objs.size)) _ _ _
   refine wpAny_assign_Name (jw (v := .ref s2.heap.objs.size) J hN hi' (.inl hy) rfl (fun s7 I7 hsb => ?_) (.inr hy))
   obtain ⟨a',sb,ha⟩ := hsb
   have ne : s3.heap.objs.size ≠ a' := by
    rcases ha with z | z
    ·rw [z]; exact k1
    ·exact fun w => k4 _ _ z w.symm
   exact ⟨m,hn.sameBut sb ne,fun h' hs' => ⟨_,H5,I7.turned (t' := s7.toks) (fun b o hb e => (hs'.2 b hb).trans e) k0 k1 k3 k4 k5,qn⟩⟩
  ·refine aX (T.item (X.block scope cl s3.heap.objs.size (own :: ys) own fp s3 (aq H2 s2.heap.objs.size (.lst []))) rfl rfl rfl hc i [] s5 _ H5 (fun _ _ => False) I5 (fpB n5) t5 go) fun r s6 ⟨u,hr,h6⟩ => ?_
   subst hr
   refine aX h6 fun _ s7 ⟨x,H7,I7,r7,y7,t7,n7⟩ => ?_
   have I7' := I7.pinned (fpB n7) (T.obj _ _ t7)
   have hst := step x H7 y7
   have own' : (relabel scope X.env).names.lookup own = some .local := lookup_relabel_local ok.ownL
   refine aX (bJ (X := X.block scope cl s3.heap.objs.size (own :: ys) own fp s3 (aq H2 s2.heap.objs.size (.lst []))) (i := 0) (x := own) (pos := px) ok.nd rfl (.inl own') (.inr own') _ s7 _ H7 x u (fun σ' H' => σ' = some x :: bu js σ /\ H' = H7) I7' r7 ⟨rfl,rfl⟩) fun _ s8 ⟨σ8,H8,I8,e8,eH8⟩ => ?_
   subst e8 eH8
   refine aX (hq _ _ _ _ _ s8 _ H8 _ I8 hst) fun ok s9 ⟨H9,I9,h9⟩ => ?_
   have frame : ∀ {s' : Shared} {H' : Hp},ar (X.block scope cl s3.heap.objs.size (own :: ys) own fp s3 (aq H2 s2.heap.objs.size (.lst []))) ([] ++ fi fp s7.heap) (some x :: bu js σ) H' s' -> tn (i + 1) s'.heap /\ ∀ b ∈ fp,H' b = none := fun {s' H'} I' =>
    ⟨T.keep _ _ _ t7 fun b hb o e => (I'.pin (b,o) (BC _ (BC _ (bH hb e)))).1,fun b hb => by
     obtain ⟨o,e,d⟩ := T.obj _ _ t7 b hb
     exact (I'.pin (b,o) (BC _ (BC _ (bH hb e)))).2.1⟩
   cases ok with
   | true =>
    refine aX (he _ _ _ _ _ s9 _ H9 _ I9 h9) fun yv s10 ⟨y,H10,I10,r10,hD10,m',hm,w10⟩ => ?_
    refine aX (bP _ s10 _ H10 (.ref s2.heap.objs.size) [y] (.ref s2.heap.objs.size) [yv] (fun _ H' => H' = aq H10 s2.heap.objs.size (.lst (zs ++ [y]))) I10 rfl (.cons r10 .nil) ⟨_,zs,y,rfl,rfl,hD10,hz,rfl⟩) fun _ s11 ⟨_,H11,I11,_,e11⟩ => ?_
    subst e11
    exact ⟨m',hm,i + 1,zs ++ [y],some x,_,I11.unpinned,(frame I11).1,(frame I11).2,w10⟩
   | false =>
    obtain ⟨m',hm,w10⟩ := h9
    exact ⟨m',hm,i + 1,zs,some x,_,I9.unpinned,(frame I9).1,(frame I9).2,w10⟩
 subst hs3
 exact codeAny_compStart_list loop (T.self _ 0 _ _ _ t0 loop)
end
theorem xm {X : Cx} {K : B1} (h : X.K = K) : eU X (compareOp .In) (As K false) := by
 subst h
 exact qr
theorem sW {X : Cx} (hu : X.A.units < cLine) : eU X (compareOp .Eq) (fun x y H Q => ∃ a b zs,x = .ref a /\ y = .ref b /\ bv X.K H a zs /\ bv X.K H b [] /\ Q (.bl zs.isEmpty) H) := by
 intro pins s σ H x y v u Q I rx ry h
 obtain ⟨a,b,zs,rfl,rfl,h1,h2,hq⟩ := h
 cases rx
 cases ry
 obtain ⟨i1,r1,p1,_⟩ := I.list h1
 obtain ⟨i2,r2,p2,_⟩ := I.list h2
 cases r2
 cases zs with
 | nil =>
  cases r1
  refine SeqAt.eq_listAt (e := fun _ => true) p1.isList p2.isList rfl hu (fun j g1 g2 => absurd g1 (by simp)) ?_
  exact ⟨.bl true,H,I,by show Value.bool _ = Value.bool _; simp,hq⟩
 | cons z zs =>
  cases r1 with
  | cons r rr =>
   refine SeqAt.eq_list_lengthsAt p1.isList p2.isList (by simp) hu ?_
   exact ⟨.bl false,H,I,rfl,hq⟩
theorem mG {a : Addr} {o : Obj} {kvs : List (Key × V)} {js : List Nat} {tc : TT} {σ : L2.St} {H1 : Hp} {Q : VK} (pr : Key -> Bool) (hf : H1 a = some (.frz o (.dK kvs))) (hz : kvs.length <= sizeLine)
  (step : ∀ (i : Nat) (k : Key) (x : V),kvs[i]? = some (k,x) -> ∀ H3,aB H1 H3 -> ∀ R : Bool -> Hp -> Prop,R (pr k) H3 -> tc (some (kV k) :: bu js σ) H3 R)
  (fin : ∀ p H',aB H1 H' -> H' p = some (.lst ((kvs.filter fun e => pr e.1).map fun e => kV e.1)) -> Q (.ref p) H') : kL js tc (uh 0) σ Q (xK a o kvs) H1 := by
 intro p hp
 refine ⟨fun i m ys H2 => i <= kvs.length /\ m = kvs.length - i /\ ys = ((kvs.take i).filter fun e => pr e.1).map (fun e => kV e.1) /\ aB H1 H2 /\ H2 p = some (.lst ys),⟨kvs.length,BY _,rfl,rfl,Sw.ae hp _,ac⟩,?_⟩
 rintro i m ys H2 ⟨hi,rfl,rfl,g,e⟩
 refine ⟨e,?_⟩
 have f2 := g _ _ hf
 by_cases hin : i < kvs.length
 ·refine .inr ⟨⟨f2,hin⟩,?_,fun x H3 hy => ?_⟩
  ·have := CO (fun e : Key × V => pr e.1) (kvs.take i)
   rw [B2]
   rw [CI] at this
   omega
  obtain ⟨rfl,k,v,hk,rfl⟩ := hy
  have tk : ((kvs.take (i + 1)).filter fun e => pr e.1) = ((kvs.take i).filter fun e => pr e.1) ++ (if pr k = true then [(k,v)] else []) := by
   rw [List.take_succ,hk,List.filter_append]
   congr 1
   simp [CJ]
  refine step i k v hk H3 g _ ?_
  cases hpr : pr k with
  | true =>
   rw [hpr,if_pos rfl] at tk
   rw [if_pos rfl]
   exact ⟨_,rfl,e,kvs.length - (i + 1),by omega,hin,rfl,by rw [tk,Bv]; rfl,Sw.fT g hp _,ac⟩
  | false =>
   rw [hpr,if_neg (by decide),D1] at tk
   rw [if_neg (by decide)]
   exact ⟨kvs.length - (i + 1),by omega,hin,rfl,by rw [tk],g,e⟩
 ·have e2 : i = kvs.length := by omega
  subst e2
  refine .inl ⟨⟨f2,rfl⟩,fin p H2 g ?_⟩
  rw [e,List.take_of_length_le (B3 _)]
theorem mH {K : B1} {a : Addr} {xs : List V} {js : List Nat} {tc : TT} {σ : L2.St} {H1 : Hp} {Q : VK} (pr : V -> Bool) (hS : bv K H1 a xs) (hz : xs.length <= sizeLine)
  (step : ∀ x ∈ xs,∀ H3,aB H1 H3 -> ∀ R : Bool -> Hp -> Prop,R (pr x) H3 -> tc (some x :: bu js σ) H3 R)
  (fin : ∀ p H',aB H1 H' -> H' p = some (.lst (xs.filter pr)) -> Q (.ref p) H') : kL js tc (uh 0) σ Q (ui K a) H1 := by
 intro p hp
 refine ⟨fun i m ys H2 => i <= xs.length /\ m = xs.length - i /\ ys = (xs.take i).filter pr /\ aB H1 H2 /\ H2 p = some (.lst ys),⟨xs.length,BY _,rfl,rfl,Sw.ae hp _,ac⟩,?_⟩
 rintro i m ys H2 ⟨hi,rfl,rfl,g,e⟩
 refine ⟨e,?_⟩
 have S2 := g.seq hS
 by_cases hin : i < xs.length
 ·refine .inr ⟨⟨xs,xs[i],S2,BG hin⟩,?_,fun x H3 hy => ?_⟩
  ·have := CO pr (xs.take i)
   rw [CI] at this
   omega
  obtain ⟨rfl,hx⟩ := hy
  have ex := hx xs S2
  have tk : (xs.take (i + 1)).filter pr = (xs.take i).filter pr ++ (if pr x = true then [x] else []) := by
   rw [List.take_succ,ex,List.filter_append]
   congr 1
   simp [CJ]
  refine step x (BI ex) H3 g _ ?_
  cases hpr : pr x with
  | true =>
   rw [hpr,if_pos rfl] at tk
   rw [if_pos rfl]
   exact ⟨_,rfl,e,xs.length - (i + 1),by omega,hin,rfl,by rw [tk],Sw.fT g hp _,ac⟩
  | false =>
   rw [hpr,if_neg (by decide),D1] at tk
   rw [if_neg (by decide)]
   exact ⟨xs.length - (i + 1),by omega,hin,rfl,by rw [tk],g,e⟩
 ·have e2 : i = xs.length := by omega
  subst e2
  refine .inl ⟨⟨xs,S2,B3 _⟩,fin p H2 g ?_⟩
  rw [e,List.take_of_length_le (B3 _)]
end L2
namespace Sw
open PySem L2 PyProof.Rows
theorem jM {α β : Type} {F : α -> β -> Prop} : ∀ {l : List α} {m : List β},Paired F l m -> ∀ {i : Nat} {b : β},m[i]? = some b -> ∃ a,l[i]? = some a /\ F a b
 | _,_,.nil,i,b,h => by simp at h
 | _,_,.cons r t,0,b,h => by simp at h; subst h; exact ⟨_,rfl,r⟩
 | _,_,.cons r t,i + 1,b,h => by
  obtain ⟨a,h1,h2⟩ := jM t (i := i) (by simpa using h)
  exact ⟨a,by simpa using h1,h2⟩
structure yB (H : Hp) (l : Addr) (gs : List Str) : Prop where
 seq : H l = some (.lst (gs.map V.str))
 few : gs.length <= 10
def AK (gs : List Str) : Key -> Bool
 | .inr y => decide (y ∈ gs)
 | _ => false
theorem mI (gs : List Str) : ∀ es : List (Str × Option Str),(((aP es).filter fun e => AK gs e.1).map fun e => kV e.1) = ((aI es).filter fun y => decide (y ∈ gs)).map V.str
 | [] => rfl
 | (c,o) :: es => by
  have ih := mI gs es
  show ((((.inr c,og o) :: aP es).filter fun e => AK gs e.1).map fun e => kV e.1) = (((c :: aI es).filter fun y => decide (y ∈ gs)).map V.str)
  by_cases h : c ∈ gs
  ·rw [List.filter_cons_of_pos (by show decide (c ∈ gs) = true; exact decide_eq_true h),List.filter_cons_of_pos (by exact decide_eq_true h),By,By,ih]
   rfl
  ·rw [List.filter_cons_of_neg (by show ¬ decide (c ∈ gs) = true; simp [h]),List.filter_cons_of_neg (by simp [h]),ih]
theorem uY (x : Str) (gs : List Str) : wA (.str x) (gs.map V.str) = decide (x ∈ gs) := by
 unfold wA
 rw [D2]
 simp [uu]
theorem qQ (gs : List Str) : (gs.map V.str).all fL = true := by
 rw [CQ]
 intro x hx
 obtain ⟨y,_,rfl⟩ := BH.mp hx
 rfl
def gu : Sp := fun vs H Q _ => ∃ (d lg : Addr) (good : Str) (rows : List (Str × List Str)) (ps : List (Str × Str)) (gs : List Str),vs = [.ref d,.str good,.ref lg] /\ DD H d rows /\ bO rows ps /\ ps.length <= 1000 /\ yB H lg gs /\
 (∀ (H' : Hp),aB H H' -> (∀ g ∈ gs,¬ Led ps good g) -> Q .non H') /\
 ∀ (l : Addr) (H' : Hp) (c : List Str) (goal : Str),aB H H' -> H' l = some (.lst (c.map V.str)) -> Way ps good goal c -> goal ∈ gs -> Led ps good goal -> (good ∈ gs -> goal = good) -> Q (.ref l) H'
end Sw
namespace L2
open PySem PySem.Spec PyProof.Rows XH Sw So
theorem kM : ∀ {acc : List Value} {ks : List Str},acc.length = ks.length -> (∀ (j : Nat) (v : Value),acc[j]? = some v -> ∃ y t,ks[j]? = some y /\ v = .str y t) -> StrsAre acc ks
 | [],[],_,_ => .nil
 | v :: acc,k :: ks,hl,h => by
  obtain ⟨y,t,e,rfl⟩ := h 0 v rfl
  simp at e
  subst e
  exact .cons _ _ (kM (by simpa using hl) fun j u hu => h (j + 1) u (by simpa using hu))
 | [],_ :: _,hl,_ => by simp at hl
 | _ :: _,[],hl,_ => by simp at hl
theorem cY : ∀ {us : List Value} {ks : List Str},StrsAre us ks -> aN (ks.map V.str) us
 | _,_,.nil => .nil
 | _,_,.cons y t h => .cons ⟨t,rfl⟩ (cY h)
theorem mJ {prog : Program} {w : World} {A : Around} {E : Value -> Shared -> Prop} {s : Shared} {T : String} {r d : Addr} {n : Nat} {P : Nat -> Value -> Prop} {OK : Heap -> Prop} {R : List Value -> Shared -> Prop} (K : PySem.W.KdlSrc prog w T r d n P OK) (hh : A.handled = none) (hok : OK s.heap) (hn : n <= sizeLine)
  (h : ∀ (h' : Heap) (tk : Nat) (acc : Array Value),s.heap.objs.size < h'.objs.size -> (∀ b o,s.heap.get? b = some o -> h'.get? b = some o) -> PySem.ItemsOf P acc n -> R acc.toList { s with heap := h',toks := tk }) :
  wpAny (model prog w) A (collect (.ref r)) R E s := by
 have hlt := K.there _ hok
 unfold collect
 refine wpAny_bind (wpAny_runValue (codeAny_builtin entry_proto_collect' ?_))
 rw [Around.under_plainId PySem.F.plain_proto_collect _]
 show wpAny _ A.in1 (newList [] >>= fun l => again (.builtin "list.__iadd__" ⟨[l,.ref r],[]⟩)) _ _ s
 refine wpAny_bind (wpAny_newObj_type (wpAny_pure ⟨plainId_quiet CS _,codeAny_builtin entry_list_iadd' ?_⟩))
 rw [Around.under_plainId CS _]
 have fresh : (s.heap.push { cls := .type "list",data := .seq ([] : List Value).toArray }).get? s.heap.objs.size = some { cls := .type "list",data := .seq #[] } := Heap.get?_push_size _ rfl
 show wpAny _ A.in1 (Builtin.List.listExtendWith (.ref s.heap.objs.size) (.ref r) (.ref s.heap.objs.size)) _ _ _
 have key := PySem.W.kdl_extend (A := A) (s := { s with heap := s.heap.push { cls := .type "list",data := .seq ([] : List Value).toArray } })
  (R := fun (q : Result) (s' : Shared) => ∃ (h' : Heap) (tk : Nat) (acc : Array Value) (c : Nat),q = .ok (.ret (.ref s.heap.objs.size)) /\ s' = { s with heap := h',toks := tk } /\ (∀ b o,s.heap.get? b = some o -> h'.get? b = some o) /\ h'.get? s.heap.objs.size = some { cls := .type "list",dict := none,data := .seq acc c,slots := #[] } /\ PySem.ItemsOf P acc n)
  K hh (K.keep _ _ hok fun b _ o e => Heap.get?_push_of_some _ e) s.heap.objs.size (Ci hlt.1) (Ci hlt.2) (.ref s.heap.objs.size) 0 fresh
  (fun h' tk acc c hk hS ha => ⟨h',tk,acc,c,rfl,rfl,fun b o e => hk b o (BA (Heap.lt_size e)) (Heap.get?_push_of_some _ e),hS,ha⟩) hn
 have fin : ∀ {h' : Heap} {tk c : Nat} {acc : Array Value},(∀ b o,s.heap.get? b = some o -> h'.get? b = some o) -> h'.get? s.heap.objs.size = some { cls := .type "list",dict := none,data := .seq acc c,slots := #[] } -> PySem.ItemsOf P acc n -> R acc.toList { s with heap := h',toks := tk } :=
  fun {h' tk c acc} hk hS ha => h h' tk acc (Heap.lt_size hS) hk ha
 refine wpAny_mono key (fun f s' x => ?_) fun e s' x => ?_
 ·cases f with
  | done f =>
   obtain ⟨h',tk,acc,c,e,rfl,hk,hS,ha⟩ := x
   cases e
   show wpAny _ A (load s.heap.objs.size >>= _) _ _ _
   exact wpAny_bind (wpAny_load hS (wpAny_pure (fin hk hS ha)))
  | again c₁ =>
   refine ⟨x.1,codeAny_mono x.2 fun q s₂ y => ?_⟩
   obtain ⟨h',tk,acc,c,rfl,rfl,hk,hS,ha⟩ := y
   show wpAny _ A (load s.heap.objs.size >>= _) _ _ _
   exact wpAny_bind (wpAny_load hS (wpAny_pure (fin hk hS ha)))
 ·obtain ⟨_,_,_,_,e',_⟩ := x
  cases e'
end L2
namespace So
open PySem PySem.Spec PyProof.Rows
def sX (x y : Str) : Prop := ¬ (y.cps.toList < x.cps.toList)
theorem qR {x y z : Str} (h1 : sX x y) (h2 : sX y z) : sX x z := fun h => by
 unfold sX at h1 h2
 exact h1 (List.lt_of_le_of_lt (List.not_lt.mp h2) h)
theorem mK {x y : Str} (h1 : sX x y) (h2 : sX y x) : x = y := by
 have e := List.le_antisymm (List.not_lt.mp h1) (List.not_lt.mp h2)
 cases x; cases y
 congr 1
 exact Array.toList_inj.mp e
theorem jN : ∀ (r : List Str) (x : Str),risingS x r = true -> (x :: r).Pairwise sX
 | [],x,_ => by simp
 | y :: r,x,h => by
  unfold risingS at h
  have h' : ltCps y.cps.toList x.cps.toList = false /\ risingS y r = true := by
   simpa [Cc] using h
  have ih := jN r y h'.2
  have xy : sX x y := by
   have := h'.1
   rw [ltCps_eq] at this
   exact of_decide_eq_false this
  refine List.pairwise_cons.mpr ⟨fun z hz => ?_,ih⟩
  rcases B9.mp hz with e | e
  ·rw [e]; exact xy
  ·exact qR xy ((List.pairwise_cons.mp ih).1 z e)
theorem eY {l : List Str} (h : sortedS l = true) : l.Pairwise sX := by
 cases l with
 | nil => simp
 | cons x r => exact jN r x h
theorem gS {l m : List Str} (h1 : sortedS l = true) (h2 : sortedS m = true) (p : l.Perm m) : l = m :=
 List.Perm.eq_of_pairwise (fun a b _ _ ha hb => mK ha hb) (eY h1) (eY h2) p
end So
namespace Sw
open PySem L2 PyProof.Rows So
theorem qT (ks : List Str) (v : V) : (bw ks v).map (·.1) = ks.map (fun y => (.inr y : Key)) := by
 unfold bw
 rw [CG]
 rfl
theorem mL (es : List (Str × Option Str)) : (aP es).map (·.1) = (aI es).map (fun y => (.inr y : Key)) := by
 unfold aP aI
 rw [CG,CG]
 rfl
theorem cK : ∀ {l m : List Str},l.Nodup -> (∀ y ∈ l,y ∈ m) -> l.length <= m.length
 | [],m,_,_ => by simp
 | x :: l,m,nd,h => by
  obtain ⟨n1,n2⟩ := Bx.mp nd
  have hx := h x (by simp)
  have ih := cK (l := l) (m := m.erase x) n2 fun y hy => (List.mem_erase_of_ne (fun e : y = x => n1 (e ▸ hy))).mpr (h y (BV _ hy))
  rw [List.length_erase_of_mem hx] at ih
  have := List.length_pos_of_mem hx
  simp
  omega
theorem uZ {ps : List (Str × Str)} {good : Str} {ys : List Str} (nd : ys.Nodup) (h : ∀ y,y ∈ ys ↔ Led ps good y) : ys.length <= ps.length + 1 := by
 have := cK (l := ys) (m := good :: ps.map (·.2)) nd fun y hy => by
  cases (h y).mp hy with
  | self => simp
  | step _ m => exact BV _ (BH.mpr ⟨_,m,rfl⟩)
 simpa using this
open XH
def KF (F : List Addr) (H H' : Hp) : Prop := ∀ a o,a ∉ F -> H a = some o -> H' a = some o
theorem KF.refl {F : List Addr} {H : Hp} : KF F H H := fun _ _ _ e => e
theorem KF.trans {F : List Addr} {H H' H'' : Hp} (h : KF F H H') (k : KF F H' H'') : KF F H H'' := fun a o n e => k a o n (h a o n e)
theorem KF.of {F : List Addr} {H H' : Hp} (h : aB H H') : KF F H H' := fun a o _ e => h a o e
theorem KF.put {F : List Addr} {H : Hp} {a : Addr} (o : HO) (h : a ∈ F) : KF F H (aq H a o) := fun b ob n e => by
 have q : b ≠ a := fun z => n (by rw [z]; exact h)
 rw [aj q]; exact e
def FG (F F' : List Addr) (H : Hp) : Prop := ∀ a ∈ F',a ∈ F ∨ H a = none
theorem FG.refl {F : List Addr} {H : Hp} : FG F F H := fun _ h => .inl h
structure LA (C : Addr) (F : List Addr) (H : Hp) (x : Addr) (rows : List (Str × List Str)) (ns : List Str) : Prop where
 ex : ∃ (dx p n : Addr) (fs : List (Str × V)) (rs : List Addr),H x = some (.ins C dx fs) /\ fs.lookup ("parts" : Str) = some (.ref p) /\ fs.lookup ("names" : Str) = some (.ref n) /\ bR H rows rs /\ H p = some (.dK (dY rows rs)) /\ H n = some (.dK (bw ns (.bl true))) /\
  F = p :: n :: rs /\ F.Nodup /\ ∀ m : Str,m ∈ [("part" : Str),"learn","known","held"] -> fs.lookup m = none
theorem LA.same {C : Addr} {F : List Addr} {H H' : Hp} {x : Addr} {rows : List (Str × List Str)} {ns : List Str} (h : LA C F H x rows ns) (g : aB H H') : LA C F H' x rows ns := by
 obtain ⟨dx,p,n,fs,rs,a,b,c,d,e,f,i,j,k⟩ := h.ex
 exact ⟨dx,p,n,fs,rs,g _ _ a,b,c,d.same g,g _ _ e,g _ _ f,i,j,k⟩
theorem bR.dict {H : Hp} {a : Addr} : ∀ {rows : List (Str × List Str)} {rs : List Addr},bR H rows rs -> a ∈ rs -> ∃ kv,H a = some (.dK kv)
 | [],[],_,h => by simp at h
 | _ :: _,r :: _,h,m => by
  rcases B9.mp m with e | e
  ·subst e; exact ⟨_,h.1⟩
  ·exact bR.dict h.2 e
 | [],_ :: _,h,_ => h.elim
 | _ :: _,[],h,_ => h.elim
theorem LA.dict {C : Addr} {F : List Addr} {H : Hp} {x : Addr} {rows : List (Str × List Str)} {ns : List Str} (h : LA C F H x rows ns) {a : Addr} (m : a ∈ F) : ∃ kv,H a = some (.dK kv) := by
 obtain ⟨dx,p,n,fs,rs,_,_,_,d,e,f,i,_,_⟩ := h.ex
 subst i
 rcases B9.mp m with e' | m
 ·subst e'; exact ⟨_,e⟩
 rcases B9.mp m with e' | m
 ·subst e'; exact ⟨_,f⟩
 exact d.dict m
theorem LA.not {C : Addr} {F : List Addr} {H : Hp} {x : Addr} {rows : List (Str × List Str)} {ns : List Str} (h : LA C F H x rows ns) {a : Addr} {o : HO} (e : H a = some o) (k : ∀ kv,o ≠ .dK kv) : a ∉ F := fun m => by
 obtain ⟨kv,e'⟩ := h.dict m
 rw [e] at e'
 exact k kv (C1 e')
theorem LA.dd {C : Addr} {F : List Addr} {H : Hp} {x : Addr} {rows : List (Str × List Str)} {ns : List Str} (h : LA C F H x rows ns) : ∃ (dx p n : Addr) (fs : List (Str × V)),H x = some (.ins C dx fs) /\ fs.lookup ("parts" : Str) = some (.ref p) /\ fs.lookup ("names" : Str) = some (.ref n) /\ DD H p rows /\ H n = some (.dK (bw ns (.bl true))) /\ p ∈ F /\ n ∈ F /\ ∀ m : Str,m ∈ [("part" : Str),"learn","known","held"] -> fs.lookup m = none := by
 obtain ⟨dx,p,n,fs,rs,a,b,c,d,e,f,i,j,k⟩ := h.ex
 subst i
 have j1 := Bx.mp j
 have j2 := Bx.mp j1.2
 exact ⟨dx,p,n,fs,a,b,c,⟨rs,d,e,j2.2,fun z => j1.1 (BV _ z)⟩,f,by simp,by simp,k⟩
theorem LA.learn {C : Addr} {F : List Addr} {H : Hp} {x n dx : Addr} {fs : List (Str × V)} {rows : List (Str × List Str)} {ns ms : List Str} (h : LA C F H x rows ns) (ex : H x = some (.ins C dx fs)) (en : fs.lookup ("names" : Str) = some (.ref n)) : LA C F (aq H n (.dK (bw ms (.bl true)))) x rows ms /\ KF F H (aq H n (.dK (bw ms (.bl true)))) /\ n ∈ F := by
 obtain ⟨dx',p,n',fs',rs,a,b,c,d,e,f,i,j,k⟩ := h.ex
 rw [a] at ex; cases ex
 rw [c] at en; cases en
 subst i
 have j1 := Bx.mp j
 have j2 := Bx.mp j1.2
 have pn : p ≠ n := fun z => j1.1 (by simp [z])
 have xn : x ≠ n := fun z => by rw [z,f] at a; cases a
 exact ⟨⟨dx,p,n,fs,rs,by rw [aj xn]; exact a,b,c,d.other j2.1,by rw [aj pn]; exact e,ac,rfl,j,k⟩,KF.put _ (by simp),by simp⟩
def fY (p st b n : V) : List (Str × V) := aD "names" n (aD "bars" b (aD "stands" st (aD "parts" p [])))
theorem kO {p st b n : V} : (fY p st b n).lookup ("parts" : Str) = some p /\ (fY p st b n).lookup ("names" : Str) = some n /\ ∀ m : Str,m ∈ [("part" : Str),"learn","known","held"] -> (fY p st b n).lookup m = none := by
 refine ⟨?_,?_,fun m hm => ?_⟩
 ·unfold fY
  rw [aJ,if_neg (by decide),aJ,if_neg (by decide),aJ,if_neg (by decide),aJ,if_pos rfl]
 ·unfold fY
  rw [aJ,if_pos rfl]
 ·simp only [B9,Bw,or_false] at hm
  unfold fY
  rcases hm with rfl | rfl | rfl | rfl <;> (rw [aJ,if_neg (by decide),aJ,if_neg (by decide),aJ,if_neg (by decide),aJ,if_neg (by decide)]; rfl)
def jo (x : Addr) (H H' : Hp) : Prop := ∀ a o,a ≠ x -> H a = some o -> H' a = some o
theorem jo.trans {x : Addr} {H H' H'' : Hp} (h : jo x H H') (k : jo x H' H'') : jo x H H'' := fun a o n e => k a o n (h a o n e)
theorem jo.step {x d : Addr} {H : Hp} {o : HO} (o0 : HO) (nd : H d = none) : jo x H (aq (aq H d o0) x o) := fun a ob n e => by
 rw [aj n,aj (fun z => by rw [z,nd] at e; cases e)]
 exact e
def ig (C : Addr) : Sp := fun vs H Q _ => ∃ (x l : Addr) (F : List Addr) (rows : List (Str × List Str)) (ns xs : List Str),vs = [.ref x,.ref l] /\ LA C F H x rows ns /\ H l = some (.lst (xs.map V.str)) /\ ns.length + xs.length <= 80 /\ ns.Nodup /\
 ∀ (H' : Hp) (ms : List Str),KF F H H' -> LA C F H' x rows ms -> ms.Nodup -> (∀ y,y ∈ ms ↔ y ∈ ns ∨ y ∈ xs) -> Q .non H'
def eK (ns xs : List Str) : List Str := xs.foldl bT ns
theorem jO {z : Str} : ∀ {xs ns : List Str},z ∈ eK ns xs ↔ z ∈ ns ∨ z ∈ xs
 | [],_ => by simp [eK]
 | x :: xs,ns => by
  show z ∈ eK (bT ns x) xs ↔ _
  rw [jO,fW,B9]
  exact or_assoc
theorem gT : ∀ {xs ns : List Str},ns.Nodup -> (eK ns xs).Nodup
 | [],_,h => h
 | _ :: xs,_,h => gT (xs := xs) (nZ h)
theorem oj (ns xs : List Str) (y : Str) : eK ns (xs ++ [y]) = bT (eK ns xs) y := by
 unfold eK
 rw [List.foldl_append]
 rfl
theorem jP : ∀ (xs ns : List Str),(eK ns xs).length <= ns.length + xs.length
 | [],_ => B3 _
 | x :: xs,ns => by
  have h := jP xs (bT ns x)
  have := (iS ns x).2.2
  show (eK (bT ns x) xs).length <= _
  simp only [Bz]
  omega
end Sw
namespace L2
open PySem PySem.Spec PyProof.Rows
end L2
namespace Sw
open PySem L2 XH
theorem sY {p q n : Int} (f : Fr p q n 1) : p = n /\ q = 1 := by
 have h2 := f.bb
 have h3 := f.pos
 have h4 := f.same
 simp only [Int.natAbs_one] at h2
 have e : q = 1 := by omega
 subst e
 rw [Int.mul_one,Int.mul_one] at h4
 exact ⟨h4,rfl⟩
theorem u0 {p q c d : Int} (h : p * d = c * q) (d0 : 0 < d) (q0 : 0 < q) (z : 0 < c) : 0 < p := by
 have k := Int.mul_pos z q0
 rw [<- h] at k
 exact Int.pos_of_mul_pos_left k d0
end Sw
namespace L2
open PySem PySem.Spec PyProof.Rows
end L2
namespace Sw
open PySem L2 XH
end Sw
namespace So
open PySem PyProof.Rows
section
variable {prog : Program} {w : World} {A : Around} {E : Value -> Shared -> Prop} {s : Shared} {κ : KeyKind} {kd : SortKind}
end
end So
namespace L2
open PySem PySem.Spec PyProof.Rows XH Sw So
section
variable {prog : Program} {w : World} {A : Around} {E : Value -> Shared -> Prop} {s : Shared}
end
theorem mM {prog : Program} {w : World} {A : Around} {E : Value -> Shared -> Prop} {s : Shared} {r : Addr} {its : List Value} {n : Nat} {R : List Value -> Shared -> Prop} (hr : s.heap.get? r = some (seqObj "list" its.toArray n)) (hn : its.length <= sizeLine)
  (h : ∀ h' : Heap,s.heap.objs.size < h'.objs.size -> (∀ b o,s.heap.get? b = some o -> h'.get? b = some o) -> R its { s with heap := h' }) : wpAny (model prog w) A (collect (.ref r)) R E s := by
 unfold collect
 refine wpAny_bind (wpAny_runValue (codeAny_builtin entry_proto_collect' ?_))
 rw [Around.under_plainId PySem.F.plain_proto_collect _]
 show wpAny _ A.in1 (newList [] >>= fun l => again (.builtin "list.__iadd__" ⟨[l,.ref r],[]⟩)) _ _ s
 refine wpAny_bind (wpAny_newObj_type (wpAny_pure ⟨plainId_quiet CS _,codeAny_builtin entry_list_iadd' ?_⟩))
 rw [Around.under_plainId CS _]
 have fresh : (s.heap.push { cls := .type "list",data := .seq ([] : List Value).toArray }).get? s.heap.objs.size = some { cls := .type "list",data := .seq #[] } := Heap.get?_push_size _ rfl
 show wpAny _ A.in1 (Builtin.List.listExtendWith (.ref s.heap.objs.size) (.ref r) (.ref s.heap.objs.size)) _ _ _
 have key := wpAny_extend_seq (A := A) (s := { s with heap := s.heap.push { cls := .type "list",data := .seq ([] : List Value).toArray } }) (prog := prog) (w := w)
  (R := fun (q : Result) (s' : Shared) => q = .ok (.ret (.ref s.heap.objs.size)) /\ s' = { s with heap := (s.heap.push { cls := .type "list",data := .seq ([] : List Value).toArray }).update s.heap.objs.size (Obj.mapSeq (· ++ its.toArray)) })
  s.heap.objs.size r (.ref s.heap.objs.size) 0 (.inl rfl) fresh (Heap.get?_push_of_some _ hr) rfl rfl ⟨rfl,rfl⟩ (by simpa using hn)
 have at_ := Heap.get?_update_self (Obj.mapSeq (· ++ its.toArray)) fresh rfl
 have fin : R its { s with heap := (s.heap.push { cls := .type "list",data := .seq ([] : List Value).toArray }).update s.heap.objs.size (Obj.mapSeq (· ++ its.toArray)) } := by
  refine h _ (by rw [Heap.size_update,Heap.size_push]; exact Nat.lt_succ_self _) fun b o e => ?_
  exact (Heap.get?_update_other _ _ (Ci (Heap.lt_size e))).trans (Heap.get?_push_of_some _ e)
 have ei : ((#[] : Array Value) ++ its.toArray).toList = its := by simp
 have fin' : R ((#[] : Array Value) ++ its.toArray).toList { s with heap := (s.heap.push { cls := .type "list",data := .seq ([] : List Value).toArray }).update s.heap.objs.size (Obj.mapSeq (· ++ its.toArray)) } := by rw [ei]; exact fin
 refine wpAny_mono key (fun f s' x => ?_) fun e s' x => ?_
 ·cases f with
  | done f =>
   obtain ⟨e,rfl⟩ := x
   cases e
   show wpAny _ A (load s.heap.objs.size >>= _) _ _ _
   exact wpAny_bind (wpAny_load at_ (wpAny_pure fin'))
  | again c₁ =>
   refine ⟨x.1,codeAny_mono x.2 fun q s₂ y => ?_⟩
   obtain ⟨rfl,rfl⟩ := y
   show wpAny _ A (load s.heap.objs.size >>= _) _ _ _
   exact wpAny_bind (wpAny_load at_ (wpAny_pure fin'))
 ·exact absurd x.1 (by simp)
end L2
namespace Sw
open PySem L2 XH PyProof.Rows
end Sw
namespace L2
open PySem PySem.Spec PyProof.Rows XH Sw
end L2
namespace Sw
open PySem L2 XH PyProof.Rows
end Sw
namespace L2
open PySem PySem.Spec PyProof.Rows XH Sw
theorem om {cs : List Addr} {its : List Value} (h : aN (cs.map V.ref) its) : its = cs.map Value.ref := by
 induction cs generalizing its with
 | nil => cases h; rfl
 | cons c cs ih =>
  cases h with
  | cons r rr => cases r; rw [ih rr]; rfl
theorem iU {X : Cx} {K : B1} (hK : X.K = K) : cr X (.builtin "isinstance") (fun xs H Q => ∃ (a C : Addr) (dx : Option Addr) (t : Addr) (cs : List Addr) (b : Bool),xs = [.ref a,.ref t] /\ (∃ n,H a = some (cm n a (.ref C) dx)) /\ pD H dx /\ XI K C /\ H t = some (.tup (cs.map V.ref)) /\ CU K (.ref C) (cs.map Value.ref) = some b /\ Q (.bl b) H) := by
 subst hK
 intro pins s σ H xs us Q I r h
 obtain ⟨a,C,dx,t,cs,b,rfl,⟨n,e⟩,d,xi,et,ka,q⟩ := h
 obtain ⟨u,w',rfl,e1,e2⟩ := vals2 r
 cases e1
 cases e2
 obtain ⟨_,its,hv,ht⟩ := (show aR X.prog X.w H s.heap t (.tup (cs.map V.ref)) from I.hok t _ et)
 rw [om hv] at ht
 obtain ⟨⟨oc,od,odt,osl⟩,hg,h1,m,h2⟩ := ht
 cases h1
 cases h2
 exact PySem.W.kia_tup (iJ xi) I.kIn (ky I e d) hg ka (fun z => nomatch z) fun tk => ⟨.bl b,H,I.tok tk,rfl,q⟩
theorem u3 {X : Cx} {e : Expr} {ta : TE} {f : Str} {pos : Pos} {K : B1} (hK : X.K = K) (he : PE X e ta) (hb : attributeBase e f X.env (eval e X.env) = eval e X.env) : PE X (.Attribute e f pos) (x6 K ta f) := by
 subst hK
 exact cy he hb
section
variable {X : Cx} {es es' : List Expr} {t t' : TA} {p : Pos} 
theorem kP {i : Int} {j} (h : lL X es t) : lL X (.Constant (.int i) j p :: es) (aL (tC (.int i)) t) := ⟨aa am h.h⟩
theorem oo {b : Bool} {j} (h : lL X es t) : lL X (.Constant (.bool b) j p :: es) (aL (tC (.bl b)) t) := ⟨aa bY h.h⟩
theorem kQ {j} (h : lL X es t) : lL X (.Constant .none j p :: es) (aL (tC .non) t) := ⟨aa bZ h.h⟩
theorem kR (h' : lL X es' t') (h : lL X es t) : lL X (.List es' p :: es) (aL (iy t') t) := ⟨aa (bj h'.h) h.h⟩
theorem kS {x1} (h' : lL X es' t') (h : lL X es t) : lL X (.Tuple es' x1 p :: es) (aL (gh t') t) := ⟨aa (b6 h'.h) h.h⟩
end
section
variable {X : Cx} {k j : Nat} {f C : Addr} {ps : List Str} {sp : Sp} {dvs : List V} {x m : Str} {p pos apos : Pos} {e o : Expr} {es : List Expr} {ta tb : TE} {t : TA} {E : L2.St -> XK}
theorem d5 {pl : Sem Bool} {K : B1} (hK : X.K = K) (D : du X.prog X.w X.K X.mg X.base (cA X.prog X.w) k f ps dvs sp) (hr : bA j X.A) (hk : k <= j) (he : PE (X.wish (XS X E)) o ta) (ha : PA (X.wish (XS X E)) (e :: es) t)
  (hst : starEach (e :: es) X.env = (false,eval e X.env) :: starEach es X.env := by rfl) (hpl : (backTo pos (starEach es X.env)).any (·.1) = false := by rfl)
  (ht : eval (.Call (.Attribute o m apos) (e :: es) [] pos) X.env = (do
   let ov <- eval o X.env
   standAt apos.atName
   let (f,first) <- holding [ov] (getMethod ov m pl)
   callWith pos f first (backTo pos (starEach (e :: es) X.env)) (backToKw pos (keywordEach [] X.env))) := by rfl) :
  PE (X.wish (XS X E)) (.Call (.Attribute o m apos) (e :: es) [] pos) (kG K m f sp [] E ta t) := by
 subst hK
 exact sI (X := X.wish (XS X E)) D hr hk cH he ha hst hpl ht
end
section
variable {X : Cx} {pins : List (Addr × Obj)} {σ : St} {H : Hp} {s : Shared}
end
theorem jp (t : SetTable) (n : Nat) : (t.orStandIn n).led = t.led := by
 unfold SetTable.orStandIn
 by_cases h : t.fits n = true
 ·rw [if_pos h]
 ·rw [if_neg h]; rfl
theorem oq (t : SetTable) (es : Array (Int × Value)) (h : Int) (x : Value) : (layNew t es h x).2.1.led = t.led := by
 cases e : t.freeSlot h with
 | none => simp only [layNew,e]; rfl
 | some r =>
  obtain ⟨slot,d⟩ := r
  simp only [layNew,e]
  rw [jp]
  rfl
theorem gU {t t' : SetTable} {hs : Array Int} {n : Nat} {order : Array Nat} (e : t.relaid hs n = some (t',order)) : t'.led = t.led /\ t'.plain = t.plain := by
 unfold SetTable.relaid SetTable.laid at e
 obtain ⟨o,_,e2⟩ := CH.mp e
 simp only [pure,Option.some.injEq,Prod.mk.injEq] at e2
 rw [<- e2.1]
 exact ⟨rfl,rfl⟩
theorem kT (t : SetTable) (es : Array (Int × Value)) (n : Nat) : (relayAll t es n).2.1.led = t.led := by
 cases e : t.relaid (es.map (·.1)) n with
 | none => simp only [relayAll,e]; rfl
 | some r =>
  obtain ⟨t',order⟩ := r
  simp only [relayAll,e]
  by_cases c : (coversAll order es.size && t'.fits (order.filterMap (es[·]?)).size) = true
  ·rw [if_pos c]; exact (gU e).1
  ·rw [if_neg c]; rfl
theorem iV (t : SetTable) (es : Array (Int × Value)) (n : Nat) (h : t.plain = false) : (relayAll t es n).2.1.plain = false := by
 cases e : t.relaid (es.map (·.1)) n with
 | none => simp only [relayAll,e]; rfl
 | some r =>
  obtain ⟨t',order⟩ := r
  simp only [relayAll,e]
  by_cases c : (coversAll order es.size && t'.fits (order.filterMap (es[·]?)).size) = true
  ·rw [if_pos c]; exact (gU e).2.trans h
  ·rw [if_neg c]; rfl
def strOf : Value -> Str
 | .str y _ => y
 | _ => default
def xq (prog : Program) (w : World) (e : Int × Value) : Prop := ∃ y t,e = ((az prog w).hash (.inr y),.str y t)
def mZ (prog : Program) (w : World) (h : Heap) (a : Addr) (ys : List Str) : Prop :=
 ∃ o es ep t,h.get? a = some o /\ o.ExactSet /\ o.data = .set es ep t /\ (∀ e ∈ es.toList,xq prog w e) /\ (es.toList.map fun e => strOf e.2).Perm ys /\ es.size < scanBound /\ t.fits es.size = true /\
  (w.params.followText "set-order" = false -> t.led = true) /\ (es.size ≠ 0 -> t.plain = false)
theorem pO {prog : Program} {w : World} {y : Str} {t : Tok} : (az prog w).is (.inr y) (.str y t) = true := eE (k := .inr y) ⟨t,rfl⟩
theorem iW {prog : Program} {w : World} {l : List (Int × Value)} (h : ∀ e ∈ l,xq prog w e) : ElemsOf (az prog w) l := fun e he => by
 obtain ⟨y,t,rfl⟩ := h e he
 exact ⟨⟨.inr y,pO,rfl⟩,rfl⟩
def fA (ys : List Str) (y : Str) : List Str := if y ∈ ys then ys else ys ++ [y]
section
variable {prog : Program} {w : World} {A : Around} {E : Value -> Shared -> Prop} {s : Shared}
theorem sZ {h : Heap} {a : Addr} {ys : List Str} {es : Array (Int × Value)} (te : ∀ e ∈ es.toList,xq prog w e) (pm : (es.toList.map fun e => strOf e.2).Perm ys) (y : Str) :
  (∃ e ∈ es.toList,(az prog w).is (.inr y) e.2 = true) ↔ y ∈ ys := by
 rw [<- pm.mem_iff,BH]
 constructor
 ·rintro ⟨e,he,q⟩
  obtain ⟨z,t,rfl⟩ := te e he
  obtain ⟨t',e'⟩ := pJ q
  cases e'
  exact ⟨_,he,rfl⟩
 ·rintro ⟨e,he,q⟩
  obtain ⟨z,t,rfl⟩ := te e he
  cases q
  exact ⟨_,he,pO⟩
theorem pP {g : Bool -> Sem Unit} (hg : ∀ (b : Bool) (s₁ : Shared) (Q' : Unit -> Shared -> Prop),Q' () s₁ -> wpAny (model prog w) A (g b) Q' E s₁)
  {a : Addr} {o : Obj} {es : Array (Int × Value)} {ep : Nat} {t : SetTable} (ho : s.heap.get? a = some o) (hex : o.ExactSet) (hd : o.data = .set es ep t)
  {es1 : Array (Int × Value)} {t2 : SetTable} {ys : List Str} (te : ∀ e ∈ es1.toList,xq prog w e) (pm : (es1.toList.map fun e => strOf e.2).Perm ys)
  (hb1 : es1.size < scanBound) (hf2 : t2.fits es1.size = true) (ld : w.params.followText "set-order" = false -> t2.led = true) (pl : t2.plain = false) {wasDummy : Bool} {R : Option Bool -> Shared -> Prop}
  (h : ∀ h',Heap.SameBut a s.heap h' -> mZ prog w h' a ys -> R (some true) { s with heap := h' }) :
  wpAny (model prog w) A (do
    storeSet a es1 t2
    if (!wasDummy && t2.tooFull) = true then do
      g (relayAll t2 es1 (SetTable.grown es1.size)).2.2
      storeSet a (relayAll t2 es1 (SetTable.grown es1.size)).1 (relayAll t2 es1 (SetTable.grown es1.size)).2.1
      pure (some true)
     else pure (some true)) R E s := by
 refine wpAny_bind (wpAny_storeSet_of ho hd ?_ (fits_of_scanBound hb1))
 obtain ⟨ho1,_⟩ := SetOf_store (knd := az prog w) (S' := fun k => decide (∃ e ∈ es1.toList,(az prog w).is k e.2 = true)) ho hex hd (iW te) (fun k => by simp) hb1 hf2
 have hsb1 := Heap.SameBut.update s.heap a (Obj.putSet es1 t2)
 split
 ·have hp := relayAll_perm t2 es1 (SetTable.grown es1.size)
  have hfr := relayAll_fits t2 es1 (SetTable.grown es1.size)
  have hl := kT t2 es1 (SetTable.grown es1.size)
  have hpl := iV t2 es1 (SetTable.grown es1.size) pl
  generalize hRl : relayAll t2 es1 (SetTable.grown es1.size) = Rl at hp hfr hl hpl ⊢
  obtain ⟨es2,t3,gave2⟩ := Rl
  dsimp only at hp hfr hl hpl ⊢
  have te2 : ∀ e ∈ es2.toList,xq prog w e := fun e he => te e (hp.mem_iff.mp he)
  have hsz : es2.size = es1.size := by rw [<- BF,hp.length_eq,BF]
  have hb2 : es2.size < scanBound := by rw [hsz]; exact hb1
  refine wpAny_bind (hg _ _ _ ?_)
  refine wpAny_bind (wpAny_storeSet_of ho1 rfl ?_ (fits_of_scanBound hb2))
  obtain ⟨ho2,_⟩ := SetOf_store (knd := az prog w) (S' := fun k => decide (∃ e ∈ es2.toList,(az prog w).is k e.2 = true)) ho1 hex rfl (iW te2) (fun k => by simp) hb2 hfr
  exact wpAny_pure (h _ (hsb1.trans (Heap.SameBut.update _ a _)) ⟨_,es2,_,t3,ho2,hex,rfl,te2,(hp.map _).trans pm,hb2,hfr,fun b => hl.trans (ld b),fun _ => hpl⟩)
 ·exact wpAny_pure (h _ hsb1 ⟨_,es1,_,t2,ho1,hex,rfl,te,pm,hb1,hf2,ld,fun _ => pl⟩)
theorem xr {a : Addr} {ys : List Str} {y : Str} {tk : Tok} {Q : Bool -> Shared -> Prop} (hS : mZ prog w s.heap a ys) (room : ys.length + 1 < scanBound)
  (h : ∀ h',Heap.SameBut a s.heap h' -> mZ prog w h' a (fA ys y) -> ∀ b,Q b { s with heap := h' }) :
  wpAny (model prog w) A (setAddHashed a (.str y tk) ((az prog w).hash (.inr y))) Q E s := by
 obtain ⟨o,es,ep,t,ho,hex,hd,te,pm,hb,hf,ld,pl⟩ := hS
 have hel := iW te
 have hsz : es.size = ys.length := by rw [<- BF,<- B2 (fun e : Int × Value => strOf e.2),pm.length_eq]
 unfold setAddHashed setAddHashedIn
 refine wpAny_holding (wpAny_bind (wpAny_setState_of ho hd hf ?_))
 dsimp only
 rw [byScan_of (knd := az prog w) (x := .str y tk) rfl hb hel]
 simp only [↓reduceIte]
 unfold setAddByScan
 refine wpAny_bind ?_
 refine wpAny_bind (wpAny_rule ?_)
 refine wpAny_bind (wpAny_setScan_of (knd := az prog w) (k := .inr y) pO ho hd hf hel ?_)
 cases hr : List.findIdx? (fun e => (az prog w).is (.inr y) e.2) es.toList with
 | some j =>
  dsimp only
  obtain ⟨hj,hpj,_⟩ := List.findIdx?_eq_some_iff_getElem.mp hr
  have hm : y ∈ ys := (sZ (h := s.heap) (a := a) te pm y).mp ⟨es.toList[j],List.getElem_mem hj,hpj⟩
  refine wpAny_pure (wpAny_pure ?_)
  have e : s = { s with heap := s.heap } := by cases s; rfl
  rw [e]
  refine h s.heap (Heap.SameBut.refl a s.heap) ?_ _
  rw [fA,if_pos hm]
  exact ⟨o,es,ep,t,ho,hex,hd,te,pm,hb,hf,ld,pl⟩
 | none =>
  dsimp only
  have hm : y ∉ ys := fun hm => by
   obtain ⟨e,he,q⟩ := (sZ (h := s.heap) (a := a) te pm y).mpr hm
   have := List.findIdx?_eq_none_iff.mp hr e he
   rw [q] at this
   cases this
  have hgw : ∀ (b : Bool) {s₁ : Shared} {Q' : Unit -> Shared -> Prop},Q' () s₁ -> wpAny (model prog w) A (match b with | true => rule "set.scan.the-table-gave-way" | false => pure ()) Q' E s₁ :=
   fun b s₁ Q' hq => by cases b <;> first | exact wpAny_pure hq | exact wpAny_rule hq
  have hperm := layNew_perm t es ((az prog w).hash (.inr y)) (.str y tk)
  have hfits := layNew_fits t es ((az prog w).hash (.inr y)) (.str y tk)
  have hled := oq t es ((az prog w).hash (.inr y)) (.str y tk)
  generalize hL : layNew t es ((az prog w).hash (.inr y)) (.str y tk) = L at hperm hfits hled ⊢
  obtain ⟨es1,t1,wasDummy,gave⟩ := L
  dsimp only at hperm hfits hled ⊢
  rw [Array.toList_push] at hperm
  have te1 : ∀ e ∈ es1.toList,xq prog w e := fun e he => by
   rcases BN.mp (hperm.mem_iff.mp he) with q | q
   ·exact te e q
   ·rw [B5.mp q]; exact ⟨y,tk,rfl⟩
  have pm1 : (es1.toList.map fun e => strOf e.2).Perm (fA ys y) := by
   rw [fA,if_neg hm]
   refine (hperm.map _).trans ?_
   rw [Bv]
   exact pm.append_right _
  have hb1' : es1.size < scanBound := by
   rw [<- BF,hperm.length_eq,B8,BF,hsz]
   exact room
  refine wpAny_bind (hgw _ ?_)
  split
  ·refine wpAny_bind ?_
   rw [hashByValue_scannable 8 (x := .str y tk) rfl]
   refine wpAny_pure ?_
   refine pP ?_ ho hex hd te1 pm1 hb1' ?_ ?_ ?_ ?_
   ·intro b s₁ Q' hq; cases b <;> first | exact wpAny_pure hq | exact wpAny_rule hq
   ·exact SetTable.fits_plain_off hfits
   ·exact fun b => hled.trans (ld b)
   ·rfl
   ·intro h' hsb hS'; dsimp only; exact wpAny_pure (h h' hsb hS' _)
  ·rename_i np
   refine wpAny_bind (wpAny_pure ?_)
   simp only [↓reduceIte]
   refine pP ?_ ho hex hd te1 pm1 hb1' hfits ?_ ?_ ?_
   ·intro b s₁ Q' hq; cases b <;> first | exact wpAny_pure hq | exact wpAny_rule hq
   ·exact fun b => hled.trans (ld b)
   ·simpa using np
   ·intro h' hsb hS'; dsimp only; exact wpAny_pure (h h' hsb hS' _)
end
def mO (xs : List Str) (i : Nat) : List Str := (xs.take i).foldl fA []
theorem mP {xs : List Str} {i : Nat} {y : Str} (h : xs[i]? = some y) : mO xs (i + 1) = fA (mO xs i) y := by
 unfold mO
 rw [List.take_add_one,h,Option.toList_some,List.foldl_append]
 rfl
theorem tf (ys : List Str) (y : Str) : (fA ys y).length <= ys.length + 1 := by
 unfold fA
 split
 ·omega
 ·simp
theorem kU (xs : List Str) : ∀ i,(mO xs i).length <= i
 | 0 => by simp [mO]
 | i + 1 => by
  have ih := kU xs i
  cases h : xs[i]? with
  | none =>
   have : xs.take (i + 1) = xs.take i := by rw [List.take_add_one,h]; simp
   unfold mO at ih ⊢
   rw [this]
   omega
  | some y =>
   rw [mP h]
   have := tf (mO xs i) y
   omega
theorem ot {ys : List Str} (y : Str) (h : ys.Nodup) : (fA ys y).Nodup := by
 unfold fA
 split
 ·exact h
 ·rename_i n
  exact Ck.mpr ⟨h,by simp,fun a ha b hb e => n (by rw [B5] at hb; rw [<- hb,<- e]; exact ha)⟩
theorem tj {ys : List Str} {y z : Str} : z ∈ fA ys y ↔ z ∈ ys ∨ z = y := by
 unfold fA
 split
 ·rename_i h
  exact ⟨.inl,fun h' => h'.elim id fun e => e ▸ h⟩
 ·simp
theorem dG : ∀ (xs ys : List Str),ys.Nodup -> (xs.foldl fA ys).Nodup
 | [],_,h => h
 | x :: xs,ys,h => dG xs _ (ot x h)
theorem eM {z : Str} : ∀ (xs ys : List Str),z ∈ xs.foldl fA ys ↔ z ∈ ys ∨ z ∈ xs
 | [],ys => by simp
 | x :: xs,ys => by
  rw [List.foldl_cons,eM xs,tj,B9,or_assoc]
section
variable {prog : Program} {w : World} {A : Around} {R : Result -> Shared -> Prop} {I : Addr} {fp wr : List Addr} {G : Array GenState -> Array GenState -> Prop} {n : Nat} {P : Nat -> Value -> Prop} {St : Nat -> Shared -> Prop}
theorem qU (W : WalksS prog w A.in1 I fp wr G n P St) (S : Addr) (out : S ∉ fp) (xs : List Str) (hv : ∀ i v,P i v -> ∃ y t,xs[i]? = some y /\ v = .str y t)
  (hn : n <= xs.length) (hb : n + 1 < scanBound) : ∀ (m i : Nat) (s : Shared),n - i = m -> i <= n -> St i s -> mZ prog w s.heap S (mO xs i) ->
   (∀ s',Moved (S :: wr) G s s' -> mZ prog w s'.heap S (mO xs n) -> R (.ok (.ret .none)) s') -> codeAny (model prog w) A (.builtin "set.update.loop" ⟨[.ref S,.ref I],[]⟩) R s := by
 have nw : S ∉ wr := fun h => out (W.sub _ h)
 have up : ∀ b ∈ wr,b ∈ S :: wr := fun b hb => .tail _ hb
 have stay : ∀ {s1 s2 : Shared} {ys : List Str},mZ prog w s1.heap S ys -> Moved wr G s1 s2 -> mZ prog w s2.heap S ys := by
  rintro s1 s2 ys ⟨o,es,ep,t,ho,z⟩ mv
  exact ⟨o,es,ep,t,mv.heap S _ nw ho,z⟩
 intro m
 induction m with
 | zero =>
  intro i s hm hi st hS fin
  have e : i = n := by omega
  subst e
  apply codeAny_builtin F.entry_set_update_loop
  rw [Around.under_plainId F.plain_set_update_loop _]
  show wpAny _ _ (pyNext (.ref I) >>= _) _ _ s
  apply wpAny_bind
  refine W.done s _ _ st fun s' mv => ?_
  exact wpAny_pure (fin s' (mv.mono up) (stay hS mv))
 | succ m ih =>
  intro i s hm hi st hS fin
  have lt : i < n := by omega
  apply codeAny_builtin F.entry_set_update_loop
  rw [Around.under_plainId F.plain_set_update_loop _]
  show wpAny _ _ (pyNext (.ref I) >>= _) _ _ s
  apply wpAny_bind
  refine W.item i s _ _ lt st fun v s' pv st' mv => ?_
  obtain ⟨y,tk,ey,rfl⟩ := hv i v pv
  show wpAny _ _ (holding [.str y tk] (setAdd S (.str y tk)) >>= _) _ _ s'
  apply wpAny_bind
  apply wpAny_holding
  unfold setAdd
  apply wpAny_holding
  apply wpAny_bind
  refine (az prog w).pyHash (k := .inr y) pO ?_
  have rm : (mO xs i).length + 1 < scanBound := by
   have := kU xs i
   omega
  refine xr (s := { s' with toks := s'.toks + 1 }) (show mZ prog w s'.heap S (mO xs i) from stay hS mv) rm fun h' same S2 b => ?_
  rw [<- mP ey] at S2
  apply wpAny_pure
  refine ⟨plainId_quiet F.plain_set_update_loop _,ih (i + 1) _ (by omega) lt (W.frame _ s' _ _ st' (Nat.le_succ _) fun b hb o e => ?_) S2 fun s'' mv2 S4 => ?_⟩
  ·exact (same.2 b fun z => out (z ▸ hb)).trans e
  ·exact fin s'' (Moved.trans W.gtrans ((mv.mono up).then_heap (Nat.le_succ _) fun b o hb e => (same.2 b fun z => hb (z ▸ C8)).trans e) mv2) S4
end
section
variable {prog : Program} {w : World} {A : Around} {E : Value -> Shared -> Prop} {s : Shared}
theorem jq (a : Value) {Q₁ : Value -> Shared -> Prop}
  (h : ∀ led : Bool,(w.params.followText "set-order" = false -> led = true) -> Q₁ (.ref s.heap.objs.size) { s with heap := s.heap.push { cls := .type "set",dict := none,data := .set #[] 0 (.fresh 0 0 led) } }) :
  codeAny (model prog w) A (.call (.builtin "set.__new__") ⟨[.type "set",a],[]⟩) (wants Q₁ E) s := by
 refine codeAny_of_tree ?_
 show wpAny _ A.in1 (do checkBuiltinCall "set.__new__" ⟨[.type "set",a],[]⟩; again (.builtin "set.__new__" ⟨[.type "set",a],[]⟩)) _ _ s
 refine wpAny_bind (wpAny_of_eq (F.newCall_set_1 a) (wpAny_pure ⟨plainId_quiet F.plain_set_new _,codeAny_builtin F.entry_set_new ?_⟩))
 rw [Around.under_plainId F.plain_set_new _]
 unfold Builtin.«set.__new__» Builtin.Frozenset.newClass
 have hsub := sub_set_self
 obtain ⟨hp,g,d,tk,os⟩ := s
 dsimp only
 wp_walk
 refine wpAny_askSetting (wpAny_pure ?_)
 dsimp only
 simp only [newObj]
 refine wpAny_bind (wpAny_alloc (wpAny_pure ?_))
 refine wpAny_pure (h _ fun e => ?_)
 show (!(model prog w).w.params.followText "set-order") = true
 rw [show (model prog w).w = w from rfl,e]
 rfl
set_option maxHeartbeats 3200000 in
theorem qV {l : Addr} {items : Array Value} {xs : List Str} {Q : Value -> Shared -> Prop} (hh : A.handled = none) (hl : s.heap.IsList l items) (hv : ∀ (i : Nat) (v : Value),items[i]? = some v -> ∃ (y : Str) (t : Tok),xs[i]? = some y /\ v = Value.str y t)
  (hn : items.size = xs.length) (hb : items.size + 1 < scanBound)
  (fin : ∀ (h' : Heap) (tk : Nat),mZ prog w h' s.heap.objs.size (mO xs items.size) -> (∀ b o,b < s.heap.objs.size -> s.heap.get? b = some o -> h'.get? b = some o) -> Q (.ref s.heap.objs.size) { s with heap := h',toks := tk }) :
  wpAny (model prog w) A (call (.type "set") [.ref l]) Q E s := by
 obtain ⟨c0,tl0,mro⟩ := F.called_set.mro
 have made := F.called_set.made
 have subt := F.called_set.sub
 apply wpAny_call
 apply codeAny_of_tree
 show wpAny _ _ (callAny (.type "set") _) _ _ _
 apply wpAny_pure
 refine ⟨Code.quiet_builtin _ (by decide +kernel),codeAny_builtin F.entry_type_call ?_⟩
 rw [Around.under_plain (weight_type_call_type "set" [.ref l] []) rfl]
 have nt := F.called_set.notType
 have cc := F.called_set.canCreate
 have tc := F.typeCall_set_1 (.ref l)
 repeat any_goals first | assumption | wp_step
 refine codeAny_mono (jq (.ref l) (E := E) (Q₁ := fun v s1 => ∃ led : Bool,(w.params.followText "set-order" = false -> led = true) /\ v = .ref s.heap.objs.size /\ s1 = { s with heap := s.heap.push { cls := .type "set",dict := none,data := .set #[] 0 (.fresh 0 0 led) } }) fun led eld => ⟨led,eld,rfl,rfl⟩) fun r s1 hr => ?_
 cases r with
 | error e => exact hr
 | ok fl =>
  cases fl with
  | ret v =>
   obtain ⟨led,eld,rfl,rfl⟩ := hr
   have e0 : (s.heap.push { cls := .type "set",dict := none,data := .set #[] 0 (.fresh 0 0 led) }).get? s.heap.objs.size = some { cls := .type "set",dict := none,data := .set #[] 0 (.fresh 0 0 led) } := Heap.get?_push_size _ rfl
   have tS : Shared.TypeIs { s with heap := s.heap.push { cls := .type "set",dict := none,data := .set #[] 0 (.fresh 0 0 led) } } (.ref s.heap.objs.size) "set" := ⟨_,e0,rfl⟩
   have lk := F.called_set.init.lookup
   have bd := F.called_set.init.bind (.ref s.heap.objs.size)
   repeat any_goals first | assumption | wp_step
   refine codeAny_mono (codeAny_call_builtin (R := wants (fun r s2 => r = .none /\ ∃ h' tk,s2 = { s with heap := h',toks := tk } /\ mZ prog w h' s.heap.objs.size (mO xs items.size) /\ ∀ b o,b < s.heap.objs.size -> s.heap.get? b = some o -> h'.get? b = some o) E) F.called_set.init.plain F.entry_set_init (check_set_init_1 tS ?_)) fun r2 s2 hr2 => ?_
   ·obtain ⟨⟨lc,ld,lx,ls⟩,hol,hcl,nl,hdl⟩ := hl
    simp only at hcl hdl
    subst hcl hdl
    have el : (s.heap.push { cls := .type "set",dict := none,data := .set #[] 0 (.fresh 0 0 led) }).get? l = some { cls := .type "list",dict := ld,data := .seq items nl,slots := ls } := Heap.get?_push_of_some _ hol
    have n1 := F.sub_list_set
    have n2 := F.sub_list_frozenset
    have n3 : (Value.type "list" == Value.type "dict") = false := by decide
    have il : (s.heap.push { cls := .type "set",dict := none,data := .set #[] 0 (.fresh 0 0 led) }).IsList l items := ⟨_,el,rfl,nl,rfl⟩
    unfold Builtin.«set.__init__» noKeywords Builtin.Frozenset.updateFrom
    generalize hit : pyIter = PI
    wp_walk
    subst hit
    apply wpAny_pyIter_list il
    apply wpAny_bind
    apply wpAny_runValue
    have ll : l < s.heap.objs.size := Heap.lt_size hol
    have h3 : A.in1.in1.in1.handled = none := by simpa using hh
    have nI : l ≠ (s.heap.push { cls := .type "set",dict := none,data := .set #[] 0 (.fresh 0 0 led) }).objs.size := by
     rw [Heap.size_push]
     exact BA (CN ll)
    have out : s.heap.objs.size ∉ [(s.heap.push { cls := .type "set",dict := none,data := .set #[] 0 (.fresh 0 0 led) }).objs.size,l] := by
     rw [Heap.size_push]
     simp only [B9,not_or]
     exact ⟨BA (Nat.lt_succ_self _),Ci ll,Bw⟩
    refine qU ((Walks.list h3 _ l nI items).toS) s.heap.objs.size out xs hv (Nat.le_of_eq hn) hb items.size 0 _ rfl (BY _) ⟨⟨_,Heap.get?_push_size _ rfl,rfl,rfl⟩,il.push _⟩ ?_ ?_
    ·have e1 : ((s.heap.push { cls := .type "set",dict := none,data := .set #[] 0 (.fresh 0 0 led) }).push { cls := .type "list_iterator",data := .fields #[.ref l,.int 0 0] }).get? s.heap.objs.size = some { cls := .type "set",dict := none,data := .set #[] 0 (.fresh 0 0 led) } :=
      Heap.get?_push_of_some _ e0
     exact ⟨_,#[],0,_,e1,⟨rfl,rfl,rfl⟩,rfl,(fun e he => by simp at he),(by simp [mO]),by decide,rfl,eld,fun z => absurd rfl z⟩
    ·intro s' mv S2
     obtain ⟨h',g',d',tk',os'⟩ := s'
     have eg : g' = s.gens := mv.gens
     have ed : d' = s.drawn := mv.drawn
     have eo : os' = s.os := mv.os
     subst eg ed eo
     show wpAny _ _ _ _ _ _
     apply wpAny_pure
     show wpAny _ _ (ret Value.none) _ _ _
     apply wpAny_pure
     refine ⟨rfl,h',tk',rfl,S2,fun b o hb' e => ?_⟩
     refine mv.heap b o ?_ (Heap.get?_push_of_some _ (Heap.get?_push_of_some _ e))
     rw [Heap.size_push]
     simp only [B9,not_or]
     exact ⟨BA hb',BA (CN hb'),Bw⟩
   ·cases r2 with
    | error e => exact hr2
    | ok fl2 =>
     cases fl2 with
     | ret r =>
      obtain ⟨rfl,h',tk,rfl,S2,kp⟩ := hr2
      repeat any_goals first | assumption | wp_step
      exact fin _ _ S2 kp
     | _ => exact hr2.elim
  | _ => exact hr.elim
end
theorem mQ : Manifest.owners.lookup (String.ofList ['r','o','t','a','r','e','t','i','_','t','e','s'].reverse) = some Manifest.sig_set_iterator := by kernel_rfl
theorem aT : Slot "set_iterator" "__next__" "set_iterator.__next__" :=
 .of (owner := "set_iterator") (n := "__next__") (by rw [typeLookup_type,builtinLookup_eq_fast]; kernel_rfl) (by decide +kernel) (by decide +kernel) (by decide +kernel)
  (by first | exact .inl (by decide +kernel) | exact .inr (by decide +kernel)) (by rw [isSubtype_type]; kernel_rfl)
theorem cB : entryFor table "set_iterator.__next__" = some Builtin.«set_iterator.__next__» := entryFor_of_tree (by kernel_rfl)
theorem cZ (a : Value) : argsOk "set_iterator.__next__" ⟨[a],[]⟩ := by
 unfold argsOk; rw [signature?_of (id := "set_iterator.__next__") (n := ['_','_','t','x','e','n','_','_']) (o := ['r','o','t','a','r','e','t','i','_','t','e','s']) (by kernel_rfl) mQ]; kernel_rfl
theorem bW : Slot "set_iterator" "__iter__" "set_iterator.__iter__" :=
 .of (owner := "set_iterator") (n := "__iter__") (by rw [typeLookup_type,builtinLookup_eq_fast]; kernel_rfl) (by decide +kernel) (by decide +kernel) (by decide +kernel)
  (by first | exact .inl (by decide +kernel) | exact .inr (by decide +kernel)) (by rw [isSubtype_type]; kernel_rfl)
theorem d6 (a : Value) : argsOk "set_iterator.__iter__" ⟨[a],[]⟩ := by
 unfold argsOk; rw [signature?_of (id := "set_iterator.__iter__") (n := ['_','_','r','e','t','i','_','_']) (o := ['r','o','t','a','r','e','t','i','_','t','e','s']) (by kernel_rfl) mQ]; kernel_rfl
theorem iX : entryFor table "set.__iter__" = some Builtin.«frozenset.__iter__» :=
 entryFor_alias (id' := "frozenset.__iter__") (by kernel_rfl) rfl (by decide +kernel) (by kernel_rfl)
theorem dq : entryFor table "set_iterator.__iter__" = some Builtin.«dict_keyiterator.__iter__» :=
 entryFor_alias (id' := "dict_keyiterator.__iter__") (by kernel_rfl) rfl (by decide +kernel) (by kernel_rfl)
section
variable {prog : Program} {w : World} {A : Around} {E : Value -> Shared -> Prop} {s : Shared}
theorem jr {M : Model} {src : Source} {n : Nat} {Q : Nat -> Shared -> Prop} (hn : n ≠ 0) (h : ∀ i d,i < n -> Q i { s with drawn := d }) : wpAny M A (choose src n) Q E s := fun _ _ _ => by
 unfold choose
 rw [Sem.wp_choose]
 exact ⟨hn,by simpa using h _ _ (Nat.mod_lt _ (Nat.pos_of_ne_zero hn))⟩
theorem gw {α : Type} : ∀ (l : List α) (i : Nat) (h : i < l.length),(l[i] :: l.eraseIdx i).Perm l
 | [],i,h => by simp at h
 | x :: xs,0,_ => .refl _
 | x :: xs,i + 1,h => by
  have h' : i < xs.length := by simpa using h
  show (xs[i] :: x :: xs.eraseIdx i).Perm (x :: xs)
  exact (List.Perm.swap _ _ _).trans ((gw xs i h').cons x)
theorem eO {M : Model} {α : Type} : ∀ (n : Nat) (xs : List α) (s : Shared) (Q : List α -> Shared -> Prop),xs.length = n -> (∀ ys d,ys.Perm xs -> Q ys { s with drawn := d }) -> wpAny M A (drawOrder n xs) Q E s
 | 0,xs,s,Q,hl,h => by
  have : xs = [] := List.length_eq_zero_iff.mp hl
  subst this
  unfold drawOrder
  exact wpAny_pure (h [] s.drawn .nil)
 | n + 1,[],s,Q,hl,h => by cases hl
 | n + 1,x :: xs,s,Q,hl,h => by
  unfold drawOrder
  refine wpAny_bind (jr (by simp) fun i d hi => ?_)
  have e : (x :: xs)[i]? = some ((x :: xs)[i]) := BG hi
  rw [e]
  dsimp only
  refine wpAny_bind (eO n ((x :: xs).eraseIdx i) { s with drawn := d } _ (by rw [List.length_eraseIdx_of_lt hi,hl]; rfl) fun ys d' hp => wpAny_pure (h _ d' ?_))
  exact (hp.cons _).trans (gw _ i hi)
def cL (h : Heap) (a : Addr) (es : Array (Int × Value)) (ep : Nat) (t : SetTable) : Prop := ∃ o,h.get? a = some o /\ o.ExactSet /\ o.data = .set es ep t /\ t.fits es.size = true
def ou (first : Value) (i : Nat) (S : Addr) (n ep : Nat) : Obj := { cls := .type "set_iterator",data := .fields #[first,.int i 0,.ref S,.int n 0,.int ep 0] }
theorem kW {a : Addr} {es : Array (Int × Value)} {ep : Nat} {t : SetTable} (h : cL s.heap a es ep t) : s.TypeIs (.ref a) "set" := let ⟨o,ho,hx,_⟩ := h; ⟨o,ho,hx.1⟩
theorem tm {a : Addr} {es : Array (Int × Value)} {ep : Nat} {t : SetTable} {Q : Value -> Shared -> Prop} (hS : cL s.heap a es ep t) (hz : es.size <= sizeLine)
  (h1 : (!w.params.followText "set-order" && (!t.plain && decide (es.size > 1))) = false -> Q (.ref s.heap.objs.size) { s with heap := s.heap.push (ou (.int 0 0) 0 a es.size ep) })
  (h2 : (!w.params.followText "set-order" && (!t.plain && decide (es.size > 1))) = true -> ∀ (ys : List Nat) d,ys.Perm (Cs es.size) ->
   Q (.ref (s.heap.objs.size + 1)) { s with heap := (s.heap.push { cls := .type "tuple",data := .seq (ys.map fun (i : Nat) => rawInt i).toArray }).push (ou (.ref s.heap.objs.size) 0 a es.size ep),drawn := d }) :
  wpAny (model prog w) A (pyIter (.ref a)) Q E s := by
 have hT := kW hS
 obtain ⟨o,ho,hx,hd,hf⟩ := hS
 refine wpAny_pyIter_slot hT F.slot_set_iter (wpAny_call_entry F.slot_set_iter hT iX ?_ (F.args_set_iter_1 _))
 unfold Builtin.«frozenset.__iter__»
 refine wpAny_bind (m := Builtin.Frozenset.slot0 _ _) ?_
 show wpAny _ _ (pure a) _ _ s
 refine wpAny_pure ?_
 unfold Builtin.Frozenset.sizeOf setEntries
 refine wpAny_bind (wpAny_bind (wpAny_bind (wpAny_setState_of ho hd hf (wpAny_pure ?_))))
 refine wpAny_pure ?_
 unfold setDrawn setsByText
 refine wpAny_bind (wpAny_bind (wpAny_setState_of ho hd hf ?_))
 dsimp only
 refine wpAny_bind (wpAny_bind (wpAny_askSetting (wpAny_pure ?_)))
 show wpAny _ _ (pure (!w.params.followText "set-order" && (!t.plain && decide (es.size > 1)))) _ _ s
 refine wpAny_pure ?_
 cases c : (!w.params.followText "set-order" && (!t.plain && decide (es.size > 1))) with
 | false =>
  simp only [Cg,if_false]
  refine wpAny_bind (wpAny_pure ?_)
  unfold setEpoch
  refine wpAny_bind (wpAny_bind (wpAny_setState_of ho hd hf (wpAny_pure ?_)))
  refine wpAny_bind (wpAny_newObj_type (wpAny_pure ⟨_,rfl,"set_iterator",_,⟨_,Heap.get?_push_size _ rfl,rfl⟩,aT.lookup,?_⟩))
  exact h1 c
 | true =>
  simp only [if_true]
  refine wpAny_bind (eO es.size (Cs es.size) s _ (by simp) fun ys d hp => ?_)
  refine wpAny_bind (wpAny_newTuple ?_ (by rw [B2,hp.length_eq,List.length_range]; exact hz))
  unfold setEpoch
  have ho' : (s.heap.push { cls := .type "tuple",data := .seq (ys.map fun (i : Nat) => rawInt i).toArray }).get? a = some o := Heap.get?_push_of_some _ ho
  refine wpAny_bind (wpAny_bind (wpAny_setState_of (s := { s with heap := _,drawn := d }) ho' hd hf (wpAny_pure ?_)))
  refine wpAny_bind (wpAny_newObj_type (wpAny_pure ⟨_,rfl,"set_iterator",_,⟨_,Heap.get?_push_size _ rfl,rfl⟩,aT.lookup,?_⟩))
  have := h2 c ys d hp
  rw [<- Heap.size_push s.heap { cls := .type "tuple",data := .seq (ys.map fun (i : Nat) => rawInt i).toArray }] at this
  exact this
end
section
variable {prog : Program} {w : World} {A : Around} {E : Value -> Shared -> Prop} {s : Shared}
theorem cL.at {h h' : Heap} {a : Addr} {es : Array (Int × Value)} {ep : Nat} {t : SetTable} (x : cL h a es ep t) (k : ∀ o,h.get? a = some o -> h'.get? a = some o) : cL h' a es ep t := let ⟨o,ho,r⟩ := x; ⟨o,k o ho,r⟩
theorem cC {a : Addr} {es : Array (Int × Value)} {ep : Nat} {t : SetTable} {Q : Array (Int × Value) -> Shared -> Prop} (hS : cL s.heap a es ep t) (h : Q es s) : wpAny (model prog w) A (setEntries a) Q E s := by
 obtain ⟨o,ho,_,hd,hf⟩ := hS
 unfold setEntries
 exact wpAny_bind (wpAny_setState_of ho hd hf (wpAny_pure h))
theorem df {a : Addr} {es : Array (Int × Value)} {ep : Nat} {t : SetTable} {Q : (Array (Int × Value) × Nat × SetTable) -> Shared -> Prop} (hS : cL s.heap a es ep t) (h : Q (es,ep,t) s) : wpAny (model prog w) A (setState a) Q E s := by
 obtain ⟨o,ho,_,hd,hf⟩ := hS
 exact wpAny_setState_of ho hd hf h
theorem jQ {I S : Addr} {es : Array (Int × Value)} {ep i slot nx : Nat} {t : SetTable} {x : Value} {Q : Option Value -> Shared -> Prop} (hI : s.heap.get? I = some (ou (.int slot 0) i S es.size ep)) (hS : cL s.heap S es ep t)
  (hn : ∀ (A : Around) (E : Value -> Shared -> Prop) (Q : Option (Value × Nat) -> Shared -> Prop),Q (some (x,nx)) s -> wpAny (model prog w) A (setNext S slot i ep) Q E s)
  (h : ∀ h',h'.get? I = some (ou (.int nx 0) (i + 1) S es.size ep) -> Heap.SameBut I s.heap h' -> Q (some x) { s with heap := h' }) : wpAny (model prog w) A (pyNext (.ref I)) Q E s := by
 have hT : s.TypeIs (.ref I) "set_iterator" := ⟨_,hI,rfl⟩
 unfold pyNext
 refine wpAny_bind (wpAny_attempt (wpAny_callSpecial?_slot (name := Str.ofString "__next__") hT aT (wpAny_call_entry aT hT cB ?_ (cZ _))))
 unfold Builtin.«set_iterator.__next__»
 refine wpAny_bind (m := slotArgs _ _ _) ?_
 show wpAny _ _ (pure (Value.ref I,[])) _ _ s
 refine wpAny_pure ?_
 refine wpAny_bind (wpAny_fieldsOf hI rfl ?_)
 show wpAny _ _ (setEntries S >>= _) _ _ s
 refine wpAny_bind (cC hS ?_)
 rw [if_neg (by simp)]
 show wpAny _ _ (setNext S (Cd slot) (Cd i) (Cd ep) >>= _) _ _ s
 simp only [CT]
 refine wpAny_bind (hn _ _ _ ?_)
 dsimp only
 refine wpAny_bind (wpAny_setField_rec (vs := #[.int slot 0,.int i 0,.ref S,.int es.size 0,.int ep 0]) hI (by simp) fun h1 e1 s1 => ?_)
 refine wpAny_bind (wpAny_setField_rec (s := { s with heap := h1 }) e1 (by simp) fun h2 e2 s2 => ?_)
 exact wpAny_pure ⟨_,rfl,wpAny_pure (h h2 (by simpa [ou,rawInt] using e2) (s1.trans s2))⟩
theorem jR {I S : Addr} {es : Array (Int × Value)} {ep i slot : Nat} {t : SetTable} {Q : Option Value -> Shared -> Prop} (hh : A.handled = none) (hI : s.heap.get? I = some (ou (.int slot 0) i S es.size ep)) (hS : cL s.heap S es ep t)
  (hn : ∀ (A : Around) (E : Value -> Shared -> Prop) (Q : Option (Value × Nat) -> Shared -> Prop),Q none s -> wpAny (model prog w) A (setNext S slot i ep) Q E s)
  (h : ∀ h',Heap.ExtBut I s.heap h' -> Q none { s with heap := h' }) : wpAny (model prog w) A (pyNext (.ref I)) Q E s := by
 have hT : s.TypeIs (.ref I) "set_iterator" := ⟨_,hI,rfl⟩
 unfold pyNext
 refine wpAny_bind (wpAny_attempt (wpAny_callSpecial?_slot (name := Str.ofString "__next__") hT aT (wpAny_call_entry aT hT cB ?_ (cZ _))))
 unfold Builtin.«set_iterator.__next__»
 refine wpAny_bind (m := slotArgs _ _ _) ?_
 show wpAny _ _ (pure (Value.ref I,[])) _ _ s
 refine wpAny_pure ?_
 refine wpAny_bind (wpAny_fieldsOf hI rfl ?_)
 show wpAny _ _ (setEntries S >>= _) _ _ s
 refine wpAny_bind (cC hS ?_)
 rw [if_neg (by simp)]
 show wpAny _ _ (setNext S (Cd slot) (Cd i) (Cd ep) >>= _) _ _ s
 simp only [CT]
 refine wpAny_bind (hn _ _ _ ?_)
 dsimp only
 refine wpAny_bind (wpAny_setField_rec (vs := #[.int slot 0,.int i 0,.ref S,.int es.size 0,.int ep 0]) hI (by simp) fun h1 e1 s1 => ?_)
 show wpAny _ _ (newExc (.type "StopIteration") [] >>= _) _ _ _
 refine wpAny_bind ?_
 simp only [newExc,newTuple]
 refine wpAny_bind (wpAny_newObj_type ?_ (by size_fits))
 refine wpAny_bind (m := firstArgMember _ _) (wpAny_of_eq (a := Value.none) (by first | rfl | (simp only [firstArgMember]; rfl)) ?_)
 refine wpAny_newObj_type ?_ (by size_fits)
 simp only [raiseNew]
 refine wpAny_bind (wpAny_handled ?_)
 rw [show A.in1.handled = none from hh]
 refine wpAny_bind (wpAny_pure (wpAny_throw ?_))
 refine wpAny_bind (wpAny_isInstance (T := "StopIteration") (b := true) ⟨_,Heap.get?_push_size _ rfl,rfl⟩ isSubtype_stop ?_)
 exact wpAny_pure (h _ ((s1.extBut.push _).push _))
end
theorem gW {α : Type} (nx : Nat -> Nat) : ∀ (f k : Nat) (l : List α) (out : Array α),l.length = f -> (pickOrder.go nx f k l out).toList.Perm (out.toList ++ l)
 | 0,k,l,out,h => by
  have : l = [] := List.length_eq_zero_iff.mp h
  subst this
  simp [pickOrder.go]
 | f + 1,k,l,out,h => by
  have hp : 0 < l.length := by omega
  have hi : nx k % l.length < l.length := Nat.mod_lt _ hp
  have e : l[nx k % l.length]? = some (l[nx k % l.length]) := BG hi
  rw [pickOrder.go,e]
  dsimp only
  refine (gW nx f (k + 1) _ _ (by rw [List.length_eraseIdx_of_lt hi,h]; rfl)).trans ?_
  rw [Array.toList_push,List.append_assoc]
  exact List.Perm.append_left _ (gw l _ hi)
theorem iY {α : Type} (nx : Nat -> Nat) (xs : Array α) : (pickOrder nx xs).toList.Perm xs.toList := by
 unfold pickOrder
 simpa using gW nx xs.size 0 xs.toList #[] (by simp)
section
variable {prog : Program} {w : World} {A : Around} {E : Value -> Shared -> Prop} {s : Shared}
theorem fZ {S : Addr} {es : Array (Int × Value)} {ep i slot : Nat} {t : SetTable} {Q : Option (Value × Nat) -> Shared -> Prop} (hS : cL s.heap S es ep t) (hb : w.params.followText "set-order" = true)
  (h : Q (((pickOrder (w.params.setOrder S ep) es)[i]?).map fun e => (e.2,slot)) s) : wpAny (model prog w) A (setNext S slot i ep) Q E s := by
 unfold setNext setsByText
 refine wpAny_bind (df hS ?_)
 dsimp only
 refine wpAny_bind (wpAny_bind (wpAny_askSetting (wpAny_pure ?_)))
 rw [show ((model prog w).w.params.followText "set-order") = true from hb]
 simp only [if_true]
 rw [if_neg (by simp)]
 unfold setWalk setsByText
 refine wpAny_bind (wpAny_bind (df hS ?_))
 dsimp only
 refine wpAny_bind (wpAny_bind (wpAny_askSetting (wpAny_pure ?_)))
 rw [show ((model prog w).w.params.followText "set-order") = true from hb]
 simp only [if_true]
 refine wpAny_bind (wpAny_askSetting (wpAny_pure ?_))
 exact wpAny_pure h
theorem gX {S : Addr} {es : Array (Int × Value)} {ep i slot : Nat} {t : SetTable} {Q : Option (Value × Nat) -> Shared -> Prop} (hS : cL s.heap S es ep t) (hb : w.params.followText "set-order" = false) (few : es.size <= 1) (ld : t.led = true)
  (h : Q (match es[SetTable.below t.place slot]?,t.place[SetTable.below t.place slot]? with | some (_,x),some j => some (x,j + 1) | _,_ => none) s) : wpAny (model prog w) A (setNext S slot i ep) Q E s := by
 unfold setNext setsByText
 refine wpAny_bind (df hS ?_)
 dsimp only
 refine wpAny_bind (wpAny_bind (wpAny_askSetting (wpAny_pure ?_)))
 rw [show ((model prog w).w.params.followText "set-order") = false from hb]
 simp only [Cg,if_false]
 have d1 : (!t.plain && decide (es.size > 1)) = false := by
  rw [decide_eq_false (by omega),Bool.and_false]
 have d2 : (!t.led && !es.isEmpty) = false := by rw [ld]; rfl
 show wpAny _ _ (if (!t.plain && decide (es.size > 1)) = true then _ else _) _ _ s
 rw [d1]
 simp only [Cg,if_false]
 refine wpAny_bind ?_
 show wpAny _ _ (if (!t.led && !es.isEmpty) = true then _ else _) _ _ s
 rw [d2]
 simp only [Cg,if_false]
 refine wpAny_pure ?_
 exact wpAny_pure h
theorem qW (hh : A.handled = none) (hb : w.params.followText "set-order" = true) (I S : Addr) (ne : S ≠ I) (es : Array (Int × Value)) (ep : Nat) (t : SetTable) :
  Walks prog w A I [I,S] [I] es.size (fun i v => ∃ e,(pickOrder (w.params.setOrder S ep) es).toList[i]? = some e /\ v = e.2) (fun i h => h.get? I = some (ou (.int 0 0) i S es.size ep) /\ cL h S es ep t) where
 sub := fun b hb => by simp at hb; simp [hb]
 frame := fun _ _ _ st hk => ⟨hk I (by simp) _ st.1,st.2.at fun o e => hk S (by simp) o e⟩
 item := fun i s Q E hi st hQ => by
  have hz : (pickOrder (w.params.setOrder S ep) es).size = es.size := by rw [<- BF,(iY _ es).length_eq,BF]
  obtain ⟨x,hx⟩ : ∃ x,(pickOrder (w.params.setOrder S ep) es)[i]? = some x := ⟨_,C2 (by rw [hz]; exact hi)⟩
  refine jQ (slot := 0) (nx := 0) (x := x.2) st.1 st.2 (fun A E Q q => fZ st.2 hb ?_) fun h' e' sb => ?_
  ·rw [hx]; exact q
  ·refine hQ _ h' s.toks ⟨_,by rw [BU]; exact hx,rfl⟩ ⟨e',st.2.at fun o e => (sb.2 S ne).trans e⟩ fun b o hb e => (sb.2 b fun z => hb (by simp [z])).trans e
 done := fun s Q E st hQ => by
  have hz : (pickOrder (w.params.setOrder S ep) es).size = es.size := by rw [<- BF,(iY _ es).length_eq,BF]
  have hx : (pickOrder (w.params.setOrder S ep) es)[es.size]? = none := Cf (by omega)
  refine jR (slot := 0) hh st.1 st.2 (fun A E Q q => fZ st.2 hb ?_) fun h' xb => hQ h' s.toks fun b o hb e => xb b o (fun z => hb (by simp [z])) e
  rw [hx]; exact q
 self := fun i s Q E st hQ => by
  have hT : s.TypeIs (.ref I) "set_iterator" := ⟨_,st.1,rfl⟩
  refine wpAny_pyIter_slot hT bW (wpAny_call_entry bW hT dq ?_ (d6 _))
  show wpAny _ _ (ret (.ref I)) _ _ s
  exact wpAny_pure ⟨_,rfl,"set_iterator",_,hT,aT.lookup,hQ⟩
theorem pQ {α : Type} : ∀ {a : Array α},a.size = 1 -> ∃ j,a = #[j]
 | ⟨[j]⟩,_ => ⟨j,rfl⟩
 | ⟨[]⟩,h => by simp at h
 | ⟨_ :: _ :: _⟩,h => by simp at h
theorem jS (j k : Nat) : SetTable.below #[j] k = if j < k then 1 else 0 := by
 unfold SetTable.below
 simp only [BL,Bz,Cz,SetTable.below.go]
 by_cases h : j < k <;> simp [h,SetTable.below.go]
theorem tq (hh : A.handled = none) (hb : w.params.followText "set-order" = false) (I S : Addr) (ne : S ≠ I) (es : Array (Int × Value)) (ep : Nat) (t : SetTable) (few : es.size <= 1) (ld : t.led = true) (ft : t.fits es.size = true) :
  Walks prog w A I [I,S] [I] es.size (fun i v => ∃ e,es.toList[i]? = some e /\ v = e.2) (fun i h => (∃ slot : Nat,(i = 0 -> slot = 0) /\ (i ≠ 0 -> ∃ j,t.place[0]? = some j /\ slot = j + 1) /\ h.get? I = some (ou (.int slot 0) i S es.size ep)) /\ cL h S es ep t) where
 sub := fun b hb => by simp at hb; simp [hb]
 frame := fun _ _ _ st hk => ⟨let ⟨sl,a,b,c⟩ := st.1; ⟨sl,a,b,hk I (by simp) _ c⟩,st.2.at fun o e => hk S (by simp) o e⟩
 item := fun i s Q E hi st hQ => by
  obtain ⟨⟨slot,z1,z2,hI⟩,hS⟩ := st
  have i0 : i = 0 := by omega
  subst i0
  cases z1 rfl
  have pz : t.place.size = 1 := by
   simp only [SetTable.fits,Cc,beq_iff_eq] at ft
   omega
  obtain ⟨j,ej⟩ := pQ pz
  obtain ⟨x,hx⟩ : ∃ x,es[0]? = some x := ⟨_,C2 hi⟩
  refine jQ (slot := 0) (nx := j + 1) (x := x.2) hI hS (fun A E Q q => gX hS hb few ld ?_) fun h' e' sb => ?_
  ·rw [ej,jS]
   simp only [Nat.not_lt_zero,if_false,hx]
   exact q
  ·exact hQ _ h' s.toks ⟨_,by rw [BU]; exact hx,rfl⟩ ⟨⟨j + 1,fun z => (by omega),fun _ => ⟨j,by rw [ej]; rfl,rfl⟩,e'⟩,hS.at fun o e => (sb.2 S ne).trans e⟩ fun b o hb e => (sb.2 b fun z => hb (by simp [z])).trans e
 done := fun s Q E st hQ => by
  obtain ⟨⟨slot,z1,z2,hI⟩,hS⟩ := st
  refine jR (slot := slot) hh hI hS (fun A E Q q => gX hS hb few ld ?_) fun h' xb => hQ h' s.toks fun b o hb e => xb b o (fun z => hb (by simp [z])) e
  have hn : es[SetTable.below t.place slot]? = none := by
   by_cases e0 : es.size = 0
   ·exact Cf (by omega)
   ·obtain ⟨j,e1,e2⟩ := z2 e0
    have pz : t.place.size = 1 := by
     simp only [SetTable.fits,Cc,beq_iff_eq] at ft
     omega
    have ej : t.place = #[j] := by
     obtain ⟨j',ej'⟩ := pQ pz
     rw [ej'] at e1
     simp at e1
     rw [ej',e1]
    rw [ej,jS,e2,if_pos (by omega)]
    exact Cf (by omega)
  rw [hn]
  exact q
 self := fun i s Q E st hQ => by
  obtain ⟨⟨slot,z1,z2,hI⟩,hS⟩ := st
  have hT : s.TypeIs (.ref I) "set_iterator" := ⟨_,hI,rfl⟩
  refine wpAny_pyIter_slot hT bW (wpAny_call_entry bW hT dq ?_ (d6 _))
  show wpAny _ _ (ret (.ref I)) _ _ s
  exact wpAny_pure ⟨_,rfl,"set_iterator",_,hT,aT.lookup,hQ⟩
end
section
variable {prog : Program} {w : World} {A : Around} {E : Value -> Shared -> Prop} {s : Shared}
theorem ow {I S T : Addr} {es : Array (Int × Value)} {ep i j : Nat} {t : SetTable} {e : Int × Value} {ys : List Nat} {Q : Option Value -> Shared -> Prop} (hI : s.heap.get? I = some (ou (.ref T) i S es.size ep)) (hS : cL s.heap S es ep t)
  (hT : s.heap.get? T = some { cls := .type "tuple",data := .seq (ys.map fun (i : Nat) => rawInt i).toArray }) (hj : ys[i]? = some j) (he : es[j]? = some e)
  (h : ∀ h',h'.get? I = some (ou (.ref T) (i + 1) S es.size ep) -> Heap.SameBut I s.heap h' -> Q (some e.2) { s with heap := h' }) : wpAny (model prog w) A (pyNext (.ref I)) Q E s := by
 have hT' : s.TypeIs (.ref I) "set_iterator" := ⟨_,hI,rfl⟩
 unfold pyNext
 refine wpAny_bind (wpAny_attempt (wpAny_callSpecial?_slot (name := Str.ofString "__next__") hT' aT (wpAny_call_entry aT hT' cB ?_ (cZ _))))
 unfold Builtin.«set_iterator.__next__»
 refine wpAny_bind (m := slotArgs _ _ _) ?_
 show wpAny _ _ (pure (Value.ref I,[])) _ _ s
 refine wpAny_pure ?_
 refine wpAny_bind (wpAny_fieldsOf hI rfl ?_)
 show wpAny _ _ (setEntries S >>= _) _ _ s
 refine wpAny_bind (cC hS ?_)
 rw [if_neg (by simp)]
 show wpAny _ _ (seqItems? (.ref T) >>= _) _ _ s
 refine wpAny_bind (wpAny_seqItems hT rfl ?_)
 have hp : ((ys.map fun (i : Nat) => rawInt i).toArray)[(i : Int).toNat]? = some (.int (j : Int) 0) := by
  simp [hj,rawInt]
 dsimp only
 rw [hp]
 dsimp only
 unfold setNextDrawn
 refine wpAny_bind (wpAny_bind (df hS ?_))
 dsimp only
 rw [if_neg (by simp)]
 simp only [CT,he]
 refine wpAny_pure ?_
 refine wpAny_bind (wpAny_setField_rec (vs := #[.ref T,.int i 0,.ref S,.int es.size 0,.int ep 0]) hI (by simp) fun h1 e1 s1 => ?_)
 exact wpAny_pure ⟨_,rfl,wpAny_pure (h h1 (by simpa [ou,rawInt] using e1) s1)⟩
theorem oz {I S T : Addr} {es : Array (Int × Value)} {ep i : Nat} {t : SetTable} {ys : List Nat} {Q : Option Value -> Shared -> Prop} (hh : A.handled = none) (hI : s.heap.get? I = some (ou (.ref T) i S es.size ep)) (hS : cL s.heap S es ep t)
  (hT : s.heap.get? T = some { cls := .type "tuple",data := .seq (ys.map fun (i : Nat) => rawInt i).toArray }) (hj : ys[i]? = none)
  (h : ∀ h',Heap.ExtBut I s.heap h' -> Q none { s with heap := h' }) : wpAny (model prog w) A (pyNext (.ref I)) Q E s := by
 have hT' : s.TypeIs (.ref I) "set_iterator" := ⟨_,hI,rfl⟩
 unfold pyNext
 refine wpAny_bind (wpAny_attempt (wpAny_callSpecial?_slot (name := Str.ofString "__next__") hT' aT (wpAny_call_entry aT hT' cB ?_ (cZ _))))
 unfold Builtin.«set_iterator.__next__»
 refine wpAny_bind (m := slotArgs _ _ _) ?_
 show wpAny _ _ (pure (Value.ref I,[])) _ _ s
 refine wpAny_pure ?_
 refine wpAny_bind (wpAny_fieldsOf hI rfl ?_)
 show wpAny _ _ (setEntries S >>= _) _ _ s
 refine wpAny_bind (cC hS ?_)
 rw [if_neg (by simp)]
 show wpAny _ _ (seqItems? (.ref T) >>= _) _ _ s
 refine wpAny_bind (wpAny_seqItems hT rfl ?_)
 have hp : ((ys.map fun (i : Nat) => rawInt i).toArray)[(i : Int).toNat]? = none := by
  have := List.getElem?_eq_none_iff.mp hj
  simpa using this
 dsimp only
 rw [hp]
 dsimp only
 refine wpAny_bind (wpAny_setField_rec (vs := #[.ref T,.int i 0,.ref S,.int es.size 0,.int ep 0]) hI (by simp) fun h1 e1 s1 => ?_)
 refine wpAny_bind (wpAny_setField_rec (s := { s with heap := h1 }) e1 (by simp) fun h2 e2 s2 => ?_)
 show wpAny _ _ (newExc (.type "StopIteration") [] >>= _) _ _ _
 refine wpAny_bind ?_
 simp only [newExc,newTuple]
 refine wpAny_bind (wpAny_newObj_type ?_ (by size_fits))
 refine wpAny_bind (m := firstArgMember _ _) (wpAny_of_eq (a := Value.none) (by first | rfl | (simp only [firstArgMember]; rfl)) ?_)
 refine wpAny_newObj_type ?_ (by size_fits)
 simp only [raiseNew]
 refine wpAny_bind (wpAny_handled ?_)
 rw [show A.in1.handled = none from hh]
 refine wpAny_bind (wpAny_pure (wpAny_throw ?_))
 refine wpAny_bind (wpAny_isInstance (T := "StopIteration") (b := true) ⟨_,Heap.get?_push_size _ rfl,rfl⟩ isSubtype_stop ?_)
 exact wpAny_pure (h _ (((s1.trans s2).extBut.push _).push _))
theorem qX (hh : A.handled = none) (I S T : Addr) (ne : S ≠ I) (nT : T ≠ I) (es : Array (Int × Value)) (ep : Nat) (t : SetTable) (ys : List Nat) (hy : ys.Perm (Cs es.size)) :
  Walks prog w A I [I,S,T] [I] es.size (fun i v => ∃ j e,ys[i]? = some j /\ es[j]? = some e /\ v = e.2)
   (fun i h => h.get? I = some (ou (.ref T) i S es.size ep) /\ cL h S es ep t /\ h.get? T = some { cls := .type "tuple",data := .seq (ys.map fun (i : Nat) => rawInt i).toArray }) where
 sub := fun b hb => by simp at hb; simp [hb]
 frame := fun _ _ _ st hk => ⟨hk I (by simp) _ st.1,st.2.1.at fun o e => hk S (by simp) o e,hk T (by simp) _ st.2.2⟩
 item := fun i s Q E hi st hQ => by
  have hl : ys.length = es.size := by rw [hy.length_eq,List.length_range]
  obtain ⟨j,hj⟩ : ∃ j,ys[i]? = some j := ⟨_,BG (by rw [hl]; exact hi)⟩
  have jl : j < es.size := List.mem_range.mp (hy.mem_iff.mp (BI hj))
  obtain ⟨e,he⟩ : ∃ e,es[j]? = some e := ⟨_,C2 jl⟩
  refine ow st.1 st.2.1 st.2.2 hj he fun h' e' sb => ?_
  exact hQ _ h' s.toks ⟨j,e,hj,he,rfl⟩ ⟨e',st.2.1.at fun o e => (sb.2 S ne).trans e,(sb.2 T nT).trans st.2.2⟩ fun b o hb e => (sb.2 b fun z => hb (by simp [z])).trans e
 done := fun s Q E st hQ => by
  have hl : ys.length = es.size := by rw [hy.length_eq,List.length_range]
  exact oz hh st.1 st.2.1 st.2.2 (CP (by omega)) fun h' xb => hQ h' s.toks fun b o hb e => xb b o (fun z => hb (by simp [z])) e
 self := fun i s Q E st hQ => by
  have hT : s.TypeIs (.ref I) "set_iterator" := ⟨_,st.1,rfl⟩
  refine wpAny_pyIter_slot hT bW (wpAny_call_entry bW hT dq ?_ (d6 _))
  show wpAny _ _ (ret (.ref I)) _ _ s
  exact wpAny_pure ⟨_,rfl,"set_iterator",_,hT,aT.lookup,hQ⟩
end
open So
theorem ar.drew {X : Cx} {pins : List (Addr × Obj)} {σ : List (Option V)} {H : Hp} {s : Shared} {d : Drawn} (I : ar X pins σ H s) : ar X pins σ H { s with drawn := d } :=
 ⟨I.ok,I.os,I.bare,I.base,I.loc,I.cell,I.free,I.freeC,I.pin,I.hok,I.len⟩
theorem iZ {prog : Program} {w : World} {es : List (Int × Value)} (te : ∀ e ∈ es,xq prog w e) {acc : List Value} (hl : acc.length = es.length) (h : ∀ (j : Nat) (v : Value),acc[j]? = some v -> ∃ e,es[j]? = some e /\ v = e.2) : StrsAre acc (es.map fun e => strOf e.2) :=
 kM (by rw [hl,B2]) fun j v hv => by
  obtain ⟨e,he,rfl⟩ := h j v hv
  obtain ⟨y,t,rfl⟩ := te e (BI he)
  exact ⟨y,t,by rw [BM,he]; rfl,rfl⟩
section
variable {prog : Program} {w : World} {A : Around} {E : Value -> Shared -> Prop} {s : Shared}
theorem tu {r : Addr} {Q : Bool -> Shared -> Prop} (hT : s.TypeIs (.ref r) "set") (h : Q false s) : wpAny (model prog w) A (Builtin.List.listLengthHint (.ref r)) Q E s := by
 unfold Builtin.List.listLengthHint
 refine wpAny_bind (wpAny_specialOf hT PySem.F.slot_set_len.lookup ?_)
 generalize hid : ("set.__len__" : String) = id0
 wp_delta
 rw [show splitId id0 = some ("set","__len__") from by subst hid; decide +kernel]
 subst hid
 refine wpAny_bind (wpAny_isInstance (T := "set") (b := true) hT (by rw [isSubtype_type]; kernel_rfl) ?_)
 refine wpAny_ite_split (fun hab => absurd hab (by decide)) (fun _ => ?_)
 refine wpAny_ite_split (fun _ => ?_) (fun hab => absurd (by decide +kernel) hab)
 refine wpAny_bind (wpAny_typeOf hT ?_)
 exact wpAny_pure h
theorem u4 {a : Addr} {ys : List Str} {Q : Value -> Shared -> Prop} (hh : A.handled = none) (hS : mZ prog w s.heap a ys)
  (h : ∀ (s1 : Shared) (I : Addr) (fp : List Addr) (n : Nat) (P : Nat -> Value -> Prop) (St : Nat -> Heap -> Prop),Walks prog w A I fp [I] n P St -> St 0 s1.heap -> s.heap.objs.size <= I -> I ∈ fp -> (∀ b ∈ fp,b = a ∨ s.heap.objs.size <= b) -> n <= sizeLine ->
   (∀ b o,s.heap.get? b = some o -> s1.heap.get? b = some o) -> (∃ d,s1 = { s with heap := s1.heap,drawn := d }) -> (∀ acc : Array Value,PySem.ItemsOf P acc n -> ∃ zs : List Str,zs.Perm ys /\ StrsAre acc.toList zs) -> Q (.ref I) s1) :
  wpAny (model prog w) A (pyIter (.ref a)) Q E s := by
 obtain ⟨o,es,ep,t,ho,hex,hd,te,pm,hb,hf,ld,pl⟩ := hS
 have SA : cL s.heap a es ep t := ⟨o,ho,hex,hd,hf⟩
 have al := Heap.lt_size ho
 have nz : es.size <= sizeLine := fits_of_scanBound hb
 refine tm SA nz (fun c => ?_) fun c zs d hz => ?_
 ·cases hb' : w.params.followText "set-order" with
  | true =>
   refine h _ s.heap.objs.size _ _ _ _ (qW hh hb' s.heap.objs.size a (BA al) es ep t) ⟨Heap.get?_push_size _ rfl,SA.at fun o e => Heap.get?_push_of_some _ e⟩ (B3 _) (by simp) (by simp) nz (fun b o e => Heap.get?_push_of_some _ e) ⟨s.drawn,rfl⟩ fun acc ha => ?_
   have pp := iY (w.params.setOrder a ep) es
   refine ⟨_,(pp.map fun e => strOf e.2).trans pm,iZ (fun e he => te e (pp.mem_iff.mp he)) (by rw [BF,ha.1,pp.length_eq,BF]) fun j v hv => ha.2 j v (by rw [<- BU]; exact hv)⟩
  | false =>
   have few : es.size <= 1 := by
    rcases Nat.lt_or_ge 1 es.size with q | q
    ·rw [hb',pl (by omega)] at c
     simp at c
     omega
    ·exact q
   refine h _ s.heap.objs.size _ _ _ _ (tq hh hb' s.heap.objs.size a (BA al) es ep t few (ld hb') hf) ⟨⟨0,fun _ => rfl,fun z => absurd rfl z,Heap.get?_push_size _ rfl⟩,SA.at fun o e => Heap.get?_push_of_some _ e⟩ (B3 _) (by simp) (by simp) nz (fun b o e => Heap.get?_push_of_some _ e) ⟨s.drawn,rfl⟩ fun acc ha => ?_
   exact ⟨_,pm,iZ te (by rw [BF,ha.1,BF]) fun j v hv => ha.2 j v (by rw [<- BU]; exact hv)⟩
 ·have e1 : (s.heap.push { cls := .type "tuple",data := .seq (zs.map fun (i : Nat) => rawInt i).toArray }).objs.size = s.heap.objs.size + 1 := Heap.size_push ..
  refine h _ (s.heap.objs.size + 1) _ _ _ _ (qX hh (s.heap.objs.size + 1) a s.heap.objs.size (BA (CN al)) (BA (Nat.lt_succ_self _)) es ep t zs hz)
   ⟨(show ((s.heap.push _).push (ou (.ref s.heap.objs.size) 0 a es.size ep)).get? (s.heap.objs.size + 1) = _ from e1 ▸ Heap.get?_push_size (s.heap.push { cls := .type "tuple",data := .seq (zs.map fun (i : Nat) => rawInt i).toArray }) (o := ou (.ref s.heap.objs.size) 0 a es.size ep) rfl),SA.at fun o e => Heap.get?_push_of_some _ (Heap.get?_push_of_some _ e),Heap.get?_push_of_some _ (Heap.get?_push_size _ rfl)⟩ (Nat.le_succ _) (by simp) (fun b hb => by
    simp only [B9,Bw,or_false] at hb
    rcases hb with rfl | rfl | rfl
    ·exact .inr (Nat.le_succ _)
    ·exact .inl rfl
    ·exact .inr (B3 _)) nz (fun b o e => Heap.get?_push_of_some _ (Heap.get?_push_of_some _ e)) ⟨d,rfl⟩ fun acc ha => ?_
  have hl : zs.length = es.size := by rw [hz.length_eq,List.length_range]
  let es' : List (Int × Value) := zs.map fun j => es.getD j (0,.none)
  have pp : es'.Perm es.toList := by
   refine (hz.map _).trans ?_
   have : (Cs es.size).map (fun j => es.getD j (0,Value.none)) = es.toList := by
    apply List.ext_getElem?
    intro i
    rw [BM,BU (xs := es)]
    rcases Nat.lt_or_ge i es.size with q | q
    ·rw [List.getElem?_range q,C2 q]
     simp [Array.getD,q]
    ·rw [CP (by simpa using q),Cf q]
     rfl
   rw [this]
  refine ⟨_,(pp.map fun e => strOf e.2).trans pm,iZ (fun e he => te e (pp.mem_iff.mp he)) (by rw [BF,ha.1,pp.length_eq,BF]) fun j v hv => ?_⟩
  obtain ⟨k,e,e2,e3,e4⟩ := ha.2 j v (by rw [<- BU]; exact hv)
  refine ⟨e,?_,e4⟩
  show (zs.map _)[j]? = _
  rw [BM,e2]
  simp [Array.getD_eq_getD_getElem?,e3]
theorem qY {a L : Addr} {c : Nat} {ys : List Str} (hh : A.handled = none) (hS : mZ prog w s.heap a ys) (hL : s.heap.get? L = some { cls := .type "list",data := .seq #[] c }) (ne : L ≠ a) {RR : Result -> Shared -> Prop}
  (hR : ∀ (h' : Heap) (tk : Nat) (d : Drawn) (acc : Array Value) (c : Nat) (zs : List Str),(∀ b o,b ≠ L -> s.heap.get? b = some o -> h'.get? b = some o) -> h'.get? L = some { cls := .type "list",dict := none,data := .seq acc c,slots := #[] } -> zs.Perm ys -> StrsAre acc.toList zs -> RR (.ok (.ret (.ref L))) { s with heap := h',drawn := d,toks := tk }) :
  wpAny (model prog w) A.in1 (Builtin.List.listExtendWith (.ref L) (.ref a) (.ref L))
   (fun fin s' => match fin with | .done f => RR (.ok f) s' | .again c' => c'.quiet = true /\ codeAny (model prog w) A c' RR s') (fun e s' => RR (.error e) s') s := by
 have Ll : L < s.heap.objs.size := Heap.lt_size hL
 have tyS : ∀ {s' : Shared},mZ prog w s'.heap a ys -> s'.TypeIs (.ref a) "set" := fun ⟨o,_,_,_,ho,hex,_⟩ => ⟨o,ho,hex.1⟩
 unfold Builtin.List.listExtendWith
 refine wpAny_bind (wpAny_typeOf (T := "set") (tyS hS) ?_)
 have h1 : Builtin.List.listSameRef (.ref L) (.ref a) = false := by simp [Builtin.List.listSameRef,ne]
 simp only [h1,show (Value.type "set" == Value.type "list") = false by decide,show (Value.type "set" == Value.type "tuple") = false by decide,Bool.or_false,Cg,if_false]
 refine wpAny_bind (u4 (A := A.in1) hh hS fun s1 I fp n P St W st hI hIf hfp hn kp hd out => ?_)
 have Lf : L ∉ fp := fun z => (hfp _ z).elim ne fun q => absurd Ll (Nat.not_lt.mpr q)
 obtain ⟨d,es1⟩ := hd
 have hL1 := kp _ _ hL
 have hS2 : mZ prog w s1.heap a ys := let ⟨o,es,ep,t,ho,r⟩ := hS; ⟨o,es,ep,t,kp _ _ ho,r⟩
 refine wpAny_bind (wpAny_holding (tu (tyS hS2) ?_))
 have key : ∀ (hp : Heap) (c₁ tk : Nat),St 0 hp -> (∀ b o,b ≠ L -> s1.heap.get? b = some o -> hp.get? b = some o) -> hp.get? L = some { cls := .type "list",data := .seq #[] c₁ } ->
   codeAny (model prog w) A (.builtin "list.extend.loop" ⟨[.ref L,.ref I,.ref L],[]⟩) RR { s1 with heap := hp,toks := tk } := by
  intro hp c₁ tk hst hk hLp
  refine codeAny_extend_loopS W.toS hn L Lf (.ref L) n 0 _ #[] c₁ rfl (BY _) hst hLp (ItemsOf.nil _) fun s' acc' c' hm hS' hacc => ?_
  obtain ⟨zs,z1,z2⟩ := out acc' hacc
  have e' := Moved.eq_with hm
  rw [es1] at e'
  rw [e']
  refine hR s'.heap s'.toks d acc' c' zs (fun b o nb e => hm.heap b o (fun hmem => ?_) (hk b o nb (kp b o e))) hS' z1 z2
  rcases B9.mp hmem with q | q
  ·exact nb q
  ·have bl := Heap.lt_size e
   rw [B5.mp q] at bl
   exact absurd bl (Nat.not_lt.mpr hI)
 refine wpAny_ite_split (fun _ => ?_) (fun _ => wpAny_pure ⟨plainId_quiet PySem.F.plain_extend_loop _,key s1.heap c s1.toks st (fun b o _ e => e) hL1⟩)
 refine wpAny_bind (wpAny_rule ?_)
 refine wpAny_bind ?_
 show wpAny _ _ (updateSeq L (·.push .none) >>= fun _ => updateSeq L (·.pop)) _ _ _
 refine wpAny_bind (wpAny_updateSeq hL1 rfl ?_)
 have hS₂ := Heap.get?_update_self (Obj.mapSeq (·.push Value.none)) hL1 rfl
 refine wpAny_updateSeq (hz := by seq_fits) hS₂ rfl ?_
 have hS₃ := Heap.get?_update_self (Obj.mapSeq (·.pop)) hS₂ rfl
 refine wpAny_pure ⟨plainId_quiet PySem.F.plain_extend_loop _,key _ _ _ (W.frame _ _ _ st fun b hb o e => ?_) (fun b o nb e => ?_) hS₃⟩
 ·have nb : b ≠ L := fun z => Lf (z ▸ hb)
  exact (Heap.get?_update_other _ _ (Ne.symm nb)).trans ((Heap.get?_update_other _ _ (Ne.symm nb)).trans e)
 ·exact (Heap.get?_update_other _ _ (Ne.symm nb)).trans ((Heap.get?_update_other _ _ (Ne.symm nb)).trans e)
theorem oA {a : Addr} {ys : List Str} {R : List Value -> Shared -> Prop} (hh : A.handled = none) (hS : mZ prog w s.heap a ys)
  (h : ∀ (h' : Heap) (tk : Nat) (d : Drawn) (acc : List Value) (zs : List Str),s.heap.objs.size < h'.objs.size -> (∀ b o,s.heap.get? b = some o -> h'.get? b = some o) -> zs.Perm ys -> StrsAre acc zs -> R acc { s with heap := h',drawn := d,toks := tk }) :
  wpAny (model prog w) A (collect (.ref a)) R E s := by
 have al : a < s.heap.objs.size := let ⟨o,_,_,_,ho,_⟩ := hS; Heap.lt_size ho
 unfold collect
 refine wpAny_bind (wpAny_runValue (codeAny_builtin entry_proto_collect' ?_))
 rw [Around.under_plainId PySem.F.plain_proto_collect _]
 show wpAny _ A.in1 (newList [] >>= fun l => again (.builtin "list.__iadd__" ⟨[l,.ref a],[]⟩)) _ _ s
 refine wpAny_bind (wpAny_newObj_type (wpAny_pure ⟨plainId_quiet CS _,codeAny_builtin entry_list_iadd' ?_⟩))
 rw [Around.under_plainId CS _]
 have fresh : (s.heap.push { cls := .type "list",data := .seq ([] : List Value).toArray }).get? s.heap.objs.size = some { cls := .type "list",data := .seq #[] } := Heap.get?_push_size _ rfl
 have hS1 : mZ prog w (s.heap.push { cls := .type "list",data := .seq ([] : List Value).toArray }) a ys := let ⟨o,es,ep,t,ho,r⟩ := hS; ⟨o,es,ep,t,Heap.get?_push_of_some _ ho,r⟩
 show wpAny _ A.in1 (Builtin.List.listExtendWith (.ref s.heap.objs.size) (.ref a) (.ref s.heap.objs.size)) _ _ _
 have key := qY (A := A) (s := { s with heap := s.heap.push { cls := .type "list",data := .seq ([] : List Value).toArray } })
  (RR := fun (q : Result) (s' : Shared) => ∃ (h' : Heap) (tk : Nat) (d : Drawn) (acc : Array Value) (c : Nat) (zs : List Str),q = .ok (.ret (.ref s.heap.objs.size)) /\ s' = { s with heap := h',drawn := d,toks := tk } /\ (∀ b o,s.heap.get? b = some o -> h'.get? b = some o) /\ h'.get? s.heap.objs.size = some { cls := .type "list",dict := none,data := .seq acc c,slots := #[] } /\ zs.Perm ys /\ StrsAre acc.toList zs)
  hh hS1 fresh (Ci al) (fun h' tk d acc c zs hk hS' z1 z2 => ⟨h',tk,d,acc,c,zs,rfl,rfl,fun b o e => hk b o (BA (Heap.lt_size e)) (Heap.get?_push_of_some _ e),hS',z1,z2⟩)
 refine wpAny_mono key (fun f s' x => ?_) fun e s' x => ?_
 ·cases f with
  | done f =>
   obtain ⟨h',tk,d,acc,c,zs,e,rfl,hk,hS',z1,z2⟩ := x
   cases e
   show wpAny _ A (load s.heap.objs.size >>= _) _ _ _
   exact wpAny_bind (wpAny_load hS' (wpAny_pure (h h' tk d acc.toList zs (Heap.lt_size hS') hk z1 z2)))
  | again c₁ =>
   refine ⟨x.1,codeAny_mono x.2 fun q s₂ y => ?_⟩
   obtain ⟨h',tk,d,acc,c,zs,rfl,rfl,hk,hS',z1,z2⟩ := y
   show wpAny _ A (load s.heap.objs.size >>= _) _ _ _
   exact wpAny_bind (wpAny_load hS' (wpAny_pure (h h' tk d acc.toList zs (Heap.lt_size hS') hk z1 z2)))
 ·obtain ⟨_,_,_,_,_,_,e',_⟩ := x
  cases e'
end
theorem mR : ∀ {xs : List Str} {us : List Value},aN (xs.map V.str) us -> ∀ (i : Nat) (v : Value),us[i]? = some v -> ∃ (y : Str) (t : Tok),xs[i]? = some y /\ v = Value.str y t
 | [],_,.nil,i,v,h => by simp at h
 | x :: xs,_,.cons r t,0,v,h => by
  simp at h
  subst h
  obtain ⟨k,rfl⟩ := r
  exact ⟨x,k,rfl,rfl⟩
 | x :: xs,_,.cons r t,i + 1,v,h => mR t i v (by simpa using h)
section
variable {X : Cx} {e : Expr} {te : TE} {p1 p2 pos pos2 : Pos}
end
end L2
namespace Sw
open PySem L2 XH PyProof.Rows
def Lt (z : Str) : Prop := ∀ c ∈ sL z,97 <= c /\ c <= 122
theorem Lt.app {x y : Str} (h : Lt x) (k : Lt y) : Lt (x ++ y) := fun c hc => by
 rw [w6] at hc
 rcases BN.mp hc with q | q
 ·exact h c q
 ·exact k c q
theorem Lt.cut {x : Str} (h : Lt x) (lo hi : Option Int) : Lt (cW x lo hi) := fun c hc => by
 have hc' : c ∈ ((sL x).drop (HT.dL x.length 0 lo)).take (HT.dL x.length x.length hi - HT.dL x.length 0 lo) := by simpa [sL,cW] using hc
 exact h c (List.mem_of_mem_drop (List.mem_of_mem_take hc'))
theorem Lt.nil : Lt "" := fun c hc => by
 have : c ∈ ([] : List Nat) := hc
 simp at this
theorem tw {i : Int} (h0 : 0 <= i) (h : i < 26) : ∃ c,gN c7.cps.toList i = some c /\ 97 <= c /\ c <= 122 := by
 obtain ⟨c,hc⟩ := pM h0 h
 refine ⟨c,hc,?_⟩
 have hm : c ∈ c7.cps.toList := by
  unfold gN at hc
  obtain ⟨j,_,hj⟩ := CH.mp hc
  exact BI hj
 have e : c7.cps.toList = (Cs 26).map (97 + ·) := by decide
 rw [e] at hm
 obtain ⟨k,hk,rfl⟩ := BH.mp hm
 have := List.mem_range.mp hk
 omega
theorem Lt.one {c : Nat} (h : 97 <= c /\ c <= 122) : Lt ⟨#[c]⟩ := fun d hd => by
 have : d ∈ [c] := hd
 rw [B5.mp this]
 exact h
theorem f6 {x : Str} {i : Int} (h : 0 <= i) : (cW x none (some i)).length = min i.toNat x.length := by
 have e1 : HT.dL x.length 0 none = 0 := rfl
 have e2 : HT.dL x.length x.length (some i) = min i.toNat x.length := by
  unfold HT.dL
  simp
  omega
 show ((x.cps.toList.drop _).take _).toArray.size = _
 rw [e1,e2,BL,CI,List.length_drop]
 have : x.cps.toList.length = x.length := by simp [Str.length]
 omega
theorem u5 {x : Str} {i : Int} (h : 0 <= i) : (cW x (some i) none).length = x.length - i.toNat := by
 have e1 : HT.dL x.length 0 (some i) = min i.toNat x.length := by
  unfold HT.dL
  simp
  omega
 have e2 : HT.dL x.length x.length none = x.length := rfl
 show ((x.cps.toList.drop _).take _).toArray.size = _
 rw [e1,e2,BL,CI,List.length_drop]
 have : x.cps.toList.length = x.length := by simp [Str.length]
 omega
theorem Lt.nm {z : Str} (h : Lt z) (h1 : 1 <= z.length) (h2 : z.length <= 12) : Nm z := ⟨by rw [iP]; exact h1,by rw [iP]; exact h2,h⟩
theorem d8 {K : B1} {H : Hp} {z : Str} (n : ¬ Nm z) (h : z.length <= 1000000 := by decide) : cO K H (.str z) /\ ¬ fz (.str z) :=
 ⟨.inl ⟨z,rfl,h,n⟩,fun ⟨y,e,q⟩ => by cases e; exact n q⟩
theorem i3 {K : B1} {H : Hp} {v : V} {ty : Value} (h : dC K H v ty) (k : BR K ty (.type "str") = some false) (hv : ∀ z,v ≠ .str z) : cO K H v /\ ¬ fz v :=
 ⟨.inr ⟨ty,h,k⟩,fun ⟨y,e,q⟩ => hv y e⟩
end Sw
namespace Hm
open PySem PySem.SeqAt PySem.MeetsSeq
section
variable {prog : Program} {w : World} {A : Around} {E : Value -> Shared -> Prop} {s : Shared}
end
open PySem.MeetsSeq3
def qZ : List Str -> List Str -> Bool
 | _,[] => false
 | [],_ :: _ => true
 | x :: xs,y :: ys => if x = y then qZ xs ys else decide (x.cps.toList < y.cps.toList)
section
variable {prog : Program} {w : World} {A : Around} {E : Value -> Shared -> Prop} {s : Shared}
end
end Hm
namespace Wo
open PySem Hm So
def rF (x y : Str) : Prop := x.cps.toList < y.cps.toList
instance (x y : Str) : Decidable (rF x y) := inferInstanceAs (Decidable (x.cps.toList < y.cps.toList))
theorem pR {x : Str} : ¬ rF x x := List.lt_irrefl _
theorem rb {x y z : Str} (h1 : rF x y) (h2 : rF y z) : rF x z := List.lt_trans h1 h2
theorem wb {x y : Str} (h : sX x y) (n : x ≠ y) : rF x y := by
 refine Classical.byContradiction fun c => n (mK h ?_)
 exact c
theorem dH (x y : Str) (xs ys : List Str) : qZ (x :: xs) (y :: ys) = if x = y then qZ xs ys else decide (rF x y) := rfl
theorem pS : ∀ (c : List Str),qZ c c = false
 | [] => rfl
 | x :: c => by rw [dH,if_pos rfl]; exact pS c
theorem jT : ∀ {a b c : List Str},qZ a b = true -> qZ b c = true -> qZ a c = true
 | [],[],c,h,_ => by cases h
 | [],_ :: _,[],_,h => by cases h
 | [],_ :: _,_ :: _,_,_ => rfl
 | _ :: _,[],_,h,_ => by cases h
 | _ :: _,_ :: _,[],_,h => by cases h
 | x :: a,y :: b,z :: c,h1,h2 => by
  rw [dH] at h1 h2 ⊢
  by_cases e1 : x = y
  ·subst e1
   rw [if_pos rfl] at h1
   by_cases e2 : x = z
   ·subst e2
    rw [if_pos rfl] at h2 ⊢
    exact jT h1 h2
   ·rw [if_neg e2] at h2 ⊢
    exact h2
  ·rw [if_neg e1] at h1
   have h1 := of_decide_eq_true h1
   by_cases e2 : y = z
   ·subst e2
    rw [if_neg e1]
    exact decide_eq_true h1
   ·rw [if_neg e2] at h2
    have h2 := of_decide_eq_true h2
    have h3 := rb h1 h2
    rw [if_neg (fun e => by subst e; exact pR h3)]
    exact decide_eq_true h3
theorem pT : ∀ {a b : List Str},a.length = b.length -> qZ a b = true -> ∀ x y,qZ (a ++ [x]) (b ++ [y]) = true
 | [],[],_,h,_,_ => by cases h
 | [],_ :: _,e,_,_,_ => by simp at e
 | _ :: _,[],e,_,_,_ => by simp at e
 | u :: a,v :: b,e,h,x,y => by
  rw [List.cons_append,List.cons_append,dH]
  rw [dH] at h
  by_cases c : u = v
  ·rw [if_pos c] at h ⊢
   exact pT (by simpa using e) h x y
  ·rw [if_neg c] at h ⊢
   exact h
theorem mS : ∀ (c : List Str) {x y : Str},rF x y -> qZ (c ++ [x]) (c ++ [y]) = true
 | [],x,y,h => by
  rw [List.nil_append,List.nil_append,dH,if_neg (fun e => by subst e; exact pR h)]
  exact decide_eq_true h
 | u :: c,x,y,h => by
  rw [List.cons_append,List.cons_append,dH,if_pos rfl]
  exact mS c h
def kX (c d : List Str) : Bool := if c.length ≠ d.length then decide (c.length < d.length) else qZ c d
def bU (c d : List Str) : Prop := kX c d = true
theorem eZ {c d : List Str} (h : c.length < d.length) : bU c d := by
 unfold bU kX
 rw [if_pos (by omega)]
 exact decide_eq_true h
theorem fB {c d : List Str} (e : c.length = d.length) (h : qZ c d = true) : bU c d := by
 unfold bU kX
 rw [if_neg (by omega)]
 exact h
theorem eP {c d : List Str} (h : bU c d) : c.length < d.length ∨ c.length = d.length /\ qZ c d = true := by
 unfold bU kX at h
 by_cases e : c.length = d.length
 ·rw [if_neg (by omega)] at h
  exact .inr ⟨e,h⟩
 ·rw [if_pos e] at h
  exact .inl (of_decide_eq_true h)
theorem bU.le {c d : List Str} (h : bU c d) : c.length <= d.length := by rcases eP h with z | z <;> omega
theorem bU.trans {a b c : List Str} (h1 : bU a b) (h2 : bU b c) : bU a c := by
 rcases eP h1 with z | ⟨e,z⟩
 ·exact eZ (by have := h2.le; omega)
 ·rcases eP h2 with y | ⟨f,y⟩
  ·exact eZ (by omega)
  ·exact fB (by omega) (jT z y)
theorem bU.irr {a : List Str} (h : bU a a) : False := by
 rcases eP h with z | ⟨e,z⟩
 ·omega
 ·rw [pS] at z
  cases z
theorem bU.app {c d : List Str} (h : bU c d) (x y : Str) : bU (c ++ [x]) (d ++ [y]) := by
 rcases eP h with z | ⟨e,z⟩
 ·exact eZ (by rw [B8,B8]; simp; exact z)
 ·exact fB (by rw [B8,B8,e]; rfl) (pT e z x y)
theorem i4 (c : List Str) {x y : Str} (h : rF x y) : bU (c ++ [x]) (c ++ [y]) := fB (by rw [B8,B8]; rfl) (mS c h)
def aO (c : List Str) : Str := c.getLastD ""
theorem b8 (c : List Str) (x : Str) : aO (c ++ [x]) = x := by unfold aO; rw [List.getLastD_concat]
structure fD (R : Str -> Str -> Prop) (good : Str) (cs : List (List Str)) (i : Nat) (S : Str -> Prop) : Prop where
 first : cs[0]? = some [good]
 from_ : ∀ (k : Nat) (d : List Str),0 < k -> cs[k]? = some d -> ∃ (j : Nat) (c : List Str) (x : Str),j < k /\ j <= i /\ cs[j]? = some c /\ d = c ++ [x] /\ R (aO c) x /\ (j = i -> S x)
 nd : (cs.map aO).Nodup
 rise : ∀ (k : Nat) (c d : List Str),cs[k]? = some c -> cs[k + 1]? = some d -> bU c d
 shut : ∀ (j : Nat) (c : List Str) (x : Str),j < i -> cs[j]? = some c -> R (aO c) x -> ∃ (k : Nat) (d : List Str),cs[k]? = some d /\ aO d = x /\ ¬ bU (c ++ [x]) d
 now : ∀ (c : List Str) (x : Str),cs[i]? = some c -> S x -> ∃ (k : Nat) (d : List Str),cs[k]? = some d /\ aO d = x /\ ¬ bU (c ++ [x]) d
theorem fD.pair {R : Str -> Str -> Prop} {good : Str} {cs : List (List Str)} {i : Nat} {S : Str -> Prop} (h : fD R good cs i S) : ∀ (n k : Nat) (c d : List Str),cs[k]? = some c -> cs[k + 1 + n]? = some d -> bU c d
 | 0,k,c,d,h1,h2 => h.rise k c d h1 h2
 | n + 1,k,c,d,h1,h2 => by
  have l := (B4.mp h2).1
  have e := BG (show k + 1 + n < cs.length by omega)
  exact (h.pair n k c _ h1 e).trans (h.rise _ _ d e h2)
theorem fD.lt {R : Str -> Str -> Prop} {good : Str} {cs : List (List Str)} {i : Nat} {S : Str -> Prop} (h : fD R good cs i S) {j k : Nat} {c d : List Str} (hj : cs[j]? = some c) (hk : cs[k]? = some d) (l : j < k) : bU c d := by
 obtain ⟨n,rfl⟩ : ∃ n,k = j + 1 + n := ⟨k - j - 1,by omega⟩
 exact h.pair n j c d hj hk
theorem fD.ne {R : Str -> Str -> Prop} {good : Str} {cs : List (List Str)} {i : Nat} {S : Str -> Prop} (h : fD R good cs i S) {k : Nat} {d : List Str} (hk : cs[k]? = some d) : d ≠ [] := by
 rcases CW k with e | e
 ·subst e
  rw [h.first] at hk
  cases hk
  exact nofun
 ·obtain ⟨j,c,x,_,_,_,rfl,_⟩ := h.from_ k d e hk
  simp
theorem fD.long {R : Str -> Str -> Prop} {good : Str} {cs : List (List Str)} {i : Nat} {S : Str -> Prop} (h : fD R good cs i S) : ∀ (k : Nat) (d : List Str),cs[k]? = some d -> d.length <= k + 1 := by
 intro k
 induction k using Nat.strongRecOn with
 | ind k ih =>
  intro d hk
  rcases CW k with e | e
  ·subst e
   rw [h.first] at hk
   cases hk
   exact B3 _
  ·obtain ⟨j,c,x,l,_,hj,rfl,_⟩ := h.from_ k d e hk
   have := ih j l c hj
   rw [B8,BW]
   omega
theorem fD.start {R : Str -> Str -> Prop} {good : Str} : fD R good [[good]] 0 (fun _ => False) where
 first := rfl
 from_ := fun k d k0 hk => by
  rw [CP (by simp; omega)] at hk
  cases hk
 nd := by simp
 rise := fun k c d _ h => by
  rw [CP (by simp)] at h
  cases h
 shut := fun j c x hj => absurd hj (Nat.not_lt_zero _)
 now := fun c x _ h => h.elim
theorem fD.seen {R : Str -> Str -> Prop} {good : Str} {cs : List (List Str)} {i : Nat} {S : Str -> Prop} (h : fD R good cs i S) {x : Str} {c : List Str} (hi : cs[i]? = some c) (hx : x ∈ cs.map aO) : fD R good cs i (fun y => S y ∨ y = x) where
 first := h.first
 from_ := fun k d k0 hk => by
  obtain ⟨j,c,y,a1,a2,a3,a4,a5,a6⟩ := h.from_ k d k0 hk
  exact ⟨j,c,y,a1,a2,a3,a4,a5,fun e => .inl (a6 e)⟩
 nd := h.nd
 rise := h.rise
 shut := h.shut
 now := fun c' y hc hy => by
  rcases hy with hy | rfl
  ·exact h.now c' y hc hy
  ·rw [hi] at hc
   cases hc
   obtain ⟨d,hd,e⟩ := BH.mp hx
   obtain ⟨k,hk⟩ := C5.mp hd
   refine ⟨k,d,hk,e,fun a => ?_⟩
   have c1 := List.length_pos_iff.mpr (h.ne hi)
   rcases CW k with z | z
   ·subst z
    rw [h.first] at hk
    cases hk
    have := a.le
    rw [B8,BW,BW] at this
    omega
   ·obtain ⟨j,b,u,_,ji,hj,rfl,_⟩ := h.from_ k d z hk
    rw [b8] at e
    subst e
    rcases Nat.lt_or_eq_of_le ji with l | rfl
    ·exact (a.trans ((h.lt hj hi l).app u u)).irr
    ·rw [hi] at hj
     cases hj
     exact a.irr
theorem fD.more {R : Str -> Str -> Prop} {good : Str} {cs : List (List Str)} {i : Nat} {S : Str -> Prop} (h : fD R good cs i S) {x : Str} {c : List Str} (hi : cs[i]? = some c) (hx : x ∉ cs.map aO) (r : R (aO c) x) (hS : ∀ y,S y -> y ≠ x -> rF y x) : fD R good (cs ++ [c ++ [x]]) i (fun y => S y ∨ y = x) := by
 have il := (B4.mp hi).1
 have at_ : ∀ {k : Nat} {d : List Str},cs[k]? = some d -> (cs ++ [c ++ [x]])[k]? = some d := fun {k d} e => by
  rw [BB (B4.mp e).1]
  exact e
 have or_ : ∀ {k : Nat} {d : List Str},(cs ++ [c ++ [x]])[k]? = some d -> cs[k]? = some d ∨ (k = cs.length /\ d = c ++ [x]) := fun {k d} e => by
  rcases Nat.lt_or_ge k cs.length with l | l
  ·rw [BB l] at e
   exact .inl e
  ·have kl := (B4.mp e).1
   rw [B8,BW] at kl
   have : k = cs.length := by omega
   subst this
   rw [BX (B3 _),Nat.sub_self] at e
   cases e
   exact .inr ⟨rfl,rfl⟩
 have c1 := List.length_pos_iff.mpr (h.ne hi)
 refine ⟨at_ h.first,fun k d k0 hk => ?_,?_,fun k b d h1 h2 => ?_,fun j b y hj hb hr => ?_,fun b y hb hy => ?_⟩
 ·rcases or_ hk with hk | ⟨rfl,rfl⟩
  ·obtain ⟨j,b,y,a1,a2,a3,a4,a5,a6⟩ := h.from_ k d k0 hk
   exact ⟨j,b,y,a1,a2,at_ a3,a4,a5,fun e => .inl (a6 e)⟩
  ·exact ⟨i,c,x,il,B3 _,at_ hi,rfl,r,fun _ => .inr rfl⟩
 ·rw [Bv,List.map_singleton,b8,Ck]
  refine ⟨h.nd,by simp,fun a ha b hb => ?_⟩
  rw [B5.mp hb]
  intro z
  subst z
  exact hx ha
 ·rcases or_ h2 with h2' | ⟨e,rfl⟩
  ·have kl := (B4.mp h2').1
   rw [BB (by omega)] at h1
   exact h.rise k b d h1 h2'
  ·rw [BB (by omega)] at h1
   rcases CW k with z | z
   ·subst z
    rw [h.first] at h1
    cases h1
    refine eZ ?_
    rw [B8,BW,BW]
    omega
   ·obtain ⟨j,b',u,_,ji,hj,rfl,_,hu⟩ := h.from_ k b z h1
    rcases Nat.lt_or_eq_of_le ji with l | rfl
    ·exact (h.lt hj hi l).app u x
    ·rw [hi] at hj
     cases hj
     refine i4 c (hS u (hu rfl) fun z => hx ?_)
     subst z
     exact BH.mpr ⟨_,BI h1,b8 _ _⟩
 ·have bl : j < cs.length := by omega
  rw [BB bl] at hb
  obtain ⟨k,d,a1,a2⟩ := h.shut j b y hj hb hr
  exact ⟨k,d,at_ a1,a2⟩
 ·rw [BB il,hi] at hb
  cases hb
  rcases hy with hy | rfl
  ·obtain ⟨k,d,a1,a2⟩ := h.now c y hi hy
   exact ⟨k,d,at_ a1,a2⟩
  ·refine ⟨cs.length,c ++ [y],?_,b8 _ _,fun a => a.irr⟩
   rw [BX (B3 _),Nat.sub_self]
   rfl
theorem fD.next {R : Str -> Str -> Prop} {good : Str} {cs : List (List Str)} {i : Nat} {S : Str -> Prop} (h : fD R good cs i S) {c : List Str} (hi : cs[i]? = some c) (all : ∀ y,R (aO c) y -> S y) : fD R good cs (i + 1) (fun _ => False) where
 first := h.first
 from_ := fun k d k0 hk => by
  obtain ⟨j,b,y,a1,a2,a3,a4,a5,_⟩ := h.from_ k d k0 hk
  exact ⟨j,b,y,a1,by omega,a3,a4,a5,fun e => absurd e (by omega)⟩
 nd := h.nd
 rise := h.rise
 shut := fun j b x hj hb hr => by
  rcases Cb.mp hj with l | rfl
  ·exact h.shut j b x l hb hr
  ·rw [hi] at hb
   cases hb
   exact h.now _ x hi (all x hr)
 now := fun _ _ _ z => z.elim
theorem cK : ∀ {l m : List Str},l.Nodup -> (∀ x ∈ l,x ∈ m) -> l.length <= m.length
 | [],m,_,_ => BY _
 | x :: l,m,nd,sub => by
  have hx := sub x C8
  have nd' := Bx.mp nd
  have := cK (m := m.erase x) nd'.2 fun y hy => (List.mem_erase_of_ne (a := y) (b := x) (fun e => nd'.1 (by rw [<- e]; exact hy))).mpr (sub y (BV _ hy))
  rw [List.length_erase_of_mem hx] at this
  have p := List.length_pos_of_mem hx
  rw [Bz]
  omega
theorem fD.few {R : Str -> Str -> Prop} {good : Str} {cs : List (List Str)} {i : Nat} {S : Str -> Prop} (h : fD R good cs i S) {U : List Str} (hU : ∀ x y,R x y -> y ∈ U) : cs.length <= U.length + 1 := by
 have := cK (m := good :: U) h.nd fun x hx => by
  obtain ⟨d,hd,e⟩ := BH.mp hx
  obtain ⟨k,hk⟩ := C5.mp hd
  rcases CW k with z | z
  ·subst z
   rw [h.first] at hk
   cases hk
   rw [<- e]
   exact C8
  ·obtain ⟨j,c,y,_,_,_,rfl,r,_⟩ := h.from_ k d z hk
   rw [b8] at e
   subst e
   exact BV _ (hU _ _ r)
 rw [B2] at this
 exact this
end Wo
namespace L2
open PySem PySem.Spec PyProof.Rows XH
section
variable {prog : Program} {w : World} {A : Around} {E : Value -> Shared -> Prop} {s : Shared}
def u6 (h : Heap) (d : Addr) (es : Array DictEntry) (ep : Nat) : Prop := ∃ o,h.get? d = some o /\ o.ExactDict /\ o.data = .dict es ep
theorem tz {d : Addr} {es : Array DictEntry} {ep : Nat} {Q : Value -> Shared -> Prop} (hd : (d == sysModules) = false) (hm : u6 s.heap d es ep)
  (hQ : Q (.ref s.heap.objs.size) { s with heap := s.heap.push { cls := .type "dict_keyiterator",data := .fields #[.ref d,.int 0 0,.int es.size 0,.int ep 0] } }) :
  wpAny (model prog w) A (pyIter (.ref d)) Q E s := by
 obtain ⟨o,ho,hc,hdat⟩ := hm
 have hT : s.TypeIs (.ref d) "dict" := ⟨o,ho,hc.1⟩
 refine wpAny_pyIter_slot hT F.slot_dict_iter (wpAny_call_entry F.slot_dict_iter hT F.entry_dict_iter (wpAny_bind (wpAny_bind (wpAny_notOrdered_dict hT (wpAny_pure ?_)))) (F.args_dict_iter_1 _))
 refine (show wpAny _ _ (Builtin.Dict.showsAll d >>= _) _ _ s from ?_)
 have sh : Builtin.Dict.showsAll d = pure () := by unfold Builtin.Dict.showsAll; rw [hd]; rfl
 rw [sh]
 refine wpAny_bind (wpAny_pure (wpAny_bind (wpAny_dictEntries ho hdat (wpAny_bind (wpAny_dictEpoch ho hdat (wpAny_bind (wpAny_newObj_type (wpAny_pure ⟨_,rfl,"dict_keyiterator",_,⟨_,Heap.get?_push_size _ rfl,rfl⟩,F.slot_dict_keyiterator_next.lookup,?_⟩))))))))
 simpa [rawInt] using hQ
theorem tD {it d : Addr} {i ep : Nat} {es : Array DictEntry} {Q : Option Value -> Shared -> Prop} (hi : i < es.size) (hit : s.heap.IsKeyIter it d i es.size ep) (hm : u6 s.heap d es ep)
  (hQ : ∀ h',h'.IsKeyIter it d (i + 1) es.size ep -> Heap.SameBut it s.heap h' -> Q (some es[i].key) { s with heap := h' }) : wpAny (model prog w) A (pyNext (.ref it)) Q E s := by
 obtain ⟨o,ho,hc,hd⟩ := id hit
 obtain ⟨od,hod,hcd,hdd⟩ := hm
 have ty := hit.typeIs
 unfold pyNext
 refine wpAny_bind (wpAny_attempt (wpAny_callSpecial?_slot (name := Str.ofString "__next__") ty F.slot_dict_keyiterator_next (wpAny_call_entry F.slot_dict_keyiterator_next ty F.entry_dict_keyiterator_next ?_ (F.args_dict_keyiterator_next_1 _))))
 refine wpAny_bind (wpAny_pure (wpAny_bind (wpAny_bind ?_)))
 refine wpAny_bind (wpAny_typeNameOfWhole_keyiter ty (wpAny_pure (wpAny_bind (wpAny_fieldsOf ho hd ?_))))
 have own : Builtin.Dict_items.ownsTuple "dict_keyiterator" = false := by decide
 rw [own]
 refine (show wpAny _ _ (if (Value.ref d == Value.none) = true then _ else _) _ _ s from ?_)
 rw [if_neg (BE : ¬ ((Value.ref d == Value.none) = true))]
 refine wpAny_bind (wpAny_pure (wpAny_bind (wpAny_dictEntries hod hdd ?_)))
 rw [if_neg (by simp)]
 refine wpAny_bind (wpAny_pure (wpAny_bind (wpAny_dictEpoch hod hdd ?_)))
 rw [if_neg (by simp)]
 refine wpAny_pure ?_
 have n0 : ¬ ((i : Int) < 0) := by omega
 simp only [n0,if_false,CT,C2 hi]
 refine wpAny_bind (wpAny_bind (wpAny_typeNameOfWhole_keyiter ty (wpAny_pure (wpAny_bind (wpAny_isOneOf_keyiter ty ?_)))))
 refine (show wpAny _ _ (setField (.ref it) 1 (rawInt ((i : Int) + 1)) >>= _) _ _ s from wpAny_bind (wpAny_setField ho hd (by simp) ?_))
 have hit' : (s.heap.update it (Obj.mapFields (·.setIfInBounds 1 (rawInt ((i : Int) + 1))))).IsKeyIter it d (i + 1) es.size ep := ⟨_,Heap.get?_update_self _ ho (Obj.isFreed_of_fields (Obj.data_mapFields hd _)),(Obj.cls_mapFields ..).trans hc,by rw [Obj.data_mapFields hd]; simp [rawInt]⟩
 refine wpAny_bind (wpAny_holding (wpAny_bind (wpAny_isOneOf_keyiter (s := { s with heap := s.heap.update it _ }) hit'.typeIs ?_)))
 exact (show wpAny _ _ (pure es[i].key) _ _ _ from wpAny_pure (wpAny_pure ⟨_,rfl,wpAny_pure (hQ _ hit' (Heap.SameBut.update ..))⟩))
theorem u7 {it d : Addr} {ep : Nat} {es : Array DictEntry} {Q : Option Value -> Shared -> Prop} (hh : A.handled = none) (hit : s.heap.IsKeyIter it d es.size es.size ep) (hm : u6 s.heap d es ep)
  (hQ : ∀ h',Heap.ExtBut it s.heap h' -> Q none { s with heap := h' }) : wpAny (model prog w) A (pyNext (.ref it)) Q E s := by
 obtain ⟨o,ho,hc,hd⟩ := id hit
 obtain ⟨od,hod,hcd,hdd⟩ := hm
 have ty := hit.typeIs
 unfold pyNext
 refine wpAny_bind (wpAny_attempt (wpAny_callSpecial?_slot (name := Str.ofString "__next__") ty F.slot_dict_keyiterator_next (wpAny_call_entry F.slot_dict_keyiterator_next ty F.entry_dict_keyiterator_next ?_ (F.args_dict_keyiterator_next_1 _))))
 refine wpAny_bind (wpAny_pure (wpAny_bind (wpAny_bind ?_)))
 refine wpAny_bind (wpAny_typeNameOfWhole_keyiter ty (wpAny_pure (wpAny_bind (wpAny_fieldsOf ho hd ?_))))
 have own : Builtin.Dict_items.ownsTuple "dict_keyiterator" = false := by decide
 rw [own]
 refine (show wpAny _ _ (if (Value.ref d == Value.none) = true then _ else _) _ _ s from ?_)
 rw [if_neg (BE : ¬ ((Value.ref d == Value.none) = true))]
 refine wpAny_bind (wpAny_pure (wpAny_bind (wpAny_dictEntries hod hdd ?_)))
 rw [if_neg (by simp)]
 refine wpAny_bind (wpAny_pure (wpAny_bind (wpAny_dictEpoch hod hdd ?_)))
 rw [if_neg (by simp)]
 refine wpAny_pure ?_
 have n0 : ¬ ((es.size : Int) < 0) := by omega
 simp only [n0,if_false,CT,Cf (B3 _)]
 refine wpAny_bind (wpAny_bind (wpAny_typeNameOfWhole_keyiter ty (wpAny_pure ?_)))
 refine (show wpAny _ _ (setField (.ref it) 0 .none >>= _) _ _ s from wpAny_bind (wpAny_setField ho hd (by simp) ?_))
 refine (show wpAny _ _ (newExc (.type "StopIteration") [] >>= _) _ _ _ from wpAny_bind ?_)
 simp only [newExc,newTuple]
 refine wpAny_bind (wpAny_newObj_type ?_ (by size_fits))
 refine wpAny_bind (m := firstArgMember _ _) (wpAny_of_eq (a := Value.none) (by first | rfl | (simp only [firstArgMember]; rfl)) ?_)
 refine wpAny_newObj_type ?_ (by size_fits)
 simp only [raiseNew]
 refine wpAny_bind (wpAny_handled ?_)
 have hn : A.in1.handled = none := hh
 rw [hn]
 refine wpAny_bind (wpAny_pure (wpAny_throw ?_))
 refine wpAny_bind (wpAny_isInstance (T := "StopIteration") (b := true) ⟨_,Heap.get?_push_size _ rfl,rfl⟩ isSubtype_stop ?_)
 exact wpAny_pure (hQ _ (((Heap.SameBut.update ..).extBut.push _).push _))
end
def u8 (a : Addr) (o : Obj) (kvs : List (List Key × V)) : It :=
 ⟨fun i H => H a = some (.frz o (.dT kvs)) /\ i < kvs.length,fun i H v H' => H' = H /\ ∃ k x b,kvs[i]? = some (k,x) /\ v = .ref b /\ H b = some (.tup (k.map kV)),fun i H => H a = some (.frz o (.dT kvs)) /\ i = kvs.length⟩
theorem i5 {α β : Type} {R : α -> β -> Prop} : ∀ {xs : List α} {ys : List β},Paired R xs ys -> ∀ (i : Nat) {x : α},xs[i]? = some x -> ∃ y,ys[i]? = some y /\ R x y
 | _,_,.nil,i,x,h => nomatch h
 | _,_,.cons r t,0,x,h => by cases h; exact ⟨_,rfl,r⟩
 | _,_,.cons r t,i + 1,x,h => i5 t i (by simpa using h)
theorem jU {X : Cx} {pins : List (Addr × Obj)} {σ : St} {H : Hp} {s : Shared} {a : Addr} {o : Obj} {kvs : List (List Key × V)} {es : Array DictEntry} {ep : Nat} (I : ar X pins σ H s) (h : H a = some (.frz o (.dT kvs))) (hd : o.data = .dict es ep) :
  u6 s.heap a es ep /\ es.size = kvs.length /\ ∀ (i : Nat) (k : List Key) (x : V),kvs[i]? = some (k,x) -> ∃ (b : Addr) (e : DictEntry),es[i]? = some e /\ e.key = Value.ref b /\ H b = some (.tup (k.map kV)) := by
 obtain ⟨ho,z,y,xs,rel,ob,es',ep',e,c,d,l,_⟩ := (show aR X.prog X.w H s.heap a (.frz o (.dT kvs)) from I.hok a _ h)
 rw [ho] at e
 cases e
 rw [hd] at d
 cases d
 refine ⟨⟨o,ho,c,hd⟩,?_,fun i k x hk => ?_⟩
 ·rw [<- BF,l,B2,rel.length]
 ·obtain ⟨q,hq,q1,q2,_⟩ := i5 rel i hk
  refine ⟨q.2.1,entryOfKey (tupleKind (az X.prog X.w)) q,?_,rfl,q2⟩
  rw [<- BU,l,BM,hq]
  rfl
theorem oB {P : Program} {w : World} {K : B1} {tg : Expr} (it a : Addr) (o : Obj) (kvs : List (List Key × V)) {es0 : Array DictEntry} {ep : Nat} (hd : o.data = .dict es0 ep) : Turn P w K tg (u8 a o kvs) [it] it (fun i h => h.IsKeyIter it a i kvs.length ep) where
 mem := by simp
 obj := fun i h st b hb => by
  have e : b = it := by simpa using hb
  subst e
  obtain ⟨o,e,c,d⟩ := st
  exact ⟨o,e,fun v z => by rw [d] at z; cases z⟩
 keep := fun i h h' st k => by
  obtain ⟨o,e,c,d⟩ := st
  exact ⟨o,k it (by simp) o e,c,d⟩
 item := by
  intro X hP hw hK hc i pins s σ H E I hf st hg
  subst hP hw hK
  obtain ⟨f0,f1,f2,f3,f4,f5⟩ := hf it (by simp)
  obtain ⟨hz,hlt⟩ := hg
  obtain ⟨D,sz,at_⟩ := jU I hz hd
  obtain ⟨⟨k,x⟩,hx⟩ : ∃ p,kvs[i]? = some p := ⟨kvs[i],BG hlt⟩
  obtain ⟨b,e,he,ek,hb⟩ := at_ i k x hx
  rw [<- sz] at st
  have il : i < es0.size := by omega
  refine tD il st D fun h' hit' hs' => ?_
  rw [sz] at hit'
  have I1 : ar X pins σ H { s with heap := h',toks := s.toks } := I.turned (fun b ob hb e => hs'.extBut b ob hb e) f0 f1 f3 f4 f5
  obtain ⟨oi,ei,ci,di⟩ := id hit'
  have ee : es0[i].key = .ref b := by
   rw [C2 il] at he
   cases he
   exact ek
  rw [ee]
  exact ⟨_,rfl,iq (s := { s with heap := h' }) (n := "dict_keyiterator") ei ci di (by decide) ⟨.ref b,H,I1,rfl,⟨rfl,k,x,b,hx,rfl,hb⟩,hit',fun b hb => (hf b hb).1⟩⟩
 done := by
  intro X hP hw hK hc i pins s σ H E I hf st hg
  subst hP hw hK
  obtain ⟨f0,f1,f2,f3,f4,f5⟩ := hf it (by simp)
  obtain ⟨hz,rfl⟩ := hg
  obtain ⟨D,sz,_⟩ := jU I hz hd
  rw [<- sz] at st
  refine u7 (I.ok.hd hc) st D fun h' he' => ⟨rfl,I.turned (t' := s.toks) (fun b ob hb e => he' b ob hb e) f0 f1 f3 f4 f5⟩
 self := fun _ _ _ _ _ st h => wpAny_pyIter_keyiter st h
theorem ar.nfT {X : Cx} {pins : List (Addr × Obj)} {σ : St} {H : Hp} {s : Shared} {a : Addr} {kvs : List (List Key × V)} (I : ar X pins σ H s) (h : H a = some (.dT kvs)) : NF X a := fun o u e => by
 have := I.base.frzs a o u e
 rw [h] at this
 cases this
theorem ar.freezeT {X : Cx} {pins : List (Addr × Obj)} {σ : St} {H : Hp} {s : Shared} {a : Addr} {kvs : List (List Key × V)} {o : Obj} (I : ar X pins σ H s) (h : H a = some (.dT kvs)) (ho : s.heap.get? a = some o) : ar X pins σ (aq H a (.frz o (.dT kvs))) s := by
 have ne : ∀ {b : Addr} {u : HO},H b = some u -> (∀ v,u ≠ .dT v) -> b ≠ a := fun {b u} q n z => by subst z; rw [h] at q; cases q; exact n _ rfl
 have nn : ∀ {b : Addr},H b = none -> b ≠ a := fun {b} q z => by subst z; rw [h] at q; cases q
 refine I.un (H' := aq H a (.frz o (.dT kvs))) (h' := s.heap) (t' := s.toks) ⟨fun b ob q n _ _ => q,fun b ob q n _ _ => ⟨ob.slots,q⟩,fun b ob q n _ => ?_,fun b ob q _ => ⟨ob,q⟩,fun b xs q => ?_,fun b ob u q => ?_,fun b ps q => ⟨#[],?_⟩⟩ ?_
 ·rw [aj (nn n)]; exact n
 ·rw [aj (ne q fun _ z => nomatch z)]; exact q
 ·rw [aj (ne q fun _ z => nomatch z)]; exact q
 ·rw [aj (ne q fun _ z => nomatch z),q]; simp
 ·intro b u q
  by_cases hb : b = a
  ·subst hb
   rw [ac] at q
   cases q
   exact ⟨ho,(I.hok b _ h).stay (fun _ _ _ q => q) (fun c q => by rw [aj (ne q fun _ z => nomatch z)]; exact q) fun c xs q => by rw [aj (ne q fun _ z => nomatch z)]; exact q⟩
  ·rw [aj hb] at q
   exact (I.hok b _ q).stay (fun _ _ _ q => q) (fun c q => by rw [aj (ne q fun _ z => nomatch z)]; exact q) fun c xs q => by rw [aj (ne q fun _ z => nomatch z)]; exact q
theorem ar.thawT {X : Cx} {pins : List (Addr × Obj)} {σ : St} {H : Hp} {s : Shared} {a : Addr} {kvs : List (List Key × V)} {o : Obj} (I : ar X pins σ H s) (h : H a = some (.frz o (.dT kvs))) (nf : NF X a) : ar X pins σ (aq H a (.dT kvs)) s := by
 have hn : ∀ {b : Addr} {u : HO},H b = some u -> (∀ o' v,u ≠ .frz o' v) -> aq H a (.dT kvs) b = some u := fun {b u} q n => by
  rw [aj (fun z => by subst z; rw [h] at q; cases q; exact n _ _ rfl)]; exact q
 have hf : ∀ {b : Addr},H b = none -> aq H a (.dT kvs) b = none := fun {b} n => by
  rw [aj (fun z => by subst z; rw [h] at n; cases n)]; exact n
 refine ⟨I.ok,I.os,I.bare,⟨I.base.keep,I.base.slot,fun b ob q n hx => hf (I.base.free b ob q n hx),I.base.there,fun b xs q => hn (I.base.tups b xs q) (fun _ _ z => nomatch z),fun b ob u q => ?_,fun b ps q => ?_⟩,I.loc,I.cell,hf I.free,fun y c e => hf (I.freeC y c e),fun p hp => ?_,?_,I.len⟩
 ·have q' := I.base.frzs b ob u q
  rw [aj (fun z => by subst z; exact nf _ _ q)]
  exact q'
 ·obtain ⟨more,q'⟩ := I.base.tbls b ps q
  exact ⟨more,hn q' (fun _ _ z => nomatch z)⟩
 ·obtain ⟨p1,p2,p3⟩ := I.pin p hp
  exact ⟨p1,hf p2,p3⟩
 ·intro b u q
  by_cases hb : b = a
  ·subst hb
   rw [ac] at q
   cases q
   obtain ⟨_,q2⟩ := (show aR X.prog X.w H s.heap b (.frz o (.dT kvs)) from I.hok b _ h)
   exact aR.stay (o := .dT kvs) q2 (fun _ _ _ q => q) (fun c q => hn q (fun _ _ z => nomatch z)) fun c xs q => hn q (fun _ _ z => nomatch z)
  ·rw [aj hb] at q
   exact (I.hok b _ q).stay (fun _ _ _ q => q) (fun c q => hn q (fun _ _ z => nomatch z)) fun c xs q => hn q (fun _ _ z => nomatch z)
def xt (X : Cx) (tl : TE) : TI := fun σ H R => tl σ H fun x H1 => ∃ a kvs,x = .ref a /\ H1 a = some (.dT kvs) /\ ∀ o,NF X a -> R (u8 a o kvs) (aq H1 a (.frz o (.dT kvs)))
section
variable {X : Cx} {tg : Expr}
theorem i6 {l : Expr} {tl : TE} (hl : PE X l tl) : PI X tg l (xt X tl) := by
 intro pins s σ H R I h
 refine aX (hl pins s σ H _ I h) fun v s1 ⟨x,H1,I1,r1,q1⟩ => ?_
 obtain ⟨a,kvs,rfl,hk,q⟩ := q1
 cases r1
 obtain ⟨z,y,xs,rel,ob,es,ep,e,c,d,l,_⟩ := (show aR X.prog X.w H1 s1.heap a (.dT kvs) from I1.hok a _ hk)
 have I2 := I1.freezeT hk e
 have sz : es.size = kvs.length := by rw [<- BF,l,B2,rel.length]
 refine tz y ⟨ob,e,c,d⟩ ?_
 refine ⟨s1.heap.objs.size,[s1.heap.objs.size],_,_,_,rfl,I2.kept (t' := s1.toks) fun b o e => Heap.get?_push_of_some _ e,oB _ a ob kvs d,⟨_,Heap.get?_push_size _ rfl,rfl,by rw [sz]; rfl⟩,fun b hb => ?_,q ob (I1.nfT hk)⟩
 have e : b = s1.heap.objs.size := by simpa using hb
 subst e
 exact I2.fpOk (B3 _) (I2.hok.fresh (B3 _))
end
def AL (X : Cx) (P : Hp -> Prop) (H : Hp) : Prop := ∃ a o kvs,H a = some (.frz o (.dT kvs)) /\ NF X a /\ P (aq H a (.dT kvs))
open Hm
theorem tE {H H' : Hp} {l : Addr} {u v : HO} (h : H l = some u) (g : aB (aq H l v) H') : aB H (aq H' l u) := fun b o q => by
 by_cases e : b = l
 ·subst e
  rw [h] at q
  cases q
  exact ac
 ·rw [aj e]
  exact g b o (by rw [aj e]; exact q)
end L2
namespace Sw
open PySem L2 XH Hm Wo So PyProof.Rows
def cM (row : List (Str × Addr)) : List (Key × V) := row.map fun p => ((.inr p.1 : Key),V.ref p.2)
theorem re (row : List (Str × Addr)) : (cM row).map (·.1) = (row.map (·.1)).map fun y => (.inr y : Key) := by
 unfold cM
 rw [CG,CG]
 rfl
theorem i8 : ∀ {row : List (Str × Addr)},(row.map (·.1)).Nodup -> ∀ {y : Str} {t : Addr},(y,t) ∈ row -> aK (cM row) (.inr y) = some (.ref t)
 | [],_,_,_,h => nomatch h
 | p :: row,nd,y,t,h => by
  rw [By,Bx] at nd
  show aK (((.inr p.1 : Key),V.ref p.2) :: cM row) _ = _
  rcases B9.mp h with e | e
  ·subst e
   exact a8 rfl
  ·rw [a9 (by
    show ¬ (Sum.inr p.1 : Key) = Sum.inr y
    intro z
    injection z with z
    exact nd.1 (z ▸ BH.mpr ⟨_,e,rfl⟩))]
   exact i8 nd.2 e
structure tF (K : B1) (b : Nat) (vw : Str -> Str -> Int × Int) (H : Hp) (d : Addr) (g : Str -> Str -> Option Addr) : Prop where
 ex : ∃ kvs : List (Key × V),H d = some (.dK kvs) /\ ∀ x : Str,(aK kvs (.inr x) = none /\ ∀ y,g x y = none) ∨
  ∃ (a : Addr) (row : List (Str × Addr)),aK kvs (.inr x) = some (.ref a) /\ H a = some (.dK (cM row)) /\ (row.map (·.1)).Nodup /\ row.length <= 200 /\ ∀ y t,g x y = some t ↔ (y,t) ∈ row
 fr : ∀ x y t,g x y = some t -> fc K b H t (vw x y).1 (vw x y).2
theorem tF.same {K : B1} {b : Nat} {vw : Str -> Str -> Int × Int} {H H' : Hp} {d : Addr} {g : Str -> Str -> Option Addr} (h : tF K b vw H d g) (e : aB H H') : tF K b vw H' d g := by
 obtain ⟨⟨kvs,h1,h2⟩,h3⟩ := h
 refine ⟨⟨kvs,e _ _ h1,fun x => ?_⟩,fun x y t z => ?_⟩
 ·rcases h2 x with z | ⟨a,row,q1,q2,q3⟩
  ·exact .inl z
  ·exact .inr ⟨a,row,q1,e _ _ q2,q3⟩
 ·exact (h3 x y t z).same e
structure Bu (K : B1) (b : Nat) (Rt : List Str -> Int -> Int -> Prop) (F : Addr -> Prop) (H : Hp) (l : Addr) (cs : List (List Str)) : Prop where
 ex : ∃ ts : List Addr,H l = some (.lst (ts.map V.ref)) /\ ts.length = cs.length /\ ∀ (i : Nat) (t : Addr) (c : List Str),ts[i]? = some t -> cs[i]? = some c ->
  ∃ (cl rl : Addr) (p q : Int),H t = some (.tup [.ref cl,.ref rl]) /\ H cl = some (.lst (c.map V.str)) /\ fc K (b * c.length) H rl p q /\ Rt c p q /\ F cl /\ H rl = some (.tup [.int p,.int q])
def b9 (l r : Addr) (H H' : Hp) : Prop := ∀ b o,b ≠ l -> b ≠ r -> H b = some o -> H' b = some o
theorem b9.refl (l r : Addr) (H : Hp) : b9 l r H H := fun _ _ _ _ h => h
theorem b9.thenS {l r : Addr} {H H1 H2 : Hp} (a : b9 l r H H1) (b : aB H1 H2) : b9 l r H H2 := fun c o h1 h2 h => b c o (a c o h1 h2 h)
theorem b9.putL {l r : Addr} {H H1 : Hp} (a : b9 l r H H1) (u : HO) : b9 l r H (aq H1 l u) := fun c o h1 h2 h => by rw [aj h1]; exact a c o h1 h2 h
theorem b9.putR {l r : Addr} {H H1 : Hp} (a : b9 l r H H1) (u : HO) : b9 l r H (aq H1 r u) := fun c o h1 h2 h => by rw [aj h2]; exact a c o h1 h2 h
theorem b9.sqT {K : B1} {l r : Addr} {H H' : Hp} {ls : List V} {rs : List (Key × V)} (g : b9 l r H H') (el : H l = some (.lst ls)) (er : H r = some (.dK rs)) {t : Addr} {xs : List V} (h : cR K H t xs) : cR K H' t xs := by
 rcases h with (w | ⟨o,w⟩) | w
 ·exact .inl (.inl (g _ _ (bS w el (fun z => nomatch z)) (bS w er (fun z => nomatch z)) w))
 ·exact .inl (.inr ⟨o,g _ _ (bS w el (fun z => nomatch z)) (bS w er (fun z => nomatch z)) w⟩)
 ·exact .inr w
theorem b9.fr {K : B1} {n : Nat} {l r : Addr} {H H' : Hp} {ls : List V} {rs : List (Key × V)} (g : b9 l r H H') (el : H l = some (.lst ls)) (er : H r = some (.dK rs)) {t : Addr} {p q : Int} (h : fc K n H t p q) : fc K n H' t p q := ⟨g.sqT el er h.at_,h.pos,h.bp,h.bq⟩
theorem jV {ts : List Addr} {c : List Str} (n : c ≠ []) : (c.map V.str) ≠ ts.map V.ref := by
 cases c with
 | nil => exact absurd rfl n
 | cons x c =>
  cases ts with
  | nil => exact nofun
  | cons t ts => intro z; injection z with z; cases z
def m3 (K : B1) (b : Nat) (Rt : List Str -> Int -> Int -> Prop) (F : Addr -> Prop) (H : Hp) (ts : List Addr) (cs : List (List Str)) : Prop := ts.length = cs.length /\ ∀ (i : Nat) (t : Addr) (c : List Str),ts[i]? = some t -> cs[i]? = some c ->
  ∃ (cl rl : Addr) (p q : Int),H t = some (.tup [.ref cl,.ref rl]) /\ H cl = some (.lst (c.map V.str)) /\ fc K (b * c.length) H rl p q /\ Rt c p q /\ F cl /\ H rl = some (.tup [.int p,.int q])
theorem m3.same {K : B1} {b : Nat} {Rt : List Str -> Int -> Int -> Prop} {F : Addr -> Prop} {H H' : Hp} {ts : List Addr} {cs : List (List Str)} (h : m3 K b Rt F H ts cs) (g : aB H H') : m3 K b Rt F H' ts cs := ⟨h.1,fun i t c h1 h2 => by
 obtain ⟨cl,rl,p,q,a1,a2,a3,a4,a5,a6⟩ := h.2 i t c h1 h2
 exact ⟨cl,rl,p,q,g _ _ a1,g _ _ a2,a3.same g,a4,a5,g _ _ a6⟩⟩
theorem m3.keep {K : B1} {b : Nat} {Rt : List Str -> Int -> Int -> Prop} {F : Addr -> Prop} {l r : Addr} {H H' : Hp} {ts ts0 : List Addr} {cs : List (List Str)} {rs : List (Key × V)} (h : m3 K b Rt F H ts cs) (nz : ∀ c ∈ cs,c ≠ []) (g : b9 l r H H') (el : H l = some (.lst (ts0.map V.ref))) (er : H r = some (.dK rs)) : m3 K b Rt F H' ts cs := ⟨h.1,fun i t c h1 h2 => by
 obtain ⟨cl,rl,p,q,a1,a2,a3,a4,a5,a6⟩ := h.2 i t c h1 h2
 have cn := nz c (BI h2)
 exact ⟨cl,rl,p,q,g _ _ (bS a1 el (fun z => nomatch z)) (bS a1 er (fun z => nomatch z)) a1,g _ _ (bS a2 el (fun z => by injection z with z; exact jV cn z)) (bS a2 er (fun z => nomatch z)) a2,g.fr el er a3,a4,a5,g _ _ (bS a6 el (fun z => nomatch z)) (bS a6 er (fun z => nomatch z)) a6⟩⟩
theorem m3.snoc {K : B1} {b : Nat} {Rt : List Str -> Int -> Int -> Prop} {F : Addr -> Prop} {H : Hp} {ts : List Addr} {cs : List (List Str)} {t cl rl : Addr} {c : List Str} {p q : Int} (h : m3 K b Rt F H ts cs) (a1 : H t = some (.tup [.ref cl,.ref rl])) (a2 : H cl = some (.lst (c.map V.str))) (a3 : fc K (b * c.length) H rl p q) (a4 : Rt c p q) (a5 : F cl) (a6 : H rl = some (.tup [.int p,.int q])) : m3 K b Rt F H (ts ++ [t]) (cs ++ [c]) := by
 refine ⟨by rw [B8,B8,h.1]; rfl,fun i t' c' h1 h2 => ?_⟩
 rcases Nat.lt_or_ge i ts.length with l | l
 ·rw [BB l] at h1
  rw [BB (by rw [<- h.1]; exact l)] at h2
  exact h.2 i t' c' h1 h2
 ·have il := (B4.mp h1).1
  rw [B8,BW] at il
  have e : i = ts.length := by omega
  subst e
  rw [BX (B3 _),Nat.sub_self] at h1
  rw [h.1,BX (B3 _),Nat.sub_self] at h2
  cases h1
  cases h2
  exact ⟨cl,rl,p,q,a1,a2,a3,a4,a5,a6⟩
theorem u9 {row : List (Str × Addr)} {ks : List Str} (h : ks ≠ []) : cM row ≠ bw ks (.bl true) := by
 cases ks with
 | nil => exact absurd rfl h
 | cons k ks =>
  cases row with
  | nil => exact nofun
  | cons p row => intro z; injection z with z; injection z with _ z; cases z
theorem jW {c : List Str} (n : c ≠ []) : gN (c.map V.str) (-1) = some (.str (aO c)) := by
 obtain ⟨a,x,rfl⟩ : ∃ a x,c = a ++ [x] := ⟨c.dropLast,c.getLast n,(List.dropLast_concat_getLast n).symm⟩
 rw [Bv,b8]
 exact rV _ _
theorem xu {p q : Int} (f : Fr p q 1 1) : p = 1 /\ q = 1 := by
 have h1 := f.pos
 have h2 := f.same
 have h3 := f.bb
 omega
def fJ (g : Str -> Str -> Option Addr) (x y : Str) : Prop := ∃ t,g x y = some t
theorem kY {κ : Type} [DecidableEq κ] : ∀ {kvs : List (κ × V)} {k : κ} {v : V},aK kvs k = some v -> (k,v) ∈ kvs
 | [],_,_,h => by cases h
 | p :: r,k,v,h => by
  by_cases e : p.1 = k
  ·rw [a8 e] at h
   cases h
   subst e
   exact C8
  ·rw [a9 e] at h
   exact BV _ (kY h)
theorem kZ {κ : Type} [DecidableEq κ] : ∀ {kvs : List (κ × V)} {k : κ} {v : V},(k,v) ∈ kvs -> ∃ w,aK kvs k = some w
 | p :: r,k,v,h => by
  by_cases e : p.1 = k
  ·exact ⟨_,a8 e⟩
  ·rw [a9 e]
   rcases B9.mp h with z | z
   ·subst z
    exact absurd rfl e
   ·exact kZ z
theorem mT {zs : List Str} {i : Int} (h0 : 0 <= i) (h : i < (zs.length : Int)) : ∃ v,gN (zs.map V.str) i = some (.str v) /\ v ∈ zs := by
 obtain ⟨j,rfl⟩ : ∃ j : Nat,i = (j : Int) := ⟨i.toNat,by omega⟩
 exact ⟨zs[j]'(by omega),c8 (by rw [BM,BG (by omega)]; rfl),List.getElem_mem _⟩
def fE (row : List (Str × Addr)) (y : Str) (t : Addr) : List (Str × Addr) := if (row.any fun p => decide (p.1 = y)) = true then row.map (fun p => if p.1 = y then (p.1,t) else p) else row ++ [(y,t)]
theorem tG (row : List (Str × Addr)) (y : Str) (t : Addr) : putK (cM row) (.inr y) (.ref t) = cM (fE row y t) := by
 have e : ((cM row).any fun kv => decide (kv.1 = (.inr y : Key))) = row.any fun p => decide (p.1 = y) := by
  unfold cM
  rw [List.any_map]
  congr 1
  funext p
  simp
 unfold putK fE
 rw [e]
 split
 ·unfold cM
  rw [CG,CG]
  congr 1
  funext p
  show (if (Sum.inr p.1 : Key) = Sum.inr y then ((Sum.inr p.1 : Key),V.ref t) else (Sum.inr p.1,V.ref p.2)) = ((Sum.inr (if p.1 = y then (p.1,t) else p).1 : Key),V.ref (if p.1 = y then (p.1,t) else p).2)
  by_cases c : p.1 = y
  ·rw [if_pos c,if_pos (by rw [c])]
  ·rw [if_neg c,if_neg (fun z => c (by injection z))]
 ·unfold cM
  rw [Bv]
  rfl
theorem k7 (row : List (Str × Addr)) (y : Str) (t : Addr) (nd : (row.map (·.1)).Nodup) : ((fE row y t).map (·.1)).Nodup /\ (fE row y t).length <= row.length + 1 /\ ∀ z s,(z,s) ∈ fE row y t ↔ if z = y then s = t else (z,s) ∈ row := by
 unfold fE
 by_cases c : (row.any fun p => decide (p.1 = y)) = true
 ·rw [if_pos c]
  obtain ⟨p,hp,hy⟩ := List.any_eq_true.mp c
  have hy := of_decide_eq_true hy
  have e : (row.map fun p => if p.1 = y then (p.1,t) else p).map (·.1) = row.map (·.1) := by
   rw [CG]
   congr 1
   funext p
   show (if p.1 = y then (p.1,t) else p).1 = p.1
   split <;> rfl
  refine ⟨by rw [e]; exact nd,by rw [B2]; omega,fun z s => ⟨fun h => ?_,fun h => ?_⟩⟩
  ·obtain ⟨q,hq,e⟩ := BH.mp h
   by_cases d : q.1 = y
   ·rw [if_pos d] at e
    cases e
    rw [if_pos d]
   ·rw [if_neg d] at e
    subst e
    rw [if_neg d]
    exact hq
  ·by_cases d : z = y
   ·rw [if_pos d] at h
    subst h d
    exact BH.mpr ⟨p,hp,by rw [if_pos hy,hy]⟩
   ·rw [if_neg d] at h
    exact BH.mpr ⟨_,h,by rw [if_neg d]⟩
 ·rw [if_neg c]
  have no : ∀ q ∈ row,q.1 ≠ y := fun q hq e => c (List.any_eq_true.mpr ⟨q,hq,decide_eq_true e⟩)
  refine ⟨?_,by rw [B8]; exact B3 _,fun z s => ⟨fun h => ?_,fun h => ?_⟩⟩
  ·rw [Bv,Ck]
   refine ⟨nd,by simp,fun a ha b hb => ?_⟩
   obtain ⟨q,hq,rfl⟩ := BH.mp ha
   cases B5.mp hb
   exact no q hq
  ·rcases BN.mp h with h | h
   ·rw [if_neg (no _ h)]
    exact h
   ·cases B5.mp h
    rw [if_pos rfl]
  ·by_cases d : z = y
   ·rw [if_pos d] at h
    subst h d
    exact BC _ (B5.mpr rfl)
   ·rw [if_neg d] at h
    exact CK _ h
structure BD (H H' : Hp) (d : Addr) (n : Nat) (dk : List (Key × V)) (g : Str -> Str -> Option Addr) : Prop where
 at_ : H' d = some (.dK dk)
 few : dk.length <= n
 inj : ∀ x x' a,aK dk (.inr x) = some (.ref a) -> aK dk (.inr x') = some (.ref a) -> x = x'
 ex : ∀ x : Str,(aK dk (.inr x) = none /\ ∀ y,g x y = none) ∨
  ∃ (a : Addr) (row : List (Str × Addr)),aK dk (.inr x) = some (.ref a) /\ H' a = some (.dK (cM row)) /\ H a = none /\ a ≠ d /\ (row.map (·.1)).Nodup /\ row.length <= n /\ ∀ y t,g x y = some t ↔ (y,t) ∈ row
theorem BD.same {H H1 H2 : Hp} {d : Addr} {n : Nat} {dk : List (Key × V)} {g : Str -> Str -> Option Addr} (h : BD H H1 d n dk g) (e : aB H1 H2) : BD H H2 d n dk g := by
 refine ⟨e _ _ h.at_,h.few,h.inj,fun x => ?_⟩
 rcases h.ex x with z | ⟨a,row,q1,q2,q3⟩
 ·exact .inl z
 ·exact .inr ⟨a,row,q1,e _ _ q2,q3⟩
theorem BD.open {H H1 : Hp} {d pn : Addr} {n : Nat} {dk : List (Key × V)} {g : Str -> Str -> Option Addr} {x0 : Str} (h : BD H H1 d n dk g) (hv : aK dk (.inr x0) = none) (hp : H1 pn = some (.dK (cM []))) (hn : H pn = none) (nd : pn ≠ d) (new : ∀ x,aK dk (.inr x) ≠ some (.ref pn)) : BD H (aq H1 d (.dK (putK dk (.inr x0) (.ref pn)))) d (n + 1) (putK dk (.inr x0) (.ref pn)) g := by
 refine ⟨ac,BZ (cE _ _ _) (by have := h.few; omega),fun x x' a e1 e2 => ?_,fun x => ?_⟩
 ·rw [fO] at e1 e2
  split at e1
  ·rename_i c1
   injection c1 with c1
   cases e1
   split at e2
   ·rename_i c2
    injection c2 with c2
    rw [c1,c2]
   ·exact absurd e2 (new _)
  ·split at e2
   ·cases e2
    exact absurd e1 (new _)
   ·exact h.inj x x' a e1 e2
 ·rw [fO]
  by_cases c : x = x0
  ·subst c
   rw [if_pos rfl]
   rcases h.ex x with ⟨z1,z2⟩ | ⟨a,row,q1,_⟩
   ·refine .inr ⟨pn,[],rfl,by rw [aj nd]; exact hp,hn,nd,by simp,BY _,fun y t => ?_⟩
    rw [z2]
    simp
   ·rw [hv] at q1
    cases q1
  ·rw [if_neg (fun z => c (by injection z))]
   rcases h.ex x with z | ⟨a,row,q1,q2,q3,q4,q5,q6,q7⟩
   ·exact .inl z
   ·exact .inr ⟨a,row,q1,by rw [aj q4]; exact q2,q3,q4,q5,by omega,q7⟩
theorem BD.put {H H1 : Hp} {d a : Addr} {n : Nat} {dk : List (Key × V)} {g g' : Str -> Str -> Option Addr} {x0 y0 : Str} {t0 : Addr} {row : List (Str × Addr)} (h : BD H H1 d n dk g) (hv : aK dk (.inr x0) = some (.ref a)) (hr : H1 a = some (.dK (cM row)))
  (hg : ∀ x y,g' x y = if x = x0 /\ y = y0 then some t0 else g x y) : BD H (aq H1 a (.dK (putK (cM row) (.inr y0) (.ref t0)))) d (n + 1) dk g' := by
 obtain ⟨na,hx⟩ : a ≠ d /\ H a = none /\ (row.map (·.1)).Nodup /\ row.length <= n /\ ∀ y t,g x0 y = some t ↔ (y,t) ∈ row := by
  rcases h.ex x0 with ⟨z,_⟩ | ⟨a',row',q1,q2,q3,q4,q5,q6,q7⟩
  ·rw [hv] at z
   cases z
  ·rw [hv] at q1
   cases q1
   rw [hr] at q2
   have e : cM row = cM row' := by injection q2 with q2; injection q2
   have e' : row = row' := by
    unfold cM at e
    refine (List.map_inj_right ?_).mp e
    rintro ⟨u1,u2⟩ ⟨w1,w2⟩ z
    injection z with z1 z2
    injection z1 with z1
    injection z2 with z2
    exact Prod.ext z1 z2
   subst e'
   exact ⟨q4,q3,q5,q6,q7⟩
 obtain ⟨hn,nd,ln,mem⟩ := hx
 obtain ⟨p1,p2,p3⟩ := k7 row y0 t0 nd
 refine ⟨by rw [aj (Ne.symm na)]; exact h.at_,by have := h.few; omega,h.inj,fun x => ?_⟩
 by_cases c : x = x0
 ·subst c
  refine .inr ⟨a,fE row y0 t0,hv,by rw [ac,tG],hn,na,p1,by omega,fun y t => ?_⟩
  rw [hg,p3]
  by_cases e : y = y0
  ·rw [if_pos ⟨rfl,e⟩,if_pos e]
   exact ⟨fun z => by injection z with z; exact z.symm,fun z => by rw [z]⟩
  ·rw [if_neg (fun z => e z.2),if_neg e]
   exact mem y t
 ·rcases h.ex x with ⟨z1,z2⟩ | ⟨b,row',q1,q2,q3,q4,q5,q6,q7⟩
  ·refine .inl ⟨z1,fun y => ?_⟩
   rw [hg,if_neg (fun z => c z.1)]
   exact z2 y
  ·have ba : b ≠ a := fun e => c (h.inj x x0 a (e ▸ q1) hv)
   refine .inr ⟨b,row',q1,by rw [aj ba]; exact q2,q3,q4,q5,by omega,fun y t => ?_⟩
   rw [hg,if_neg (fun z => c z.1)]
   exact q7 y t
theorem BD.done {K : B1} {b : Nat} {vw : Str -> Str -> Int × Int} {H H' : Hp} {d : Addr} {n : Nat} {dk : List (Key × V)} {g : Str -> Str -> Option Addr} (h : BD H H' d n dk g) (h2 : n <= 200) (f : ∀ x y t,g x y = some t -> fc K b H' t (vw x y).1 (vw x y).2) : tF K b vw H' d g := by
 refine ⟨⟨dk,h.at_,fun x => ?_⟩,f⟩
 rcases h.ex x with z | ⟨a,row,q1,q2,q3,q4,q5,q6,q7⟩
 ·exact .inl z
 ·exact .inr ⟨a,row,q1,q2,q5,by omega,q7⟩
end Sw
namespace L2
open PySem PySem.Spec PyProof.Rows
section
variable {X : Cx} {pins : List (Addr × Obj)} {σ : St} {H : Hp} {s : Shared} {h' : Heap}
end
open XH
section
variable {X : Cx} {a b c d : Expr} {ta tb tc td : TE} {pos : Pos}
end
open Sw So Hm
section
variable {prog : Program} {w : World} {A : Around} {E : Value -> Shared -> Prop} {s : Shared}
end
section
variable {X : Cx} {scope : Scope} {cl : List (Str × Addr)} {own : Str} {ys : List Str} {js : List Nat} {elt iter : Expr} {px pos : Pos} {wi : TI} {te : TE}
end
theorem tH {X : Cx} (hu : X.A.units < cLine) : eU X (compareOp .NotEq) (fun x y H Q => ∃ a b zs,x = .ref a /\ y = .ref b /\ bv X.K H a zs /\ bv X.K H b [] /\ Q (.bl (!zs.isEmpty)) H) := by
 intro pins s σ H x y v u Q I rx ry h
 obtain ⟨a,b,zs,rfl,rfl,h1,h2,hq⟩ := h
 cases rx
 cases ry
 obtain ⟨i1,r1,p1,_⟩ := I.list h1
 obtain ⟨i2,r2,p2,_⟩ := I.list h2
 cases r2
 cases zs with
 | nil =>
  cases r1
  refine SeqAt.RcNeAt.lists (e := fun _ => true) p1.isList p2.isList rfl hu (fun j g1 g2 => absurd g1 (by simp)) _ _ _ _ ?_
  exact ⟨.bl false,H,I,by show Value.bool _ = Value.bool _; simp,hq⟩
 | cons z zs =>
  cases r1 with
  | cons r rr =>
   refine SeqAt.RcNeAt.lists_lengths p1.isList p2.isList (by simp) hu _ _ _ _ ?_
   exact ⟨.bl true,H,I,rfl,hq⟩
end L2
namespace Sw
open PySem L2 XH Hm
section
variable {X : Cx} {k j : Nat} {f C : Addr} {ps : List Str} {sp : Sp} {dvs : List V} {x m : Str} {p pos apos : Pos} {e o : Expr} {es : List Expr} {ta tb : TE} {t : TA} {E : L2.St -> XK}
end
end Sw
namespace L2
open PySem PySem.Spec PyProof.Rows XH Sw Hm
end L2
namespace Sw
open PySem L2 XH Hm
end Sw
namespace L2
open PySem PySem.Spec PyProof.Rows XH
theorem ik {X : Cx} {K : B1} (h : X.K = K) : xI X (ya K) := by
 subst h
 exact cg
theorem mU {X : Cx} {K : B1} (h : X.K = K) : xI X (x9 K) := by
 subst h
 exact bK
end L2
namespace Sw
open PySem L2 XH Hm
end Sw
namespace L2
open PySem PySem.Spec PyProof.Rows XH
section
variable {X : Cx} {scope : Scope} {cl : List (Str × Addr)} {os : List Str} {ys : List Str} {js : List Nat} {fp : List Addr} {pins : List (Addr × Obj)} {σ : St} {H : Hp} {s s4 : Shared}
end
section
variable {X : Cx} {scope : Scope} {cl : List (Str × Addr)} {os : List Str} {ys : List Str} {js : List Nat} {elt iter tg : Expr} {px pos : Pos} {wi : TI} {te : TE} {g : TG}
end
end L2
namespace Sw
open PySem L2 XH
end Sw
namespace L2
open PySem PySem.Spec PyProof.Rows XH
section
variable {X : Cx} {scope : Scope} {cl : List (Str × Addr)} {os : List Str} {ys : List Str} {js : List Nat} {elt iter tg : Expr} {px pos : Pos} {wi : TI} {te : TE} {g : TG}
end
section
variable {X : Cx}
theorem eQ : cr X (.type "int") (fun xs H Q => ∃ b,xs = [.bl b] /\ Q (.int (if b = true then 1 else 0)) H) := by
 intro pins s σ H xs us Q I r h
 obtain ⟨b,rfl,q⟩ := h
 obtain ⟨u,rfl,hu⟩ := vals1 r
 obtain rfl : u = Value.bool b := hu
 exact call_int_bool ⟨.int _,H,I.tok _,⟨_,rfl⟩,q⟩
end
def jt (R : V -> V -> Prop) : List V -> List V -> Prop
 | [],[] => True
 | x :: xs,y :: ys => R x y /\ jt R xs ys
 | _,_ => False
theorem jt.len {R : V -> V -> Prop} : ∀ {xs ys : List V},jt R xs ys -> xs.length = ys.length
 | [],[],_ => rfl
 | _ :: _,_ :: _,h => by simp [jt.len h.2]
 | [],_ :: _,h => h.elim
 | _ :: _,[],h => h.elim
def wc (K : B1) (H : Hp) : Nat -> V -> V -> Prop
 | 0,x,y => x = y /\ wV x
 | n + 1,x,y => wc K H n x y ∨ ∃ a b xs ys,x = .ref a /\ y = .ref b /\ ((cR K H a xs /\ cR K H b ys) ∨ (bv K H a xs /\ bv K H b ys)) /\ jt (wc K H n) xs ys
theorem f7 {A : Around} {s : Shared} {R : V -> V -> Prop} (hR : ∀ x y u w,R x y -> RelV x u -> RelV y w -> SeqAt.EqAt A s u w true) : ∀ {xs ys : List V} {us ws : List Value},jt R xs ys -> aN xs us -> aN ys ws -> ∀ j (h1 : j < us.length) (h2 : j < ws.length),SeqAt.EqAt A s us[j] ws[j] true
 | [],[],_,_,_,.nil,.nil,j,h1,_ => absurd h1 (by simp)
 | _ :: _,_ :: _,_,_,h,.cons r1 _,.cons r2 _,0,_,_ => hR _ _ _ _ h.1 r1 r2
 | _ :: _,_ :: _,_,_,h,.cons _ t1,.cons _ t2,j + 1,h1,h2 => f7 hR h.2 t1 t2 j (by simpa using h1) (by simpa using h2)
theorem k8 {X : Cx} {pins : List (Addr × Obj)} {σ : St} {H : Hp} {s : Shared} (I : ar X pins σ H s) : ∀ (n : Nat) (A : Around) (x y : V) (u w : Value),A.units + n < cLine -> wc X.K H n x y -> RelV x u -> RelV y w -> SeqAt.EqAt A s u w true
 | 0,A,x,y,u,w,_,h,r1,r2 => by
  obtain ⟨rfl,hs⟩ := h
  exact mr hs r1 r2
 | n + 1,A,x,y,u,w,hu,h,r1,r2 => by
  rcases h with h | ⟨a,b,xs,ys,rfl,rfl,hq,hA⟩
  ·exact k8 I n A x y u w (by omega) h r1 r2
  cases r1
  cases r2
  by_cases e : a = b
  ·subst e
   exact SeqAt.EqAt.same _
  refine SeqAt.EqAt.of_refs e ?_
  have ih := fun x y u w => k8 I n A.in1 x y u w (by show A.units + 1 + n < _; omega)
  rcases hq with ⟨h1,h2⟩ | ⟨h1,h2⟩
  ·obtain ⟨i1,v1,p1,_⟩ := I.tuple h1
   obtain ⟨i2,v2,p2,_⟩ := I.tuple h2
   have k := SeqAt.RcAt.tuples (A := A) (e := fun _ => true) p1 p2 (by omega) fun j g1 g2 => f7 (A := A.in1) (s := s) ih hA v1 v2 j (by simpa using g1) (by simpa using g2)
   have e1 : ∀ m,((Cs m).all fun _ => true) = true := fun m => by simp
   rw [e1] at k
   simpa [<- v1.length,<- v2.length,hA.len] using k
  ·obtain ⟨i1,v1,p1,_⟩ := I.list h1
   obtain ⟨i2,v2,p2,_⟩ := I.list h2
   have k := SeqAt.RcAt.lists (A := A) (e := fun _ => true) p1.isList p2.isList (by simp [<- v1.length,<- v2.length,hA.len]) (by omega) fun j g1 g2 => f7 (A := A.in1) (s := s) ih hA v1 v2 j (by simpa using g1) (by simpa using g2)
   have e1 : ∀ m,((Cs m).all fun _ => true) = true := fun m => by simp
   rw [e1] at k
   exact k
end L2
namespace Sw
open PySem L2 XH
end Sw
namespace L2
open PySem PySem.Spec PyProof.Rows XH Sw So
theorem va {X : Cx} (n : Nat) (hu : X.A.units + (n + 1) < cLine) : eU X (compareOp .Eq) (fun x y H Q => ∃ a b xs ys,x = .ref a /\ y = .ref b /\ cR X.K H a xs /\ cR X.K H b ys /\ jt (wc X.K H n) xs ys /\ Q (.bl true) H) := by
 intro pins s σ H x y v u Q I rx ry h
 obtain ⟨a,b,xs,ys,rfl,rfl,h1,h2,hA,hq⟩ := h
 cases rx
 cases ry
 obtain ⟨i1,v1,p1,_⟩ := I.tuple h1
 obtain ⟨i2,v2,p2,_⟩ := I.tuple h2
 refine SeqAt.eq_tupleAt (e := fun _ => true) p1 p2 (by omega) (fun j g1 g2 => ?_) ?_
 ·exact f7 (A := X.A.in1) (s := s) (fun x y u w => k8 I n X.A.in1 x y u w (by show X.A.units + 1 + n < _; omega)) hA v1 v2 j (by simpa using g1) (by simpa using g2)
 ·exact ⟨.bl true,H,I,by show Value.bool _ = Value.bool _; simp [<- v1.length,<- v2.length,hA.len],hq⟩
theorem vc {X : Cx} (n : Nat) (hu : X.A.units + (n + 1) < cLine) : eU X (compareOp .NotEq) (fun x y H Q => ∃ a b xs ys,x = .ref a /\ y = .ref b /\ cR X.K H a xs /\ cR X.K H b ys /\ jt (wc X.K H n) xs ys /\ Q (.bl false) H) := by
 intro pins s σ H x y v u Q I rx ry h
 obtain ⟨a,b,xs,ys,rfl,rfl,h1,h2,hA,hq⟩ := h
 cases rx
 cases ry
 obtain ⟨i1,v1,p1,_⟩ := I.tuple h1
 obtain ⟨i2,v2,p2,_⟩ := I.tuple h2
 refine SeqAt.RcNeAt.tuples (e := fun _ => true) p1 p2 (by omega) (fun j g1 g2 => ?_) _ _ _ _ ⟨.bl false,H,I,by show Value.bool _ = Value.bool _; simp [<- v1.length,<- v2.length,hA.len],hq⟩
 exact f7 (A := X.A.in1) (s := s) (fun x y u w => k8 I n X.A.in1 x y u w (by show X.A.units + 1 + n < _; omega)) hA v1 v2 j (by simpa using g1) (by simpa using g2)
end L2
namespace Sw
open PySem L2 XH Hm
end Sw
namespace L2
open PySem PySem.Spec PyProof.Rows XH Sw Hm
end L2
namespace Sw
open PySem L2 XH Hm
theorem xv {α : Type} {f : α -> V} {xs : List α} {i : Nat} {x : α} (h : xs[i]? = some x) : (xs.map f)[i]? = some (f x) := by rw [BM,h]; rfl
theorem pU {R : V -> V -> Prop} : ∀ {xs ys : List V},xs.length = ys.length -> (∀ (i : Nat) (x y : V),xs[i]? = some x -> ys[i]? = some y -> R x y) -> jt R xs ys
 | [],[],_,_ => trivial
 | x :: xs,y :: ys,hl,h => ⟨h 0 x y rfl rfl,pU (by simpa using hl) fun i a b e1 e2 => h (i + 1) a b (by simpa using e1) (by simpa using e2)⟩
 | [],_ :: _,hl,_ => by simp at hl
 | _ :: _,[],hl,_ => by simp at hl
end Sw
namespace L2
open PySem PySem.Spec PyProof.Rows XH Sw Hm
end L2
namespace Sw
open PySem L2 XH Hm
end Sw
namespace L2
open PySem PySem.Spec PyProof.Rows XH Sw Hm
section
variable {X : Cx} {pins : List (Addr × Obj)} {σ : St} {H : Hp} {s : Shared}
end
end L2
namespace Sw
open PySem L2 XH Hm
end Sw
namespace L2
open PySem PySem.Spec PyProof.Rows XH Sw Hm
end L2
namespace Sw
open PySem L2 XH Hm
end Sw
namespace Wo
open PySem Hm So
end Wo
namespace L2
open PySem PySem.Spec PyProof.Rows XH Hm Wo
end L2
namespace Sw
open PySem L2 XH Hm Wo So PyProof.Rows
def ju (vw : Str -> Str -> Int × Int) (c : List Str) : Nat -> Int × Int
 | 0 => (1,1)
 | n + 1 => ((ju vw c n).1 * (vw (c.getD n "") (c.getD (n + 1) "")).1,(ju vw c n).2 * (vw (c.getD n "") (c.getD (n + 1) "")).2)
theorem pV (vw : Str -> Str -> Int × Int) (c : List Str) (x : Str) : ∀ n,n < c.length -> ju vw (c ++ [x]) n = ju vw c n
 | 0,_ => rfl
 | n + 1,h => by
  have ih := pV vw c x n (by omega)
  have e1 : (c ++ [x]).getD n "" = c.getD n "" := by rw [CM,CM,BB (by omega)]
  have e2 : (c ++ [x]).getD (n + 1) "" = c.getD (n + 1) "" := by rw [CM,CM,BB h]
  unfold ju
  rw [ih,e1,e2]
theorem tI (vw : Str -> Str -> Int × Int) (c : List Str) (x : Str) (n : c ≠ []) : ju vw (c ++ [x]) c.length = ((ju vw c (c.length - 1)).1 * (vw (aO c) x).1,(ju vw c (c.length - 1)).2 * (vw (aO c) x).2) := by
 obtain ⟨a,y,rfl⟩ : ∃ a y,c = a ++ [y] := ⟨c.dropLast,c.getLast n,(List.dropLast_concat_getLast n).symm⟩
 have l : (a ++ [y]).length = a.length + 1 := by rw [B8]; rfl
 rw [b8,l,Nat.add_sub_cancel]
 show ((ju vw (a ++ [y] ++ [x]) a.length).1 * _,(ju vw (a ++ [y] ++ [x]) a.length).2 * _) = _
 rw [pV vw (a ++ [y]) x a.length (by omega)]
 have e1 : (a ++ [y] ++ [x]).getD a.length "" = y := by rw [CM,List.append_assoc,BX (B3 _),Nat.sub_self]; rfl
 have e2 : (a ++ [y] ++ [x]).getD (a.length + 1) "" = x := by rw [CM,BX (by omega),l,Nat.sub_self]; rfl
 rw [e1,e2]
def vd (vw : Str -> Str -> Int × Int) (c : List Str) (p q : Int) : Prop := c ≠ [] /\ p * (ju vw c (c.length - 1)).2 = (ju vw c (c.length - 1)).1 * q /\ bD p q = 1 /\ 0 < q
theorem oC (vw : Str -> Str -> Int × Int) (x : Str) : vd vw [x] 1 1 := ⟨nofun,rfl,by decide,by decide⟩
theorem k9 {vw : Str -> Str -> Int × Int} {c : List Str} {p q r s : Int} {x : Str} (h : vd vw c p q) (f : Fr r s (p * (vw (aO c) x).1) (q * (vw (aO c) x).2)) : vd vw (c ++ [x]) r s := by
 obtain ⟨n,e,_,q0⟩ := h
 refine ⟨by simp,?_,f.low,f.pos⟩
 rw [B8,BW,Nat.add_sub_cancel,tI vw c x n]
 have e2 := f.same
 generalize (ju vw c (c.length - 1)).1 = T at *
 generalize (ju vw c (c.length - 1)).2 = B at *
 generalize (vw (aO c) x).1 = u at *
 generalize (vw (aO c) x).2 = v at *
 show r * (B * v) = (T * u) * s
 refine sk (k := q) ?_ (by omega)
 grind
theorem pW {vw : Str -> Str -> Int × Int} {c : List Str} {p q p' q' : Int} (h : vd vw c p q) (f : Fr p' q' (ju vw c (c.length - 1)).1 (ju vw c (c.length - 1)).2) (B0 : 0 < (ju vw c (c.length - 1)).2) : p = p' /\ q = q' := by
 obtain ⟨_,e,g,q0⟩ := h
 refine nG ⟨q0,g⟩ ⟨f.pos,f.low⟩ (sk (k := (ju vw c (c.length - 1)).2) ?_ (by omega))
 have e2 := f.same
 generalize (ju vw c (c.length - 1)).1 = T at *
 generalize (ju vw c (c.length - 1)).2 = B at *
 grind
theorem BD.mono {H H1 : Hp} {d : Addr} {n m : Nat} {dk : List (Key × V)} {g : Str -> Str -> Option Addr} (h : BD H H1 d n dk g) (l : n <= m) : BD H H1 d m dk g := ⟨h.at_,BZ h.few l,h.inj,fun x => by
 rcases h.ex x with z | ⟨a,row,q1,q2,q3,q4,q5,q6,q7⟩
 ·exact .inl z
 ·exact .inr ⟨a,row,q1,q2,q3,q4,q5,BZ q6 l,q7⟩⟩
theorem BD.new {H H1 : Hp} {d pn : Addr} {n : Nat} {dk : List (Key × V)} {g : Str -> Str -> Option Addr} (h : BD H H1 d n dk g) (hn : H1 pn = none) (x : Str) : aK dk (.inr x) ≠ some (.ref pn) := fun z => by
 rcases h.ex x with ⟨w,_⟩ | ⟨a,row,q1,q2,_⟩
 ·rw [w] at z; cases z
 ·rw [z] at q1; cases q1; rw [hn] at q2; cases q2
theorem tJ {vw : Str -> Str -> Int × Int} {x : Str} {p q : Int} (h : vd vw [x] p q) : p = 1 /\ q = 1 := pW h ⟨by decide,by decide,rfl,B3 _,B3 _⟩ (by show (0 : Int) < 1; decide)
def hF (F : List Addr) : Hp := fun a => if a ∈ F then none else some (.lst [])
theorem im {F : List Addr} {a : Addr} : hF F a = none ↔ a ∈ F := by
 unfold hF
 by_cases h : a ∈ F
 ·simp [h]
 ·simp [h]
theorem ve {F F' : List Addr} {H1 : Hp} {d : Addr} {n : Nat} {dk : List (Key × V)} {g : Str -> Str -> Option Addr} (h : BD (hF F) H1 d n dk g) (s : ∀ a ∈ F,a ∈ F') : BD (hF F') H1 d n dk g :=
 ⟨h.at_,h.few,h.inj,fun x => by
  rcases h.ex x with z | ⟨a,row,q1,q2,q3,q4⟩
  ·exact .inl z
  ·exact .inr ⟨a,row,q1,q2,im.mpr (s a (im.mp q3)),q4⟩⟩
theorem pX {H0 H1 : Hp} {d l : Addr} {n : Nat} {dk : List (Key × V)} {g : Str -> Str -> Option Addr} (h : BD H0 H1 d n dk g) (ld : l ≠ d) (li : ∀ y,aK dk (.inr y) ≠ some (.ref l)) (u : HO) : BD H0 (aq H1 l u) d n dk g :=
 ⟨by rw [aj (fun z => ld z.symm)]; exact h.at_,h.few,h.inj,fun x => by
  rcases h.ex x with z | ⟨a,row,q1,q2,q3⟩
  ·exact .inl z
  ·exact .inr ⟨a,row,q1,by rw [aj (fun z => li x (by rw [<- z]; exact q1))]; exact q2,q3⟩⟩
theorem vf {H0 H1 H2 : Hp} {d : Addr} {n : Nat} {dk : List (Key × V)} {g : Str -> Str -> Option Addr} {F0 : List Addr} (h : BD H0 H1 d n dk g) (k : KF F0 H1 H2) (hd : d ∉ F0) (hi : ∀ y a,aK dk (.inr y) = some (.ref a) -> a ∉ F0) : BD H0 H2 d n dk g :=
 ⟨k _ _ hd h.at_,h.few,h.inj,fun x => by
  rcases h.ex x with z | ⟨a,row,q1,q2,q3⟩
  ·exact .inl z
  ·exact .inr ⟨a,row,q1,k _ _ (hi x a q1) q2,q3⟩⟩
def zW : List Str := ["part","stand","bar","allow","known","held","barred","stand_in","learn"]
structure LB (C : Addr) (F : List Addr) (H : Hp) (x : Addr) (rows : List (Str × List Str)) (m : Nat) (g : Str -> Str -> Option Addr) (bs ns : List Str) : Prop where
 ex : ∃ (F0 : List Addr) (dx s b : Addr) (fs : List (Str × V)) (dk : List (Key × V)),LA C F0 H x rows ns /\ H x = some (.ins C dx fs) /\ fs.lookup ("stands" : Str) = some (.ref s) /\ fs.lookup ("bars" : Str) = some (.ref b) /\ BD (hF F) H s m dk g /\ H b = some (.dK (bw bs (.bl true))) /\
  s ≠ b /\ s ∉ F0 /\ b ∉ F0 /\ (∀ y a,aK dk (.inr y) = some (.ref a) -> a ∉ F0 /\ a ≠ b) /\ (∀ a ∈ F0,a ∈ F) /\ s ∈ F /\ b ∈ F /\ (∀ a ∈ F,∃ kv,H a = some (.dK kv)) /\ ∀ m ∈ zW,fs.lookup m = none
section
variable {C : Addr} {F : List Addr} {H H' : Hp} {x : Addr} {rows : List (Str × List Str)} {m : Nat} {g : Str -> Str -> Option Addr} {bs ns : List Str}
theorem LB.same (h : LB C F H x rows m g bs ns) (e : aB H H') : LB C F H' x rows m g bs ns := by
 obtain ⟨F0,dx,s,b,fs,dk,la,ex,es,eb,bd,hb,q1,q2,q3,q4,q5,q6,q7,q8,q9⟩ := h.ex
 exact ⟨F0,dx,s,b,fs,dk,la.same e,e _ _ ex,es,eb,bd.same e,e _ _ hb,q1,q2,q3,q4,q5,q6,q7,fun a ha => by obtain ⟨kv,z⟩ := q8 a ha; exact ⟨kv,e _ _ z⟩,q9⟩
theorem LB.not (h : LB C F H x rows m g bs ns) {a : Addr} {o : HO} (e : H a = some o) (k : ∀ kv,o ≠ .dK kv) : a ∉ F := fun z => by
 obtain ⟨F0,dx,s,b,fs,dk,la,ex,es,eb,bd,hb,q1,q2,q3,q4,q5,q6,q7,q8,q9⟩ := h.ex
 obtain ⟨kv,e'⟩ := q8 a z
 rw [e] at e'
 exact k kv (C1 e')
theorem LB.free (h : LB C F H x rows m g bs ns) {a : Addr} (e : H a = none) : a ∉ F := fun z => by
 obtain ⟨F0,dx,s,b,fs,dk,la,ex,es,eb,bd,hb,q1,q2,q3,q4,q5,q6,q7,q8,q9⟩ := h.ex
 obtain ⟨kv,e'⟩ := q8 a z
 rw [e] at e'
 cases e'
theorem LB.la (h : LB C F H x rows m g bs ns) : ∃ F0,LA C F0 H x rows ns /\ (∀ a ∈ F0,a ∈ F) /\ ∀ H' rows' ms,LA C F0 H' x rows' ms -> KF F0 H H' -> LB C F H' x rows' m g bs ms := by
 obtain ⟨F0,dx,s,b,fs,dk,la,ex,es,eb,bd,hb,q1,q2,q3,q4,q5,q6,q7,q8,q9⟩ := h.ex
 refine ⟨F0,la,q5,fun H' rows' ms la' k => ?_⟩
 have xn : x ∉ F0 := la.not ex (fun _ z => nomatch z)
 refine ⟨F0,dx,s,b,fs,dk,la',k _ _ xn ex,es,eb,vf bd k q2 fun y a e => (q4 y a e).1,k _ _ q3 hb,q1,q2,q3,q4,q5,q6,q7,fun a ha => ?_,q9⟩
 by_cases c : a ∈ F0
 ·exact la'.dict c
 ·obtain ⟨kv,e⟩ := q8 a ha
  exact ⟨kv,k _ _ c e⟩
theorem LB.at_ (h : LB C F H x rows m g bs ns) : ∃ (dx s b : Addr) (fs : List (Str × V)) (dk : List (Key × V)),H x = some (.ins C dx fs) /\ fs.lookup ("stands" : Str) = some (.ref s) /\ fs.lookup ("bars" : Str) = some (.ref b) /\ BD (hF F) H s m dk g /\ H b = some (.dK (bw bs (.bl true))) /\ (∀ m ∈ zW,fs.lookup m = none) /\ s ∈ F /\ b ∈ F /\
  (∀ ms,LB C F (aq H b (.dK (bw ms (.bl true)))) x rows m g ms ns /\ KF F H (aq H b (.dK (bw ms (.bl true))))) := by
 obtain ⟨F0,dx,s,b,fs,dk,la,ex,es,eb,bd,hb,q1,q2,q3,q4,q5,q6,q7,q8,q9⟩ := h.ex
 refine ⟨dx,s,b,fs,dk,ex,es,eb,bd,hb,q9,q6,q7,fun ms => ⟨⟨F0,dx,s,b,fs,dk,?_,?_,es,eb,pX bd (fun z => q1 z.symm) (fun y e => (q4 y b e).2 rfl) _,ac,q1,q2,q3,q4,q5,q6,q7,fun a ha => ?_,q9⟩,KF.put _ q7⟩⟩
 ·obtain ⟨dx',p,n,fs',rs,a,b',c,d,e,f,i,j,k⟩ := la.ex
  subst i
  have bp : p ≠ b := fun z => q3 (by simp [z])
  have bn : n ≠ b := fun z => q3 (by simp [z])
  have br : b ∉ rs := fun z => q3 (by simp [z])
  have xb : x ≠ b := fun z => by rw [z,hb] at a; cases a
  exact ⟨dx',p,n,fs',rs,by rw [aj xb]; exact a,b',c,d.other br,by rw [aj bp]; exact e,by rw [aj bn]; exact f,rfl,j,k⟩
 ·rw [aj (fun z => by rw [z,hb] at ex; cases ex)]
  exact ex
 ·by_cases c : a = b
  ·exact ⟨_,by rw [c]; exact ac⟩
  ·obtain ⟨kv,e⟩ := q8 a ha
   exact ⟨kv,by rw [aj c]; exact e⟩
theorem LB.stands (h : LB C F H x rows m g bs ns) {s r : Addr} {dx : Addr} {fs : List (Str × V)} {u : HO} {m' : Nat} {dk' : List (Key × V)} {g' : Str -> Str -> Option Addr} {F' : List Addr} (ex : H x = some (.ins C dx fs)) (es : fs.lookup ("stands" : Str) = some (.ref s)) (kF : ∀ a ∈ F,a ∈ F') (K2 : ∀ a o,a ∉ F' -> H a = some o -> H' a = some o)
  (keep : ∀ a o,H a = some o -> a ≠ s -> (∀ dk,H s = some (.dK dk) -> ∀ y,aK dk (.inr y) ≠ some (.ref a)) -> H' a = some o) (bd : BD (hF F') H' s m' dk' g') (inn : ∀ dk,H s = some (.dK dk) -> ∀ y a,aK dk' (.inr y) = some (.ref a) -> aK dk (.inr y) = some (.ref a) ∨ H a = none) (dd : ∀ a ∈ F',∃ kv,H' a = some (.dK kv)) : LB C F' H' x rows m' g' bs ns := by
 obtain ⟨F0,dx',s',b,fs',dk,la,ex',es',eb,bd0,hb,q1,q2,q3,q4,q5,q6,q7,q8,q9⟩ := h.ex
 rw [ex'] at ex
 cases ex
 rw [es'] at es
 cases es
 have out : ∀ a,a ∈ F0 -> a ≠ s /\ (∀ dk,H s = some (.dK dk) -> ∀ y,aK dk (.inr y) ≠ some (.ref a)) := fun a ha => ⟨fun z => q2 (by rw [<- z]; exact ha),fun dk2 e y z => by
  rw [bd0.at_] at e
  cases e
  exact (q4 y a z).1 ha⟩
 have bo : b ≠ s /\ (∀ dk,H s = some (.dK dk) -> ∀ y,aK dk (.inr y) ≠ some (.ref b)) := ⟨fun z => q1 z.symm,fun dk2 e y z => by
  rw [bd0.at_] at e
  cases e
  exact (q4 y b z).2 rfl⟩
 have kp : ∀ a ∈ F0,∀ o,H a = some o -> H' a = some o := fun a ha o e => keep a o e (out a ha).1 (out a ha).2
 have xk : H' x = some (.ins C dx fs) := keep x _ ex' (fun z => by rw [z,bd0.at_] at ex'; cases ex') fun dk2 e y z => by
  rw [bd0.at_] at e
  cases e
  rcases bd0.ex y with ⟨z1,_⟩ | ⟨a,row,z1,z2,_⟩
  ·rw [z] at z1; cases z1
  ·rw [z] at z1
   cases z1
   rw [ex'] at z2
   cases z2
 refine ⟨F0,dx,s,b,fs,dk',?_,xk,es',eb,bd,keep b _ hb bo.1 bo.2,q1,q2,q3,fun y a e => ?_,fun a ha => kF a (q5 a ha),kF s q6,kF b q7,dd,q9⟩
 ·obtain ⟨dx',p,n,fs',rs,a,b',c,d,e,f,i,j,k⟩ := la.ex
  subst i
  rw [ex'] at a
  cases a
  refine ⟨dx,p,n,fs,rs,xk,b',c,?_,kp p (by simp) _ e,kp n (by simp) _ f,rfl,j,k⟩
  clear f e c b' k
  have : ∀ {rows : List (Str × List Str)} {rs : List Addr},bR H rows rs -> (∀ a ∈ rs,∀ o,H a = some o -> H' a = some o) -> bR H' rows rs := fun {rows} => by
   induction rows with
   | nil => intro rs d _; cases rs with | nil => exact d | cons _ _ => exact d.elim
   | cons r1 rows ih =>
    intro rs d kk
    cases rs with
    | nil => exact d.elim
    | cons a rs => exact ⟨kk a (by simp) _ d.1,ih d.2 fun b hb => kk b (by simp [hb])⟩
  exact this d fun a ha => kp a (by simp [ha])
 ·rcases inn dk bd0.at_ y a e with z | z
  ·exact q4 y a z
  ·refine ⟨fun w => ?_,fun w => ?_⟩
   ·obtain ⟨kv,e'⟩ := la.dict w
    rw [z] at e'
    cases e'
   ·rw [w,hb] at z
    cases z
end
end Sw
namespace L2
open PySem PySem.Spec PyProof.Rows XH
section
variable {prog : Program} {w : World} {A : Around} {E : Value -> Shared -> Prop} {s : Shared}
end
section
variable {prog : Program} {w : World} {A : Around} {R : Result -> Shared -> Prop} {I : Addr} {fp wr : List Addr} {G : Array GenState -> Array GenState -> Prop} {n : Nat} {P : Nat -> Value -> Prop} {St : Nat -> Shared -> Prop}
end
section
variable {prog : Program} {w : World} {A : Around} {E : Value -> Shared -> Prop} {s : Shared}
end
open Sw So
section
variable {prog : Program} {w : World} {A : Around} {E : Value -> Shared -> Prop} {s : Shared}
end
section
variable {prog : Program} {w : World} {A : Around} {E : Value -> Shared -> Prop} {s : Shared}
end
section
variable {X : Cx} {e : Expr} {te : TE} {p1 p2 pos pos2 : Pos}
end
theorem eR {X : Cx} (hc : X.calm = true) : cr X (.builtin "sorted") (fun xs H Q => ∃ d ks kvs,xs = [.ref d] /\ H d = some (.dK kvs) /\ kvs.map (·.1) = ks.map (fun y => (.inr y : Key)) /\ ks.Nodup /\ ks.length < 64 /\
  ∀ p ys,H p = none -> ys.Perm ks -> sortedS ys = true -> Q (.ref p) (aq H p (.lst (ys.map V.str)))) := by
 intro pins s σ H xs us Q I r h
 obtain ⟨d,ks,kvs,rfl,hk,ek,nd,l64,q⟩ := h
 obtain ⟨u,rfl,ru⟩ := vals1 r
 cases ru
 obtain ⟨z,hS,ws,rel,D⟩ := iB I.hok hk
 obtain ⟨ep,hat⟩ := D.dictAt
 have lw : ws.length = ks.length := by
  rw [<- rel.length]
  have := congrArg List.length ek
  simpa using this
 refine Calls.call_function_entry kind_sorted plain_sorted entry_sorted (args_sorted1 _) ?_
 unfold Builtin.«sorted»
 refine wpAny_bind (m := checkCount "sorted" 1 1 _) (wpAny_pure ?_)
 refine wpAny_bind (mJ (A := X.A.in1) (PySem.W.kdl_dict (knd := az X.prog X.w) (kvs := ws) (ep := ep) hS) (I.ok.hd hc) hat (by rw [<- rel.length]; exact z) fun h' tk acc hlt hkp hacc => ?_)
 have la : acc.toList.length = ks.length := by rw [BF,hacc.1,lw]
 have SA : StrsAre acc.toList ks := kM la fun j v hv => by
  obtain ⟨k,x,e1,e2⟩ := hacc.2 j v (by rw [<- BU]; exact hv)
  obtain ⟨⟨k',v'⟩,e3,rfl,_⟩ := jM rel e1
  have e4 : (kvs.map (·.1))[j]? = some k' := by rw [BM,e3]; rfl
  rw [ek,BM] at e4
  cases e5 : ks[j]? with
  | none => rw [e5] at e4; cases e4
  | some y =>
   rw [e5] at e4
   cases e4
   obtain ⟨t,ht⟩ := pJ e2
   exact ⟨y,t,rfl,ht⟩
 refine wpAny_bind (wpAny_newList ?_ (by rw [la,<- lw,<- rel.length]; exact z))
 have hoL : (h'.push (seqObj "list" acc.toList.toArray 0)).get? h'.objs.size = some (seqObj "list" acc.toList.toArray 0) := Heap.get?_push_size _ rfl
 refine wpAny_bind (wpAny_holding (wpAny_call_entry slot_list_sort ⟨_,hoL,rfl⟩ entry_list_sort (list_sort_treeK strKind_oneLt hoL SA.keysOf (fun v₁ v₂ rest e => keyKind_strs (by rw [<- e]; exact SA)) (by rw [la]; exact l64) fun st' hp hs => ⟨_,rfl,?_⟩) (args_list_sort _)))
 obtain ⟨ys,h1,h2,h3⟩ := sorted_out_str SA hp hs
 have sl : s.heap.objs.size <= h'.objs.size := Nat.le_of_lt hlt
 refine wpAny_pure ⟨_,rfl,.ref h'.objs.size,_,I.laid (a := h'.objs.size) (o := .lst (ys.map V.str)) (h' := sortedHeap (h'.push (seqObj "list" acc.toList.toArray 0)) h'.objs.size acc.toList ((arrOf st').map (·.2))) (t' := tk) (fun b o eo => ?_) sl ?_,rfl,q _ ys (I.hok.fresh sl) h2 h3⟩
 ·have eo' := hkp b o eo
  have bl := Heap.lt_size eo'
  rw [sortedHeap_old (BA bl) (by rw [size_push']; exact CN bl)]
  exact Heap.get?_push_of_some _ eo'
 ·obtain ⟨e,he⟩ := sortedHeap_at (out := (arrOf st').map (·.2)) hoL
  refine ⟨by rw [B2,h2.length_eq,<- lw,<- rel.length]; exact z,((arrOf st').map (·.2)).toList,e,cY h1,?_⟩
  rw [Array.toArray_toList]
  exact he
end L2
namespace Sw
open PySem L2 XH Hm
end Sw
namespace L2
open PySem PySem.Spec PyProof.Rows XH Sw Hm
section
variable {K : B1} {β : Type} {a : Addr} {xs : List V} {n : Nat} {js : List Nat} {tc : TT} {te : TE} {σ : L2.St} {H1 : Hp} {Q : VK}
end
end L2
namespace Sw
open PySem L2 XH Hm
def xw (xs : List V) : Prop := ∀ x ∈ xs,wV x
theorem tK {K : B1} {H : Hp} {xs : List V} (h : xw xs) : jt (wc K H 0) xs xs := pU rfl fun i x y h1 h2 => by
 rw [h1] at h2
 cases h2
 exact ⟨rfl,h x (BI h1)⟩
section
variable (C : Addr)
end
end Sw
namespace L2
open PySem PySem.Spec PyProof.Rows XH Sw
end L2
namespace Sw
open PySem L2 XH Hm
end Sw
namespace L2
open PySem PySem.Spec PyProof.Rows XH Sw
theorem vg {X : Cx} : eU X (binaryOp .Mult) (fun x y H Q => ∃ z n,x = .str z /\ y = .int n /\ z.length <= 16 /\ 0 <= n /\ n <= 1048576 /\ Q (.str (Txt.mul z n)) H) := by
 intro pins s σ H x y v u Q I rx ry h
 obtain ⟨z,n,rfl,rfl,hz,h0,hn,q⟩ := h
 obtain ⟨t,rfl⟩ := rx
 obtain ⟨t',rfl⟩ := ry
 exact SB.mul (mulOk_of 16 1048576 hz hn (by omega) (by decide) (by decide)) fun t' k => ⟨.str _,H,I.tok _,⟨_,rfl⟩,q⟩
end L2
namespace Sw
open PySem L2 XH Hm PySem.NumText
theorem vh {z : Str} {n : Int} (h : 0 <= n) : ((Txt.mul z n).length : Int) = (z.length : Int) * n := by
 have := PyProof.Rows.len_mul z n
 rw [this,if_neg (by simp; omega)]
theorem jX (c : Nat) (h : 97 <= c /\ c <= 122) : ∀ (n : Nat) (a : Array Nat),(∀ x ∈ a.toList,97 <= x /\ x <= 122) -> ∀ x ∈ ((List.replicate n #[c]).foldl (· ++ ·) a).toList,97 <= x /\ x <= 122
 | 0,a,ha,x,hx => ha x hx
 | n + 1,a,ha,x,hx => by
  rw [List.replicate_succ,List.foldl_cons] at hx
  refine jX c h n (a ++ #[c]) (fun y hy => ?_) x hx
  rw [Array.toList_append,BN] at hy
  rcases hy with q | q
  ·exact ha y q
  ·simp at q
   rw [q]
   exact h
theorem Lt.mul {c : Nat} (h : 97 <= c /\ c <= 122) (n : Int) : Lt (Txt.mul ⟨#[c]⟩ n) := by
 unfold Txt.mul
 split
 ·exact Lt.nil
 ·split
  ·exact Lt.one h
  ·intro x hx
   exact jX c h _ #[] (fun y hy => by simp at hy) x hx
end Sw
namespace L2
open PySem PySem.Spec PyProof.Rows XH Sw
theorem pY : ∀ {xs : List V} {us : List Value},xs.length = us.length -> (∀ (j : Nat) (x : V) (u : Value),xs[j]? = some x -> us[j]? = some u -> RelV x u) -> aN xs us
 | [],[],_,_ => .nil
 | x :: xs,u :: us,h,f => .cons (f 0 x u rfl rfl) (pY (by simpa using h) fun j y w e1 e2 => f (j + 1) y w (by simpa using e1) (by simpa using e2))
 | [],_ :: _,h,_ => by simp at h
 | _ :: _,[],h,_ => by simp at h
theorem oE {X : Cx} (hc : X.calm = true) : cr X (.type "list") (fun xs H Q => ∃ (d : Addr) (kvs : List (Key × V)),xs = [.ref d] /\ H d = some (.dK kvs) /\ ∀ l,H l = none -> Q (.ref l) (aq H l (.lst (kvs.map fun p => kV p.1)))) := by
 intro pins s σ H xs us Q I r h
 obtain ⟨d,kvs,rfl,hk,q⟩ := h
 obtain ⟨u,rfl,ru⟩ := vals1 r
 cases ru
 obtain ⟨z,hS,ws,rel,D⟩ := iB I.hok hk
 obtain ⟨ep,hat⟩ := D.dictAt
 refine PySem.W.kdl_call (PySem.W.kdl_dict (knd := az X.prog X.w) (kvs := ws) (ep := ep) hS) (I.ok.hd hc) hat (by rw [<- rel.length]; exact z) fun h' tk acc' c' kp hS' hacc => ?_
 have hv : aN (kvs.map fun p => kV p.1) acc'.toList := pY (by
   have el : acc'.toList.length = acc'.size := by simp
   rw [B2,el,hacc.1,rel.length]) fun j x u e1 e2 => by
  rw [BM] at e1
  obtain ⟨⟨k,v⟩,e3,rfl⟩ := CA.mp e1
  obtain ⟨k',x',e4,e5⟩ := hacc.2 j u (by rw [<- BU]; exact e2)
  obtain ⟨u',e6,_⟩ := sK rel j e3
  rw [e6] at e4
  cases e4
  exact pJ e5
 exact ⟨.ref s.heap.objs.size,_,I.laid (t' := tk) kp (B3 _) (show aR X.prog X.w _ h' _ (.lst _) from ⟨by rw [B2]; exact z,acc'.toList,c',hv,by simpa using hS'⟩),rfl,q _ (I.hok.fresh (B3 _))⟩
end L2
namespace Sw
open PySem L2 XH PyProof.Rows Wo Hm
def tL (K : B1) : Sp := fun vs H Q _ => ∃ (d : Addr) (good : Str) (b m : Nat) (vw : Str -> Str -> Int × Int) (g : Str -> Str -> Option Addr) (U : List Str) (Rt : List Str -> Int -> Int -> Prop),vs = [.ref d,.str good] /\ tF K b vw H d g /\
 (∀ x y,fJ g x y -> y ∈ U) /\ U.length <= m /\ m <= 60 /\ 1 <= b /\ b * (m + 2) <= 4000 /\ Rt [good] 1 1 /\ (∀ c p q x t r s,Rt c p q -> g (aO c) x = some t -> Fr r s (p * (vw (aO c) x).1) (q * (vw (aO c) x).2) -> Rt (c ++ [x]) r s) /\
 ∀ (l : Addr) (cs : List (List Str)) (H' : Hp),aB H H' -> H l = none -> Bu K b Rt (fun c => H c = none) H' l cs -> fD (fJ g) good cs cs.length (fun _ => False) -> Q (.ref l) H'
def gz : Sp := fun vs H Q _ => ∃ (d : Addr) (good : Str) (rows : List (Str × List Str)) (ps : List (Str × Str)),vs = [.ref d,.str good] /\ DD H d rows /\ bO rows ps /\ ps.length <= 60 /\
 ∀ (l : Addr) (H' : Hp) (ys : List Str),aB H H' -> H l = none -> H' l = some (.lst (ys.map V.str)) -> sortedS ys = true -> ys.Nodup -> (∀ y,y ∈ ys ↔ Led ps good y) -> Q (.ref l) H'
def i9 (C : Addr) : Sp := fun vs H Q _ => ∃ (x : Addr) (F : List Addr) (rows : List (Str × List Str)) (ns : List Str),vs = [.ref x] /\ LA C F H x rows ns /\ ns.Nodup /\ ns.length < 64 /\
 ∀ (l : Addr) (H' : Hp) (ys : List Str),aB H H' -> H' l = some (.lst (ys.map V.str)) -> sortedS ys = true -> ys.Perm ns -> Q (.ref l) H'
theorem ja {p st b n : V} : (fY p st b n).lookup ("stands" : Str) = some st /\ (fY p st b n).lookup ("bars" : Str) = some b /\ ∀ m ∈ zW,(fY p st b n).lookup m = none := by
 refine ⟨?_,?_,fun m hm => ?_⟩
 ·unfold fY
  rw [aJ,if_neg (by decide),aJ,if_neg (by decide),aJ,if_pos rfl]
 ·unfold fY
  rw [aJ,if_neg (by decide),aJ,if_pos rfl]
 ·unfold zW at hm
  simp only [B9,Bw,or_false] at hm
  unfold fY
  rcases hm with rfl | rfl | rfl | rfl | rfl | rfl | rfl | rfl | rfl <;> (rw [aJ,if_neg (by decide),aJ,if_neg (by decide),aJ,if_neg (by decide),aJ,if_neg (by decide)]; rfl)
theorem xx {H0 H1 : Hp} {d : Addr} (e : H1 d = some (.dK [])) : BD H0 H1 d 0 [] (fun _ _ => none) := ⟨e,B3 _,fun x x' a h => (by cases h),fun x => .inl ⟨rfl,fun _ => rfl⟩⟩
def hJ (bs : List Str) (z : Str) : List Str := bs.filter fun y => decide (y ≠ z)
theorem jY (bs : List Str) (v : V) (z : Str) : iA (bw bs v) (.inr z) = bw (hJ bs z) v := by
 unfold iA bw hJ
 rw [List.filter_map]
 congr 1
 apply List.filter_congr
 intro y _
 by_cases c : y = z
 ·simp [c]
 ·have : ¬ ((.inr y : Key) = .inr z) := fun e => c (by injection e)
  simp [c]
theorem jZ {bs : List Str} {z : Str} (h : z ∉ bs) : hJ bs z = bs := by
 unfold hJ
 rw [List.filter_eq_self]
 intro y hy
 exact decide_eq_true fun e => h (by rw [<- e]; exact hy)
def eh (H : Hp) (r : V) (p q : Int) : Prop := (r = .non /\ p = 1 /\ q = 1) ∨ ∃ t,r = .ref t /\ H t = some (.tup [.int p,.int q]) /\ 0 < p /\ si p q /\ Bd 200 p /\ Bd 200 q
def cp (K : B1) (H : Hp) (r : V) : Prop := r ≠ .non /\ (mq K H r false ∨ ∃ (t : Addr) (p q : Int),r = .ref t /\ H t = some (.tup [.int p,.int q]) /\ mq K H r true /\ p <= 0)
theorem cp.same {K : B1} {H H' : Hp} {r : V} (h : cp K H r) (g : aB H H') : cp K H' r := by
 obtain ⟨n,h | ⟨t,p,q,e,et,f,z⟩⟩ := h
 ·exact ⟨n,.inl (h.same g)⟩
 ·exact ⟨n,.inr ⟨t,p,q,e,g _ _ et,f.same g,z⟩⟩
theorem eh.same {H H' : Hp} {r : V} {p q : Int} (h : eh H r p q) (g : aB H H') : eh H' r p q := by
 rcases h with h | ⟨t,e,et,z⟩
 ·exact .inl h
 ·exact .inr ⟨t,e,g _ _ et,z⟩
def lf (g : Str -> Str -> Option Addr) (zg zo : Str) (t : Addr) : Str -> Str -> Option Addr := fun a b => if a = zg /\ b = zo then some t else g a b
section
variable (K : B1) (C cN cS cI : Addr)
def gF : Sp := fun vs H Q _ => ∃ (x dx : Addr),vs = [.ref x] /\ H x = some (.ins C dx []) /\ ∀ H' F,(∀ a o,a ≠ x -> H a = some o -> H' a = some o) -> (∀ a ∈ F,H a = none) -> LB C F H' x [] 0 (fun _ _ => none) [] [] -> Q .non H'
def lh : Sp := fun vs H Q E => ∃ (x : Addr) (v : V) (F : List Addr) (rows : List (Str × List Str)) (m : Nat) (g : Str -> Str -> Option Addr) (bs ns : List Str),vs = [.ref x,v] /\ LB C F H x rows m g bs ns /\ bs.length <= 200 /\ ns.Nodup /\ ns.length <= 79 /\ (fz v ∨ cO K H v) /\
 (¬ fz v -> ∀ H',aB H H' -> E (.ref cN) none H') /\
 ∀ z,v = .str z -> Nm z -> ∀ H' ms,KF F H H' -> LB C F H' x rows m g (bT bs z) ms -> ms.Nodup -> (∀ y,y ∈ ms ↔ y ∈ ns ∨ y = z) -> Q .non H'
def f8 : Sp := fun vs H Q E => ∃ (x : Addr) (v : V) (F : List Addr) (rows : List (Str × List Str)) (m : Nat) (g : Str -> Str -> Option Addr) (bs ns : List Str),vs = [.ref x,v] /\ LB C F H x rows m g bs ns /\ (fz v ∨ cO K H v) /\
 (¬ fz v -> ∀ H',aB H H' -> E (.ref cN) none H') /\
 ∀ z,v = .str z -> Nm z -> ∀ H',KF F H H' -> LB C F H' x rows m g (hJ bs z) ns -> Q .non H'
def io : Sp := fun vs H Q E => ∃ (x : Addr) (v : V) (F : List Addr) (rows : List (Str × List Str)) (m : Nat) (g : Str -> Str -> Option Addr) (bs ns : List Str) (ps : List (Str × Str)),vs = [.ref x,v] /\ LB C F H x rows m g bs ns /\ bO rows ps /\ ps.length <= 60 /\ (fz v ∨ cO K H v) /\
 (¬ fz v -> ∀ H',aB H H' -> E (.ref cN) none H') /\
 ∀ z,v = .str z -> Nm z -> ∀ (l : Addr) (H' : Hp) (ys : List Str),aB H H' -> H' l = some (.lst (ys.map V.str)) -> sortedS ys = true -> ys.Nodup -> (∀ y,y ∈ ys ↔ Led ps z y) -> Q (.ref l) H'
def dI : Sp := fun vs H Q E => ∃ (x : Addr) (v : V) (F : List Addr) (rows : List (Str × List Str)) (m : Nat) (g : Str -> Str -> Option Addr) (bs ns : List Str) (ps : List (Str × Str)),vs = [.ref x,v] /\ LB C F H x rows m g bs ns /\ bO rows ps /\ ps.length <= 1000 /\ bs.length <= 10 /\ (fz v ∨ cO K H v) /\
 (¬ fz v -> ∀ H',aB H H' -> E (.ref cN) none H') /\
 ∀ z,v = .str z -> Nm z -> (∀ (H' : Hp),aB H H' -> (∀ b ∈ bs,¬ Led ps z b) -> Q .non H') /\
  ∀ (l : Addr) (H' : Hp) (c : List Str) (goal : Str),aB H H' -> H' l = some (.lst (c.map V.str)) -> Way ps z goal c -> goal ∈ bs -> Led ps z goal -> (z ∈ bs -> goal = z) -> Q (.ref l) H'
def jb : Sp := fun vs H Q E => ∃ (x : Addr) (v w r : V) (F : List Addr) (rows : List (Str × List Str)) (m : Nat) (g : Str -> Str -> Option Addr) (bs ns : List Str),vs = [.ref x,v,w,r] /\ LB C F H x rows m g bs ns /\ m <= 1000 /\ ns.Nodup /\ ns.length <= 78 /\ (fz v ∨ cO K H v) /\ (fz w ∨ cO K H w) /\ ((∃ p q,eh H r p q) ∨ cp K H r) /\
 (¬ (fz v /\ fz w) -> ∀ H',aB H H' -> E (.ref cN) none H') /\
 ∀ zg zo,v = .str zg -> w = .str zo -> Nm zg -> Nm zo ->
  ((zg = zo ∨ fJ g zg zo ∨ cp K H r) -> ∀ H',aB H H' -> E (.ref cS) none H') /\
  (zg ≠ zo -> ¬ fJ g zg zo -> ∀ p q,eh H r p q -> ∀ (F' : List Addr) (H' : Hp) (ms : List Str) (t : Addr),KF F H H' -> FG F F' H -> LB C F' H' x rows (m + 2) (lf g zg zo t) bs ms -> H' t = some (.tup [.int p,.int q]) -> (∀ r',r = .ref r' -> t = r') -> ms.Nodup -> (∀ y,y ∈ ms ↔ y ∈ ns ∨ y = zg ∨ y = zo) -> Q .non H')
def Blk (ps : List (Str × Str)) (bs : List Str) (y : Str) : Prop := ∃ b ∈ bs,Led ps y b
structure oF (K : B1) (H : Hp) (g : Str -> Str -> Option Addr) (vw : Str -> Str -> Int × Int) : Prop where
 fr : ∀ x y t,g x y = some t -> H t = some (.tup [.int (vw x y).1,.int (vw x y).2]) /\ 0 < (vw x y).1 /\ si (vw x y).1 (vw x y).2 /\ Bd 200 (vw x y).1 /\ Bd 200 (vw x y).2
 nm : ∀ x y t,g x y = some t -> Nm x /\ Nm y
def mV : Sp := fun vs H Q E => ∃ (x : Addr) (v : V) (F : List Addr) (rows : List (Str × List Str)) (m : Nat) (g : Str -> Str -> Option Addr) (bs ns : List Str) (ps : List (Str × Str)) (vw : Str -> Str -> Int × Int) (U : List Str) (Rt : List Str -> Int -> Int -> Prop),vs = [.ref x,v] /\ LB C F H x rows m g bs ns /\ m <= 200 /\ bO rows ps /\ ps.length <= 1000 /\ bs.length <= 10 /\ (fz v ∨ cO K H v) /\ oF K H g vw /\ (∀ a b,fJ g a b -> b ∈ U) /\ U.length <= 17 /\
 (∀ z,v = .str z -> Rt [z] 1 1) /\ (∀ c p q y t r s,Rt c p q -> g (aO c) y = some t -> Fr r s (p * (vw (aO c) y).1) (q * (vw (aO c) y).2) -> Rt (c ++ [y]) r s) /\
 (¬ fz v -> ∀ H',aB H H' -> E (.ref cN) none H') /\
 ∀ z,v = .str z -> Nm z -> ∀ cs,fD (fJ g) z cs cs.length (fun _ => False) ->
  (∀ (k : Nat) (c : List Str) (t cl rl : Addr) (p q : Int) (H' : Hp),aB H H' -> cs[k]? = some c -> (∀ (j : Nat) (d : List Str),j < k -> cs[j]? = some d -> Blk ps bs (aO d)) -> ¬ Blk ps bs (aO c) -> H' t = some (.tup [.ref cl,.ref rl]) -> H' cl = some (.lst (c.map V.str)) -> H' rl = some (.tup [.int p,.int q]) -> Rt c p q -> Q (.ref t) H') /\
  ((∀ (j : Nat) (d : List Str),cs[j]? = some d -> Blk ps bs (aO d)) -> ∀ (d : Addr) (H' : Hp),aB H H' -> H' d = some (.xd [("good",.str z)]) -> E (.ref cI) (some d) H')
end
end Sw
namespace L2
open PySem PySem.Spec PyProof.Rows XH Sw So
section
variable {prog : Program} {w : World} {A : Around} {E : Value -> Shared -> Prop} {s : Shared}
end
end L2
namespace Sw
open PySem L2 XH PyProof.Rows
theorem vk {i : Int} (h0 : 0 <= i) (h : i < 26) : gN c7.cps.toList i = some (97 + i.toNat) := by
 have key : ∀ n : Nat,n < 26 -> c7.cps.toList[n]? = some (97 + n) := by decide
 have := key i.toNat (by omega)
 have e := c8 this
 rwa [Int.toNat_of_nonneg h0] at e
def sgn (c st : Int) (k : Nat) : Nat := 97 + ((c + (0 + (k : Int)) * st).fmod 26).toNat
def lj (st : Int) : Prop := st = 1 ∨ st = 3 ∨ st = 5 ∨ st = 7 ∨ st = 9 ∨ st = 11 ∨ st = 15 ∨ st = 17
theorem vm {c st : Int} (hs : lj st) {k k' : Nat} (h : k < 14) (h' : k' < 14) (e : sgn c st k = sgn c st k') : k = k' := by
 unfold sgn at e
 rw [Int.fmod_eq_emod_of_nonneg _ (by decide),Int.fmod_eq_emod_of_nonneg _ (by decide)] at e
 rcases hs with rfl | rfl | rfl | rfl | rfl | rfl | rfl | rfl <;> omega
theorem lq (x y : Str) : (x ++ y).cps.toList = x.cps.toList ++ y.cps.toList := by
 show (x.cps ++ y.cps).toList = _
 simp
def oG : Sp := fun vs H Q _ => ∃ a b : Int,vs = [.int a,.int b] /\ 0 < b /\ Q (.int (bD a b)) H
section
variable (K : B1) (cP : Addr)
end
open Wo Hm
def vo (md : Int) (pre suf : List Nat) (k : Nat) (s : Nat) (z : Str) : Prop := if md = 1 then z.length = k + 1 else if md = 2 then ∃ x,z.cps.toList = x ++ [s] else z.cps.toList = pre ++ s :: suf
theorem rf {zs : List Str} {md c st : Int} (hs : lj st) {pre suf : List Nat} (l : zs.length <= 12) (h : ∀ (k : Nat) (z : Str),zs[k]? = some z -> Nm z /\ vo md pre suf k (sgn c st k) z) : zs.Nodup := by
 unfold List.Nodup
 rw [List.pairwise_iff_getElem]
 intro i j hi hj ij e
 have h1 := (h i _ (BG hi)).2
 have h2 := (h j _ (BG hj)).2
 rw [e] at h1
 unfold vo at h1 h2
 by_cases c1 : md = 1
 ·rw [if_pos c1] at h1 h2
  omega
 rw [if_neg c1] at h1 h2
 have : sgn c st i = sgn c st j := by
  by_cases c2 : md = 2
  ·rw [if_pos c2] at h1 h2
   obtain ⟨x,h1⟩ := h1
   obtain ⟨y,h2⟩ := h2
   rw [h1] at h2
   have := (List.append_inj' h2 rfl).2
   injection this
  ·rw [if_neg c2] at h1 h2
   rw [h1] at h2
   have := List.append_cancel_left h2
   injection this
 have := vm hs (by omega) (by omega) this
 omega
def jc : Sp := fun vs H Q _ => ∃ n m : Int,vs = [.int n,.int m] /\ 0 <= m /\ m <= 12 /\ ∀ (l : Addr) (H' : Hp) (zs : List Str),aB H H' -> H' l = some (.lst (zs.map V.str)) -> (zs.length : Int) = m -> (∀ z ∈ zs,Nm z) -> zs.Nodup -> Q (.ref l) H'
def gG : Sp := fun vs H Q _ => ∃ c : Int,vs = [.int c] /\ 0 <= c /\ c < 10 ^ 60 /\ ∀ p q : Int,0 < p -> si p q -> Bd 200 p -> Bd 200 q -> Pair H Q p q
def fF (K : B1) : Sp := fun vs H Q _ => ∃ c : Int,vs = [.int c] /\ ∀ (v : V) (H' : Hp),aB H H' -> cp K H' v -> Q v H'
def gH (K : B1) : Sp := fun vs H Q _ => ∃ c : Int,vs = [.int c] /\ ∀ (v : V) (H' : Hp),aB H H' -> cO K H' v -> ¬ fz v -> Q v H'
def dJ (c1 c2 : Addr) : Sp := fun vs H Q _ => ∃ (a C : Addr),vs = [.ref a] /\ Bt H a C none /\ (C = c1 ∨ C = c2) /\ ∀ H',aB H H' -> Q (.bl true) H'
def fG (K : B1) (C : Addr) : Sp := fun vs H Q _ => ∃ (x : Addr) (w : Int) (v : V) (F : List Addr) (m : Nat) (g : Str -> Str -> Option Addr) (bs ns : List Str) (vw : Str -> Str -> Int × Int) (U : List Str),vs = [.ref x,.int w,v] /\ LB C F H x [] m g bs ns /\ m <= 200 /\ bs.length <= 10 /\ ns.Nodup /\ ns.length <= 79 /\ oF K H g vw /\ (∀ a b,fJ g a b -> b ∈ U) /\ U.length <= 17 /\ cO K H v /\ ¬ fz v /\ ∀ H',aB H H' -> Q (.bl true) H'
def jd (K : B1) (C : Addr) : Sp := fun vs H Q _ => ∃ (x : Addr) (v w r : V) (b : Bool) (F : List Addr) (m : Nat) (g : Str -> Str -> Option Addr) (bs ns : List Str),vs = [.ref x,v,w,r,.bl b] /\ LB C F H x [] m g bs ns /\ m <= 1000 /\ ns.Nodup /\ ns.length <= 78 /\ (fz v ∨ cO K H v) /\ (fz w ∨ cO K H w) /\ ((∃ p q,eh H r p q) ∨ cp K H r) /\
 (¬ (fz v /\ fz w) -> ∀ H',aB H H' -> Q (.str "name") H') /\
 ∀ zg zo,v = .str zg -> w = .str zo -> Nm zg -> Nm zo ->
  ((zg = zo ∨ fJ g zg zo ∨ cp K H r) -> ∀ H',aB H H' -> Q (.str "stand") H') /\
  (zg ≠ zo -> ¬ fJ g zg zo -> ∀ p q,eh H r p q -> ∀ (F' : List Addr) (H' : Hp) (ms : List Str) (t : Addr),KF F H H' -> FG F F' H -> LB C F' H' x [] (m + 2) (lf g zg zo t) bs ms -> H' t = some (.tup [.int p,.int q]) -> ms.Nodup -> (∀ y,y ∈ ms ↔ y ∈ ns ∨ y = zg ∨ y = zo) -> Q (.str "done") H')
theorem lu {X : Cx} {i : Int} {j} {p p' : Pos} {es : List Expr} {t : TA} (h : lL X es t) : lL X (.UnaryOp .USub (.Constant (.int i) j p) p' :: es) (aL (zR (rU fun i => V.int (-i)) (tC (.int i))) t) := ⟨aa (oV kc am) h.h⟩
def AM : TA := (aL (gh (aL (tC (.int 0)) (aL (tC (.int 1)) dn))) (aL (gh (aL (zR (rU fun i => V.int (-i)) (tC (.int 3))) (aL (tC (.int 2)) dn))) (aL (gh (aL (tC (.int 2)) (aL (tC (.int 4)) dn))) (aL (gh (aL (tC (.int 1)) (aL (tC (.int 0)) dn))) (aL (gh (aL (tC (.int 3)) (aL (zR (rU fun i => V.int (-i)) (tC (.int 2))) dn))) (aL (tC (.int 5)) (aL (tC (.str "1/2")) (aL (iy (aL (tC (.int 1)) (aL (tC (.int 2)) dn))) dn))))))))
theorem yC {X : Cx} {j1 j2 j3 j4 j5 j6 j7 j8 j9 j10 j11 j12 j13 j14 x1 x2 x3 x4 x5} {p1 p2 p3 p4 p5 p6 p7 p8 p9 p10 p11 p12 p13 p14 p15 p16 p17 p18 p19 p20 p21 p22 pos : Pos} : PE X (.List [.Tuple [.Constant (.int 0) j1 p1,.Constant (.int 1) j2 p2] x1 p3,.Tuple [.UnaryOp .USub (.Constant (.int 3) j3 p4) p5,.Constant (.int 2) j4 p6] x2 p7,.Tuple [.Constant (.int 2) j5 p8,.Constant (.int 4) j6 p9] x3 p10,.Tuple [.Constant (.int 1) j7 p11,.Constant (.int 0) j8 p12] x4 p13,.Tuple [.Constant (.int 3) j9 p14,.UnaryOp .USub (.Constant (.int 2) j10 p15) p16] x5 p17,.Constant (.int 5) j11 p18,.Constant (.str "1/2") j12 p19,.List [.Constant (.int 1) j13 p20,.Constant (.int 2) j14 p21] p22] pos) (iy AM) := by
 refine kJ ?_
 unfold AM
 repeat' first | exact kH | apply kI | apply kQ | apply kP | apply oo | apply kR | apply kS | apply lu
def AN : TA := (aL (gh (aL (tC (.bl true)) (aL (tC (.int 2)) dn))) (aL (gh (aL (tC (.int 1)) (aL (tC (.int 2)) (aL (tC (.int 3)) dn)))) (aL (gh (aL (tC (.int 1)) dn)) (aL (gh dn) (aL (tC (.bl true)) (aL (tC (.int 0)) (aL (tC (.str "")) (aL (gh (aL (tC (.int 1)) (aL (tC (.bl true)) dn))) dn))))))))
theorem yD {X : Cx} {j1 j2 j3 j4 j5 j6 j7 j8 j9 j10 j11 x1 x2 x3 x4 x5} {p1 p2 p3 p4 p5 p6 p7 p8 p9 p10 p11 p12 p13 p14 p15 p16 pos : Pos} : PE X (.List [.Tuple [.Constant (.bool true) j1 p1,.Constant (.int 2) j2 p2] x1 p3,.Tuple [.Constant (.int 1) j3 p4,.Constant (.int 2) j4 p5,.Constant (.int 3) j5 p6] x2 p7,.Tuple [.Constant (.int 1) j6 p8] x3 p9,.Tuple [] x4 p10,.Constant (.bool true) j7 p11,.Constant (.int 0) j8 p12,.Constant (.str "") j9 p13,.Tuple [.Constant (.int 1) j10 p14,.Constant (.bool true) j11 p15] x5 p16] pos) (iy AN) := by
 refine kJ ?_
 unfold AN
 repeat' first | exact kH | apply kI | apply kQ | apply kP | apply oo | apply kR | apply kS | apply lu
def AO : TA := (aL (tC (.str "")) (aL (tC (.str "A")) (aL (tC (.str "a b")) (aL (tC (.str "ab1")) (aL (tC (.str "abcdefghijklm")) (aL (tC .non) (aL (tC (.int 7)) (aL (tC (.bl true)) (aL (iy (aL (tC (.str "a")) dn)) (aL (gh (aL (tC (.str "a")) dn)) (aL (tC (.str "a-")) (aL (tC (.str "aB")) dn))))))))))))
theorem yE {X : Cx} {j1 j2 j3 j4 j5 j6 j7 j8 j9 j10 j11 j12 x1} {p1 p2 p3 p4 p5 p6 p7 p8 p9 p10 p11 p12 p13 p14 pos : Pos} : PE X (.List [.Constant (.str "") j1 p1,.Constant (.str "A") j2 p2,.Constant (.str "a b") j3 p3,.Constant (.str "ab1") j4 p4,.Constant (.str "abcdefghijklm") j5 p5,.Constant .none j6 p6,.Constant (.int 7) j7 p7,.Constant (.bool true) j8 p8,.List [.Constant (.str "a") j9 p9] p10,.Tuple [.Constant (.str "a") j10 p11] x1 p12,.Constant (.str "a-") j11 p13,.Constant (.str "aB") j12 p14] pos) (iy AO) := by
 refine kJ ?_
 unfold AO
 repeat' first | exact kH | apply kI | apply kQ | apply kP | apply oo | apply kR | apply kS | apply lu
def zX (t1 t2 t3 t4 t5 l : Addr) : List V := [.ref t1,.ref t2,.ref t3,.ref t4,.ref t5,.int 5,.str "1/2",.ref l]
def zY (t1 t2 t3 t4 t5 : Addr) : List V := [.ref t1,.ref t2,.ref t3,.ref t4,.bl true,.int 0,.str "",.ref t5]
def zZ (l t : Addr) : List V := [.str "",.str "A",.str "a b",.str "ab1",.str "abcdefghijklm",.non,.int 7,.bl true,.ref l,.ref t,.str "a-",.str "aB"]
theorem cq {K : B1} {H : Hp} {v : V} (n : v ≠ .non) (h : mq K H v false) : cp K H v := ⟨n,.inl h⟩
theorem vq {K : B1} {H : Hp} {t1 t2 t3 t4 t5 l : Addr} (e1 : H t1 = some (.tup [.int 0,.int 1])) (e2 : H t2 = some (.tup [.int (-3),.int 2])) (e3 : H t3 = some (.tup [.int 2,.int 4])) (e4 : H t4 = some (.tup [.int 1,.int 0])) (e5 : H t5 = some (.tup [.int 3,.int (-2)])) (e6 : H l = some (.lst [.int 1,.int 2])) : ∀ v ∈ zX t1 t2 t3 t4 t5 l,cp K H v := fun v hv => by
 unfold zX at hv
 simp only [B9,Bw,or_false] at hv
 rcases hv with rfl | rfl | rfl | rfl | rfl | rfl | rfl | rfl
 ·exact ⟨nofun,.inr ⟨t1,0,1,rfl,e1,gp e1 (by decide),by decide⟩⟩
 ·exact ⟨nofun,.inr ⟨t2,-3,2,rfl,e2,gp e2 (by decide),by decide⟩⟩
 ·exact cq nofun (gp e3 (by decide))
 ·exact cq nofun (gp e4 (by decide))
 ·exact cq nofun (gp e5 (by decide))
 ·exact cq nofun (sC 5)
 ·exact cq nofun (sD _)
 ·exact cq nofun (wU e6)
theorem vr {K : B1} {H : Hp} {t1 t2 t3 t4 t5 : Addr} (e1 : H t1 = some (.tup [.bl true,.int 2])) (e2 : H t2 = some (.tup [.int 1,.int 2,.int 3])) (e3 : H t3 = some (.tup [.int 1])) (e4 : H t4 = some (.tup [])) (e5 : H t5 = some (.tup [.int 1,.bl true])) : ∀ v ∈ zY t1 t2 t3 t4 t5,cp K H v := fun v hv => by
 unfold zY at hv
 simp only [B9,Bw,or_false] at hv
 rcases hv with rfl | rfl | rfl | rfl | rfl | rfl | rfl | rfl
 ·exact cq nofun (.top e1 (v8 true))
 ·exact cq nofun (.len e2 (by decide))
 ·exact cq nofun (.len e3 (by decide))
 ·exact cq nofun (.len e4 (by decide))
 ·exact cq nofun (.no (.bl true) (by kernel_rfl))
 ·exact cq nofun (sC 0)
 ·exact cq nofun (sD _)
 ·exact cq nofun (.bot e5 (nR 1) (v8 true))
theorem vt {K : B1} {H : Hp} {l t : Addr} (el : H l = some (.lst [.str "a"])) (et : H t = some (.tup [.str "a"])) : ∀ v ∈ zZ l t,cO K H v /\ ¬ fz v := fun v hv => by
 unfold zZ at hv
 simp only [B9,Bw,or_false] at hv
 rcases hv with rfl | rfl | rfl | rfl | rfl | rfl | rfl | rfl | rfl | rfl | rfl | rfl
 ·exact d8 fun h => absurd h.1 (by decide)
 ·exact d8 fun h => absurd (h.2.2 65 (by decide)) (by decide)
 ·exact d8 fun h => absurd (h.2.2 32 (by decide)) (by decide)
 ·exact d8 fun h => absurd (h.2.2 49 (by decide)) (by decide)
 ·exact d8 fun h => absurd h.2.1 (by decide)
 ·exact i3 .non (by kernel_rfl) nofun
 ·exact i3 (.int 7) (by kernel_rfl) nofun
 ·exact i3 (.bl true) (by kernel_rfl) nofun
 ·exact i3 (.lst el) (by kernel_rfl) nofun
 ·exact i3 (.tup et) (by kernel_rfl) nofun
 ·exact d8 fun h => absurd (h.2.2 45 (by decide)) (by decide)
 ·exact d8 fun h => absurd (h.2.2 66 (by decide)) (by decide)
end Sw
namespace L2
open PySem PySem.Spec PyProof.Rows XH Sw
section
variable {X : Cx} {k j : Nat} {f C : Addr} {ps : List Str} {sp : Sp} {dvs : List V} {x m : Str} {p pos apos : Pos} {e o : Expr} {es : List Expr} {ta tb : TE} {t : TA} {E : L2.St -> XK}
theorem tM {pl : Sem Bool} {K : B1} (hK : X.K = K) (D : du X.prog X.w X.K X.mg X.base (cA X.prog X.w) k f ps dvs sp) (hr : bA j X.A) (hk : k <= j) (he : PE (X.wish (XS X E)) o ta) (ha : PA (X.wish (XS X E)) (e :: es) t)
  (hst : starEach (e :: es) X.env = (false,eval e X.env) :: starEach es X.env := by rfl) (hpl : (backTo pos (starEach es X.env)).any (·.1) = false := by rfl)
  (ht : eval (.Call (.Attribute o m apos) (e :: es) [] pos) X.env = (do
   let ov <- eval o X.env
   standAt apos.atName
   let (f,first) <- holding [ov] (getMethod ov m pl)
   callWith pos f first (backTo pos (starEach (e :: es) X.env)) (backToKw pos (keywordEach [] X.env))) := by rfl) :
  PE (X.wish (XS X E)) (.Call (.Attribute o m apos) (e :: es) [] pos) (kG K m f sp dvs E ta t) := by
 subst hK
 exact uQ (X := X.wish (XS X E)) D hr hk cH he ha hst hpl ht
end
theorem lv {X : Cx} {e : Expr} {t : TE} (h : PE X e t) : PE X e (fun σ H Q => t σ H fun v => AL X (Q v)) := by
 intro pins s σ H Q I q
 refine aX (h pins s σ H _ I q) fun u s1 ⟨v,H1,I1,r,a,o,kvs,e,nf,p⟩ => ?_
 exact ⟨v,_,I1.thawT e nf,r,p⟩
theorem pZ {a : Addr} {o : Obj} {kvs : List (List Key × V)} {js : List Nat} {te : TE} {σ : L2.St} {H1 : Hp} {Q : VK} (f : List Key -> V) (hf : H1 a = some (.frz o (.dT kvs))) (hz : kvs.length <= sizeLine)
  (step : ∀ (i : Nat) (k : List Key) (x : V) (b : Addr),kvs[i]? = some (k,x) -> ∀ H3,aB H1 H3 -> H3 b = some (.tup (k.map kV)) -> ∀ R : VK,R (f k) H3 -> te (some (.ref b) :: bu js σ) H3 R)
  (fin : ∀ p H',aB H1 H' -> H' p = some (.lst (kvs.map fun e => f e.1)) -> Q (.ref p) H') : v6 js te σ Q (u8 a o kvs) H1 := by
 intro p hp
 refine ⟨fun i m ys H2 => i <= kvs.length /\ m = kvs.length - i /\ ys = (kvs.take i).map (fun e => f e.1) /\ aB H1 H2 /\ H2 p = some (.lst ys),⟨kvs.length,BY _,rfl,rfl,Sw.ae hp _,ac⟩,?_⟩
 rintro i m ys H2 ⟨hi,rfl,rfl,g,e⟩
 refine ⟨e,?_⟩
 have f2 := g _ _ hf
 by_cases hin : i < kvs.length
 ·refine .inr ⟨⟨f2,hin⟩,?_,fun x H3 hy => ?_⟩
  ·rw [B2,CI]
   omega
  obtain ⟨rfl,k,v,b,hk,rfl,hb⟩ := hy
  have tk : (kvs.take (i + 1)).map (fun e => f e.1) = (kvs.take i).map (fun e => f e.1) ++ [f k] := by
   rw [List.take_succ,hk,Bv]
   rfl
  exact step i k v b hk H3 g hb _ ⟨e,kvs.length - (i + 1),by omega,hin,rfl,tk.symm,Sw.fT g hp _,ac⟩
 ·have : i = kvs.length := by omega
  subst this
  refine .inl ⟨⟨f2,rfl⟩,fin p H2 g ?_⟩
  rw [e,Cu]
theorem rg {a : Addr} {o : Obj} {kvs : List (List Key × V)} {js : List Nat} {tc : TT} {te : TE} {σ : L2.St} {H1 : Hp} {Q : VK} (pr : List Key -> Bool) (f : List Key -> V) (hf : H1 a = some (.frz o (.dT kvs))) (hz : kvs.length <= sizeLine)
  (step : ∀ (i : Nat) (k : List Key) (x : V) (b : Addr),kvs[i]? = some (k,x) -> ∀ H3,aB H1 H3 -> H3 b = some (.tup (k.map kV)) -> (∀ R : Bool -> Hp -> Prop,R (pr k) H3 -> tc (some (.ref b) :: bu js σ) H3 R) /\ ∀ R : VK,R (f k) H3 -> te (some (.ref b) :: bu js σ) H3 R)
  (fin : ∀ p H',aB H1 H' -> H' p = some (.lst ((kvs.filter fun e => pr e.1).map fun e => f e.1)) -> Q (.ref p) H') : kL js tc te σ Q (u8 a o kvs) H1 := by
 intro p hp
 refine ⟨fun i m ys H2 => i <= kvs.length /\ m = kvs.length - i /\ ys = ((kvs.take i).filter fun e => pr e.1).map (fun e => f e.1) /\ aB H1 H2 /\ H2 p = some (.lst ys),⟨kvs.length,BY _,rfl,rfl,Sw.ae hp _,ac⟩,?_⟩
 rintro i m ys H2 ⟨hi,rfl,rfl,g,e⟩
 refine ⟨e,?_⟩
 have f2 := g _ _ hf
 by_cases hin : i < kvs.length
 ·refine .inr ⟨⟨f2,hin⟩,?_,fun x H3 hy => ?_⟩
  ·have := CO (fun e : List Key × V => pr e.1) (kvs.take i)
   rw [B2]
   rw [CI] at this
   omega
  obtain ⟨rfl,k,v,b,hk,rfl,hb⟩ := hy
  have tk : ((kvs.take (i + 1)).filter fun e => pr e.1) = ((kvs.take i).filter fun e => pr e.1) ++ (if pr k = true then [(k,v)] else []) := by
   rw [List.take_succ,hk,List.filter_append]
   congr 1
   simp [CJ]
  obtain ⟨s1,s2⟩ := step i k v b hk H3 g hb
  refine s1 _ ?_
  cases hpr : pr k with
  | true =>
   rw [hpr,if_pos rfl] at tk
   rw [if_pos rfl]
   exact s2 _ ⟨e,kvs.length - (i + 1),by omega,hin,rfl,by rw [tk,Bv]; rfl,Sw.fT g hp _,ac⟩
  | false =>
   rw [hpr,if_neg (by decide),D1] at tk
   rw [if_neg (by decide)]
   exact ⟨kvs.length - (i + 1),by omega,hin,rfl,by rw [tk],g,e⟩
 ·have : i = kvs.length := by omega
  subst this
  refine .inl ⟨⟨f2,rfl⟩,fin p H2 g ?_⟩
  rw [e,Cu]
end L2
namespace Sw
open PySem L2 XH PyProof.Rows Wo Hm
theorem LB.far {C : Addr} {F : List Addr} {H : Hp} {x l : Addr} {rows : List (Str × List Str)} {m : Nat} {g : Str -> Str -> Option Addr} {bs ns : List Str} {o : HO} (h : LB C F H x rows m g bs ns) (e : H l = some o) (k1 : ∀ kv,o ≠ .dK kv) (k2 : ∀ C dx fs,o ≠ .ins C dx fs) (u : HO) : LB C F (aq H l u) x rows m g bs ns := by
 have lF := h.not e k1
 obtain ⟨F0,dx,s,b,fs,dk,la,ex,es,eb,bd,hb,q1,q2,q3,q4,q5,q6,q7,q8,q9⟩ := h.ex
 have xl : x ≠ l := fun z => by
  rw [z,e] at ex
  exact k2 _ _ _ (C1 ex)
 have sl : s ≠ l := fun z => lF (by rw [<- z]; exact q6)
 have bl : b ≠ l := fun z => lF (by rw [<- z]; exact q7)
 refine ⟨F0,dx,s,b,fs,dk,?_,by rw [aj xl]; exact ex,es,eb,pX bd (fun z => sl z.symm) (fun y z => ?_) _,by rw [aj bl]; exact hb,q1,q2,q3,q4,q5,q6,q7,fun a ha => ?_,q9⟩
 ·obtain ⟨dx',p,n,fs',rs,a,b',c,d,e',f,i,j,k⟩ := la.ex
  subst i
  have pl : p ≠ l := fun z => lF (q5 _ (by simp [z]))
  have nl : n ≠ l := fun z => lF (q5 _ (by simp [z]))
  have rl : l ∉ rs := fun z => lF (q5 _ (by simp [z]))
  exact ⟨dx',p,n,fs',rs,by rw [aj xl]; exact a,b',c,d.other rl,by rw [aj pl]; exact e',by rw [aj nl]; exact f,rfl,j,k⟩
 ·rcases bd.ex y with ⟨z1,_⟩ | ⟨a,row,z1,z2,_⟩
  ·rw [z] at z1; cases z1
  ·rw [z] at z1
   cases z1
   rw [e] at z2
   exact k1 _ (C1 z2)
 ·obtain ⟨kv,w⟩ := q8 a ha
  exact ⟨kv,by rw [aj (fun z => lF (by rw [<- z]; exact ha))]; exact w⟩
theorem oF.keep {K : B1} {H H' : Hp} {g : Str -> Str -> Option Addr} {vw : Str -> Str -> Int × Int} (h : oF K H g vw) (k : ∀ a xs,H a = some (.tup xs) -> H' a = some (.tup xs)) : oF K H' g vw := ⟨fun x y t e => ⟨k _ _ (h.fr x y t e).1,(h.fr x y t e).2⟩,h.nm⟩
def fH (es : List (Str × Str × Addr)) : List (List Key × V) := es.map fun e => ([.inr e.1,.inr e.2.1],.ref e.2.2)
theorem f9 (es : List (Str × Str × Addr)) : (fH es).length = es.length := B2 _
theorem ly {es : List (Str × Str × Addr)} {a b : Str} {v : V} (h : aK (fH es) [.inr a,.inr b] = some v) : ∃ t,v = .ref t /\ (a,b,t) ∈ es := by
 obtain ⟨e,he,z⟩ := BH.mp (kY h)
 cases z
 exact ⟨_,rfl,he⟩
theorem mW {es : List (Str × Str × Addr)} {a b : Str} (h : ∀ t,(a,b,t) ∉ es) : aK (fH es) [.inr a,.inr b] = none := by
 cases e : aK (fH es) [.inr a,.inr b] with
 | none => rfl
 | some v =>
  obtain ⟨t,rfl,z⟩ := ly e
  exact absurd z (h t)
theorem mX {es : List (Str × Str × Addr)} {a b : Str} {t : Addr} (h : (a,b,t) ∈ es) : ∃ t',aK (fH es) [.inr a,.inr b] = some (.ref t') /\ (a,b,t') ∈ es := by
 obtain ⟨w,hw⟩ := kZ (kvs := fH es) (k := [.inr a,.inr b]) (v := .ref t) (BH.mpr ⟨_,h,rfl⟩)
 obtain ⟨t',rfl,z⟩ := ly hw
 exact ⟨t',hw,z⟩
theorem qa {es : List (Str × Str × Addr)} {a b : Str} (h : ∀ t,(a,b,t) ∉ es) (t : Addr) : putK (fH es) [.inr a,.inr b] (.ref t) = fH (es ++ [(a,b,t)]) := by
 rw [L2.eD _ (mW h)]
 unfold fH
 rw [Bv]
 rfl
theorem tN {κ : Type} [DecidableEq κ] {kvs : List (κ × V)} {k : κ} (h : aK kvs k = none) (u v : V) : putK (putK kvs k u) k v = putK kvs k v := by
 rw [L2.eD u h,L2.eD v h]
 have n : ∀ p ∈ kvs,p.1 ≠ k := fun p hp z => by
  obtain ⟨w,hw⟩ := kZ (kvs := kvs) (k := k) (v := p.2) (by rw [<- z]; exact hp)
  rw [h] at hw
  cases hw
 unfold putK
 rw [if_pos (by simp),Bv]
 congr 1
 ·refine (List.map_congr_left fun p hp => ?_).trans (List.map_id _)
  rw [if_neg (n p hp)]
  rfl
 ·simp
theorem yF {K : B1} {H : Hp} {x : V} {b : Bool} {i : Int} (h : Wh K H x b) (e : x = .int i) : b = true := by
 cases h with
 | mk ty h1 h2 =>
  subst e
  cases ty
  have k1 : BR K (.type "int") (.type "int") = some true := by kernel_rfl
  have k2 : BR K (.type "int") (.type "bool") = some false := by kernel_rfl
  rw [k1] at h1
  rw [k2] at h2
  cases h1
  cases h2
  rfl
theorem yG {K : B1} {H : Hp} {t : Addr} {v : V} {b : Bool} {p q : Int} (h : mq K H v b) (ev : v = .ref t) (e : H t = some (.tup [.int p,.int q])) (lo : si p q) : b = true := by
 cases h with
 | no ty h =>
  subst ev
  cases ty with
  | tup e' =>
   have k1 : BR K (.type "tuple") (.type "tuple") = some true := by kernel_rfl
   rw [k1] at h
   cases h
  | lst e' => rw [e] at e'; cases e'
  | frz e' => rw [e] at e'; cases e'
  | dK e' => rw [e] at e'; cases e'
  | dT e' => rw [e] at e'; cases e'
  | ins e' => rw [e] at e'; cases e'
 | len e' h =>
  cases ev
  rw [e] at e'
  cases e'
  exact absurd rfl h
 | top e' h =>
  cases ev
  rw [e] at e'
  cases e'
  have := yF h rfl
  cases this
 | bot e' h h' =>
  cases ev
  rw [e] at e'
  cases e'
  have := yF h' rfl
  cases this
 | two e' =>
  cases ev
  rw [e] at e'
  cases e'
  rw [decide_eq_true (show 1 <= q from lo.pos),decide_eq_true lo.low]
  rfl
theorem tO {K : B1} {H : Hp} {v : V} {p q : Int} (ok : eh H v p q) (bad : cp K H v) : False := by
 rcases ok with ⟨e,_⟩ | ⟨t,rfl,et,p0,lo,_⟩
 ·exact bad.1 e
 ·rcases bad.2 with h | ⟨t',p',q',e',et',_,z⟩
  ·have := yG h rfl et lo
   cases this
  ·cases e'
   rw [et] at et'
   cases et'
   omega
theorem rh {H : Hp} {v : V} {p q p' q' : Int} (h : eh H v p q) (k : eh H v p' q') : p = p' /\ q = q' := by
 rcases h with ⟨e,rfl,rfl⟩ | ⟨t,e,et,_⟩
 ·rcases k with ⟨_,rfl,rfl⟩ | ⟨t',e',_⟩
  ·exact ⟨rfl,rfl⟩
  ·rw [e] at e'
   cases e'
 ·rcases k with ⟨e',_⟩ | ⟨t',e',et',_⟩
  ·rw [e] at e'
   cases e'
  ·rw [e] at e'
   cases e'
   rw [et] at et'
   cases et'
   exact ⟨rfl,rfl⟩
theorem tP {H : Hp} {v : V} {p q : Int} (h : eh H v p q) : 0 < p /\ si p q /\ Bd 200 p /\ Bd 200 q := by
 rcases h with ⟨e,rfl,rfl⟩ | ⟨t,e,et,z⟩
 ·exact ⟨by decide,⟨by decide,by decide⟩,by unfold Bd; decide,by unfold Bd; decide⟩
 ·exact z
structure S9 (K : B1) (C : Addr) (H : Hp) (x d : Addr) (nm : List Str) (n : Nat) (ex : List Str) (F : List Addr) (m : Nat) (g : Str -> Str -> Option Addr) (bs ns : List Str) (es : List (Str × Str × Addr)) (vw : Str -> Str -> Int × Int) : Prop where
 lb : LB C F H x [] m g bs ns
 d : H d = some (.dT (fH es))
 st : ∀ a b,fJ g a b ↔ ∃ t,(a,b,t) ∈ es
 val : ∀ a b t,(a,b,t) ∈ es -> H t = some (.tup [.int (vw a b).1,.int (vw a b).2])
 ra : oF K H g vw
 inn : ∀ a b t,(a,b,t) ∈ es -> a ∈ nm /\ b ∈ nm /\ a ≠ b
 nsm : ∀ y,y ∈ ns ↔ (∃ a b t,(a,b,t) ∈ es /\ (y = a ∨ y = b)) ∨ y ∈ ex
 nn : ns.Nodup
 few : m <= 2 * n /\ es.length <= n
def KN (d : Addr) (H H' : Hp) : Prop := ∀ a o,a ≠ d -> (∀ kv,o ≠ .dK kv) -> H a = some o -> H' a = some o
theorem KN.trans {d : Addr} {H H' H'' : Hp} (h : KN d H H') (k : KN d H' H'') : KN d H H'' := fun a o n z e => k a o n z (h a o n z e)
theorem KN.of {d : Addr} {H H' : Hp} (h : aB H H') : KN d H H' := fun a o _ _ e => h a o e
section
variable {K : B1} {C : Addr} {H H' : Hp} {x d : Addr} {nm : List Str} {n : Nat} {ex : List Str} {F : List Addr} {m : Nat} {g : Str -> Str -> Option Addr} {bs ns : List Str} {es : List (Str × Str × Addr)} {vw : Str -> Str -> Int × Int}
theorem KN.kf {rows : List (Str × List Str)} (lb : LB C F H x rows m g bs ns) (k : KF F H H') : KN d H H' := fun a o _ z e => k a o (lb.not e z) e
theorem S9.same (h : S9 K C H x d nm n ex F m g bs ns es vw) (e : aB H H') : S9 K C H' x d nm n ex F m g bs ns es vw :=
 ⟨h.lb.same e,e _ _ h.d,h.st,fun a b t z => e _ _ (h.val a b t z),h.ra.keep fun a xs z => e _ _ z,h.inn,h.nsm,h.nn,h.few⟩
theorem S9.len (h : S9 K C H x d nm n ex F m g bs ns es vw) (hx : ∀ y ∈ ex,y ∈ nm) : ns.length <= nm.length := by
 refine Wo.cK h.nn fun y hy => ?_
 rcases (h.nsm y).mp hy with ⟨a,b,t,z,rfl | rfl⟩ | z
 ·exact (h.inn _ _ _ z).1
 ·exact (h.inn _ _ _ z).2.1
 ·exact hx y z
theorem S9.more (h : S9 K C H x d nm n ex F m g bs ns es vw) : S9 K C H x d nm (n + 1) ex F m g bs ns es vw := ⟨h.lb,h.d,h.st,h.val,h.ra,h.inn,h.nsm,h.nn,by have := h.few; omega⟩
theorem S9.bars (h : S9 K C H x d nm n ex F m g bs ns es vw) {bs' ns' ex' : List Str} (k : KF F H H') (lb : LB C F H' x [] m g bs' ns') (hn : ns'.Nodup) (hs : ∀ y,y ∈ ns' ↔ (∃ a b t,(a,b,t) ∈ es /\ (y = a ∨ y = b)) ∨ y ∈ ex') : S9 K C H' x d nm n ex' F m g bs' ns' es vw :=
 ⟨lb,k _ _ (h.lb.not h.d (fun _ z => nomatch z)) h.d,h.st,fun a b t z => k _ _ (h.lb.not (h.val a b t z) (fun _ z => nomatch z)) (h.val a b t z),h.ra.keep fun a xs z => k _ _ (h.lb.not z (fun _ z => nomatch z)) z,h.inn,hs,hn,h.few⟩
theorem S9.put (h : S9 K C H x d nm n ex F m g bs ns es vw) {H1 : Hp} {F' : List Addr} {a b : Str} {t t0 : Addr} {p q : Int} {ms : List Str} (lb1 : LB C F H1 x [] m g bs ns) (k1 : ∀ a o,a ≠ d -> H a = some o -> H1 a = some o) (d1 : H1 d = some (.dT (fH (es ++ [(a,b,t0)])))) (e0 : H1 t0 = some (.tup [.int p,.int q]))
  (kf : KF F H1 H') (lb : LB C F' H' x [] (m + 2) (lf g a b t) bs ms) (et : H' t = some (.tup [.int p,.int q])) (p0 : 0 < p) (lo : si p q) (b1 : Bd 200 p) (b2 : Bd 200 q) (na : Nm a) (nb : Nm b) (ai : a ∈ nm) (bi : b ∈ nm) (ab : a ≠ b) (new : ∀ t,(a,b,t) ∉ es) (nn : ms.Nodup) (hs : ∀ y,y ∈ ms ↔ y ∈ ns ∨ y = a ∨ y = b) :
  S9 K C H' x d nm (n + 1) ex F' (m + 2) (lf g a b t) bs ms (es ++ [(a,b,t0)]) (fun u v => if u = a /\ v = b then (p,q) else vw u v) := by
 have nd : ∀ (c : Addr) (xs : List V),H c = some (.tup xs) -> c ≠ d := fun c xs e z => by rw [z,h.d] at e; cases e
 have tp : ∀ (c : Addr) (xs : List V),H1 c = some (.tup xs) -> H' c = some (.tup xs) := fun c xs e => kf _ _ (lb1.not e (fun _ z => nomatch z)) e
 have t2 : ∀ (c : Addr) (xs : List V),H c = some (.tup xs) -> H' c = some (.tup xs) := fun c xs e => tp c xs (k1 _ _ (nd c xs e) e)
 refine ⟨lb,kf _ _ (lb1.not d1 (fun _ z => nomatch z)) d1,fun u v => ?_,fun u v w z => ?_,⟨fun u v w z => ?_,fun u v w z => ?_⟩,fun u v w z => ?_,fun y => ?_,nn,by have := h.few; rw [B8,BW]; omega⟩
 ·unfold fJ lf
  by_cases c : u = a /\ v = b
  ·rw [c.1,c.2]
   constructor
   ·intro _
    exact ⟨t0,by simp⟩
   ·intro _
    exact ⟨t,by simp⟩
  ·simp only [if_neg c]
   refine (h.st u v).trans ⟨fun ⟨w,z⟩ => ⟨w,CK _ z⟩,fun ⟨w,z⟩ => ?_⟩
   rcases BN.mp z with z | z
   ·exact ⟨w,z⟩
   ·rw [B5] at z
    cases z
    exact absurd ⟨rfl,rfl⟩ c
 ·rcases BN.mp z with z | z
  ·have c : ¬ (u = a /\ v = b) := fun c => new w (by rw [<- c.1,<- c.2]; exact z)
   simp only [if_neg c]
   exact t2 _ _ (h.val u v w z)
  ·rw [B5] at z
   cases z
   simp only [and_self,if_true]
   exact tp _ _ e0
 ·unfold lf at z
  by_cases c : u = a /\ v = b
  ·rw [if_pos c] at z
   cases z
   simp only [if_pos c]
   exact ⟨et,p0,lo,b1,b2⟩
  ·rw [if_neg c] at z
   simp only [if_neg c]
   obtain ⟨f1,f2⟩ := h.ra.fr u v w z
   exact ⟨t2 _ _ f1,f2⟩
 ·unfold lf at z
  by_cases c : u = a /\ v = b
  ·rw [c.1,c.2]
   exact ⟨na,nb⟩
  ·rw [if_neg c] at z
   exact h.ra.nm u v w z
 ·rcases BN.mp z with z | z
  ·exact h.inn u v w z
  ·rw [B5] at z
   cases z
   exact ⟨ai,bi,ab⟩
 ·rw [hs y,h.nsm y]
  constructor
  ·rintro ((⟨u,v,w,z,e⟩ | z) | z)
   ·exact .inl ⟨u,v,w,CK _ z,e⟩
   ·exact .inr z
   ·exact .inl ⟨a,b,t0,by simp,z⟩
  ·rintro (⟨u,v,w,z,e⟩ | z)
   ·rcases BN.mp z with z | z
    ·exact .inl (.inl ⟨u,v,w,z,e⟩)
    ·rw [B5] at z
     cases z
     exact .inr e
   ·exact .inl (.inr z)
end
def lM (K : B1) (C : Addr) (H : Hp) (x d : Addr) (nm : List Str) (n : Nat) (ex : List Str) : Prop := ∃ F m g ns es vw,S9 K C H x d nm n ex F m g [] ns es vw
theorem lM.same {K : B1} {C : Addr} {H H' : Hp} {x d : Addr} {nm : List Str} {n : Nat} {ex : List Str} (h : lM K C H x d nm n ex) (e : aB H H') : lM K C H' x d nm n ex := by
 obtain ⟨F,m,g,ns,es,vw,s⟩ := h
 exact ⟨F,m,g,ns,es,vw,s.same e⟩
def lA (K : B1) (C : Addr) : Sp := fun vs H Q _ => ∃ (x d l : Addr) (c : Int) (nm : List Str) (n : Nat),vs = [.ref x,.ref d,.ref l,.int c] /\ lM K C H x d nm n [] /\ H l = some (.lst (nm.map V.str)) /\ 2 <= nm.length /\ nm.length <= 6 /\ (∀ z ∈ nm,Nm z) /\ n <= 63 /\
 ∀ H',KN d H H' -> lM K C H' x d nm (n + 1) [] -> Q (.bl true) H'
def je (K : B1) (C : Addr) : Sp := fun vs H Q _ => ∃ (x d : Addr) (z : Str) (nm : List Str) (n : Nat) (ex : List Str),vs = [.ref x,.ref d,.str z] /\ lM K C H x d nm n ex /\ z ∈ nm /\ (∀ y ∈ ex,y ∈ nm) /\ nm.length <= 6 /\ (∀ z ∈ nm,Nm z) /\ n <= 63 /\
 ∀ H',KN d H H' -> lM K C H' x d nm n (ex ++ [z]) -> Q (.bl true) H'
theorem qb {x y : Str} : Led [] x y ↔ y = x := by
 constructor
 ·intro h
  exact Led.closed (S := fun z => z = x) rfl (fun a b _ z => by cases z) h
 ·rintro rfl
  exact .self
theorem lB {good y : Str} : Blk [] [good] y ↔ y = good := by
 unfold Blk
 constructor
 ·rintro ⟨b,hb,l⟩
  rw [B5] at hb
  rw [qb] at l
  rw [<- l,hb]
 ·rintro rfl
  exact ⟨y,by simp,.self⟩
theorem ri {g : Str -> Str -> Option Addr} {good : Str} {cs : List (List Str)} (h : fD (fJ g) good cs cs.length (fun _ => False)) (irr : ∀ a b,fJ g a b -> a ≠ b) {k : Nat} {c : List Str} (hk : cs[k]? = some c) (bl : ∀ (j : Nat) (d : List Str),j < k -> cs[j]? = some d -> aO d = good) (nb : aO c ≠ good) : ∃ x,c = [good] ++ [x] /\ fJ g good x /\ ∀ y,fJ g good y -> ¬ rF y x := by
 have f0 := h.first
 have l0 : aO [good] = good := rfl
 have k1 : k = 1 := by
  rcases Nat.lt_trichotomy k 1 with z | z | z
  ·have : k = 0 := by omega
   subst this
   rw [f0] at hk
   cases hk
   exact absurd l0 nb
  ·exact z
  ·exfalso
   have lk := (B4.mp hk).1
   have e1 := BG (show 1 < cs.length by omega)
   have b1 := bl 1 _ z e1
   have nd := h.nd
   unfold List.Nodup at nd
   rw [List.pairwise_iff_getElem] at nd
   refine nd 0 1 (by rw [B2]; omega) (by rw [B2]; omega) (by omega) ?_
   rw [List.getElem_map,List.getElem_map,b1]
   rw [BG (show 0 < cs.length by omega)] at f0
   rw [C1 f0,l0]
 subst k1
 obtain ⟨j,c',x,j1,_,hj,rfl,r,_⟩ := h.from_ 1 c (by omega) hk
 have : j = 0 := by omega
 subst this
 rw [f0] at hj
 cases hj
 refine ⟨x,rfl,r,fun y ry lt => ?_⟩
 obtain ⟨k2,d,hd,ld,na⟩ := h.shut 0 [good] y (B4.mp f0).1 f0 ry
 have ah := i4 [good] lt
 rcases Nat.lt_trichotomy k2 1 with z | z | z
 ·have : k2 = 0 := by omega
  subst this
  rw [f0] at hd
  cases hd
  exact irr _ _ ry (l0.symm.trans ld)
 ·subst z
  rw [hk] at hd
  cases hd
  exact na ah
 ·exact na (ah.trans (h.lt hk hd z))
theorem tQ {g : Str -> Str -> Option Addr} {good : Str} {cs : List (List Str)} (h : fD (fJ g) good cs cs.length (fun _ => False)) (irr : ∀ a b,fJ g a b -> a ≠ b) (all : ∀ (j : Nat) (d : List Str),cs[j]? = some d -> aO d = good) (y : Str) : ¬ fJ g good y := fun ry => by
 have f0 := h.first
 obtain ⟨k2,d,hd,ld,na⟩ := h.shut 0 [good] y (B4.mp f0).1 f0 ry
 exact irr _ _ ry ((all k2 d hd).symm.trans ld)
theorem xz {vw : Str -> Str -> Int × Int} {a b : Str} {p q : Int} (h : vd vw ([a] ++ [b]) p q) (lo : si (vw a b).1 (vw a b).2) : p = (vw a b).1 /\ q = (vw a b).2 := by
 have e : ju vw ([a] ++ [b]) (([a] ++ [b] : List Str).length - 1) = (1 * (vw a b).1,1 * (vw a b).2) := rfl
 refine pW h ?_ ?_
 ·rw [e]
  refine ⟨lo.pos,lo.low,?_,?_,?_⟩
  ·show (vw a b).1 * (1 * (vw a b).2) = 1 * (vw a b).1 * (vw a b).2
   rw [Int.one_mul,Int.one_mul]
  ·show _ <= (1 * (vw a b).1).natAbs
   rw [Int.one_mul]
   exact B3 _
  ·show _ <= (1 * (vw a b).2).natAbs
   rw [Int.one_mul]
   exact B3 _
 ·rw [e]
  show 0 < 1 * (vw a b).2
  rw [Int.one_mul]
  exact lo.pos
theorem tR {K : B1} {H : Hp} {a b : Addr} {zs : List Str} (h1 : H a = some (.lst (zs.map V.str))) (h2 : H b = some (.lst (zs.map V.str))) : wc K H 1 (.ref a) (.ref b) :=
 .inr ⟨a,b,_,_,rfl,rfl,.inr ⟨bv.of h1,bv.of h2⟩,tK fun z hz => by obtain ⟨y,_,rfl⟩ := BH.mp hz; trivial⟩
theorem tT {K : B1} {H : Hp} {a b : Addr} {p q : Int} (h1 : H a = some (.tup [.int p,.int q])) (h2 : H b = some (.tup [.int p,.int q])) : wc K H 1 (.ref a) (.ref b) :=
 .inr ⟨a,b,_,_,rfl,rfl,.inl ⟨cR.of h1,cR.of h2⟩,⟨rfl,trivial⟩,⟨rfl,trivial⟩,trivial⟩
end Sw
namespace L2
open PySem PySem.Spec PyProof.Rows XH Sw
section
variable {prog : Program} {w : World} {A : Around} {E : Value -> Shared -> Prop} {s : Shared}
theorem tU {α : Type} {hx : Addr} {ox : Obj} {vs : Array Value} {Q : α -> Shared -> Prop} (hh : A.handled = some (.ref hx)) (ho : s.heap.get? hx = some ox) (hd : ox.data = .fields vs) (h2 : vs[2]? = some .none)
  (k : ∀ (e : Addr) (h' : Heap),(∀ b o,s.heap.get? b = some o -> h'.get? b = some o) -> ({ s with heap := h' } : Shared).TypeIs (.ref e) "StopIteration" -> E (.ref e) { s with heap := h' }) : wpAny (model prog w) A (newExc (.type "StopIteration") [] >>= raiseNew) Q E s := by
 refine wpAny_bind ?_
 simp only [newExc,newTuple]
 refine wpAny_bind (wpAny_newObj_type ?_ (by size_fits))
 refine wpAny_bind (m := firstArgMember _ _) (wpAny_of_eq (a := Value.none) (by first | rfl | (simp only [firstArgMember]; rfl)) ?_)
 refine wpAny_newObj_type ?_ (by size_fits)
 simp only [raiseNew]
 refine wpAny_bind (wpAny_handled ?_)
 rw [hh]
 have g0 : s.heap.get? (s.heap.push { cls := .type "tuple",dict := none,data := .seq ([] : List Value).toArray }).objs.size = none := Heap.get?_none_of_le (by rw [Heap.size_push]; omega)
 have ne : hx ≠ (s.heap.push { cls := .type "tuple",dict := none,data := .seq ([] : List Value).toArray }).objs.size := fun z => by
  rw [z,g0] at ho
  cases ho
 dsimp only
 rw [if_pos (bne_iff_ne.mpr fun z => ne (Value.ref.inj z))]
 refine wpAny_bind (wpAny_holding (wpAny_runValue (codeAny_builtin jm ?_)))
 show wpAny _ _ (field (.ref hx) 2 >>= _) _ _ _
 refine wpAny_bind (wpAny_field (Heap.get?_push_of_some _ (Heap.get?_push_of_some _ ho)) hd h2 ?_)
 rw [if_pos (by rfl)]
 refine wpAny_bind (wpAny_pure (wpAny_pure ?_))
 refine wpAny_bind (m := updateField _ 2 _) (wpAny_setField (Heap.get?_push_size _ rfl) rfl (by show 2 < 6; decide) ?_)
 refine wpAny_throw (k _ _ (fun b o e => ?_) ⟨_,Heap.get?_update_self _ (Heap.get?_push_size _ rfl) rfl,rfl⟩)
 rw [Heap.get?_update_other _ _ (by
  intro z
  rw [z] at g0
  rw [g0] at e
  cases e)]
 exact Heap.get?_push_of_some _ (Heap.get?_push_of_some _ e)
theorem rj {it l hx : Addr} {ox : Obj} {vs : Array Value} {i : Nat} {items : Array Value} {Q : Option Value -> Shared -> Prop} (hh : A.handled = some (.ref hx)) (hox : s.heap.get? hx = some ox) (hdx : ox.data = .fields vs) (h2 : vs[2]? = some .none)
  (hit : s.heap.IsListIter it l i) (hl : s.heap.IsList l items) (hi : items[i]? = none)
  (hQ : ∀ h',Heap.ExtBut it s.heap h' -> Q none { s with heap := h' }) : wpAny (model prog w) A (pyNext (.ref it)) Q E s := by
 obtain ⟨o,ho,hc,hd⟩ := id hit
 obtain ⟨ol,hol,_,nl,hdl⟩ := hl
 have ne : hx ≠ it := fun z => by
  rw [z,ho] at hox
  cases hox
  rw [hd] at hdx
  cases hdx
  cases h2
 unfold pyNext
 refine wpAny_bind (wpAny_attempt (wpAny_callSpecial?_slot (name := Str.ofString "__next__") hit.typeIs slot_listiter_next
  (wpAny_call_entry slot_listiter_next hit.typeIs entry_listiter_next ?_ (args_listiter_next _))))
 show wpAny _ _ (field (.ref it) 0 >>= _) _ _ s
 refine wpAny_bind (wpAny_field ho hd (x := .ref l) rfl ?_)
 show wpAny _ _ (if (Value.ref l == Value.none) = true then _ else _) _ _ s
 rw [if_neg (show ¬ ((Value.ref l == Value.none) = true) from BE)]
 show wpAny _ _ (field (.ref it) 1 >>= _) _ _ s
 refine wpAny_bind (wpAny_field ho hd (x := .int i 0) rfl ?_)
 show wpAny _ _ (seqItems? (.ref l) >>= _) _ _ s
 refine wpAny_bind (wpAny_seqItems hol hdl ?_)
 simp only [CT,hi]
 refine wpAny_bind (wpAny_rule (wpAny_bind (wpAny_setField ho hd (by simp) ?_)))
 refine tU (A := A.in1) hh ((Heap.get?_update_other _ _ (Ne.symm ne)).trans hox) hdx h2 fun e h' kk ty => ?_
 refine wpAny_bind (wpAny_isInstance (T := "StopIteration") (b := true) ty isSubtype_stop ?_)
 exact wpAny_pure (hQ _ fun b o hb eo => kk b o ((Heap.get?_update_other _ _ (Ne.symm hb)).trans eo))
theorem oH {it hx : Addr} {ox : Obj} {vs : Array Value} {x : Str} {t : Tok} {i : Nat} {Q : Option Value -> Shared -> Prop} (hh : A.handled = some (.ref hx)) (hox : s.heap.get? hx = some ox) (hdx : ox.data = .fields vs) (h2 : vs[2]? = some .none)
  (hit : s.heap.IsStrIter it "str_ascii_iterator" x t i) (hi : x.cps[i]? = none)
  (hQ : ∀ h',Heap.ExtBut it s.heap h' -> Q none { s with heap := h' }) : wpAny (model prog w) A (pyNext (.ref it)) Q E s := by
 obtain ⟨o,ho,hc,hd⟩ := id hit
 have ne : hx ≠ it := fun z => by
  rw [z,ho] at hox
  cases hox
  rw [hd] at hdx
  cases hdx
  cases h2
 unfold pyNext
 refine wpAny_bind (wpAny_attempt (wpAny_callSpecial?_slot (name := Str.ofString "__next__") hit.typeIs F.slot_str_ascii_iterator_next
  (wpAny_call_entry F.slot_str_ascii_iterator_next hit.typeIs F.entry_str_ascii_iterator_next ?_ (F.args_str_ascii_iterator_next_1 _))))
 show wpAny _ _ (field (.ref it) 0 >>= _) _ _ s
 refine wpAny_bind (wpAny_field ho hd (x := .str x t) rfl ?_)
 show wpAny _ _ (field (.ref it) 1 >>= _) _ _ s
 refine wpAny_bind (wpAny_field ho hd (x := .int i 0) rfl ?_)
 simp only [CT,hi]
 refine wpAny_bind (wpAny_rule (wpAny_bind (wpAny_setField ho hd (by simp) (wpAny_bind (wpAny_letGo ?_)))))
 refine tU (A := A.in1) hh ((Heap.get?_update_other _ _ (Ne.symm ne)).trans hox) hdx h2 fun e h' kk ty => ?_
 refine wpAny_bind (wpAny_isInstance (T := "StopIteration") (b := true) ty isSubtype_stop ?_)
 exact wpAny_pure (hQ _ fun b o hb eo => kk b o ((Heap.get?_update_other _ _ (Ne.symm hb)).trans eo))
theorem rn {it hx : Addr} {ox : Obj} {vs : Array Value} {x : Str} {t : Tok} {i : Nat} {Q : Option Value -> Shared -> Prop} (hh : A.handled = some (.ref hx)) (hox : s.heap.get? hx = some ox) (hdx : ox.data = .fields vs) (h2 : vs[2]? = some .none)
  (hit : s.heap.IsStrIter it "str_iterator" x t i) (hi : x.cps[i]? = none)
  (hQ : ∀ h',Heap.ExtBut it s.heap h' -> Q none { s with heap := h' }) : wpAny (model prog w) A (pyNext (.ref it)) Q E s := by
 obtain ⟨o,ho,hc,hd⟩ := id hit
 have ne : hx ≠ it := fun z => by
  rw [z,ho] at hox
  cases hox
  rw [hd] at hdx
  cases hdx
  cases h2
 unfold pyNext
 refine wpAny_bind (wpAny_attempt (wpAny_callSpecial?_slot (name := Str.ofString "__next__") hit.typeIs F.slot_str_iterator_next
  (wpAny_call_entry F.slot_str_iterator_next hit.typeIs F.entry_str_iterator_next ?_ (F.args_str_iterator_next_1 _))))
 show wpAny _ _ (field (.ref it) 0 >>= _) _ _ s
 refine wpAny_bind (wpAny_field ho hd (x := .str x t) rfl ?_)
 show wpAny _ _ (field (.ref it) 1 >>= _) _ _ s
 refine wpAny_bind (wpAny_field ho hd (x := .int i 0) rfl ?_)
 simp only [CT,hi]
 refine wpAny_bind (wpAny_rule (wpAny_bind (wpAny_setField ho hd (by simp) (wpAny_bind (wpAny_letGo ?_)))))
 refine tU (A := A.in1) hh ((Heap.get?_update_other _ _ (Ne.symm ne)).trans hox) hdx h2 fun e h' kk ty => ?_
 refine wpAny_bind (wpAny_isInstance (T := "StopIteration") (b := true) ty isSubtype_stop ?_)
 exact wpAny_pure (hQ _ fun b o hb eo => kk b o ((Heap.get?_update_other _ _ (Ne.symm hb)).trans eo))
end
def tV (hd : Option Value) (K : B1) (a : Addr) : It := ⟨(ui K a).go,(ui K a).yld,fun i H => (ui K a).stop i H /\ jn hd H⟩
def ro (hd : Option Value) (x : Str) : It := ⟨(v9 x).go,(v9 x).yld,fun i H => (v9 x).stop i H /\ jn hd H⟩
theorem oJ {hd : Option Value} {P : Program} {w : World} {K : B1} {tg : Expr} (a it : Addr) : sx hd P w K tg (tV hd K a) [it] it (fun i h => h.IsListIter it a i) where
 mem := by simp
 obj := (eT (P := P) (w := w) (K := K) (tg := tg) a it).obj
 keep := (eT (P := P) (w := w) (K := K) (tg := tg) a it).keep
 item := by
  intro X hP hw hK hA i pins s σ H E I hf st hg
  subst hP hw hK
  obtain ⟨xs,x,hq,hx⟩ := hg
  obtain ⟨its,rv,p,hz⟩ := I.list hq
  obtain ⟨u,hu,ru⟩ := rv.get hx
  obtain ⟨f0,f1,f2,f3,f4,f5⟩ := hf it (by simp)
  refine wpAny_pyNext_list_item st p.isList (x := u) (by simpa using hu) fun h' st' sb => ?_
  have I1 : ar X pins σ H { s with heap := h' } := I.turned (t' := s.toks) (fun b o hb e => (sb.2 b hb).trans e) f0 f1 f3 f4 f5
  obtain ⟨o,e,c,d⟩ := id st'
  exact ⟨u,rfl,iq (s := { s with heap := h' }) e c d (by decide) ⟨x,H,I1,ru,⟨rfl,fun ys hy => by rw [I.list_inj hy hq]; exact hx⟩,st',fun b hb => (hf b hb).1⟩⟩
 done := by
  intro X hP hw hK hA i pins s σ H E I hf st hg
  subst hP hw hK
  obtain ⟨⟨xs,hq,hx⟩,hk⟩ := hg
  obtain ⟨its,rv,p,hz⟩ := I.list hq
  obtain ⟨f0,f1,f2,f3,f4,f5⟩ := hf it (by simp)
  have hl := rv.length
  cases hd with
  | none => exact wpAny_pyNext_list_end hA st p.isList (by simp; omega) fun h' eb => ⟨rfl,I.turned (t' := s.toks) (fun b o hb e => eb b o hb e) f0 f1 f3 f4 f5⟩
  | some v =>
   obtain ⟨b,m,cls,dx,rfl,e⟩ := hk v rfl
   obtain ⟨⟨ox,vs,h1,h2,h3,h4,h6,h5⟩,_⟩ := (show aR X.prog X.w H s.heap b (cm m b cls dx) from I.hok b _ e)
   exact rj hA h1 h4 h6 st p.isList (by simp; omega) fun h' eb => ⟨rfl,I.turned (t' := s.toks) (fun b o hb e => eb b o hb e) f0 f1 f3 f4 f5⟩
 self := (eT (P := P) (w := w) (K := K) (tg := tg) a it).self
theorem rp {hd : Option Value} {P : Program} {w : World} {K : B1} {tg : Expr} {ty : String} (hty : ty = "str_ascii_iterator" ∨ ty = "str_iterator") (it : Addr) (x : Str) (t : Tok) : sx hd P w K tg (ro hd x) [it] it (fun i h => h.IsStrIter it ty x t i) where
 mem := by simp
 obj := (fU (P := P) (w := w) (K := K) (tg := tg) hty it x t).obj
 keep := (fU (P := P) (w := w) (K := K) (tg := tg) hty it x t).keep
 item := by
  intro X hP hw hK hA i pins s σ H E I hf st hg
  subst hP hw hK
  obtain ⟨f0,f1,f2,f3,f4,f5⟩ := hf it (by simp)
  have hi : i < x.cps.size := hg
  have fin : ∀ (h' : Heap),h'.IsStrIter it ty x t (i + 1) -> Heap.SameBut it s.heap h' -> (∃ u,some (Value.str ⟨#[x.cps[i]]⟩ s.toks) = some u /\ wpAny (model X.prog X.w) X.A (letOwnedTupleGo tg (.ref it) u) (fun _ s2 => ∃ y H',ar X pins σ H' s2 /\ RelV y u /\ (ro hd x).yld i H y H' /\ s2.heap.IsStrIter it ty x t (i + 1) /\ ∀ b ∈ [it],H' b = none) E { s with heap := h',toks := s.toks + 1 }) := fun h' st' sb => by
   have I1 : ar X pins σ H { s with heap := h',toks := s.toks + 1 } := I.turned (fun b o hb e => (sb.2 b hb).trans e) f0 f1 f3 f4 f5
   obtain ⟨o,e,c1,d1⟩ := id st'
   exact ⟨_,rfl,iq (s := { s with heap := h',toks := s.toks + 1 }) (n := ty) e c1 d1 (by rcases hty with rfl | rfl <;> decide) ⟨.str ⟨#[x.cps[i]]⟩,H,I1,⟨_,rfl⟩,⟨rfl,x.cps[i],by simp [hi],rfl⟩,st',fun b hb => (hf b hb).1⟩⟩
  rcases hty with rfl | rfl
  ·exact wpAny_pyNext_ascii_item st (c := x.cps[i]) (by simp [hi]) fin
  ·exact wpAny_pyNext_wide_item st (c := x.cps[i]) (by simp [hi]) fin
 done := by
  intro X hP hw hK hA i pins s σ H E I hf st hg
  subst hP hw hK
  obtain ⟨f0,f1,f2,f3,f4,f5⟩ := hf it (by simp)
  obtain ⟨hi,hk⟩ := hg
  have hi' : i = x.cps.size := hi
  subst hi'
  cases hd with
  | none =>
   rcases hty with rfl | rfl
   ·exact wpAny_pyNext_ascii_end hA st (by simp) fun h' eb => ⟨rfl,I.turned (t' := s.toks) (fun b o hb e => eb b o hb e) f0 f1 f3 f4 f5⟩
   ·exact wpAny_pyNext_wide_end hA st (by simp) fun h' eb => ⟨rfl,I.turned (t' := s.toks) (fun b o hb e => eb b o hb e) f0 f1 f3 f4 f5⟩
  | some v =>
   obtain ⟨b,m,cls,dx,rfl,e⟩ := hk v rfl
   obtain ⟨⟨ox,vs,h1,h2,h3,h4,h6,h5⟩,_⟩ := (show aR X.prog X.w H s.heap b (cm m b cls dx) from I.hok b _ e)
   rcases hty with rfl | rfl
   ·exact oH hA h1 h4 h6 st (by simp) fun h' eb => ⟨rfl,I.turned (t' := s.toks) (fun b o hb e => eb b o hb e) f0 f1 f3 f4 f5⟩
   ·exact rn hA h1 h4 h6 st (by simp) fun h' eb => ⟨rfl,I.turned (t' := s.toks) (fun b o hb e => eb b o hb e) f0 f1 f3 f4 f5⟩
 self := (fU (P := P) (w := w) (K := K) (tg := tg) hty it x t).self
def xA (hd : Option Value) (K : B1) (tl : TE) : TI := fun σ H R => tl σ H fun x H1 => ∃ a,x = .ref a /\ (∃ xs,bv K H1 a xs) /\ R (tV hd K a) H1
def yH (hd : Option Value) (tl : TE) : TI := fun σ H R => tl σ H fun x H1 => ∃ z,x = .str z /\ R (ro hd z) H1
section
variable {X : Cx} {tg : Expr} {hd : Option Value}
theorem tW {K : B1} (hK : X.K = K) {l : Expr} {tl : TE} (hl : PE X l tl) : AD hd X tg l (xA hd K tl) := by
 subst hK
 intro pins s σ H R I h
 refine aX (hl pins s σ H _ I h) fun v s1 ⟨x,H1,I1,r1,q1⟩ => ?_
 obtain ⟨a,e,⟨xs,hq⟩,q⟩ := q1
 subst e
 cases r1
 obtain ⟨its,rv,p,hz⟩ := I1.list hq
 refine wpAny_pyIter_list p.isList ?_
 refine ⟨s1.heap.objs.size,[s1.heap.objs.size],_,_,H1,rfl,I1.kept (t' := s1.toks) fun b o e => Heap.get?_push_of_some _ e,oJ a _,⟨_,Heap.get?_push_size _ rfl,rfl,rfl⟩,fun b hb => ?_,q⟩
 have e : b = s1.heap.objs.size := by simpa using hb
 subst e
 exact I1.fpOk (B3 _) (I1.hok.fresh (B3 _))
theorem vv {l : Expr} {tl : TE} (hl : PE X l tl) : AD hd X tg l (yH hd tl) := by
 intro pins s σ H R I h
 refine aX (hl pins s σ H _ I h) fun v s1 ⟨x,H1,I1,r1,q1⟩ => ?_
 obtain ⟨z,rfl,q⟩ := q1
 obtain ⟨t,rfl⟩ := r1
 have fin : ∀ {ty : String} {o : Obj},(ty = "str_ascii_iterator" ∨ ty = "str_iterator") -> (s1.heap.push o).IsStrIter s1.heap.objs.size ty z t 0 -> yr hd X pins σ tg R (.ref s1.heap.objs.size) { s1 with heap := s1.heap.push o } := fun {ty o} hty st => by
  refine ⟨s1.heap.objs.size,[s1.heap.objs.size],_,_,H1,rfl,I1.kept (t' := s1.toks) fun b o e => Heap.get?_push_of_some _ e,rp hty _ z t,st,fun b hb => ?_,q⟩
  have e : b = s1.heap.objs.size := by simpa using hb
  subst e
  exact I1.fpOk (B3 _) (I1.hok.fresh (B3 _))
 cases ha : z.cps.all (· < 128)
 ·exact wpAny_pyIter_wide ha (fin (.inr rfl) ⟨_,Heap.get?_push_size _ rfl,rfl,rfl⟩)
 ·exact wpAny_pyIter_ascii ha (fin (.inl rfl) ⟨_,Heap.get?_push_size _ rfl,rfl,rfl⟩)
theorem qc {iter : Expr} {body : List Stmt} {wi : TI} {g : TG} {tb : TS} {pos : Pos} (hp : PassesOwn (model X.prog X.w) X.A X.env X.xe) (hA : X.A.handled = hd) (hi : AD hd X tg iter wi) (hg : PG X tg g) (hb : gZ X body tb)
  (hs : ∀ x,foldedSetIterable iter X.env x = pure x := by intro _; rfl) : PS X (.For tg iter body [] pos) (xV wi g tb) := by
 intro pins s σ H D I h
 refine wpAny_For (aX (hi pins s σ H _ I h) fun v s1 h1 => aX h1 fun itv s2 h2 => ?_) hs
 obtain ⟨it,fp,tn,J,H2,e,I2,T,st2,f2,W,⟨m0,w0⟩,turn⟩ := h2
 subst e
 have stat : ∀ {H' : Hp},(∀ b ∈ fp,H' b = none) -> ∀ b ∈ fp,ef X pins H' b := fun hn b hb => ⟨hn b hb,(f2 b hb).2⟩
 refine codeAny_forLoop_any (fun n s' => ∃ i σ' H',ar X pins σ' H' s' /\ tn i s'.heap /\ (∀ b ∈ fp,H' b = none) /\ W i n σ' H') ?_ m0 ⟨0,σ,H2,I2,st2,fun b hb => (f2 b hb).1,w0⟩
 rintro n s3 ⟨i,σ3,H3,I3,st3,fr3,w3⟩
 rcases turn i n σ3 H3 w3 with ⟨stop,qn⟩ | ⟨go,N,hN,step⟩
 ·refine wpAny_passesOwn hp (aX (T.done X rfl rfl rfl hA i pins s3 σ3 H3 X.xe I3 (stat fr3) st3 stop) fun r s4 ⟨hr,I4⟩ => ?_)
  subst hr
  exact wpAny_execs_nil ⟨σ3,H3,I4,qn⟩
 ·refine wpAny_passesOwn hp (aX (T.item X rfl rfl rfl hA i pins s3 σ3 H3 X.xe I3 (stat fr3) st3 go) fun r s4 ⟨u,hr,h4⟩ => ?_)
  subst hr
  refine wpAny_passesOwn hp (aX h4 fun _ s5 ⟨x,H5,I5,r5,y5,st5,fr5⟩ => ?_)
  have I5' := I5.pinned (stat fr5) (T.obj _ _ st5)
  refine wpAny_passesOwn hp (aX (hg _ s5 σ3 H5 x u _ I5' r5 (step x H5 y5)) fun _ s6 ⟨σ6,H6,I6,q6⟩ => ?_)
  refine wpAny_passesOwn hp (aX (hb _ s6 σ6 H6 _ I6 q6) fun f s7 q7 => ?_)
  have again : ∀ {σ7 : St} {H7 : Hp},ar X (pins ++ fi fp s5.heap) σ7 H7 s7 -> N σ7 H7 -> ∃ m,m < n /\ ∃ i σ' H',ar X pins σ' H' s7 /\ tn i s7.heap /\ (∀ b ∈ fp,H' b = none) /\ W i m σ' H' := fun {σ7 H7} I7 n7 => by
   obtain ⟨m',hm,w7⟩ := hN σ7 H7 n7
   refine ⟨m',hm,i + 1,σ7,H7,I7.unpinned,T.keep _ _ _ st5 fun b hb o e => (I7.pin (b,o) (BC _ (BC _ (bH hb e)))).1,fun b hb => ?_,w7⟩
   obtain ⟨o,e,d⟩ := T.obj _ _ st5 b hb
   exact (I7.pin (b,o) (BC _ (BC _ (bH hb e)))).2.1
  cases f with
  | next => obtain ⟨σ7,H7,I7,n7⟩ := q7; exact again I7 n7
  | cont => obtain ⟨σ7,H7,I7,n7⟩ := q7; exact again I7 n7
  | brk => obtain ⟨σ7,H7,I7,q7⟩ := q7; exact ⟨σ7,H7,I7.unpinned,q7⟩
  | ret v => obtain ⟨x7,σ7,H7,I7,r7,q7⟩ := q7; exact ⟨x7,σ7,H7,I7.unpinned,r7,q7⟩
end
theorem rq {hd : Option Value} {K : B1} {a : Addr} {xs : List V} {g : TG} {tb : TS} {D : Ends} {σ : St} {H : Hp} (Pv : Nat -> St -> Hp -> Prop) (h0 : Pv 0 σ H) (hl : ∀ i σ H,i <= xs.length -> Pv i σ H -> bv K H a xs /\ jn hd H)
  (hs : ∀ i x σ H,xs[i]? = some x -> Pv i σ H -> g x σ H fun σ2 H2 => tb { D with nx := Pv (i + 1),ct := Pv (i + 1),bk := D.nx } σ2 H2) (hd' : ∀ σ H,Pv xs.length σ H -> D.nx σ H) :
  ∃ W : Nat -> Nat -> St -> Hp -> Prop,(∃ m,W 0 m σ H) /\ ∀ i m σ H,W i m σ H ->
   ((tV hd K a).stop i H /\ D.nx σ H) ∨ ((tV hd K a).go i H /\ ∃ N : St -> Hp -> Prop,(∀ σ' H',N σ' H' -> ∃ m',m' < m /\ W (i + 1) m' σ' H') /\ ∀ x H',(tV hd K a).yld i H x H' -> g x σ H' fun σ2 H2 => tb { D with nx := N,ct := N,bk := D.nx } σ2 H2) := by
 refine ⟨fun i m σ H => m = xs.length - i /\ i <= xs.length /\ Pv i σ H,⟨xs.length,by simp,BY _,h0⟩,?_⟩
 rintro i m σ H ⟨rfl,hi,p⟩
 obtain ⟨q,hk⟩ := hl i σ H hi p
 by_cases hlt : i < xs.length
 ·refine .inr ⟨⟨xs,xs[i],q,by simp [hlt]⟩,Pv (i + 1),fun σ' H' p' => ⟨xs.length - (i + 1),by omega,rfl,hlt,p'⟩,fun x H' y => ?_⟩
  obtain ⟨e,y⟩ := y
  subst e
  exact hs i x σ _ (y xs q) p
 ·have e : i = xs.length := by omega
  subst e
  exact .inl ⟨⟨⟨xs,q,B3 _⟩,hk⟩,hd' σ H p⟩
theorem tX {hd : Option Value} {z : Str} {g : TG} {tb : TS} {D : Ends} {σ : St} {H : Hp} (Pv : Nat -> St -> Hp -> Prop) (h0 : Pv 0 σ H) (hl : ∀ i σ H,i <= z.cps.size -> Pv i σ H -> jn hd H)
  (hs : ∀ i c σ H,z.cps[i]? = some c -> Pv i σ H -> g (.str ⟨#[c]⟩) σ H fun σ2 H2 => tb { D with nx := Pv (i + 1),ct := Pv (i + 1),bk := D.nx } σ2 H2) (hd' : ∀ σ H,Pv z.cps.size σ H -> D.nx σ H) :
  ∃ W : Nat -> Nat -> St -> Hp -> Prop,(∃ m,W 0 m σ H) /\ ∀ i m σ H,W i m σ H ->
   ((ro hd z).stop i H /\ D.nx σ H) ∨ ((ro hd z).go i H /\ ∃ N : St -> Hp -> Prop,(∀ σ' H',N σ' H' -> ∃ m',m' < m /\ W (i + 1) m' σ' H') /\ ∀ x H',(ro hd z).yld i H x H' -> g x σ H' fun σ2 H2 => tb { D with nx := N,ct := N,bk := D.nx } σ2 H2) := by
 refine ⟨fun i m σ H => m = z.cps.size - i /\ i <= z.cps.size /\ Pv i σ H,⟨z.cps.size,by simp,BY _,h0⟩,?_⟩
 rintro i m σ H ⟨rfl,hi,p⟩
 have hk := hl i σ H hi p
 by_cases hlt : i < z.cps.size
 ·refine .inr ⟨hlt,Pv (i + 1),fun σ' H' p' => ⟨z.cps.size - (i + 1),by omega,rfl,hlt,p'⟩,fun x H' y => ?_⟩
  obtain ⟨e,c,hc,rfl⟩ := y
  subst e
  exact hs i c σ _ hc p
 ·have e : i = z.cps.size := by omega
  subst e
  exact .inl ⟨⟨rfl,hk⟩,hd' σ H p⟩
structure xB (hd : Option Value) (P : Program) (w : World) (K : B1) (mg : Str -> Option Value) (base : Heap) (k : Nat) (f : Addr) (ps : List Str) (sp : Sp) where
 fd : FuncData
 ok : qG hd P w K mg base k f fd ps sp
 b : Binds K fd ps []
section
variable {X : Cx} {k j : Nat} {f C : Addr} {ps : List Str} {sp : Sp} {m : Str} {p pos apos : Pos} {e o : Expr} {es : List Expr} {ta : TE} {t : TA} {hd : Option Value}
theorem xC {pl : Sem Bool} {K : B1} (hK : X.K = K) (he : PE X o ta) (D : xB hd X.prog X.w X.K X.mg X.base k f ps sp) (hr : cv hd j X.A) (hk : k <= j) (ha : PA X (e :: es) t)
  (hst : starEach (e :: es) X.env = (false,eval e X.env) :: starEach es X.env := by rfl) (hpl : (backTo pos (starEach es X.env)).any (·.1) = false := by rfl)
  (ht : eval (.Call (.Attribute o m apos) (e :: es) [] pos) X.env = (do
   let ov <- eval o X.env
   standAt apos.atName
   let (f,first) <- holding [ov] (getMethod ov m pl)
   callWith pos f first (backTo pos (starEach (e :: es) X.env)) (backToKw pos (keywordEach [] X.env))) := by rfl) :
  PE X (.Call (.Attribute o m apos) (e :: es) [] pos) (nU K m f sp [] ta t) := by
 subst hK
 intro pins s σ H Q I h
 refine Cj (pl := pl) (aX (he pins s σ H _ I h) fun u s1 ⟨x,H1,I1,rx,a,C,dx,fs,ex,ea,c,hm,l,q⟩ => ?_) ht
 subst ex
 obtain rfl : u = Value.ref a := rx
 refine dR I1 ea c hm l ?_
 refine CV (first := [.ref a]) (h₀ := X.base) I1.ok.mod.kin hm.kp (aX (ha pos pins s1 σ H1 _ I1 q) fun us s2 ⟨vs,H2,I2,r,q2⟩ => ⟨I2.kIn,?_⟩) hst hpl
 exact pH (us := .ref a :: us) (vs := .ref a :: vs) D.ok (hr.mono hk) D.b .nil I2 (.cons rfl r) q2
end
def yI (K : B1) (C' : Addr) (t : Addr -> TS) (r : TH) : TH := fun D σ cls dx H a => ∃ C b,cls = .ref C /\ CL K (.ref C) (.ref C') = some b /\
 if b = true then t a D σ (aq H a (nM a cls dx)) else r D σ cls dx H a
section
variable {X : Cx} {x n : Str} {np pos : Pos} {b0 : Stmt} {suite : List Stmt} {rest : List ExceptHandler} {C' : Addr} {tA : Addr -> TS} {th : TH}
theorem xD (T : XT X.K C') (hg : Gl X x) (hm : X.mg x = some (.ref C'))
  (hs : ∀ (pins : List (Addr × Obj)) (a : Addr),gZ (X.suite pins a) (b0 :: suite) (tA a)) (hrest : PH X rest th) (hd : (x == ("__debug__" : Str)) = false := by decide) :
  PH X (.ExceptHandler (some (.Name x np)) none (b0 :: suite) pos :: rest) (yI X.K C' tA th) := by
 intro pins σ H0 s0 D a H' cls v dx s' I c h
 obtain ⟨C,b,rfl,hsub,h⟩ := h
 have J : ar X pins σ H' s' := I.call' c.os c.un c.hok c.bare (fun b z => absurd z (by simp))
 obtain ⟨oe,vs,he,hc,_,_,_⟩ := c.xo.ex
 refine wpAny_handleBy_cons (codeAny_handlers_test (cQ (X := X.suite pins a) (J.insuite a) hg hm ?_ hd)) (by intro q; cases q)
 have KX := J.kIn
 obtain ⟨hh,g,d,tk,os⟩ := s'
 refine iI KX he hc T hsub ?_
 cases b with
 | false => exact hrest pins σ H0 s0 D a H' _ v dx _ I c h
 | true =>
  refine codeAny_handlers_suite ?_
  refine c.flight I.stack I.stkFree fun s2 c2 => ?_
  have J2 := (c2.caught I).insuite a
  refine wpAny_mono (hs pins a [] s2 _ _ _ J2 h) (fun f s4 q => ?_) fun _ _ z => z.elim
  exact q.outsuite I.ok
end
open So
theorem gY {X : Cx} : cr X (.builtin "sorted") (fun xs H Q => ∃ l ks,xs = [.ref l] /\ H l = some (.lst (ks.map V.str)) /\ ks.length < 64 /\
  ∀ p ys,H p = none -> ys.Perm ks -> sortedS ys = true -> Q (.ref p) (aq H p (.lst (ys.map V.str)))) := by
 intro pins s σ H xs us Q I r h
 obtain ⟨l,ks,rfl,hl,l64,q⟩ := h
 obtain ⟨u,rfl,ru⟩ := vals1 r
 cases ru
 obtain ⟨z,its,n,rv,hlen,hg⟩ := I.lstM hl
 have SA : StrsAre its ks := mx rv
 have la : its.length = ks.length := by rw [<- hlen,B2]
 refine Calls.call_function_entry kind_sorted plain_sorted entry_sorted (args_sorted1 _) ?_
 unfold Builtin.«sorted»
 refine wpAny_bind (m := checkCount "sorted" 1 1 _) (wpAny_pure ?_)
 refine wpAny_bind (mM hg (by rw [<- hlen]; exact z) fun h' hlt hkp => ?_)
 refine wpAny_bind (wpAny_newList ?_ (by rw [<- hlen]; exact z))
 have hoL : (h'.push (seqObj "list" its.toArray 0)).get? h'.objs.size = some (seqObj "list" its.toArray 0) := Heap.get?_push_size _ rfl
 refine wpAny_bind (wpAny_holding (wpAny_call_entry slot_list_sort ⟨_,hoL,rfl⟩ entry_list_sort (list_sort_treeK strKind_oneLt hoL SA.keysOf (fun v₁ v₂ rest e => keyKind_strs (by rw [<- e]; exact SA)) (by rw [la]; exact l64) fun st' hp hs => ⟨_,rfl,?_⟩) (args_list_sort _)))
 obtain ⟨ys,h1,h2,h3⟩ := sorted_out_str SA hp hs
 have sl : s.heap.objs.size <= h'.objs.size := Nat.le_of_lt hlt
 refine wpAny_pure ⟨_,rfl,.ref h'.objs.size,_,I.laid (a := h'.objs.size) (o := .lst (ys.map V.str)) (h' := sortedHeap (h'.push (seqObj "list" its.toArray 0)) h'.objs.size its ((arrOf st').map (·.2))) (t' := s.toks) (fun b o eo => ?_) sl ?_,rfl,q _ ys (I.hok.fresh sl) h2 h3⟩
 ·have eo' := hkp b o eo
  have bl := Heap.lt_size eo'
  rw [sortedHeap_old (BA bl) (by rw [size_push']; exact CN bl)]
  exact Heap.get?_push_of_some _ eo'
 ·obtain ⟨e,he⟩ := sortedHeap_at (out := (arrOf st').map (·.2)) hoL
  refine ⟨by rw [B2,h2.length_eq]; rw [B2] at z; exact z,((arrOf st').map (·.2)).toList,e,cY h1,?_⟩
  rw [Array.toArray_toList]
  exact he
def rA (K : B1) (te : TE) : TE := fun σ H Q => te σ H fun x H1 => ∃ (a : Addr) (xs : List Str),x = .ref a /\ bv K H1 a (xs.map V.str) /\ xs.length < 4000 /\ (∀ ks : List Str,ks.Nodup -> (∀ z,z ∈ ks ↔ z ∈ xs) -> ks.length < 64) /\
 ∀ p ys,H1 p = none -> ys.Nodup -> (∀ z,z ∈ ys ↔ z ∈ xs) -> sortedS ys = true -> Q (.ref p) (aq H1 p (.lst (ys.map V.str)))
section
variable {X : Cx} {e : Expr} {te : TE} {p1 p2 pos pos2 : Pos}
theorem mY (hc : X.calm = true) (g1 : Gl X "sorted") (m1 : X.mg "sorted" = none) (g2 : Gl X "set") (m2 : X.mg "set" = none) (b1 : bootBuiltins "sorted" = some (.builtin "sorted")) (b2 : bootBuiltins "set" = some (.type "set")) (he : PE X e te)
  (hs : starEach [e] X.env = [(false,eval e X.env)] := by rfl) :
  PE X (.Call (.Name "sorted" p1) [.Call (.Name "set" p2) [e] [] pos2] [] pos) (rA X.K te) := by
 intro pins s σ H Q I h
 apply wpAny_Call_Name_kw
 refine dM I g1 m1 b1 ?_ (by decide) (by decide)
 refine Calls.callWith_builtin rfl (Calls.evalArgs_plain ?_)
 refine Calls.spliced_cons (x := eval (.Call (.Name "set" p2) [e] [] pos2) X.env) (rest := []) ?_
 apply wpAny_Call_Name_kw
 refine dM I g2 m2 b2 ?_ (by decide) (by decide)
 refine CF ?_ hs rfl
 rw [hs]
 refine Calls.spliced_cons (x := eval e X.env) (rest := []) (aX (he pins s σ H _ I h) fun v s1 ⟨x,H1,I1,r1,a,xs,ex,hq,few,fw,q⟩ => ?_)
 subst ex
 cases r1
 apply Calls.spliced_nil
 obtain ⟨its,rv,pl,hz⟩ := I1.list hq
 have sz : its.toArray.size = xs.length := by rw [BL,<- rv.length,B2]
 have hli : s1.heap.IsList a its.toArray := pl.isList
 refine qV (xs := xs) (I.ok.hd hc) hli (fun i v hv => mR rv i v (by simpa using hv)) sz (by rw [sz]; show xs.length + 1 < 4096; omega) fun h' tk S2 kp => ?_
 apply Calls.spliced_nil
 have dl : (mO xs its.toArray.size).length <= its.toArray.size := kU xs _
 have dz : mO xs its.toArray.size = xs.foldl fA [] := by unfold mO; rw [sz,Cu]
 have I2 := I1.kept (t' := tk) (h' := h') (fun b o e => kp b o (Heap.lt_size e) e)
 refine Calls.call_function_entry kind_sorted plain_sorted entry_sorted (args_sorted1 _) ?_
 unfold Builtin.«sorted»
 refine wpAny_bind (m := checkCount "sorted" 1 1 _) (wpAny_pure ?_)
 refine wpAny_bind (oA (A := X.A.in1) (s := { s1 with heap := h',toks := tk }) (I.ok.hd hc) S2 fun h2 tk2 d acc ks hlt hkp hp SA => ?_)
 have nd : ks.Nodup := hp.nodup_iff.mpr (dz ▸ dG xs [] (by simp))
 have mm : ∀ z,z ∈ ks ↔ z ∈ xs := fun z => by rw [hp.mem_iff,dz,eM]; simp
 have la : acc.length = ks.length := SA.length
 have lz : acc.length <= sizeLine := by
  rw [la,hp.length_eq]
  refine BZ dl ?_
  rw [sz]
  have := fits_of_scanBound (n := xs.length) (by show xs.length < 4096; omega)
  exact this
 refine wpAny_bind (wpAny_newList ?_ lz)
 have hoL : (h2.push (seqObj "list" acc.toArray 0)).get? h2.objs.size = some (seqObj "list" acc.toArray 0) := Heap.get?_push_size _ rfl
 refine wpAny_bind (wpAny_holding (wpAny_call_entry slot_list_sort ⟨_,hoL,rfl⟩ entry_list_sort (list_sort_treeK strKind_oneLt hoL SA.keysOf (fun v₁ v₂ rest e => keyKind_strs (by rw [<- e]; exact SA)) (by rw [la]; exact fw ks nd mm) fun st' hp' hs' => ⟨_,rfl,?_⟩) (args_list_sort _)))
 obtain ⟨ys,o1,o2,o3⟩ := sorted_out_str SA hp' hs'
 have I3 : ar X pins σ H1 { s1 with heap := h',drawn := d,toks := tk } := I2.drew (d := d)
 have sl : h'.objs.size <= h2.objs.size := Nat.le_of_lt hlt
 refine wpAny_pure ⟨_,rfl,.ref h2.objs.size,_,I3.laid (a := h2.objs.size) (o := .lst (ys.map V.str)) (h' := sortedHeap (h2.push (seqObj "list" acc.toArray 0)) h2.objs.size acc ((arrOf st').map (·.2))) (t' := tk2) (fun b o eo => ?_) sl ?_,rfl,q _ ys (I3.hok.fresh sl) (o2.nodup_iff.mpr nd) (fun z => (o2.mem_iff).trans (mm z)) o3⟩
 ·have eo' := hkp b o eo
  have bl := Heap.lt_size eo'
  rw [sortedHeap_old (BA bl) (by rw [size_push']; exact CN bl)]
  exact Heap.get?_push_of_some _ eo'
 ·obtain ⟨e,he⟩ := sortedHeap_at (out := (arrOf st').map (·.2)) hoL
  refine ⟨by rw [B2,o2.length_eq,<- la]; exact lz,((arrOf st').map (·.2)).toList,e,cY o1,?_⟩
  rw [Array.toArray_toList]
  exact he
end
end L2
namespace Sw
open PySem L2 XH PyProof.Rows Wo Hm
theorem bz.okN {hd : Option Value} {P : Program} {w : World} {K : B1} {mg : Str -> Option Value} {base : Heap} {x qual : Str} {st : Stmt} {dV : Value} {f : Addr} {fd : FuncData} {N ps : List Str} {k : Nat} {sp : Sp} (F : bz K x qual st dV f fd) (S : ax N ps (ap st)) (len : ∀ vs H Q E,sp vs H Q E -> vs.length = ps.length)
  (hbody : ∀ (cdv : Value) (A : Around) (outer : List Env) (s : Shared) (H : Hp) (vs : List V) (Q : VK) (E : XK),cv hd k (A.deeper (envOfC qual (ap st) s.heap.objs.size f cdv)) -> sp vs H Q E ->
   ∃ t,gZ (v7 hd P w K mg base N qual (ap st) f cdv A outer s H E).nox (bN st) t /\ t { nx := fun _ H' => Q .non H',rt := Q } (start N vs) H) : qG hd P w K mg base (k + 1) f fd ps sp :=
 F.okH S len fun cdv A outer s H vs Q E hr hsp => by
  obtain ⟨t,h,q⟩ := hbody cdv A outer s H vs Q E hr hsp
  exact ⟨t,h.nox,q⟩
def lC (hd : Option Value) : Sp := fun vs H Q _ => ∃ z : Str,vs = [.str z] /\ Nm z /\ jn hd H /\ Q (.bl true) H
def oK (hd : Option Value) : Sp := fun vs H Q _ => ∃ (l : Addr) (xs : List V),vs = [.ref l] /\ H l = some (.lst xs) /\ (∀ x ∈ xs,fz x) /\ jn hd H /\ Q .non H
def jf (hd : Option Value) (C : Addr) : Sp := fun vs H Q _ => ∃ (x : Addr) (z : Str) (F : List Addr) (rows : List (Str × List Str)) (m : Nat) (g : Str -> Str -> Option Addr) (bs ns : List Str),vs = [.ref x,.str z] /\ LB C F H x rows m g bs ns /\ Nm z /\ jn hd H /\ ∀ H',KF F H H' -> LB C F H' x rows m g (hJ bs z) ns -> Q .non H'
section
variable (K : B1) (C : Addr)
def oM : Sp := fun vs H Q _ => ∃ (x : Addr) (z : Str) (F : List Addr) (rows : List (Str × List Str)) (m : Nat) (g : Str -> Str -> Option Addr) (bs ns : List Str),vs = [.ref x,.str z] /\ LB C F H x rows m g bs ns /\ bs.length <= 200 /\ ns.Nodup /\ ns.length <= 79 /\ Nm z /\
 ∀ H' ms,KF F H H' -> LB C F H' x rows m g (bT bs z) ms -> ms.Nodup -> (∀ y,y ∈ ms ↔ y ∈ ns ∨ y = z) -> Q .non H'
def jg : Sp := fun vs H Q _ => ∃ (x : Addr) (z : Str) (F : List Addr) (rows : List (Str × List Str)) (m : Nat) (g : Str -> Str -> Option Addr) (bs ns : List Str),vs = [.ref x,.str z] /\ LB C F H x rows m g bs ns /\ Nm z /\ ∀ H',KF F H H' -> LB C F H' x rows m g (hJ bs z) ns -> Q .non H'
def lD : Sp := fun vs H Q _ => ∃ (x : Addr) (z : Str) (F : List Addr) (rows : List (Str × List Str)) (m : Nat) (g : Str -> Str -> Option Addr) (bs ns : List Str) (ps : List (Str × Str)),vs = [.ref x,.str z] /\ LB C F H x rows m g bs ns /\ bO rows ps /\ ps.length <= 60 /\ Nm z /\
 ∀ (l : Addr) (H' : Hp) (ys : List Str),aB H H' -> H' l = some (.lst (ys.map V.str)) -> sortedS ys = true -> ys.Nodup -> (∀ y,y ∈ ys ↔ Led ps z y) -> Q (.ref l) H'
def gJ : Sp := fun vs H Q _ => ∃ (x : Addr) (z : Str) (F : List Addr) (rows : List (Str × List Str)) (m : Nat) (g : Str -> Str -> Option Addr) (bs ns : List Str) (ps : List (Str × Str)),vs = [.ref x,.str z] /\ LB C F H x rows m g bs ns /\ bO rows ps /\ ps.length <= 1000 /\ bs.length <= 10 /\ Nm z /\
 (∀ (H' : Hp),aB H H' -> (∀ b ∈ bs,¬ Led ps z b) -> Q .non H') /\
  ∀ (l : Addr) (H' : Hp) (c : List Str) (goal : Str),aB H H' -> H' l = some (.lst (c.map V.str)) -> Way ps z goal c -> goal ∈ bs -> Led ps z goal -> (z ∈ bs -> goal = z) -> Q (.ref l) H'
def tY : Sp := fun vs H Q _ => ∃ (x : Addr) (z : Str) (F : List Addr) (rows : List (Str × List Str)) (m : Nat) (g : Str -> Str -> Option Addr) (bs ns : List Str) (ps : List (Str × Str)) (vw : Str -> Str -> Int × Int) (U : List Str) (Rt : List Str -> Int -> Int -> Prop),vs = [.ref x,.str z] /\ LB C F H x rows m g bs ns /\ m <= 200 /\ bO rows ps /\ ps.length <= 1000 /\ bs.length <= 10 /\ Nm z /\ oF K H g vw /\ (∀ a b,fJ g a b -> b ∈ U) /\ U.length <= 17 /\
 Rt [z] 1 1 /\ (∀ c p q y t r s,Rt c p q -> g (aO c) y = some t -> Fr r s (p * (vw (aO c) y).1) (q * (vw (aO c) y).2) -> Rt (c ++ [y]) r s) /\ (∀ cs,fD (fJ g) z cs cs.length (fun _ => False) -> ∃ (j : Nat) (d : List Str),cs[j]? = some d /\ ¬ Blk ps bs (aO d)) /\
 ∀ cs,fD (fJ g) z cs cs.length (fun _ => False) ->
  ∀ (k : Nat) (c : List Str) (t cl rl : Addr) (p q : Int) (H' : Hp),aB H H' -> cs[k]? = some c -> (∀ (j : Nat) (d : List Str),j < k -> cs[j]? = some d -> Blk ps bs (aO d)) -> ¬ Blk ps bs (aO c) -> H' t = some (.tup [.ref cl,.ref rl]) -> H' cl = some (.lst (c.map V.str)) -> H' rl = some (.tup [.int p,.int q]) -> Rt c p q -> Q (.ref t) H'
variable {K C} {cN cI : Addr}
theorem vx (vs : List V) (H : Hp) (Q : VK) (E : XK) (h : oM C vs H Q E) : lh K C cN vs H Q E0 := by
 obtain ⟨x,z,F,rows,m,g,bs,ns,rfl,lb,a1,a2,a3,nz,q⟩ := h
 refine ⟨x,.str z,F,rows,m,g,bs,ns,rfl,lb,a1,a2,a3,.inl ⟨z,rfl,nz⟩,fun n => absurd ⟨z,rfl,nz⟩ n,fun y e _ => ?_⟩
 cases e
 exact q
theorem rB (vs : List V) (H : Hp) (Q : VK) (E : XK) (h : jg C vs H Q E) : f8 K C cN vs H Q E0 := by
 obtain ⟨x,z,F,rows,m,g,bs,ns,rfl,lb,nz,q⟩ := h
 refine ⟨x,.str z,F,rows,m,g,bs,ns,rfl,lb,.inl ⟨z,rfl,nz⟩,fun n => absurd ⟨z,rfl,nz⟩ n,fun y e _ => ?_⟩
 cases e
 exact q
theorem tZ (vs : List V) (H : Hp) (Q : VK) (E : XK) (h : lD C vs H Q E) : io K C cN vs H Q E0 := by
 obtain ⟨x,z,F,rows,m,g,bs,ns,ps,rfl,lb,a1,a2,nz,q⟩ := h
 refine ⟨x,.str z,F,rows,m,g,bs,ns,ps,rfl,lb,a1,a2,.inl ⟨z,rfl,nz⟩,fun n => absurd ⟨z,rfl,nz⟩ n,fun y e _ => ?_⟩
 cases e
 exact q
theorem oN (vs : List V) (H : Hp) (Q : VK) (E : XK) (h : gJ C vs H Q E) : dI K C cN vs H Q E0 := by
 obtain ⟨x,z,F,rows,m,g,bs,ns,ps,rfl,lb,a1,a2,a3,nz,q⟩ := h
 refine ⟨x,.str z,F,rows,m,g,bs,ns,ps,rfl,lb,a1,a2,a3,.inl ⟨z,rfl,nz⟩,fun n => absurd ⟨z,rfl,nz⟩ n,fun y e _ => ?_⟩
 cases e
 exact q
theorem xE (vs : List V) (H : Hp) (Q : VK) (E : XK) (h : tY K C vs H Q E) : mV K C cN cI vs H Q E0 := by
 obtain ⟨x,z,F,rows,m,g,bs,ns,ps,vw,U,Rt,rfl,lb,a1,a2,a3,a4,nz,a5,a6,a7,r1,r2,fr,q⟩ := h
 refine ⟨x,.str z,F,rows,m,g,bs,ns,ps,vw,U,Rt,rfl,lb,a1,a2,a3,a4,.inl ⟨z,rfl,nz⟩,a5,a6,a7,fun y e => by cases e; exact r1,r2,fun n => absurd ⟨z,rfl,nz⟩ n,fun y e _ cs hb => ?_⟩
 cases e
 refine ⟨q cs hb,fun all => ?_⟩
 obtain ⟨j,d,hd,nb⟩ := fr cs hb
 exact absurd (all j d hd) nb
end
end Sw
namespace L2
open PySem PySem.Spec PyProof.Rows XH Sw Hm
theorem rC {X : Cx} {K : B1} (h : X.K = K) (hu : X.A.units < cLine) : eU X (compareOp .Eq) (fun x y H Q => ∃ a b zs,x = .ref a /\ y = .ref b /\ bv K H a zs /\ bv K H b [] /\ Q (.bl zs.isEmpty) H) := by
 subst h
 exact sW hu
end L2
namespace Sw
open PySem L2 XH PyProof.Rows Wo Hm
def yJ (z : Str) (k : List Key) : Bool := decide (k.head? = some (.inr z))
def Bj (k : List Key) : V := kV (k.headD (.inl 0))
def z4 (k : List Key) : V := kV ((k.drop 1).headD (.inl 0))
theorem oO {es : List (Str × Str × Addr)} {i : Nat} {k : List Key} {x : V} (h : (fH es)[i]? = some (k,x)) : ∃ a b : Str,k = [.inr a,.inr b] := by
 unfold fH at h
 rw [BM] at h
 cases e : es[i]? with
 | none => rw [e] at h; cases h
 | some p =>
  rw [e] at h
  cases h
  exact ⟨p.1,p.2.1,rfl⟩
theorem t6 (z a b : Str) : yJ z [.inr a,.inr b] = decide (V.str a = V.str z) := by
 unfold yJ
 refine decide_eq_decide.mpr ⟨fun e => ?_,fun e => ?_⟩
 ·have e' : (some (.inr a) : Option Key) = some (.inr z) := e
  cases e'
  rfl
 ·cases e
  rfl
def oP (es : List (Str × Str × Addr)) (z : Str) : List Str := (es.filter fun e => decide (e.1 = z)).map (·.2.1)
theorem qd : ∀ (es : List (Str × Str × Addr)) (z : Str),((fH es).filter fun e => yJ z e.1).map (fun e => z4 e.1) = (oP es z).map V.str
 | [],_ => rfl
 | e :: es,z => by
  have ih := qd es z
  unfold oP fH at *
  rw [By,CJ,CJ]
  have p : yJ z ([.inr e.1,.inr e.2.1] : List Key) = decide (e.1 = z) := by
   rw [t6]
   exact decide_eq_decide.mpr ⟨fun h => by injection h,fun h => by rw [h]⟩
  by_cases c : e.1 = z
  ·rw [if_pos (by rw [p,decide_eq_true c]),if_pos (decide_eq_true c),By,By,By,ih]
   rfl
  ·rw [if_neg (by rw [p,decide_eq_false c]; decide),if_neg (by rw [decide_eq_false c]; decide),ih]
theorem yK (es : List (Str × Str × Addr)) : (fH es).map (fun e => Bj e.1) = (es.map (·.1)).map V.str := by
 unfold fH
 rw [CG,CG]
 rfl
theorem yL (es : List (Str × Str × Addr)) : (fH es).map (fun e => z4 e.1) = (es.map (·.2.1)).map V.str := by
 unfold fH
 rw [CG,CG]
 rfl
theorem t8 {es : List (Str × Str × Addr)} {z y : Str} : y ∈ oP es z ↔ ∃ t,(z,y,t) ∈ es := by
 unfold oP
 rw [BH]
 constructor
 ·rintro ⟨⟨a,b,t⟩,h,rfl⟩
  obtain ⟨h1,h2⟩ := Cy.mp h
  have := of_decide_eq_true h2
  exact ⟨t,by rw [<- this]; exact h1⟩
 ·rintro ⟨t,h⟩
  exact ⟨_,Cy.mpr ⟨h,decide_eq_true rfl⟩,rfl⟩
theorem ua (es : List (Str × Str × Addr)) (z : Str) : (oP es z).length <= es.length := by
 unfold oP
 rw [B2]
 exact CO _ _
theorem ub {y0 x : Str} {ys : List Str} (h : sortedS (y0 :: ys) = true) (hx : x ∈ y0 :: ys) (least : ∀ y ∈ y0 :: ys,¬ rF y x) : y0 = x := by
 have p := So.eY h
 rcases B9.mp hx with z | z
 ·exact z.symm
 ·have le := (List.pairwise_cons.mp p).1 x z
  refine Classical.byContradiction fun n => least y0 (by simp) (wb le n)
theorem lM.start {K : B1} {C : Addr} {F : List Addr} {H : Hp} {x d : Addr} {nm : List Str} (lb : LB C F H x [] 0 (fun _ _ => none) [] []) (hd : H d = some (.dT [])) : lM K C H x d nm 0 [] :=
 ⟨F,0,_,[],[],fun _ _ => (1,1),lb,hd,fun a b => ⟨fun ⟨t,h⟩ => (by cases h),fun ⟨t,h⟩ => (by cases h)⟩,fun a b t h => (by cases h),⟨fun a b t h => (by cases h),fun a b t h => (by cases h)⟩,fun a b t h => (by cases h),fun y => ⟨fun h => (by cases h),fun h => (by
  rcases h with ⟨a,b,t,h,_⟩ | h
  ·cases h
  ·cases h)⟩,List.nodup_nil,by simp⟩
theorem rD {ys : List Str} {z : Str} (nd : ys.Nodup) (h : ∀ y,y ∈ ys ↔ y = z) : ys = [z] := by
 have p : ys.Perm [z] := (List.perm_ext_iff_of_nodup nd (by simp)).mpr fun y => by rw [h y,B5]
 exact List.perm_singleton.mp p
theorem gK (zs : List Str) : ∀ v ∈ zs.map V.str,wV v := fun v hv => by
 obtain ⟨y,_,rfl⟩ := BH.mp hv
 trivial
theorem AQ {k : Int} (h1 : 1 <= k) (h2 : k <= 7) : Nm (Txt.mul "q" k) := by
 have e := vh (z := "q") (n := k) (by omega)
 have l : (("q" : Str).length : Int) = 1 := by decide
 rw [l] at e
 have L : Lt (Txt.mul ⟨#[113]⟩ k) := Lt.mul (by decide) k
 exact Lt.nm L (by show 1 <= (Txt.mul "q" k).length; omega) (by show (Txt.mul "q" k).length <= 12; omega)
end Sw
namespace Lk29
open PySem L2 Sw XH PyProof.Rows Hm Wo
def top (i : Nat) : Stmt := PySem.Challenge.pw_stovework_k29_stands_refused.main.body.getD i (.Pass ⟨0,0,0,0⟩)
def clsAt (s : Stmt) (i : Nat) : Stmt := match s with | .ClassDef _ _ _ body _ _ _ _ _ _ _ => body.getD i (.Pass ⟨0,0,0,0⟩) | _ => s
abbrev z5 : Stmt := top 28
abbrev AR : Stmt := top 28
abbrev z7 : Stmt := top 29
abbrev z8 : Stmt := top 31
abbrev lE : Stmt := top 32
abbrev z9 : Stmt := top 33
abbrev Aa : Stmt := top 35
abbrev Ab : Stmt := top 21
abbrev Ac : Stmt := top 38
abbrev AS : Stmt := top 21
abbrev xF : Stmt := top 38
abbrev vy : Stmt := top 25
abbrev vz : Stmt := top 26
abbrev vA : Stmt := top 24
abbrev vB : Stmt := top 23
abbrev vC : Stmt := clsAt (top 39) 0
abbrev vD : Stmt := clsAt (top 39) 9
abbrev vE : Stmt := clsAt (top 39) 5
abbrev vF : Stmt := clsAt (top 39) 6
abbrev vG : Stmt := clsAt (top 39) 7
abbrev vH : Stmt := clsAt (top 39) 3
abbrev vI : Stmt := clsAt (top 39) 4
abbrev xG : Stmt := clsAt (top 39) 4
abbrev vJ : Stmt := clsAt (top 39) 2
abbrev vK : Stmt := clsAt (top 39) 8
abbrev vL : Stmt := top 41
abbrev vM : Stmt := top 42
abbrev vN : Stmt := top 43
abbrev vO : Stmt := top 44
abbrev uc : Stmt := top 45
abbrev ud : Stmt := top 46
abbrev vP : Stmt := top 47
abbrev vQ : Stmt := top 48
abbrev vR : Stmt := top 49
abbrev vS : Stmt := top 50
abbrev vT : Stmt := top 51
abbrev lG : Stmt := top 52
abbrev ce : Stmt := clsAt (top 11) 0
structure Bn (K : B1) (mg : Str -> Option Value) (c_EmptyHeap c_InRing c_Larder c_NoAmount c_NoDish c_NoName c_NoNet c_NoNumber c_NoPack c_NoPlan c_NoRow c_NoStand c_NoStandIn c_NoStep c_StoveError c_TooFew c_TooMany c_Twice f_Z15 f_Z16 f_Z17 f_Z18 f_Z19 f_Z20 f_Z21 f_Z23 f_Z24 : Addr) : Prop where
 g_LETTERS : ∃ t,mg "LETTERS" = some (.str "abcdefghijklmnopqrstuvwxyz" t)
 g_MOST_LETTERS : ∃ t,mg "MOST_LETTERS" = some (.int 12 t)
 g_MOST_NAMES : ∃ t,mg "MOST_NAMES" = some (.int 80 t)
 b_abs : mg "abs" = none
 b_bool : mg "bool" = none
 b_int : mg "int" = none
 b_isinstance : mg "isinstance" = none
 b_len : mg "len" = none
 b_list : mg "list" = none
 b_range : mg "range" = none
 b_reversed : mg "reversed" = none
 b_set : mg "set" = none
 b_sorted : mg "sorted" = none
 b_str : mg "str" = none
 b_tuple : mg "tuple" = none
 m_EmptyHeap : mg "EmptyHeap" = some (.ref c_EmptyHeap)
 m_InRing : mg "InRing" = some (.ref c_InRing)
 m_Larder : mg "Larder" = some (.ref c_Larder)
 m_NoAmount : mg "NoAmount" = some (.ref c_NoAmount)
 m_NoDish : mg "NoDish" = some (.ref c_NoDish)
 m_NoName : mg "NoName" = some (.ref c_NoName)
 m_NoNet : mg "NoNet" = some (.ref c_NoNet)
 m_NoNumber : mg "NoNumber" = some (.ref c_NoNumber)
 m_NoPack : mg "NoPack" = some (.ref c_NoPack)
 m_NoPlan : mg "NoPlan" = some (.ref c_NoPlan)
 m_NoRow : mg "NoRow" = some (.ref c_NoRow)
 m_NoStand : mg "NoStand" = some (.ref c_NoStand)
 m_NoStandIn : mg "NoStandIn" = some (.ref c_NoStandIn)
 m_NoStep : mg "NoStep" = some (.ref c_NoStep)
 m_StoveError : mg "StoveError" = some (.ref c_StoveError)
 m_TooFew : mg "TooFew" = some (.ref c_TooFew)
 m_TooMany : mg "TooMany" = some (.ref c_TooMany)
 m_Twice : mg "Twice" = some (.ref c_Twice)
 x_NoName : CZ K c_NoName rE "ValueError.__new__" = true
 i_NoName : XI K c_NoName
 x_NoStand : CZ K c_NoStand rE "ValueError.__new__" = true
 i_NoStand : XI K c_NoStand
 x_NoNumber : CZ K c_NoNumber rE "ValueError.__new__" = true
 i_NoNumber : XI K c_NoNumber
 t_NoName : XT K c_NoName
 t_NoStand : XT K c_NoStand
 t_NoStandIn : XT K c_NoStandIn
 s_NoStandIn_NoStandIn : CL K (.ref c_NoStandIn) (.ref c_NoStandIn) = some true
 s_NoName_NoName : CL K (.ref c_NoName) (.ref c_NoName) = some true
 s_NoStand_NoName : CL K (.ref c_NoStand) (.ref c_NoName) = some false
 s_NoStand_NoStand : CL K (.ref c_NoStand) (.ref c_NoStand) = some true
 k_NoName_StoveError : BR K (.ref c_NoName) (.ref c_StoveError) = some true
 k_NoStand_StoveError : BR K (.ref c_NoStand) (.ref c_StoveError) = some true
 k_NoName_NoStand : BR K (.ref c_NoName) (.ref c_NoStand) = some false
 k_NoStand_NoName : BR K (.ref c_NoStand) (.ref c_NoName) = some false
 a_NoStandIn : XA K c_NoStandIn c_StoveError
 n_NoStandIn : BK K (.ref c_NoStandIn) "good" = some none
 i_NoStandIn : XI K c_NoStandIn
 ka_NoName_1 : CU K (.ref c_NoName) [.ref c_EmptyHeap,.ref c_InRing,.ref c_NoAmount,.ref c_NoDish,.ref c_NoNet,.ref c_NoNumber,.ref c_NoPack,.ref c_NoPlan,.ref c_NoRow] = some false
 ka_NoName_2 : CU K (.ref c_NoName) [.ref c_NoStandIn,.ref c_NoStep,.ref c_TooFew,.ref c_TooMany,.ref c_Twice] = some false
 ka_NoStand_1 : CU K (.ref c_NoStand) [.ref c_EmptyHeap,.ref c_InRing,.ref c_NoAmount,.ref c_NoDish,.ref c_NoNet,.ref c_NoNumber,.ref c_NoPack,.ref c_NoPlan,.ref c_NoRow] = some false
 ka_NoStand_2 : CU K (.ref c_NoStand) [.ref c_NoStandIn,.ref c_NoStep,.ref c_TooFew,.ref c_TooMany,.ref c_Twice] = some false
 cl_Larder : pc K c_Larder
 mk_Larder : Mk K c_Larder f_Z15
 me_Z23 : dm K c_Larder "stand" f_Z23
 me_Z20 : dm K c_Larder "bar" f_Z20
 me_Z21 : dm K c_Larder "allow" f_Z21
 me_Z17 : dm K c_Larder "known" f_Z17
 me_Z18 : dm K c_Larder "held" f_Z18
 me_Z19 : dm K c_Larder "barred" f_Z19
 me_Z24 : dm K c_Larder "stand_in" f_Z24
 me_Z16 : dm K c_Larder "learn" f_Z16
 na_Larder_parts : bQ K c_Larder "parts"
 na_Larder_stands : bQ K c_Larder "stands"
 na_Larder_bars : bQ K c_Larder "bars"
 na_Larder_names : bQ K c_Larder "names"
section
variable {P : Program} {w : World} {K : B1} {mg : Str -> Option Value} {base : Heap} {f : Addr} {fd : FuncData} {c_EmptyHeap c_InRing c_Larder c_NoAmount c_NoDish c_NoName c_NoNet c_NoNumber c_NoPack c_NoPlan c_NoRow c_NoStand c_NoStandIn c_NoStep c_StoveError c_TooFew c_TooMany c_Twice f_Z15 f_Z16 f_Z17 f_Z18 f_Z19 f_Z20 f_Z21 f_Z23 f_Z24 : Addr}
theorem lH : ax ["self","good"] ["self","good"] (ap ce) := ⟨rfl,rfl,rfl,by decide +kernel,rfl,by decide +kernel,by decide +kernel⟩
theorem lJ {dV : Value} (F : bz K "__init__" "NoStandIn.__init__" ce dV f fd) (B : Bn K mg c_EmptyHeap c_InRing c_Larder c_NoAmount c_NoDish c_NoName c_NoNet c_NoNumber c_NoPack c_NoPlan c_NoRow c_NoStand c_NoStandIn c_NoStep c_StoveError c_TooFew c_TooMany c_Twice f_Z15 f_Z16 f_Z17 f_Z18 f_Z19 f_Z20 f_Z21 f_Z23 f_Z24) : aZ P w K mg base bg 1 f fd ["self","good"] (kE c_NoStandIn "good") := by
 have sc := lH
 refine F.ok sc (fun vs H Q E h => ?_) (fun cdv A outer s H vs Q E hr h => ?_)
 ·obtain ⟨a,y,n,rfl,_⟩ := h
  rfl
 obtain ⟨a,y,n,rfl,e,q⟩ := h
 exact ⟨_,(ak (uJ (K := K) rfl (pv 0) (pv 1) rfl)),y,rfl,_,rfl,a,c_NoStandIn,c_StoveError,n,rfl,e,B.a_NoStandIn,B.n_NoStandIn,q⟩
theorem AT : ax ["thing"] ["thing"] (ap z5) := ⟨rfl,rfl,rfl,by decide +kernel,rfl,by decide +kernel,by decide +kernel⟩
set_option maxHeartbeats 4000000 in
theorem AU {dV : Value} (F : bz K "is_whole" "is_whole" z5 dV f fd) (B : Bn K mg c_EmptyHeap c_InRing c_Larder c_NoAmount c_NoDish c_NoName c_NoNet c_NoNumber c_NoPack c_NoPlan c_NoRow c_NoStand c_NoStandIn c_NoStep c_StoveError c_TooFew c_TooMany c_Twice f_Z15 f_Z16 f_Z17 f_Z18 f_Z19 f_Z20 f_Z21 f_Z23 f_Z24)  : aZ P w K mg base bg 1 f fd ["thing"] ku := by
 have sc := AT
 refine F.ok sc (fun vs H Q E h => ?_) (fun cdv A outer s H vs Q E hr h => ?_)
 ·obtain ⟨v,rfl,_⟩ := h
  rfl
 obtain ⟨v,rfl,q⟩ := h
 refine ⟨_,(ak (aG (dP (aC mj rfl B.b_isinstance boot_isinstance (aa (pv 0) (aa (dN (v := .ty "int") rfl B.b_int boot_int rfl) ag))) (dO (gb (aC mj rfl B.b_isinstance boot_isinstance (aa (pv 0) (aa (dN (v := .ty "bool") rfl B.b_bool boot_bool rfl) ag)))))))),?_⟩
 refine ⟨_,rfl,_,_,_,rfl,.ii v,_,rfl,bI ⟨_,rfl,_,_,_,rfl,.ib v,_,rfl,q⟩⟩
theorem AV : ax ["thing"] ["thing"] (ap AR) := ⟨rfl,rfl,rfl,by decide +kernel,rfl,by decide +kernel,by decide +kernel⟩
set_option maxHeartbeats 4000000 in
theorem AW {dV : Value} (F : bz K "is_whole" "is_whole" AR dV f fd) (B : Bn K mg c_EmptyHeap c_InRing c_Larder c_NoAmount c_NoDish c_NoName c_NoNet c_NoNumber c_NoPack c_NoPlan c_NoRow c_NoStand c_NoStandIn c_NoStep c_StoveError c_TooFew c_TooMany c_Twice f_Z15 f_Z16 f_Z17 f_Z18 f_Z19 f_Z20 f_Z21 f_Z23 f_Z24)  : aZ P w K mg base bg 1 f fd ["thing"] (wT K) := by
 have sc := AV
 refine F.ok sc (fun vs H Q E h => ?_) (fun cdv A outer s H vs Q E hr h => ?_)
 ·obtain ⟨x,b,rfl,_⟩ := h
  rfl
 obtain ⟨x,b,rfl,wh,q⟩ := h
 refine ⟨_,(ak (aG (dP (aC (dE (K := K) rfl) rfl B.b_isinstance boot_isinstance (aa (pv 0) (aa (dN (v := .ty "int") rfl B.b_int boot_int rfl) ag))) (dO (gb (aC (dE (K := K) rfl) rfl B.b_isinstance boot_isinstance (aa (pv 0) (aa (dN (v := .ty "bool") rfl B.b_bool boot_bool rfl) ag)))))))),?_⟩
 cases wh with
 | @mk t b1 b2 ty k1 k2 =>
  refine ⟨_,rfl,x,t,"int",b1,rfl,ty,k1,b1,rfl,?_⟩
  cases b1 with
  | false => exact bX q
  | true => exact bI ⟨_,rfl,x,t,"bool",b2,rfl,ty,k2,b2,rfl,q⟩
theorem AX : ax ["one","other","greater","lesser","rest"] ["one","other"] (ap z7) := ⟨rfl,rfl,rfl,by decide +kernel,rfl,by decide +kernel,by decide +kernel⟩
set_option maxHeartbeats 4000000 in
theorem AY {dV : Value} (F : bz K "divisor" "divisor" z7 dV f fd) (B : Bn K mg c_EmptyHeap c_InRing c_Larder c_NoAmount c_NoDish c_NoName c_NoNet c_NoNumber c_NoPack c_NoPlan c_NoRow c_NoStand c_NoStandIn c_NoStep c_StoveError c_TooFew c_TooMany c_Twice f_Z15 f_Z16 f_Z17 f_Z18 f_Z19 f_Z20 f_Z21 f_Z23 f_Z24)  : aZ P w K mg base bg 1 f fd ["one","other"] pk := by
 have sc := AX
 refine F.ok sc (fun vs H Q E h => ?_) (fun cdv A outer s H vs Q E hr h => ?_)
 ·obtain ⟨a,b,rfl,_⟩ := h
  rfl
 obtain ⟨a,b,rfl,q⟩ := h
 refine ⟨_,(af (ay (i := 2) sc.nd rfl (Or.inl rfl) (aC ix rfl B.b_abs boot_abs (aa (pv 0) ag))) (af (ay (i := 3) sc.nd rfl (Or.inl rfl) (aC ix rfl B.b_abs boot_abs (aa (pv 1) ag))) (af (em PassesOwn.never (aA oZ (pv 3) am (aE _)) (af (ay (i := 4) sc.nd rfl (Or.inl rfl) (au aS (pv 2) (pv 3))) (af (ay (i := 2) sc.nd rfl (Or.inl rfl) (pv 3)) (ak (ay (i := 3) sc.nd rfl (Or.inl rfl) (pv 4)))))) (ak (aG (pv 2)))))),?_⟩
 refine ⟨_,rfl,_,rfl,_,rfl,_,rfl,?_⟩
 refine eu (fun σ H' => H' = H /\ ∃ (g l : Int) (r : Option V),σ = [some (.int a),some (.int b),some (.int g),some (.int l),r] /\ 0 <= g /\ 0 <= l /\ bD g l = bD a b)
  (fun (σ : L2.St) (_ : Hp) => match σ[3]? with | some (some (V.int l)) => l.toNat | _ => 0) ⟨rfl,_,_,_,rfl,pj a,pj b,sg a b⟩ ?_ (fun σ H Q Q' m ⟨v,e,s,k,hk,h2⟩ => ⟨v,e,s,k,hk,m _ _ h2⟩)
 rintro σ H' ⟨rfl,g,l,r,rfl,g0,l0,inv⟩
 refine ⟨_,rfl,rfl,_,rfl,Bh (fun c => ?_) (fun c => ?_)⟩
 ·have lp : 0 < l := by omega
  refine ⟨_,rfl,_,rfl,_,_,rfl,rfl,c,_,rfl,_,rfl,⟨rfl,l,g.fmod l,_,rfl,l0,BJ g lp,?_⟩,?_⟩
  ·rw [jG lp]; exact inv
  ·have h1 := BS g lp
   have h2 := BJ g lp
   show (g.fmod l).toNat < l.toNat
   omega
 ·subst c
  rw [jH g0] at inv
  rw [<- inv] at q
  exact ⟨_,rfl,q⟩
theorem AZ : ax ["top","bottom","common"] ["top","bottom"] (ap z8) := ⟨rfl,rfl,rfl,by decide +kernel,rfl,by decide +kernel,by decide +kernel⟩
set_option maxHeartbeats 4000000 in
theorem A0 {dV : Value} (F : bz K "fraction" "fraction" z8 dV f fd) (B : Bn K mg c_EmptyHeap c_InRing c_Larder c_NoAmount c_NoDish c_NoName c_NoNet c_NoNumber c_NoPack c_NoPlan c_NoRow c_NoStand c_NoStandIn c_NoStep c_StoveError c_TooFew c_TooMany c_Twice f_Z15 f_Z16 f_Z17 f_Z18 f_Z19 f_Z20 f_Z21 f_Z23 f_Z24) (DZ0 : Dx P w K mg base bg 1 "is_whole" ["thing"] [] ku) (DZ2 : Dx P w K mg base bg 1 "divisor" ["one","other"] [] pk) : aZ P w K mg base (cA P w) 2 f fd ["top","bottom"] (pI c_NoNumber) := by
 have sc := AZ
 refine F.okX sc (fun vs H Q E h => ?_) (fun cdv A outer s H vs Q E hr h => ?_)
 ·obtain ⟨a,b,rfl,_⟩ := h
  rfl
 obtain ⟨a,b,rfl,hb,q,qe⟩ := h
 refine ⟨_,(af (aV (PW.pt (fK (cx (b4 (aY DZ0 hr (by decide) rfl (aa (pv 0) ag)))) (fh (cx (b4 (aY DZ0 hr (by decide) rfl (aa (pv 1) ag))))))) (ak (dD B.x_NoNumber rfl B.m_NoNumber rfl cH (aa bL ag))) aM) (af (aV (aA cf (pv 1) am (aE _)) (ak (dD B.x_NoNumber rfl B.m_NoNumber rfl cH (aa bL ag))) aM) (af (ay (i := 2) sc.nd rfl (Or.inl rfl) (aY DZ2 hr (by decide) rfl (aa (pv 0) (aa (pv 1) ag)))) (af (aV (aA lR (pv 1) am (aE _)) (ak (ay (i := 2) sc.nd rfl (Or.inl rfl) (oV kc (pv 2)))) aM) (ak (aG (b6 (aa (au bc (pv 0) (pv 2)) (aa (au bc (pv 1) (pv 2)) ag))))))))),?_⟩
 refine ⟨_,rfl,_,rfl,true,rfl,bX ⟨_,rfl,_,rfl,true,rfl,bX ?_⟩⟩
 refine ⟨_,rfl,rfl,_,rfl,xJ (fun z => ⟨by show 1 <= sizeLine; decide,qe z⟩) (fun b0 => ?_)⟩
 have c0 := nH (a := a) b0
 have cb := sj (a := a) b0 hb
 have f := v3 (a := a) b0
 have q := q b0
 refine ⟨_,rfl,_,rfl,_,_,rfl,?_⟩
 refine ⟨_,rfl,_,_,rfl,rfl,_,rfl,d2 (fun c => ?_) (fun c => ?_)⟩
 ·have e : jh a b = -bD a b := if_pos c
  rw [e] at c0 cb f
  exact ⟨_,rfl,_,rfl,_,rfl,_,rfl,_,_,rfl,rfl,⟨c0,cb.div c0⟩,_,rfl,_,rfl,_,_,rfl,rfl,⟨c0,cb.div c0⟩,(by show 2 <= sizeLine; decide),fun t ht => q _ _ f t _ (ae ht _) ac⟩
 ·have e : jh a b = bD a b := if_neg c
  rw [e] at c0 cb f
  exact ⟨_,rfl,_,rfl,_,_,rfl,rfl,⟨c0,cb.div c0⟩,_,rfl,_,rfl,_,_,rfl,rfl,⟨c0,cb.div c0⟩,(by show 2 <= sizeLine; decide),fun t ht => q _ _ f t _ (ae ht _) ac⟩
theorem A1 : ax ["thing"] ["thing"] (ap lE) := ⟨rfl,rfl,rfl,by decide +kernel,rfl,by decide +kernel,by decide +kernel⟩
set_option maxHeartbeats 4000000 in
theorem A2 {dV : Value} (F : bz K "is_fraction" "is_fraction" lE dV f fd) (B : Bn K mg c_EmptyHeap c_InRing c_Larder c_NoAmount c_NoDish c_NoName c_NoNet c_NoNumber c_NoPack c_NoPlan c_NoRow c_NoStand c_NoStandIn c_NoStep c_StoveError c_TooFew c_TooMany c_Twice f_Z15 f_Z16 f_Z17 f_Z18 f_Z19 f_Z20 f_Z21 f_Z23 f_Z24) (DZ1 : Dx P w K mg base bg 1 "is_whole" ["thing"] [] (wT K)) (DZ2 : Dx P w K mg base bg 1 "divisor" ["one","other"] [] pk) : aZ P w K mg base bg 2 f fd ["thing"] (nS K) := by
 have sc := A1
 refine F.ok sc (fun vs H Q E h => ?_) (fun cdv A outer s H vs Q E hr h => ?_)
 ·obtain ⟨x,b,rfl,_⟩ := h
  rfl
 obtain ⟨x,b,rfl,fk,q⟩ := h
 refine ⟨_,(af (aV (PW.pt (fK (cx (b4 (aC (dE (K := K) rfl) rfl B.b_isinstance boot_isinstance (aa (pv 0) (aa (dN (v := .ty "tuple") rfl B.b_tuple boot_tuple rfl) ag))))) (fh (aA oZ (aC bC rfl B.b_len boot_len (aa (pv 0) ag)) am (aE _))))) (ak (aG bY)) aM) (af (aV (PW.pt (fK (cx (b4 (aY DZ1 hr (by decide) rfl (aa (bh cg (pv 0) am (fun _ _ => rfl)) ag)))) (fh (cx (b4 (aY DZ1 hr (by decide) rfl (aa (bh cg (pv 0) am (fun _ _ => rfl)) ag))))))) (ak (aG bY)) aM) (ak (aG (dP (bV xY (bh cg (pv 0) am (fun _ _ => rfl)) am (aE _)) (dO (bV cf (aY DZ2 hr (by decide) rfl (aa (bh cg (pv 0) am (fun _ _ => rfl)) (aa (bh cg (pv 0) am (fun _ _ => rfl)) ag))) am (aE _)))))))),?_⟩
 cases fk with
 | @no _ t ty k => exact ⟨_,rfl,x,t,"tuple",false,rfl,ty,k,false,rfl,bI q⟩
 | @len a ys e n =>
  refine ⟨_,rfl,_,_,"tuple",true,rfl,.tup e,hZ K,true,rfl,bX ?_⟩
  exact ⟨_,rfl,a,ys,rfl,.inr (cR.of e),rfl,_,rfl,Bs n q⟩
 | @top a y z e k =>
  refine ⟨_,rfl,_,_,"tuple",true,rfl,.tup e,hZ K,true,rfl,bX ?_⟩
  refine ⟨_,rfl,a,_,rfl,.inr (cR.of e),rfl,_,rfl,AA rfl ?_⟩
  exact ⟨_,rfl,_,_,_,_,rfl,rfl,(cR.of e),rfl,y,false,rfl,k,false,rfl,bI q⟩
 | @bot a y z e k k' =>
  refine ⟨_,rfl,_,_,"tuple",true,rfl,.tup e,hZ K,true,rfl,bX ?_⟩
  refine ⟨_,rfl,a,_,rfl,.inr (cR.of e),rfl,_,rfl,AA rfl ?_⟩
  exact ⟨_,rfl,_,_,_,_,rfl,rfl,(cR.of e),rfl,y,true,rfl,k,true,rfl,bX ⟨_,rfl,_,_,_,_,rfl,rfl,(cR.of e),rfl,z,false,rfl,k',false,rfl,bI q⟩⟩
 | @two a p q' e =>
  refine ⟨_,rfl,_,_,"tuple",true,rfl,.tup e,hZ K,true,rfl,bX ?_⟩
  refine ⟨_,rfl,a,_,rfl,.inr (cR.of e),rfl,_,rfl,AA rfl ?_⟩
  refine ⟨_,rfl,_,_,_,_,rfl,rfl,(cR.of e),rfl,_,true,rfl,nR p,true,rfl,bX ⟨_,rfl,_,_,_,_,rfl,rfl,(cR.of e),rfl,_,true,rfl,nR q',true,rfl,bX ?_⟩⟩
  refine ⟨_,rfl,_,_,_,_,rfl,rfl,(cR.of e),rfl,_,_,rfl,rfl,_,rfl,d2 (fun c => ?_) (fun c => ?_)⟩
  ·refine ⟨_,rfl,_,_,_,_,rfl,rfl,(cR.of e),rfl,_,rfl,_,_,_,_,rfl,rfl,(cR.of e),rfl,_,_,rfl,rfl,?_⟩
   have d : Q (.bl (decide (V.int (bD p q') = V.int 1))) H := by
    have e2 : decide (V.int (bD p q') = V.int 1) = (decide (1 <= q') && decide (bD p q' = 1)) := by
     rw [decide_eq_true c,Bool.true_and]
     by_cases k : bD p q' = 1
     ·rw [decide_eq_true k,decide_eq_true (vi k)]
     ·rw [decide_eq_false k,decide_eq_false fun z => k (vj z)]
    rw [e2]
    exact q
   exact d
  ·have d : Q (.bl false) H := by
    have e2 : false = (decide (1 <= q') && decide (bD p q' = 1)) := by
     rw [decide_eq_false c,Bool.false_and]
    rw [e2]
    exact q
   exact d
theorem A3 : ax ["one","other"] ["one","other"] (ap z9) := ⟨rfl,rfl,rfl,by decide +kernel,rfl,by decide +kernel,by decide +kernel⟩
set_option maxHeartbeats 4000000 in
theorem A4 {dV : Value} (F : bz K "product" "product" z9 dV f fd) (B : Bn K mg c_EmptyHeap c_InRing c_Larder c_NoAmount c_NoDish c_NoName c_NoNet c_NoNumber c_NoPack c_NoPlan c_NoRow c_NoStand c_NoStandIn c_NoStep c_StoveError c_TooFew c_TooMany c_Twice f_Z15 f_Z16 f_Z17 f_Z18 f_Z19 f_Z20 f_Z21 f_Z23 f_Z24) (DZ3 : Dx P w K mg base bg 2 "fraction" ["top","bottom"] [.int 1] uD) : aZ P w K mg base bg 3 f fd ["one","other"] (nK K) := by
 have sc := A3
 refine F.ok sc (fun vs H Q E h => ?_) (fun cdv A outer s H vs Q E hr h => ?_)
 ·obtain ⟨t,t2,p,q,p2,q2,rfl,_⟩ := h
  rfl
 obtain ⟨t,t',p,q,p',q',rfl,h1,h2,qq⟩ := h
 refine ⟨_,(ak (aG (aY DZ3 hr (by decide) rfl (aa (au c9 (bh cg (pv 0) am (fun _ _ => rfl)) (bh cg (pv 1) am (fun _ _ => rfl))) (aa (au c9 (bh cg (pv 0) am (fun _ _ => rfl)) (bh cg (pv 1) am (fun _ _ => rfl))) ag))))),?_⟩
 exact ⟨_,rfl,_,_,_,_,rfl,rfl,h1.at_,rfl,_,rfl,_,_,_,_,rfl,rfl,h2.at_,rfl,_,_,rfl,rfl,h1.bp.ok h2.bp,_,rfl,_,_,_,_,rfl,rfl,h1.at_,rfl,_,rfl,_,_,_,_,rfl,rfl,h2.at_,rfl,_,_,rfl,rfl,h1.bq.ok h2.bq,_,_,rfl,wL h1.pos h2.pos,(h1.bq.mul h2.bq).mono (by decide),qq⟩
theorem A5 : ax ["stands","good","pairs","reached","place","chain","ratio","others","name"] ["stands","good"] (ap Aa) := ⟨rfl,rfl,rfl,by decide +kernel,rfl,by decide +kernel,by decide +kernel⟩
set_option maxHeartbeats 4000000 in
theorem A6 {dV : Value} (F : bz K "ways_out" "ways_out" Aa dV f fd) (B : Bn K mg c_EmptyHeap c_InRing c_Larder c_NoAmount c_NoDish c_NoName c_NoNet c_NoNumber c_NoPack c_NoPlan c_NoRow c_NoStand c_NoStandIn c_NoStep c_StoveError c_TooFew c_TooMany c_Twice f_Z15 f_Z16 f_Z17 f_Z18 f_Z19 f_Z20 f_Z21 f_Z23 f_Z24) (DZ3 : Dx P w K mg base bg 2 "fraction" ["top","bottom"] [.int 1] uD) (DZ5 : Dx P w K mg base bg 3 "product" ["one","other"] [] (nK K)) : aZ P w K mg base bg 4 f fd ["stands","good"] (tL K) := by
 have sc := A5
 refine F.ok sc (fun vs H Q E h => ?_) (fun cdv A outer s H vs Q E hr h => ?_)
 ·obtain ⟨d,good,b,m,vw,g,U,Rt,rfl,_⟩ := h
  rfl
 obtain ⟨d,good,b,m,vw,g,U,Rt,rfl,hd,hU,lU,m1,b1,bm,rt0,rts,q⟩ := h
 refine ⟨_,(af (ay (i := 2) sc.nd rfl (Or.inl rfl) (bj (aa (b6 (aa (bj (aa (pv 1) ag)) (aa (uM DZ3 hr (by decide) rfl (aa am ag)) ag))) ag))) (af (ay (i := 3) sc.nd rfl (Or.inl rfl) (pi (lY (pv 1) bY ph) rfl rfl (by simp) (by decide))) (af (ay (i := 4) sc.nd rfl (Or.inl rfl) am) (af (em PassesOwn.never (aA lR (pv 4) (aC bC rfl B.b_len boot_len (aa (pv 2) ag)) (aE _)) (af (ay (i := 5) sc.nd rfl (Or.inl rfl) (bh cg (bh bK (pv 2) (pv 4) (fun _ _ => rfl)) am (fun _ _ => rfl))) (af (ay (i := 6) sc.nd rfl (Or.inl rfl) (bh cg (bh bK (pv 2) (pv 4) (fun _ _ => rfl)) am (fun _ _ => rfl))) (af (ay (i := 7) sc.nd rfl (Or.inl rfl) (iE (cu hr) (pv 0) (bh bK (pv 5) (oV kc am) (fun _ _ => rfl)) cG ⟨rfl,rfl,rfl,rfl⟩)) (af (c5 PassesOwn.never rfl (dQ (aC (eR rfl) rfl B.b_sorted PyProof.Rows.Boot.«sorted» (aa (pv 7) ag))) (bJ (i := 8) sc.nd rfl (Or.inl rfl)) (ak (aV (kb (eW (cu hr) (pv 8) (pv 3)) (by with_unfolding_all rfl)) (af (dU (cu hr) (pv 3) (pv 8) bY rfl) (ak (aU (gO C6 CC CB bP (pv 2) (aa (b6 (aa (au nB (pv 5) (bj (aa (pv 8) ag))) (aa (aY DZ5 hr (by decide) rfl (aa (pv 6) (aa (ko (cu hr) (pv 7) (pv 8) (fun _ _ => rfl)) ag))) ag))) ag))))) aM))) (ak (wp (i := 4) sc.nd rfl (Or.inl rfl) am wq))))))) (ak (aG (pv 2))))))),?_⟩
 have sl : sizeLine = 16777216 := sizeLine_eq
 refine ⟨_,rfl,(by show 1 <= sizeLine; decide),fun c0 n0 => ⟨1,1,rfl,by decide,(by unfold Bd; decide),fun p0 q0 f0 r0 H1 g1 e1 => ⟨(by show 2 <= sizeLine; decide),fun t0 nt0 => ⟨(by show 1 <= sizeLine; decide),fun l nl => ?_⟩⟩⟩⟩
 obtain ⟨rfl,rfl⟩ := xu f0
 have gA := ae n0 (.lst [V.str good])
 have gB := gA.trans g1
 have gC := gB.trans (ae nt0 (.tup [.ref c0,.ref r0]))
 have gD := gC.trans (ae nl (.lst [.ref t0]))
 have nlH : H l = none := gC.free nl
 have wt : m3 K b Rt (fun c => H c = none) (aq (aq H1 t0 (.tup [.ref c0,.ref r0])) l (.lst [.ref t0])) [t0] [[good]] := by
  have k1 := ae nt0 (.tup [.ref c0,.ref r0])
  have k2 := ae nl (.lst [.ref t0])
  refine m3.snoc (ts := []) (cs := []) ⟨rfl,fun i t c h => nomatch h⟩ (k2 _ _ ac) (k2 _ _ (k1 _ _ (g1 _ _ ac))) ?_ rt0 n0 (k2 _ _ (k1 _ _ e1))
  have b2 : 0 < b * 1 := by omega
  have b3 : Bd (b * 1) 1 := by unfold Bd; exact Nat.one_lt_two_pow (by omega)
  exact ⟨cR.of (k2 _ _ (k1 _ _ e1)),by decide,b3,b3⟩
 have el : aq (aq H1 t0 (.tup [.ref c0,.ref r0])) l (.lst [.ref t0]) l = some (.lst (([t0] : List Addr).map V.ref)) := ac
 generalize aq (aq H1 t0 (.tup [.ref c0,.ref r0])) l (.lst [.ref t0]) = H2 at gD wt el ⊢
 refine fun rd nr => ⟨_,rfl,ac,[(.inr good,.bl true)],rfl,(by show 1 <= 15; decide),?_⟩
 have g3 : aB H2 (aq (aq H2 rd (.dK [])) rd (.dK (c6 [] [((.inr good : Key),V.bl true)]))) := by
  rw [oS]
  exact ae nr _
 have er : (aq (aq H2 rd (.dK [])) rd (.dK (c6 [] [((.inr good : Key),V.bl true)]))) rd = some (.dK (bw [good] (.bl true))) := ac
 generalize aq (aq H2 rd (.dK [])) rd (.dK (c6 [] [((.inr good : Key),V.bl true)])) = H3 at g3 er ⊢
 have nrH : H rd = none := gD.free nr
 have gE := gD.trans g3
 have wt3 := wt.same g3
 have el3 := g3 _ _ el
 clear gA gB gC gD g3 wt el nt0 nl n0 g1 e1 nr f0
 try dsimp only [bG,bM]
 refine cut (fun σ H' => H3 = H' /\ σ = [some (.ref d),some (.str good),some (.ref l),some (.ref rd),some (.int 0),none,none,none,none]) (fun N hN => hN _ _ ⟨rfl,rfl⟩) ?_
 rintro σ _ ⟨rfl,rfl⟩
 refine eu (fun σ H' => aB H H' /\ ∃ (i : Nat) (cs : List (List Str)) (ts : List Addr) (ks : List Str) (o5 o6 o7 o8 : Option V),σ = [some (.ref d),some (.str good),some (.ref l),some (.ref rd),some (.int i),o5,o6,o7,o8] /\ H' l = some (.lst (ts.map V.ref)) /\ m3 K b Rt (fun c => H c = none) H' ts cs /\ fD (fJ g) good cs i (fun _ => False) /\ H' rd = some (.dK (bw ks (.bl true))) /\ (∀ x,x ∈ ks ↔ x ∈ cs.map aO) /\ ks.length <= cs.length /\ i <= cs.length)
  (fun (σ : L2.St) (_ : Hp) => match σ[4]? with | some (some (V.int i)) => U.length + 2 - i.toNat | _ => 0) ⟨gE,0,[[good]],[t0],[good],none,none,none,none,rfl,el3,wt3,fD.start,er,fun x => Iff.rfl,B3 _,BY _⟩ ?_ (fun σ H Q Q' mm h => ?_)
 ·rintro σ H4 ⟨g4,i,cs,ts,ks,o5,o6,o7,o8,rfl,el4,wt4,bf,er4,hk,lk,ic⟩
  have few := bf.few hU
  have lt : (ts.map V.ref).length = cs.length := by rw [B2,wt4.1]
  refine ⟨_,rfl,_,rfl,l,_,rfl,.inl (bv.of el4),_,_,rfl,rfl,_,rfl,d2 (fun c => ?_) (fun c => ?_)⟩
  ·have il : i < cs.length := by omega
   have hc := BG il
   generalize cs[i] = ch at hc
   have ht := BG (show i < ts.length by rw [wt4.1]; exact il)
   generalize ts[i]'(by rw [wt4.1]; exact il) = t at ht
   obtain ⟨cl,rl,p,q',et,ecl,frl,rtc,_⟩ := wt4.2 i t ch ht hc
   have at1 : gN (ts.map V.ref) (i : Int) = some (.ref t) := c8 (xv ht)
   have cn := bf.ne hc
   have clen := bf.long i ch hc
   refine ⟨_,rfl,_,rfl,l,_,_,_,rfl,rfl,bv.of el4,at1,t,_,_,_,rfl,rfl,cR.of et,rfl,?_⟩
   refine ⟨_,rfl,_,rfl,l,_,_,_,rfl,rfl,bv.of el4,at1,t,_,_,_,rfl,rfl,cR.of et,rfl,?_⟩
   try dsimp only [bG,bM]
   refine cut (fun σ H' => aB H4 H' /\ ∃ (oa : Addr) (row : List (Str × Addr)),σ = [some (.ref d),some (.str good),some (.ref l),some (.ref rd),some (.int i),some (.ref cl),some (.ref rl),some (.ref oa),o8] /\ H' oa = some (.dK (cM row)) /\ (row.map (·.1)).Nodup /\ row.length <= 200 /\ ∀ y t,g (aO ch) y = some t ↔ (y,t) ∈ row) (fun N hN => ?_) ?_
   ·obtain ⟨kvs,ed,hx⟩ := (hd.same g4).ex
    refine ⟨_,rfl,d,rfl,.inl ⟨_,.inl ed⟩,_,rfl,_,rfl,cl,_,_,_,rfl,rfl,bv.of ecl,jW cn,fun pn hn => ⟨_,cF.k (k := .inr (aO ch)) (ae hn _ _ _ ed),?_⟩⟩
    rcases hx (aO ch) with ⟨z1,z2⟩ | ⟨a,row,q1,q2,q3,q4,q5⟩
    ·rw [z1]
     exact hN _ _ ⟨ae hn _,pn,[],rfl,ac,by simp,BY _,fun y t => by rw [z2]; simp⟩
    ·rw [q1]
     exact hN _ _ ⟨ae hn _,a,row,rfl,ae hn _ _ _ q2,q3,q4,q5⟩
   rintro σ H5 ⟨g5,oa,row,rfl,eoa,nd,lr,hrow⟩
   try dsimp only [bG,bM]
   refine cut (fun σ H' => aB H H' /\ ∃ (cs' : List (List Str)) (ts' : List Addr) (ks' : List Str) (o8 : Option V),σ = [some (.ref d),some (.str good),some (.ref l),some (.ref rd),some (.int i),some (.ref cl),some (.ref rl),some (.ref oa),o8] /\ H' l = some (.lst (ts'.map V.ref)) /\ m3 K b Rt (fun c => H c = none) H' ts' cs' /\ fD (fJ g) good cs' (i + 1) (fun _ => False) /\ H' rd = some (.dK (bw ks' (.bl true))) /\ (∀ x,x ∈ ks' ↔ x ∈ cs'.map aO) /\ ks'.length <= cs'.length /\ i < cs'.length) (fun N hN => ?_) ?_
   ·refine ⟨_,rfl,oa,_,_,rfl,eoa,re row,nd,(by have := Wo.cK nd (fun y hy => by obtain ⟨⟨y',t'⟩,h,e⟩ := BH.mp hy; cases e; exact hU _ _ ⟨t',(hrow _ _).mpr h⟩); omega),fun sp ys nsp perm srt => ⟨sp,rfl,⟨_,bv.of ac⟩,?_⟩⟩
    have g6 := g5.trans (ae nsp (.lst (ys.map V.str)))
    have spl : sp ≠ l := fun e => by rw [e,g5 _ _ el4] at nsp; cases nsp
    have spr : sp ≠ rd := fun e => by rw [e,g5 _ _ er4] at nsp; cases nsp
    have esp : aq H5 sp (.lst (ys.map V.str)) sp = some (.lst (ys.map V.str)) := ac
    have eoa6 := ae nsp (.lst (ys.map V.str)) _ _ eoa
    generalize aq H5 sp (.lst (ys.map V.str)) = H6 at g6 esp eoa6 ⊢
    have g46 := g4.trans g6
    have el6 := g6 _ _ el4
    have er6 := g6 _ _ er4
    have ecl6 := g6 _ _ ecl
    have frl6 := frl.same g6
    have wt6 := wt4.same g6
    have kn : ks ≠ [] := fun e => by
     have := (hk good).mpr (BH.mpr ⟨[good],BI bf.first,rfl⟩)
     rw [e] at this
     cases this
    have oal : oa ≠ l := bS eoa6 el6 (fun z => nomatch z)
    have oar : oa ≠ rd := bS eoa6 er6 (fun z => by injection z with z; exact u9 kn z)
    have cll : cl ≠ l := bS ecl6 el6 (fun z => by injection z with z; exact jV cn z)
    have clr : cl ≠ rd := bS ecl6 er6 (fun z => nomatch z)
    have pw := So.eY srt
    have yin : ∀ y,y ∈ ys ↔ y ∈ row.map (·.1) := fun y => perm.mem_iff
    refine dy (xs := ys.map V.str) (fun j σ H' => aB H H' /\ b9 l rd H6 H' /\ ∃ (cs' : List (List Str)) (ts' : List Addr) (ks' : List Str) (o8 : Option V),σ = [some (.ref d),some (.str good),some (.ref l),some (.ref rd),some (.int i),some (.ref cl),some (.ref rl),some (.ref oa),o8] /\ H' l = some (.lst (ts'.map V.ref)) /\ m3 K b Rt (fun c => H c = none) H' ts' cs' /\ fD (fJ g) good cs' i (fun z => z ∈ ys.take j) /\ cs'[i]? = some ch /\ H' rd = some (.dK (bw ks' (.bl true))) /\ (∀ x,x ∈ ks' ↔ x ∈ cs'.map aO) /\ ks'.length <= cs'.length) ?_ ?_ ?_ ?_
    ·refine ⟨g46,b9.refl _ _ _,cs,ts,ks,o8,rfl,el6,wt6,?_,hc,er6,hk,lk⟩
     rw [show (fun z => z ∈ ys.take 0) = (fun _ : Str => False) by funext z; simp]
     exact bf
    ·rintro j σ H' hj ⟨_,sb,_⟩
     exact bv.of (sb _ _ spl spr esp)
    ·rintro j x σ H7 hx ⟨g7,sb,cs',ts',ks',o8,rfl,el7,wt7,bf7,hc7,er7,hk7,lk7⟩
     rw [BM] at hx
     obtain ⟨y,hy,rfl⟩ := CA.mp hx
     have ym := BI hy
     obtain ⟨⟨y',t'⟩,ht',e⟩ := BH.mp ((yin y).mp ym)
     cases e
     have gy := (hrow y' t').mpr ht'
     have tk : (fun z => z ∈ ys.take (j + 1)) = fun z => z ∈ ys.take j ∨ z = y' := by
      funext z
      rw [List.take_add_one,hy]
      simp
     have few7 := bf7.few hU
     refine ⟨_,rfl,_,rfl,rd,_,rfl,cF.k (k := .inr y') er7,_,rfl,?_⟩
     rw [fV]
     by_cases hin : y' ∈ ks'
     ·rw [if_pos hin]
      refine bX ⟨g7,sb,cs',ts',ks',_,rfl,el7,wt7,?_,hc7,er7,hk7,lk7⟩
      rw [tk]
      exact bf7.seen hc7 ((hk7 y').mp hin)
     ·rw [if_neg hin]
      have hny : y' ∉ cs'.map aO := fun z => hin ((hk7 y').mpr z)
      refine bI ⟨_,rfl,_,rfl,rd,_,rfl,fP.k (k := .inr y') er7 (by rw [eJ]; omega),?_⟩
      rw [iR]
      have lrd : l ≠ rd := bS el7 er7 (fun z => nomatch z)
      have nz : ∀ c ∈ cs',c ≠ [] := fun c hc' => by
       obtain ⟨k,hk'⟩ := C5.mp hc'
       exact bf7.ne hk'
      have el8 : aq H7 rd (.dK (bw (bT ks' y') (.bl true))) l = some (.lst (ts'.map V.ref)) := by rw [aj lrd]; exact el7
      have er8 : aq H7 rd (.dK (bw (bT ks' y') (.bl true))) rd = some (.dK (bw (bT ks' y') (.bl true))) := ac
      have sb8 := sb.putR (.dK (bw (bT ks' y') (.bl true)))
      have g8 := fT (o := .dK (bw (bT ks' y') (.bl true))) g7 nrH
      have wt8 := wt7.keep nz ((b9.refl l rd H7).putR (.dK (bw (bT ks' y') (.bl true)))) el7 er7
      generalize aq H7 rd (.dK (bw (bT ks' y') (.bl true))) = H8 at el8 er8 sb8 g8 wt8 ⊢
      have ecl8 := sb8 _ _ cll clr ecl6
      have eoa8 := sb8 _ _ oal oar eoa6
      have frl8 := sb8.fr el6 er6 frl6
      have lch : (ch.map V.str).length = ch.length := B2 _
      have lts : (ts'.map V.ref).length = cs'.length := by rw [B2,wt7.1]
      refine ⟨_,rfl,.inl ⟨rfl,_,bv.of el8⟩,_,rfl,_,rfl,(by show 1 <= sizeLine; decide),fun l3 n3 => ⟨cl,l3,_,_,rfl,rfl,ae n3 _ _ _ ecl8,ac,by rw [lch]; show ch.length + 1 <= sizeLine; omega,fun c2 nc2 => ?_⟩⟩
      have nc2H := (g8.trans (ae n3 (.lst [V.str y']))).free nc2
      have k3 := (ae n3 (.lst [V.str y'])).trans (ae nc2 (.lst (ch.map V.str ++ [V.str y'])))
      have ec2 : aq (aq H8 l3 (.lst [V.str y'])) c2 (.lst (ch.map V.str ++ [V.str y'])) c2 = some (.lst ((ch ++ [y']).map V.str)) := by rw [ac,Bv]; rfl
      generalize aq (aq H8 l3 (.lst [V.str y'])) c2 (.lst (ch.map V.str ++ [V.str y'])) = H9 at k3 ec2 ⊢
      have dg : cF H9 oa (.str y') (some (.ref t')) := by
       rw [<- i8 nd ht']
       exact cF.k (k := .inr y') (k3 _ _ eoa8)
      have fu := hd.fr (aO ch) y' t' gy
      have c4 : b * ch.length + b <= 4000 := by
       have := Nat.mul_le_mul_left b (show ch.length + 1 <= m + 2 by omega)
       rw [Nat.mul_succ] at this
       omega
      refine ⟨_,rfl,_,rfl,_,rfl,oa,.ref t',rfl,dg,rl,t',p,q',(vw (aO ch) y').1,(vw (aO ch) y').2,rfl,(frl8.same k3).mono (by omega),((fu.same g8).same k3).mono (by omega),fun r s fr tr H10 g10 e10 => ⟨(by show 2 <= sizeLine; decide),fun t5 n5 => ?_⟩⟩
      have k11 := (k3.trans g10).trans (ae n5 (.tup [.ref c2,.ref tr]))
      have w11 : m3 K b Rt (fun c => H c = none) (aq H10 t5 (.tup [.ref c2,.ref tr])) (ts' ++ [t5]) (cs' ++ [ch ++ [y']]) := by
       refine m3.snoc (wt8.same k11) ac (ae n5 _ _ _ (g10 _ _ ec2)) ?_ (rts ch p q' y' t' r s rtc gy fr) nc2H (ae n5 _ _ _ e10)
       have e : b * (ch ++ [y']).length = b * ch.length + b := by rw [B8,BW,Nat.mul_succ]
       rw [e]
       exact ⟨cR.of (ae n5 _ _ _ e10),fr.pos,(frl.bp.mul fu.bp).of_le fr.bt,(frl.bq.mul fu.bq).of_le fr.bb⟩
      have el11 := k11 _ _ el8
      have er11 := k11 _ _ er8
      generalize aq H10 t5 (.tup [.ref c2,.ref tr]) = H11 at k11 w11 el11 er11 ⊢
      refine ⟨l,_,_,rfl,rfl,el11,by omega,?_⟩
      have nz2 : ∀ c ∈ cs' ++ [ch ++ [y']],c ≠ [] := fun c hc' => by
       rcases BN.mp hc' with z | z
       ·exact nz c z
       ·rw [B5.mp z]; simp
      refine ⟨fT (g8.trans k11) nlH _,(sb8.thenS k11).putL _,cs' ++ [ch ++ [y']],ts' ++ [t5],bT ks' y',_,rfl,by rw [ac,Bv]; rfl,w11.keep nz2 ((b9.refl l rd H11).putL _) el11 er11,?_,?_,by rw [aj (Ne.symm lrd)]; exact er11,fun x => ?_,?_⟩
      ·rw [tk]
       refine bf7.more hc7 hny ⟨t',gy⟩ fun z hz zn => wb ?_ zn
       have sp2 : (ys.take j ++ ys.drop j).Pairwise So.sX := by rw [List.take_append_drop]; exact pw
       refine (List.pairwise_append.mp sp2).2.2 z hz y' (BI (i := 0) ?_)
       rw [List.getElem?_drop]
       exact hy
      ·rw [BB (B4.mp hc7).1]
       exact hc7
      ·rw [fW,Bv,BN,hk7 x,List.map_singleton,b8,B5]
      ·have := (iS ks' y').2.2
       rw [B8,BW]
       omega
    ·rintro σ H7 ⟨g7,sb,cs',ts',ks',o8,rfl,el7,wt7,bf7,hc7,er7,hk7,lk7⟩
     rw [B2,Cu] at bf7
     refine hN _ _ ⟨g7,cs',ts',ks',o8,rfl,el7,wt7,bf7.next hc7 (fun y hy => ?_),er7,hk7,lk7,(B4.mp hc7).1⟩
     obtain ⟨t',gy⟩ := hy
     exact (yin y).mpr (BH.mpr ⟨_,(hrow y t').mp gy,rfl⟩)
   rintro σ H8 ⟨g8,cs',ts',ks',o8,rfl,el8,wt8,bf8,er8,hk8,lk8,il8⟩
   refine ⟨_,rfl,_,_,rfl,rfl,⟨g8,i + 1,cs',ts',ks',_,_,_,_,rfl,el8,wt8,bf8,er8,hk8,lk8,il8⟩,?_⟩
   show U.length + 2 - ((i : Int) + 1).toNat < U.length + 2 - (i : Int).toNat
   omega
  ·have e : i = cs.length := by omega
   subst e
   exact ⟨_,rfl,q l cs H4 g4 nlH ⟨ts,el4,wt4⟩ bf⟩
 ·obtain ⟨v,e,w,e2,p,ys,e3,s,i,j,e4,e5,b',hb,h2⟩ := h
  exact ⟨v,e,w,e2,p,ys,e3,s,i,j,e4,e5,b',hb,mm _ _ h2⟩
theorem A7 : ax ["thing","sign"] ["thing"] (ap Ab) := ⟨rfl,rfl,rfl,by decide +kernel,rfl,by decide +kernel,by decide +kernel⟩
set_option maxHeartbeats 4000000 in
theorem A8 {dV : Value} (F : bz K "is_name" "is_name" Ab dV f fd) (B : Bn K mg c_EmptyHeap c_InRing c_Larder c_NoAmount c_NoDish c_NoName c_NoNet c_NoNumber c_NoPack c_NoPlan c_NoRow c_NoStand c_NoStandIn c_NoStep c_StoveError c_TooFew c_TooMany c_Twice f_Z15 f_Z16 f_Z17 f_Z18 f_Z19 f_Z20 f_Z21 f_Z23 f_Z24)  : aZ P w K mg base bg 1 f fd ["thing"] (iQ K) := by
 have sc := A7
 refine F.ok sc (fun vs H Q E h => ?_) (fun cdv A outer s H vs Q E hr h => ?_)
 ·obtain ⟨x,rfl,_⟩ := h
  rfl
 obtain ⟨x,rfl,h⟩ := h
 refine ⟨_,(af (aV (PW.pt (fK (cx (b4 (aC (dE (K := K) rfl) rfl B.b_isinstance boot_isinstance (aa (pv 0) (aa (dN (v := .ty "str") rfl B.b_str boot_str rfl) ag))))) (fK (aA lR (aC cU rfl B.b_len boot_len (aa (pv 0) ag)) am (aE _)) (fh (aA ir (aC cU rfl B.b_len boot_len (aa (pv 0) ag)) (iO rfl B.g_MOST_LETTERS) (aE _)))))) (ak (aG bY)) aM) (af (c5 PassesOwn.never rfl (wZ (pv 0)) (bJ (i := 1) sc.nd rfl (Or.inl rfl)) (ak (aV (aA fN (pv 1) (mw rfl B.g_LETTERS) (by with_unfolding_all rfl)) (ak (aG bY)) aM))) (ak (aG bY)))),?_⟩
 rcases h with ⟨z,rfl,hz,q1,q0⟩ | ⟨ty,hty,hk,q⟩
 ·have hz' : z.length <= sizeLine := BZ hz (by decide)
  have hl := iP z
  try dsimp only [bG,bM]
  refine cut (fun σ H' => H = H' /\ σ = [some (.str z),none] /\ 1 <= z.length /\ z.length <= 12) (fun N hN => ?_) ?_
  ·refine ⟨_,rfl,_,_,_,true,rfl,.str _,rfl,_,rfl,bX ⟨_,rfl,z,rfl,hz',_,_,rfl,rfl,_,rfl,d2 (fun c => ?_) (fun c1 => ⟨_,rfl,z,rfl,hz',_,_,rfl,rfl,_,rfl,d2 (fun c => ?_) (fun c2 => ?_)⟩)⟩⟩
   ·exact q0 fun n => by have := n.1; omega
   ·exact q0 fun n => by have := n.2.1; omega
   ·exact hN _ _ ⟨rfl,rfl,by omega,by omega⟩
  rintro σ _ ⟨rfl,rfl,l1,l2⟩
  refine ⟨_,rfl,z,rfl,uR (fun i σ H2 => H = H2 /\ (∃ o,σ = [some (.str z),o]) /\ ∀ j c,j < i -> z.cps[j]? = some c -> 97 <= c /\ c <= 122) ⟨rfl,⟨_,rfl⟩,fun j c h => absurd h (by omega)⟩ (fun i c σ H2 hc hP => ?_) (fun σ H2 hP => ?_)⟩
  ·obtain ⟨rfl,⟨o,rfl⟩,hP⟩ := hP
   refine ⟨_,rfl,_,_,rfl,rfl,_,rfl,AH (fun e => ?_) (fun e => ?_)⟩
   ·have e' := (kK c).symm.trans e
    refine q0 fun n => ?_
    have := n.2.2 c (BI (show (sL z)[i]? = some c by rw [<- hc]; exact BU))
    rw [decide_eq_true this] at e'
    cases e'
   ·have e' := (kK c).symm.trans e
    refine ⟨rfl,⟨_,rfl⟩,fun j c' hj hc' => ?_⟩
    rcases Cb.mp hj with k | k
    ·exact hP j c' k hc'
    ·subst k
     rw [hc] at hc'
     cases hc'
     exact of_decide_eq_true e'
  ·obtain ⟨rfl,⟨o,rfl⟩,hP⟩ := hP
   refine q1 ⟨by omega,by omega,fun c hc => ?_⟩
   obtain ⟨i,hi⟩ := C5.mp hc
   have hi' : z.cps[i]? = some c := by rw [<- hi]; exact BU.symm
   exact hP i c (by have := (Array.getElem?_eq_some_iff.mp hi').1; exact this) hi'
 ·exact ⟨_,rfl,_,_,_,false,rfl,hty,hk,_,rfl,bI q⟩
theorem A9 : ax ["things","thing"] ["things"] (ap Ac) := ⟨rfl,rfl,rfl,by decide +kernel,rfl,by decide +kernel,by decide +kernel⟩
set_option maxHeartbeats 4000000 in
theorem Ba {dV : Value} (F : bz K "refuse_no_names" "refuse_no_names" Ac dV f fd) (B : Bn K mg c_EmptyHeap c_InRing c_Larder c_NoAmount c_NoDish c_NoName c_NoNet c_NoNumber c_NoPack c_NoPlan c_NoRow c_NoStand c_NoStandIn c_NoStep c_StoveError c_TooFew c_TooMany c_Twice f_Z15 f_Z16 f_Z17 f_Z18 f_Z19 f_Z20 f_Z21 f_Z23 f_Z24) (DZ7 : Dx P w K mg base bg 1 "is_name" ["thing"] [] (iQ K)) : aZ P w K mg base (cA P w) 2 f fd ["things"] (dX K c_NoName) := by
 have sc := A9
 refine F.okX sc (fun vs H Q E h => ?_) (fun cdv A outer s H vs Q E hr h => ?_)
 ·obtain ⟨l,xs,rfl,_⟩ := h
  rfl
 obtain ⟨l,xs,rfl,hl,ho,kt,kf⟩ := h
 refine ⟨_,(ak (c5 (su rfl rfl) rfl (dQ (pv 0)) (bJ (i := 1) sc.nd rfl (Or.inl rfl)) (ak (aV (cx (b4 (aY DZ7 hr (by decide) rfl (aa (pv 1) ag)))) (ak (dD B.x_NoName rfl B.m_NoName rfl cH (aa bL ag))) aM)))),?_⟩
 refine ⟨_,rfl,l,rfl,⟨_,bv.of hl⟩,dy (xs := xs) (fun i σ H' => H = H' /\ (∃ o,σ = [some (.ref l),o]) /\ ∀ (j : Nat) x,j < i -> xs[j]? = some x -> fz x) ⟨rfl,⟨_,rfl⟩,fun j x h => absurd h (Nat.not_lt_zero _)⟩ (fun i σ H' _ h => by rw [<- h.1]; exact bv.of hl) ?_ ?_⟩
 ·rintro i x σ H' hx ⟨rfl,⟨o,rfl⟩,hP⟩
  by_cases hn : fz x
  ·obtain ⟨z,rfl,nz⟩ := id hn
   refine ⟨_,rfl,_,rfl,.inl ⟨z,rfl,sJ nz,fun _ => ?_,fun n => absurd nz n⟩⟩
   refine ⟨_,rfl,?_⟩
   exact ⟨rfl,⟨_,rfl⟩,fun j y hj hy => by
    rcases Cb.mp hj with q | q
    ·exact hP j y q hy
    ·subst q; rw [hx] at hy; cases hy; exact hn⟩
  ·have bad : ¬ ∀ x ∈ xs,fz x := fun a => hn (a x (BI hx))
   rcases (ho x (BI hx)).resolve_left hn with ⟨z,rfl,lz,nz⟩ | ⟨ty,h1,h2⟩
   ·refine ⟨_,rfl,_,rfl,.inl ⟨z,rfl,lz,fun n => absurd n nz,fun _ => ?_⟩⟩
    exact ⟨_,rfl,(by show 1 <= sizeLine; decide),kf bad _ fun _ _ e => e⟩
   ·refine ⟨_,rfl,_,rfl,.inr ⟨ty,h1,h2,?_⟩⟩
    exact ⟨_,rfl,(by show 1 <= sizeLine; decide),kf bad _ fun _ _ e => e⟩
 ·rintro σ H' ⟨rfl,⟨o,rfl⟩,hP⟩
  exact kt fun x hx => by
   obtain ⟨j,hj⟩ := C5.mp hx
   exact hP j x (B4.mp hj).1 hj
theorem Bb : ax ["thing","sign"] ["thing"] (ap AS) := ⟨rfl,rfl,rfl,by decide +kernel,rfl,by decide +kernel,by decide +kernel⟩
set_option maxHeartbeats 4000000 in
theorem Bc {dV : Value} {hd : Option Value} (F : bz K "is_name" "is_name" AS dV f fd) (B : Bn K mg c_EmptyHeap c_InRing c_Larder c_NoAmount c_NoDish c_NoName c_NoNet c_NoNumber c_NoPack c_NoPlan c_NoRow c_NoStand c_NoStandIn c_NoStep c_StoveError c_TooFew c_TooMany c_Twice f_Z15 f_Z16 f_Z17 f_Z18 f_Z19 f_Z20 f_Z21 f_Z23 f_Z24)  : qG hd P w K mg base 1 f fd ["thing"] (lC hd) := by
 have sc := Bb
 refine F.okN sc (fun vs H Q E h => ?_) (fun cdv A outer s H vs Q E hr h => ?_)
 ·obtain ⟨z,rfl,_⟩ := h
  rfl
 obtain ⟨z,rfl,nz,hok,q1⟩ := h
 have hz := sJ nz
 refine ⟨_,(af (aV (PW.pt (fK (cx (b4 (aC (dE (K := K) rfl) rfl B.b_isinstance boot_isinstance (aa (pv 0) (aa (dN (v := .ty "str") rfl B.b_str boot_str rfl) ag))))) (fK (aA lR (aC cU rfl B.b_len boot_len (aa (pv 0) ag)) am (aE _)) (fh (aA ir (aC cU rfl B.b_len boot_len (aa (pv 0) ag)) (iO rfl B.g_MOST_LETTERS) (aE _)))))) (ak (aG bY)) aM) (af (qc PassesOwn.never hr.hd (vv (pv 0)) (bJ (i := 1) sc.nd rfl (Or.inl rfl)) (ak (aV (aA fN (pv 1) (mw rfl B.g_LETTERS) (by with_unfolding_all rfl)) (ak (aG bY)) aM))) (ak (aG bY)))),?_⟩
 have hz' : z.length <= sizeLine := BZ hz (by decide)
 have hl := iP z
 try dsimp only [bG,bM]
 refine cut (fun σ H' => H = H' /\ σ = [some (.str z),none]) (fun N hN => ?_) ?_
 ·refine ⟨_,rfl,_,_,_,true,rfl,.str _,rfl,_,rfl,bX ⟨_,rfl,z,rfl,hz',_,_,rfl,rfl,_,rfl,d2 (fun c => ?_) (fun c1 => ⟨_,rfl,z,rfl,hz',_,_,rfl,rfl,_,rfl,d2 (fun c => ?_) (fun c2 => ?_)⟩)⟩⟩
  ·have := nz.1; omega
  ·have := nz.2.1; omega
  ·exact hN _ _ ⟨rfl,rfl⟩
 rintro σ _ ⟨rfl,rfl⟩
 refine ⟨_,rfl,z,rfl,tX (fun i σ H2 => H = H2 /\ ∃ o,σ = [some (.str z),o]) ⟨rfl,⟨_,rfl⟩⟩ (fun i σ H2 _ hP => hP.1 ▸ hok) (fun i c σ H2 hc hP => ?_) (fun σ H2 hP => ?_)⟩
 ·obtain ⟨rfl,⟨o,rfl⟩⟩ := hP
  refine ⟨_,rfl,_,_,rfl,rfl,_,rfl,AH (fun e => ?_) (fun e => ⟨rfl,⟨_,rfl⟩⟩)⟩
  have e' := (kK c).symm.trans e
  have := nz.2.2 c (BI (show (sL z)[i]? = some c by rw [<- hc]; exact BU))
  rw [decide_eq_true this] at e'
  cases e'
 ·obtain ⟨rfl,_⟩ := hP
  exact q1
theorem yM : ax ["things","thing"] ["things"] (ap xF) := ⟨rfl,rfl,rfl,by decide +kernel,rfl,by decide +kernel,by decide +kernel⟩
set_option maxHeartbeats 4000000 in
theorem yN {dV : Value} {hd : Option Value} (F : bz K "refuse_no_names" "refuse_no_names" xF dV f fd) (B : Bn K mg c_EmptyHeap c_InRing c_Larder c_NoAmount c_NoDish c_NoName c_NoNet c_NoNumber c_NoPack c_NoPlan c_NoRow c_NoStand c_NoStandIn c_NoStep c_StoveError c_TooFew c_TooMany c_Twice f_Z15 f_Z16 f_Z17 f_Z18 f_Z19 f_Z20 f_Z21 f_Z23 f_Z24) (HZ9 : ∀ hd,ue hd P w K mg base 1 "is_name" ["thing"] (lC hd)) : qG hd P w K mg base 2 f fd ["things"] (oK hd) := by
 have sc := yM
 refine F.okN sc (fun vs H Q E h => ?_) (fun cdv A outer s H vs Q E hr h => ?_)
 ·obtain ⟨l,xs,rfl,_⟩ := h
  rfl
 obtain ⟨l,xs,rfl,hl,ho,hok,q⟩ := h
 refine ⟨_,(ak (qc PassesOwn.never hr.hd (tW (K := K) rfl (pv 0)) (bJ (i := 1) sc.nd rfl (Or.inl rfl)) (ak (aV (cx (b4 (iN (j := 1) (HZ9 hd) hr (by decide) rfl (aa (pv 1) ag)))) (ak lP) aM)))),?_⟩
 refine ⟨_,rfl,l,rfl,⟨_,bv.of hl⟩,rq (xs := xs) (fun i σ H' => H = H' /\ (∃ o,σ = [some (.ref l),o])) ⟨rfl,⟨_,rfl⟩⟩ (fun i σ H' _ h => by rw [<- h.1]; exact ⟨bv.of hl,hok⟩) ?_ ?_⟩
 ·rintro i x σ H' hx ⟨rfl,⟨o,rfl⟩⟩
  obtain ⟨z,rfl,nz⟩ := ho x (BI hx)
  exact ⟨_,rfl,z,rfl,nz,hok,_,rfl,rfl,⟨_,rfl⟩⟩
 ·rintro σ H' ⟨rfl,_⟩
  exact q
theorem yO : ax ["parts","good","ahead","waiting","name","part"] ["parts","good"] (ap vy) := ⟨rfl,rfl,rfl,by decide +kernel,rfl,by decide +kernel,by decide +kernel⟩
set_option maxHeartbeats 4000000 in
theorem yP {dV : Value} (F : bz K "names_ahead" "names_ahead" vy dV f fd) (B : Bn K mg c_EmptyHeap c_InRing c_Larder c_NoAmount c_NoDish c_NoName c_NoNet c_NoNumber c_NoPack c_NoPlan c_NoRow c_NoStand c_NoStandIn c_NoStep c_StoveError c_TooFew c_TooMany c_Twice f_Z15 f_Z16 f_Z17 f_Z18 f_Z19 f_Z20 f_Z21 f_Z23 f_Z24)  : aZ P w K mg base bg 1 f fd ["parts","good"] ie := by
 have sc := yO
 refine F.ok sc (fun vs H Q E h => ?_) (fun cdv A outer s H vs Q E hr h => ?_)
 ·obtain ⟨d,good,rows,ps,rfl,_⟩ := h
  rfl
 obtain ⟨d,good,rows,ps,rfl,dd,ok,few,q⟩ := h
 obtain ⟨rs,dr,ed,ndr,dnr⟩ := dd.ex
 refine ⟨_,(af (ay (i := 2) sc.nd rfl (Or.inl rfl) (pi (lY (pv 1) bZ ph) rfl rfl (by simp) (by decide))) (af (ay (i := 3) sc.nd rfl (Or.inl rfl) (bj (aa (pv 1) ag))) (af (em PassesOwn.never (aA ir (aC bC rfl B.b_len boot_len (aa (pv 3) ag)) am (aE _)) (af (ay (i := 4) sc.nd rfl (Or.inl rfl) (wB C6 PySem.F.slot_list_pop PySem.F.type_list_pop wC (pv 3))) (ak (sO (c5 PassesOwn.never rfl (pK (iE (cu hr) (pv 0) (pv 4) cG ⟨rfl,rfl,rfl,rfl⟩)) (bJ (i := 5) sc.nd rfl (Or.inl rfl)) (ak (aV (kb (eW (cu hr) (pv 5) (pv 2)) (by with_unfolding_all rfl)) (af (dU (cu hr) (pv 2) (pv 5) (pv 4) rfl) (ak (aU (gO C6 CC CB bP (pv 3) (aa (pv 5) ag))))) aM))))))) (ak (aG (pv 2)))))),?_⟩
 have slt : (6000 : Nat) < sizeLine := by decide
 refine fun ah na => ⟨_,rfl,ac,[(.inr good,.non)],rfl,(by show 1 <= 15; decide),?_⟩
 have ga : aB H (aq (aq H ah (.dK [])) ah (.dK (c6 [] [((.inr good : Key),V.non)]))) := by
  rw [oS]
  exact ae na _
 have ea : (aq (aq H ah (.dK [])) ah (.dK (c6 [] [((.inr good : Key),V.non)]))) ah = some (.dK (aP [(good,none)])) := ac
 generalize aq (aq H ah (.dK [])) ah (.dK (c6 [] [((.inr good : Key),V.non)])) = H0 at ga ea ⊢
 refine ⟨_,rfl,(by show 1 <= sizeLine; decide),fun wt nw => ?_⟩
 have nwH : H wt = none := ga.free nw
 have g0 := ga.trans (ae nw (.lst [.str good]))
 have e0 : aq H0 wt (.lst [.str good]) ah = some (.dK (aP [(good,none)])) := ae nw _ _ _ ea
 have aw : ah ≠ wt := fun z => by rw [z,nw] at ea; cases ea
 try dsimp only [bG,bM]
 refine eu (fun σ H' => aB H H' /\ ∃ (es : List (Str × Option Str)) (ws : List Str) (o4 o5 : Option V),σ = [some (.ref d),some (.str good),some (.ref ah),some (.ref wt),o4,o5] /\ H' ah = some (.dK (aP es)) /\ H' wt = some (.lst (ws.map V.str)) /\ cJ ps good es /\ (∀ y ∈ ws,y ∈ aI es) /\ (∀ y ∈ aI es,y ∉ ws -> ∀ b,(y,b) ∈ ps -> b ∈ aI es) /\ 2 * (1002 - (aI es).length) + ws.length <= 5000)
  (fun (σ : L2.St) (H' : Hp) => match H' ah,H' wt with | some (.dK kvs),some (.lst xs) => 2 * (1002 - kvs.length) + xs.length | _,_ => 0)
  ⟨g0,[(good,none)],[good],none,none,rfl,e0,ac,.start ps good few,fun y hy => by simpa [aI] using hy,fun y hy n => absurd (by simpa [aI] using hy) n,by show 2 * (1002 - 1) + 1 <= 5000; decide⟩ ?_
  (fun σ H Q Q' m ⟨v,e,a,ys,e1,e2,i,j,e3,e4,k,hk,h2⟩ => ⟨v,e,a,ys,e1,e2,i,j,e3,e4,k,hk,m _ _ h2⟩)
 rintro σ H1 ⟨g1,es,ws,o4,o5,rfl,e1,w1,ab,wsub,cl,mes⟩
 refine ⟨_,rfl,wt,_,rfl,.inl (bv.of w1),_,_,rfl,rfl,_,rfl,d2 (fun c => ?_) (fun c => ?_)⟩
 ·rcases List.eq_nil_or_concat ws with rfl | ⟨ws0,nm,rfl⟩
  ·simp at c
  rw [List.concat_eq_append] at *
  have nmk : nm ∈ aI es := wsub nm (by simp)
  have wl : (ws0 ++ [nm]).length = ws0.length + 1 := by simp
  refine ⟨_,rfl,.inl ⟨rfl,_,bv.of w1⟩,wt,_,.str nm,rfl,rfl,w1,(by simp),?_⟩
  have w2 : ((ws0 ++ [nm]).map V.str).dropLast = ws0.map V.str := by simp
  rw [w2]
  have g2 := fT (o := .lst (ws0.map V.str)) g1 nwH
  have e2 : aq H1 wt (.lst (ws0.map V.str)) ah = some (.dK (aP es)) := by rw [aj aw]; exact e1
  have w2' : aq H1 wt (.lst (ws0.map V.str)) wt = some (.lst (ws0.map V.str)) := ac
  generalize aq H1 wt (.lst (ws0.map V.str)) = H2 at g2 e2 w2' ⊢
  refine ⟨_,rfl,d,rfl,.inl ⟨_,.inl (g2 _ _ ed)⟩,_,rfl,fun pn hn => ⟨_,cF.k (k := .inr nm) (ae hn _ _ _ (g2 _ _ ed)),?_⟩⟩
  have g3 := g2.trans (ae hn (.dK []))
  have e3 := ae hn (.dK []) _ _ e2
  have w3 := ae hn (.dK []) _ _ w2'
  have hnH : H pn = none := g2.free hn
  obtain ⟨rw_,ys,hx,hr,hH,ysl,ym,ra,rw1⟩ : ∃ (r : Addr) (ys : List Str),(aK (dY rows rs) (.inr nm)).getD (.ref pn) = .ref r /\ (aq H2 pn (.dK [])) r = some (.dK (bw ys (.bl true))) /\ (H r = none ∨ H r = some (.dK (bw ys (.bl true)))) /\ ys.length <= 1000 /\ (∀ b,b ∈ ys ↔ (nm,b) ∈ ps) /\ r ≠ ah /\ r ≠ wt := by
   rcases xh (x := nm) dr ndr ok with ⟨hv,no⟩ | ⟨r,ys,hv,_,hH,hl,_,hm⟩
   ·rw [hv]
    exact ⟨pn,[],rfl,ac,.inl hnH,by simp,fun b => ⟨fun h => by simp at h,fun h => absurd h (no b)⟩,(fun z => by rw [z,e2] at hn; cases hn),(fun z => by rw [z,w2'] at hn; cases hn)⟩
   ·rw [hv]
    exact ⟨r,ys,rfl,g3 _ _ hH,.inr hH,by omega,hm,(fun z => by rw [z,na] at hH; cases hH),(fun z => by rw [z,nwH] at hH; cases hH)⟩
  rw [hx]
  generalize aq H2 pn (.dK []) = H3 at g3 e3 w3 hr ⊢
  refine ⟨rw_,_,rfl,hr,fun o nf => ?_⟩
  have fah : aq H rw_ (.frz o (.dK (bw ys (.bl true)))) ah = none := by rw [aj (Ne.symm ra)]; exact na
  have fwt : aq H rw_ (.frz o (.dK (bw ys (.bl true)))) wt = none := by rw [aj (Ne.symm rw1)]; exact nwH
  refine sP (kvs := bw ys (.bl true)) (fun i σ H4 => aB (aq H rw_ (.frz o (.dK (bw ys (.bl true))))) H4 /\ ∃ (es' : List (Str × Option Str)) (ws' : List Str) (o5 : Option V),σ = [some (.ref d),some (.str good),some (.ref ah),some (.ref wt),some (.str nm),o5] /\ H4 ah = some (.dK (aP es')) /\ H4 wt = some (.lst (ws'.map V.str)) /\ cJ ps good es' /\ nm ∈ aI es' /\ (∀ y ∈ ws',y ∈ aI es') /\ (∀ y ∈ aI es',y ≠ nm -> y ∉ ws' -> ∀ b,(y,b) ∈ ps -> b ∈ aI es') /\ (∀ (j : Nat) (b : Str),j < i -> ys[j]? = some b -> b ∈ aI es') /\ 2 * (1002 - (aI es').length) + ws'.length <= 2 * (1002 - (aI es).length) + ws0.length)
   ⟨sU g3 _ _,es,ws0,o5,rfl,by rw [aj (Ne.symm ra)]; exact e3,by rw [aj (Ne.symm rw1)]; exact w3,ab,nmk,fun y hy => wsub y (by simp [hy]),fun y hy hn hw => cl y hy (by simp [hn,hw]),fun j b h => absurd h (by omega),B3 _⟩
   (fun i σ H4 _ h => h.1 _ _ ac) ?_ ?_
  ·rintro i k x σ H4 hk ⟨g4,es',ws',o5,rfl,e4,w4,ab',nm',wsub',cl',pr',mes'⟩
   obtain ⟨b,hb,rfl⟩ := uW hk
   have hbp : (nm,b) ∈ ps := (ym b).mp (BI hb)
   have rm := ab'.room
   refine ⟨_,rfl,_,rfl,ah,_,rfl,cF.k (k := .inr b) e4,_,rfl,?_⟩
   rw [gr]
   refine AH (fun hf => ?_) (fun ht => ?_)
   ·have nb := of_decide_eq_false hf
    refine ⟨_,rfl,_,rfl,_,rfl,ah,_,rfl,fP.k (k := .inr b) e4 (by rw [dZ]; omega),?_⟩
    rw [qP nb]
    have w5 : aq H4 ah (.dK (aP (es' ++ [(b,some nm)]))) wt = some (.lst (ws'.map V.str)) := by rw [aj (Ne.symm aw)]; exact w4
    have g5 := fT (o := .dK (aP (es' ++ [(b,some nm)]))) g4 fah
    have nk := d4 es' b (some nm)
    refine ⟨_,rfl,.inl ⟨rfl,_,bv.of w5⟩,_,rfl,wt,_,_,rfl,rfl,w5,(by rw [B2]; omega),?_⟩
    refine ⟨fT g5 fwt _,es' ++ [(b,some nm)],ws' ++ [b],_,rfl,by rw [aj aw]; exact ac,by rw [ac,Bv]; rfl,ab'.add nm' nb hbp,by rw [nk]; simp [nm'],fun y hy => ?_,fun y hy hn hw c hc => ?_,fun j c hj hc => ?_,?_⟩
    ·rw [nk]
     rcases BN.mp hy with k | k
     ·simp [wsub' y k]
     ·simp at k
      simp [k]
    ·rw [nk] at hy ⊢
     simp at hw
     rcases BN.mp hy with k | k
     ·simp [cl' y k hn hw.1 c hc]
     ·simp at k
      exact absurd k hw.2
    ·rw [nk]
     rcases Cb.mp hj with k | rfl
     ·simp [pr' j c k hc]
     ·rw [hb] at hc
      cases hc
      simp
    ·rw [nk]
     simp only [B8,Bz,Cz]
     omega
   ·have ib := of_decide_eq_true ht
    refine ⟨g4,es',ws',_,rfl,e4,w4,ab',nm',wsub',cl',fun j c hj hc => ?_,mes'⟩
    rcases Cb.mp hj with k | rfl
    ·exact pr' j c k hc
    ·rw [hb] at hc
     cases hc
     exact ib
  ·rintro σ H4 ⟨g4,es',ws',o5,rfl,e4,w4,ab',nm',wsub',cl',pr',mes'⟩
   rw [eJ] at pr'
   have e5 : aq H4 rw_ (.dK (bw ys (.bl true))) ah = some (.dK (aP es')) := by rw [aj (Ne.symm ra)]; exact e4
   have w5 : aq H4 rw_ (.dK (bw ys (.bl true))) wt = some (.lst (ws'.map V.str)) := by rw [aj (Ne.symm rw1)]; exact w4
   refine ⟨rw_,o,bw ys (.bl true),g4 _ _ ac,nf,⟨fun b' u hb' => ?_,es',ws',_,o5,rfl,e5,w5,ab',wsub',fun y hy hw b hb => ?_,by simp only [B8,Bz,Cz] at mes; omega⟩,?_⟩
   ·by_cases z : b' = rw_
    ·subst z
     rcases hH with k | k
     ·rw [k] at hb'; cases hb'
     ·rw [k] at hb'
      cases hb'
      exact ac
    ·rw [aj z]
     exact g4 _ _ (by rw [aj z]; exact hb')
   ·by_cases z : y = nm
    ·subst z
     obtain ⟨j,hj⟩ := C5.mp ((ym b).mpr hb)
     exact pr' j b (B4.mp hj).1 hj
    ·exact cl' y hy z hw b hb
   ·rw [e5,w5,e1,w1]
    show 2 * (1002 - (aP es').length) + (ws'.map V.str).length < 2 * (1002 - (aP es).length) + ((ws0 ++ [nm]).map V.str).length
    rw [dZ,dZ,B2,B2,B8]
    simp only [Bz,Cz]
    omega
 ·have wz : ws = [] := by
   rw [B2] at c
   exact List.eq_nil_of_length_eq_zero (by omega)
  subst wz
  exact ⟨_,rfl,q ah H1 es g1 e1 ⟨ab,fun y => ⟨ab.led y,fun l => l.closed (S := fun y => y ∈ aI es) ab.good fun a b ha hab => cl a ha (by simp) b hab⟩⟩⟩
theorem yQ : ax ["ahead","goal","chain","name"] ["ahead","goal"] (ap vz) := ⟨rfl,rfl,rfl,by decide +kernel,rfl,by decide +kernel,by decide +kernel⟩
set_option maxHeartbeats 4000000 in
theorem yR {dV : Value} (F : bz K "chain_to" "chain_to" vz dV f fd) (B : Bn K mg c_EmptyHeap c_InRing c_Larder c_NoAmount c_NoDish c_NoName c_NoNet c_NoNumber c_NoPack c_NoPlan c_NoRow c_NoStand c_NoStandIn c_NoStep c_StoveError c_TooFew c_TooMany c_Twice f_Z15 f_Z16 f_Z17 f_Z18 f_Z19 f_Z20 f_Z21 f_Z23 f_Z24)  : aZ P w K mg base bg 1 f fd ["ahead","goal"] xj := by
 have sc := yQ
 refine F.ok sc (fun vs H Q E h => ?_) (fun cdv A outer s H vs Q E hr h => ?_)
 ·obtain ⟨ah,goal,good,ps,es,rfl,_⟩ := h
  rfl
 obtain ⟨ah,goal,good,ps,es,rfl,ea,ab,hg,q⟩ := h
 refine ⟨_,(af (ay (i := 2) sc.nd rfl (Or.inl rfl) (bj ag)) (af (ay (i := 3) sc.nd rfl (Or.inl rfl) (pv 1)) (af (em PassesOwn.never (aA o9 (pv 3) bZ (aE _)) (af (aU (gO C6 CC CB bP (pv 2) (aa (pv 3) ag))) (ak (ay (i := 3) sc.nd rfl (Or.inl rfl) (ko (cu hr) (pv 0) (pv 3) (fun _ _ => rfl)))))) (ak (aG (nY rfl rfl B.b_list rfl B.b_reversed boot_list PyProof.Rows.Boot.«reversed» (pv 2))))))),?_⟩
 have slt : (3000 : Nat) < sizeLine := by decide
 have kl : (aI es).length = es.length := by simp [aI]
 have rm := ab.room
 refine ⟨(by show 0 <= sizeLine; omega),fun lc nl => ?_⟩
 have g0 := ae nl (.lst [])
 refine ⟨_,rfl,?_⟩
 try dsimp only [bG,bM]
 refine eu (fun σ H' => aB H H' /\ ∃ (rc : List Str) (o : Option Str),σ = [some (.ref ah),some (.str goal),some (.ref lc),some (og o)] /\ H' lc = some (.lst (rc.map V.str)) /\ Back ps good goal es rc o)
  (fun (σ : L2.St) (H' : Hp) => mE es σ[3]?)
  ⟨g0,[],some goal,rfl,ac,.start hg⟩ ?_
  (fun σ H Q Q' m ⟨v,e,e2,b,hb,h2⟩ => ⟨v,e,e2,b,hb,m _ _ h2⟩)
 rintro σ H1 ⟨g1,rc,o,rfl,e1,bk⟩
 refine ⟨_,rfl,rfl,_,rfl,?_⟩
 cases o with
 | none =>
  refine bX ⟨_,rfl,lc,_,rfl,bv.of e1,fun p hp => q p _ rc.reverse (g1.trans (ae hp _)) (by rw [ac,List.map_reverse]) (bk.way ab)⟩
 | some y =>
  obtain ⟨i,oy,hi,_,_,hl⟩ := bk.nxt y rfl
  have al : ah ≠ lc := fun z => by rw [z,nl] at ea; cases ea
  refine bI ⟨_,rfl,.inl ⟨rfl,_,bv.of e1⟩,_,rfl,lc,_,_,rfl,rfl,e1,(by rw [B2]; omega),?_⟩
  refine ⟨_,rfl,_,rfl,ah,_,rfl,(by rw [<- sT ab.nd hi]; exact cF.k (k := .inr y) (by rw [aj al]; exact g1 _ _ ea)),⟨fT g1 nl _,rc ++ [y],oy,rfl,by rw [ac,Bv]; rfl,bk.step ab hi⟩,sV ab hi⟩
theorem yS : ax ["parts","good","goals","ahead","found"] ["parts","good","goals"] (ap vA) := ⟨rfl,rfl,rfl,by decide +kernel,rfl,by decide +kernel,by decide +kernel⟩
set_option maxHeartbeats 4000000 in
theorem yT {dV : Value} (F : bz K "chain_down" "chain_down" vA dV f fd) (B : Bn K mg c_EmptyHeap c_InRing c_Larder c_NoAmount c_NoDish c_NoName c_NoNet c_NoNumber c_NoPack c_NoPlan c_NoRow c_NoStand c_NoStandIn c_NoStep c_StoveError c_TooFew c_TooMany c_Twice f_Z15 f_Z16 f_Z17 f_Z18 f_Z19 f_Z20 f_Z21 f_Z23 f_Z24) (DZ11 : Dx P w K mg base bg 1 "names_ahead" ["parts","good"] [] ie) (DZ12 : Dx P w K mg base bg 1 "chain_to" ["ahead","goal"] [] xj) : aZ P w K mg base bg 2 f fd ["parts","good","goals"] gu := by
 have sc := yS
 refine F.ok sc (fun vs H Q E h => ?_) (fun cdv A outer s H vs Q E hr h => ?_)
 ·obtain ⟨d,lg,good,rows,ps,gs,rfl,_⟩ := h
  rfl
 obtain ⟨d,lg,good,rows,ps,gs,rfl,dd,ok,few,hg,q1,q2⟩ := h
 refine ⟨_,(af (ay (i := 3) sc.nd rfl (Or.inl rfl) (aY DZ11 hr (by decide) rfl (aa (pv 0) (aa (pv 1) ag)))) (af (sO (jL sc.nd (i := 4) rfl rfl (own := "name") (ys := ["goals"]) (js := [2]) rfl (yw (AF yu) (.cons rfl .nil) (by decide) rfl rfl rfl rfl rfl rfl rfl rfl) (pK (pv 3)) (fun C fp s H => (aA (xm (K := K) rfl) (pv 0) (pv 1) (by with_unfolding_all rfl))) (fun C fp s H => (pv 0)))) (af (aV (aA cf (aC bC rfl B.b_len boot_len (aa (pv 4) ag)) am (aE _)) (ak (aG bZ)) aM) (ak (aG (aY DZ12 hr (by decide) rfl (aa (pv 3) (aa (bh bK (pv 4) am (fun _ _ => rfl)) ag)))))))),?_⟩
 have slt : (3000 : Nat) < sizeLine := by decide
 refine ⟨_,rfl,_,rfl,d,good,rows,ps,rfl,dd,ok,few,fun ah H1 es g1 e1 ao => ?_⟩
 have rm := ao.base.room
 have kl := dZ es
 have l1 := g1 _ _ hg.seq
 have la : lg ≠ ah := fun z => by rw [z,e1] at l1; cases l1
 refine ⟨_,rfl,ah,_,rfl,e1,fun o nf => ?_⟩
 refine mG (AK gs) ac (by omega) (fun i k x hk H3 g3 R hR => ?_) (fun p H' g' e' => ?_)
 ·have hk' := hk
  unfold aP at hk'
  rw [BM] at hk'
  cases he : es[i]? with
  | none => rw [he] at hk'; cases hk'
  | some e =>
   rw [he] at hk'
   cases hk'
   refine ⟨_,rfl,_,rfl,lg,_,rfl,.inl (bv.of (g3 _ _ (by rw [aj la]; exact l1))),rfl,qQ gs,_,rfl,?_⟩
   show R (wA (.str e.1) (gs.map V.str)) H3
   rw [uY]
   exact hR
 ·have fa := g' _ _ ac
  have pa : p ≠ ah := fun z => by rw [z,fa] at e'; cases e'
  have g2 : aB H (aq H' ah (.dK (aP es))) := fun b u hb => by
   by_cases z : b = ah
   ·subst z
    have := (g1 _ _ hb).symm.trans e1
    cases this
    exact ac
   ·rw [aj z]
    exact g' _ _ (by rw [aj z]; exact g1 _ _ hb)
  have e2 : aq H' ah (.dK (aP es)) ah = some (.dK (aP es)) := ac
  rw [mI] at e'
  have p2 : aq H' ah (.dK (aP es)) p = some (.lst (((aI es).filter fun y => decide (y ∈ gs)).map V.str)) := by rw [aj pa]; exact e'
  refine ⟨ah,o,aP es,fa,nf,?_⟩
  generalize aq H' ah (.dK (aP es)) = H2 at g2 e2 p2 ⊢
  clear g' e' fa
  have mem : ∀ y,y ∈ ((aI es).filter fun y => decide (y ∈ gs)) ↔ y ∈ aI es /\ y ∈ gs := fun y => by simp [Cy]
  have hd : good ∈ gs -> ∃ r,((aI es).filter fun y => decide (y ∈ gs)) = good :: r := fun hin => by
   have k0 := fX ao.base.first
   cases ek : aI es with
   | nil => rw [ek] at k0; simp at k0
   | cons c r =>
    rw [ek] at k0
    simp at k0
    subst k0
    exact ⟨_,List.filter_cons_of_pos (by exact decide_eq_true hin)⟩
  generalize ((aI es).filter fun y => decide (y ∈ gs)) = fs at p2 mem hd
  refine ⟨_,rfl,p,_,rfl,.inl (bv.of p2),rfl,_,rfl,?_⟩
  cases fs with
  | nil => exact bI (q1 H2 g2 fun y hy l => by simpa using (mem y).mpr ⟨(ao.all y).mpr l,hy⟩)
  | cons c r =>
   have hc := (mem c).mp (C8)
   refine dF (p := V.int (((c :: r).map V.str).length : Int) = V.int 0) (fun z => by injection z with z; simp at z; omega) ?_
   refine ⟨_,rfl,_,rfl,p,_,0,.str c,rfl,rfl,bv.of p2,(show gN ((c :: r).map V.str) ((0 : Nat) : Int) = some (.str c) from c8 rfl),ah,c,good,ps,es,rfl,e2,ao.base,hc.1,fun l H3 cs g3 e3 wy => ?_⟩
   exact q2 l H3 cs c (g2.trans g3) e3 wy hc.2 ((ao.all c).mp hc.1) fun hin => by
    obtain ⟨r',hr'⟩ := hd hin
    cases hr'
    rfl
theorem yU : ax ["parts","good"] ["parts","good"] (ap vB) := ⟨rfl,rfl,rfl,by decide +kernel,rfl,by decide +kernel,by decide +kernel⟩
set_option maxHeartbeats 4000000 in
theorem yV {dV : Value} (F : bz K "all_inside" "all_inside" vB dV f fd) (B : Bn K mg c_EmptyHeap c_InRing c_Larder c_NoAmount c_NoDish c_NoName c_NoNet c_NoNumber c_NoPack c_NoPlan c_NoRow c_NoStand c_NoStandIn c_NoStep c_StoveError c_TooFew c_TooMany c_Twice f_Z15 f_Z16 f_Z17 f_Z18 f_Z19 f_Z20 f_Z21 f_Z23 f_Z24) (DZ11 : Dx P w K mg base bg 1 "names_ahead" ["parts","good"] [] ie) : aZ P w K mg base bg 2 f fd ["parts","good"] gz := by
 have sc := yU
 refine F.ok sc (fun vs H Q E h => ?_) (fun cdv A outer s H vs Q E hr h => ?_)
 ·obtain ⟨d,good,rows,ps,rfl,_⟩ := h
  rfl
 obtain ⟨d,good,rows,ps,rfl,dd,ok,few,q⟩ := h
 refine ⟨_,(ak (aG (aC (eR rfl) rfl B.b_sorted PyProof.Rows.Boot.«sorted» (aa (aY DZ11 hr (by decide) rfl (aa (pv 0) (aa (pv 1) ag))) ag)))),?_⟩
 refine ⟨_,rfl,_,rfl,d,good,rows,ps,rfl,dd,ok,by omega,fun ah H1 es g1 e1 ao => ?_⟩
 refine ⟨ah,aI es,_,rfl,e1,mL es,ao.base.nd,(by have := uZ ao.base.nd ao.all; omega),fun p ys np pr sr => q p _ ys (g1.trans (ae np _)) (g1.free np) ac sr (pr.nodup_iff.mpr ao.base.nd) fun y => (pr.mem_iff).trans (ao.all y)⟩
theorem yW : ax ["self"] ["self"] (ap vC) := ⟨rfl,rfl,rfl,by decide +kernel,rfl,by decide +kernel,by decide +kernel⟩
set_option maxHeartbeats 4000000 in
theorem yX {dV : Value} (F : bz K "__init__" "Larder.__init__" vC dV f fd) (B : Bn K mg c_EmptyHeap c_InRing c_Larder c_NoAmount c_NoDish c_NoName c_NoNet c_NoNumber c_NoPack c_NoPlan c_NoRow c_NoStand c_NoStandIn c_NoStep c_StoveError c_TooFew c_TooMany c_Twice f_Z15 f_Z16 f_Z17 f_Z18 f_Z19 f_Z20 f_Z21 f_Z23 f_Z24)  : aZ P w K mg base bg 1 f fd ["self"] (gF c_Larder) := by
 have sc := yW
 refine F.ok sc (fun vs H Q E h => ?_) (fun cdv A outer s H vs Q E hr h => ?_)
 ·obtain ⟨x,dx,rfl,_⟩ := h
  rfl
 obtain ⟨x,dx,rfl,e0,q⟩ := h
 refine ⟨_,(af (kg (pv 0) cG rfl) (af (kg (pv 0) cG rfl) (af (kg (pv 0) cG rfl) (ak (kg (pv 0) cG rfl))))),?_⟩
 have k0 : jo x H H := fun _ _ _ e => e
 have l0 : ([] : List (Str × V)).length <= 0 := B3 _
 intro p np
 have xp : x ≠ p := fun z => by rw [<- z,e0] at np; cases np
 refine ⟨_,rfl,x,_,dx,_,rfl,(by rw [aj xp]; exact e0),B.cl_Larder,B.na_Larder_parts,(by omega),?_⟩
 have e1 : (aq (aq H p (.dK [])) x (.ins c_Larder dx (aD "parts" (.ref p) []))) x = some (.ins c_Larder dx (aD "parts" (.ref p) [])) := ac
 have k1 : jo x H (aq (aq H p (.dK [])) x (.ins c_Larder dx (aD "parts" (.ref p) []))) := k0.trans (jo.step (.dK []) np)
 have vp : (aq (aq H p (.dK [])) x (.ins c_Larder dx (aD "parts" (.ref p) []))) p = some (.dK []) := by rw [aj (Ne.symm xp)]; exact ac
 have l1 : ((aD "parts" (.ref p) []) : List (Str × V)).length <= 1 := by have := b7 "parts" (.ref p) []; omega
 have fp : H p = none := by
  cases h : H p with
  | none => rfl
  | some ob => rw [k0 p ob (Ne.symm xp) h] at np; cases np
 generalize (aq (aq H p (.dK [])) x (.ins c_Larder dx (aD "parts" (.ref p) []))) = H1 at e1 k1 vp ⊢
 intro st nst
 have xst : x ≠ st := fun z => by rw [<- z,e1] at nst; cases nst
 refine ⟨_,rfl,x,_,dx,_,rfl,(by rw [aj xst]; exact e1),B.cl_Larder,B.na_Larder_stands,(by omega),?_⟩
 have e2 : (aq (aq H1 st (.dK [])) x (.ins c_Larder dx (aD "stands" (.ref st) (aD "parts" (.ref p) [])))) x = some (.ins c_Larder dx (aD "stands" (.ref st) (aD "parts" (.ref p) []))) := ac
 have k2 : jo x H (aq (aq H1 st (.dK [])) x (.ins c_Larder dx (aD "stands" (.ref st) (aD "parts" (.ref p) [])))) := k1.trans (jo.step (.dK []) nst)
 have vst : (aq (aq H1 st (.dK [])) x (.ins c_Larder dx (aD "stands" (.ref st) (aD "parts" (.ref p) [])))) st = some (.dK []) := by rw [aj (Ne.symm xst)]; exact ac
 have l2 : ((aD "stands" (.ref st) (aD "parts" (.ref p) [])) : List (Str × V)).length <= 2 := by have := b7 "stands" (.ref st) (aD "parts" (.ref p) []); omega
 have fst : H st = none := by
  cases h : H st with
  | none => rfl
  | some ob => rw [k1 st ob (Ne.symm xst) h] at nst; cases nst
 have wpst : p ≠ st := fun z => by rw [<- z,vp] at nst; cases nst
 replace vp : (aq (aq H1 st (.dK [])) x (.ins c_Larder dx (aD "stands" (.ref st) (aD "parts" (.ref p) [])))) p = some (.dK []) := jo.step (.dK []) nst p _ (Ne.symm xp) vp
 generalize (aq (aq H1 st (.dK [])) x (.ins c_Larder dx (aD "stands" (.ref st) (aD "parts" (.ref p) [])))) = H2 at e2 k2 vst vp ⊢
 intro b nb
 have xb : x ≠ b := fun z => by rw [<- z,e2] at nb; cases nb
 refine ⟨_,rfl,x,_,dx,_,rfl,(by rw [aj xb]; exact e2),B.cl_Larder,B.na_Larder_bars,(by omega),?_⟩
 have e3 : (aq (aq H2 b (.dK [])) x (.ins c_Larder dx (aD "bars" (.ref b) (aD "stands" (.ref st) (aD "parts" (.ref p) []))))) x = some (.ins c_Larder dx (aD "bars" (.ref b) (aD "stands" (.ref st) (aD "parts" (.ref p) [])))) := ac
 have k3 : jo x H (aq (aq H2 b (.dK [])) x (.ins c_Larder dx (aD "bars" (.ref b) (aD "stands" (.ref st) (aD "parts" (.ref p) []))))) := k2.trans (jo.step (.dK []) nb)
 have vb : (aq (aq H2 b (.dK [])) x (.ins c_Larder dx (aD "bars" (.ref b) (aD "stands" (.ref st) (aD "parts" (.ref p) []))))) b = some (.dK []) := by rw [aj (Ne.symm xb)]; exact ac
 have l3 : ((aD "bars" (.ref b) (aD "stands" (.ref st) (aD "parts" (.ref p) []))) : List (Str × V)).length <= 3 := by have := b7 "bars" (.ref b) (aD "stands" (.ref st) (aD "parts" (.ref p) [])); omega
 have fb : H b = none := by
  cases h : H b with
  | none => rfl
  | some ob => rw [k2 b ob (Ne.symm xb) h] at nb; cases nb
 have wpb : p ≠ b := fun z => by rw [<- z,vp] at nb; cases nb
 have wstb : st ≠ b := fun z => by rw [<- z,vst] at nb; cases nb
 replace vp : (aq (aq H2 b (.dK [])) x (.ins c_Larder dx (aD "bars" (.ref b) (aD "stands" (.ref st) (aD "parts" (.ref p) []))))) p = some (.dK []) := jo.step (.dK []) nb p _ (Ne.symm xp) vp
 replace vst : (aq (aq H2 b (.dK [])) x (.ins c_Larder dx (aD "bars" (.ref b) (aD "stands" (.ref st) (aD "parts" (.ref p) []))))) st = some (.dK []) := jo.step (.dK []) nb st _ (Ne.symm xst) vst
 generalize (aq (aq H2 b (.dK [])) x (.ins c_Larder dx (aD "bars" (.ref b) (aD "stands" (.ref st) (aD "parts" (.ref p) []))))) = H3 at e3 k3 vb vp vst ⊢
 intro n nn
 have xn : x ≠ n := fun z => by rw [<- z,e3] at nn; cases nn
 refine ⟨_,rfl,x,_,dx,_,rfl,(by rw [aj xn]; exact e3),B.cl_Larder,B.na_Larder_names,(by omega),?_⟩
 have e4 : (aq (aq H3 n (.dK [])) x (.ins c_Larder dx (aD "names" (.ref n) (aD "bars" (.ref b) (aD "stands" (.ref st) (aD "parts" (.ref p) [])))))) x = some (.ins c_Larder dx (aD "names" (.ref n) (aD "bars" (.ref b) (aD "stands" (.ref st) (aD "parts" (.ref p) []))))) := ac
 have k4 : jo x H (aq (aq H3 n (.dK [])) x (.ins c_Larder dx (aD "names" (.ref n) (aD "bars" (.ref b) (aD "stands" (.ref st) (aD "parts" (.ref p) [])))))) := k3.trans (jo.step (.dK []) nn)
 have vn : (aq (aq H3 n (.dK [])) x (.ins c_Larder dx (aD "names" (.ref n) (aD "bars" (.ref b) (aD "stands" (.ref st) (aD "parts" (.ref p) [])))))) n = some (.dK []) := by rw [aj (Ne.symm xn)]; exact ac
 have l4 : ((aD "names" (.ref n) (aD "bars" (.ref b) (aD "stands" (.ref st) (aD "parts" (.ref p) [])))) : List (Str × V)).length <= 4 := by have := b7 "names" (.ref n) (aD "bars" (.ref b) (aD "stands" (.ref st) (aD "parts" (.ref p) []))); omega
 have fn : H n = none := by
  cases h : H n with
  | none => rfl
  | some ob => rw [k3 n ob (Ne.symm xn) h] at nn; cases nn
 have wpn : p ≠ n := fun z => by rw [<- z,vp] at nn; cases nn
 have wstn : st ≠ n := fun z => by rw [<- z,vst] at nn; cases nn
 have wbn : b ≠ n := fun z => by rw [<- z,vb] at nn; cases nn
 replace vp : (aq (aq H3 n (.dK [])) x (.ins c_Larder dx (aD "names" (.ref n) (aD "bars" (.ref b) (aD "stands" (.ref st) (aD "parts" (.ref p) [])))))) p = some (.dK []) := jo.step (.dK []) nn p _ (Ne.symm xp) vp
 replace vst : (aq (aq H3 n (.dK [])) x (.ins c_Larder dx (aD "names" (.ref n) (aD "bars" (.ref b) (aD "stands" (.ref st) (aD "parts" (.ref p) [])))))) st = some (.dK []) := jo.step (.dK []) nn st _ (Ne.symm xst) vst
 replace vb : (aq (aq H3 n (.dK [])) x (.ins c_Larder dx (aD "names" (.ref n) (aD "bars" (.ref b) (aD "stands" (.ref st) (aD "parts" (.ref p) [])))))) b = some (.dK []) := jo.step (.dK []) nn b _ (Ne.symm xb) vb
 generalize (aq (aq H3 n (.dK [])) x (.ins c_Larder dx (aD "names" (.ref n) (aD "bars" (.ref b) (aD "stands" (.ref st) (aD "parts" (.ref p) [])))))) = H4 at e4 k4 vn vp vst vb ⊢
 have la : LA c_Larder [p,n] H4 x [] [] := ⟨dx,p,n,fY (.ref p) (.ref st) (.ref b) (.ref n),[],e4,kO.1,kO.2.1,trivial,vp,vn,rfl,by simp [wpn],kO.2.2⟩
 refine q H4 [p,n,st,b] k4 (fun a ha => ?_) ⟨[p,n],dx,st,b,fY (.ref p) (.ref st) (.ref b) (.ref n),[],la,e4,ja.1,ja.2.1,xx vst,vb,wstb,?_,?_,fun y a e => (by cases e),fun a ha => ?_,by simp,by simp,fun a ha => ?_,ja.2.2⟩
 ·simp only [B9,Bw,or_false] at ha
  rcases ha with rfl | rfl | rfl | rfl
  ·exact fp
  ·exact fn
  ·exact fst
  ·exact fb
 ·simp only [B9,Bw,or_false]
  exact fun z => z.elim (fun z => wpst z.symm) (fun z => wstn z)
 ·simp only [B9,Bw,or_false]
  exact fun z => z.elim (fun z => wpb z.symm) (fun z => wbn z)
 ·simp only [B9,Bw,or_false] at ha ⊢
  rcases ha with rfl | rfl
  ·exact .inl rfl
  ·exact .inr (.inl rfl)
 ·simp only [B9,Bw,or_false] at ha
  rcases ha with rfl | rfl | rfl | rfl
  ·exact ⟨_,vp⟩
  ·exact ⟨_,vn⟩
  ·exact ⟨_,vst⟩
  ·exact ⟨_,vb⟩
theorem yY : ax ["self","told","fresh","name"] ["self","told"] (ap vD) := ⟨rfl,rfl,rfl,by decide +kernel,rfl,by decide +kernel,by decide +kernel⟩
set_option maxHeartbeats 4000000 in
theorem yZ {dV : Value} (F : bz K "learn" "Larder.learn" vD dV f fd) (B : Bn K mg c_EmptyHeap c_InRing c_Larder c_NoAmount c_NoDish c_NoName c_NoNet c_NoNumber c_NoPack c_NoPlan c_NoRow c_NoStand c_NoStandIn c_NoStep c_StoveError c_TooFew c_TooMany c_Twice f_Z15 f_Z16 f_Z17 f_Z18 f_Z19 f_Z20 f_Z21 f_Z23 f_Z24)  : aZ P w K mg base bg 1 f fd ["self","told"] (ig c_Larder) := by
 have sc := yY
 refine F.ok sc (fun vs H Q E h => ?_) (fun cdv A outer s H vs Q E hr h => ?_)
 ·obtain ⟨x,l,F0,rows,ns,xs,rfl,_⟩ := h
  rfl
 obtain ⟨x,l,F0,rows,ns,xs,rfl,la,el,room,nd,q⟩ := h
 refine ⟨_,(af (jL sc.nd (i := 2) rfl rfl (own := "name") (ys := ["self"]) (js := [0]) rfl (yw (AF yu) (.cons rfl .nil) (by decide) rfl rfl rfl rfl rfl rfl rfl rfl) (dQ (pv 1)) (fun C fp s H => (kb (eW (by exact cu hr) (pv 0) (u3 (K := K) rfl (pv 1) rfl)) (by with_unfolding_all rfl))) (fun C fp s H => (pv 0))) (af (aV (aA ir (au dj (aC qM rfl B.b_len boot_len (aa (cy (pv 0) rfl) ag)) (aC bC rfl B.b_len boot_len (aa (pv 2) ag))) (iO rfl B.g_MOST_NAMES) (aE _)) (ak lP) aM) (ak (c5 PassesOwn.never rfl (dQ (pv 2)) (bJ (i := 3) sc.nd rfl (Or.inl rfl)) (ak (dU (cu hr) (cy (pv 0) rfl) (pv 3) bY rfl)))))),?_⟩
 obtain ⟨dx,p,n,fs,ex,fp,fn,dd,en,_,_,fm⟩ := la.dd
 have slt : (3000 : Nat) < sizeLine := by decide
 refine ⟨_,rfl,l,rfl,⟨_,bv.of el⟩,mH (xs := xs.map V.str) (fun v => match v with | .str y => !decide (y ∈ ns) | _ => false) (bv.of el) (by rw [B2]; omega) (fun v hv H3 g3 R hR => ?_) (fun p1 H1 g1 e1 => ?_)⟩
 ·obtain ⟨y,hy,rfl⟩ := BH.mp hv
  refine ⟨_,rfl,_,rfl,x,_,dx,_,_,rfl,g3 _ _ ex,B.cl_Larder,B.na_Larder_names,fn,n,_,rfl,cF.k (k := .inr y) (g3 _ _ en),_,rfl,?_⟩
  rw [fV]
  by_cases h : y ∈ ns
  ·rw [if_pos h]
   have hR' : R (!decide (y ∈ ns)) H3 := hR
   rw [decide_eq_true h] at hR'
   exact hR'
  ·rw [if_neg h]
   have hR' : R (!decide (y ∈ ns)) H3 := hR
   rw [decide_eq_false h] at hR'
   exact hR'
 ·have fe : ∀ l : List Str,(l.map V.str).filter (fun v => match v with | .str y => !decide (y ∈ ns) | _ => false) = (l.filter fun y => !decide (y ∈ ns)).map V.str := by
   intro l
   induction l with
   | nil => rfl
   | cons c l ih =>
    rw [By,CJ,CJ,ih]
    by_cases h : c ∈ ns
    ·simp [h]
    ·simp [h]
  rw [fe] at e1
  have fl := CO (fun y => !decide (y ∈ ns)) xs
  have fmem : ∀ y,y ∈ ns ∨ y ∈ (xs.filter fun y => !decide (y ∈ ns)) ↔ y ∈ ns ∨ y ∈ xs := by
   intro y
   rw [Cy]
   by_cases h : y ∈ ns <;> simp [h]
  generalize (xs.filter fun y => !decide (y ∈ ns)) = fr at e1 fl fmem
  try dsimp only [bG,bM]
  refine cut (fun σ H' => H1 = H' /\ σ = [some (.ref x),some (.ref l),some (.ref p1),none]) (fun N hN => ?_) ?_
  ·refine ⟨_,rfl,x,_,dx,_,_,rfl,g1 _ _ ex,B.cl_Larder,B.na_Larder_names,fn,n,_,rfl,.inl (g1 _ _ en),_,rfl,p1,_,rfl,.inl (bv.of e1),_,_,rfl,rfl,_,_,rfl,rfl,_,rfl,d2 (fun c => ?_) (fun c => hN _ _ ⟨rfl,rfl⟩)⟩
   rw [eJ,B2] at c
   omega
  rintro σ _ ⟨rfl,rfl⟩
  refine ⟨_,rfl,p1,rfl,⟨_,bv.of e1⟩,dy (xs := fr.map V.str) (fun i σ H' => KF F0 H1 H' /\ (∃ o,σ = [some (.ref x),some (.ref l),some (.ref p1),o]) /\ LA c_Larder F0 H' x rows (eK ns (fr.take i))) ⟨KF.refl,⟨_,rfl⟩,la.same g1⟩ (fun i σ H' _ h => bv.of (h.1 _ _ ((la.same g1).not e1 (fun _ z => nomatch z)) e1)) ?_ ?_⟩
  ·rintro i v σ H' hx ⟨k,⟨o,rfl⟩,la'⟩
   rw [BM] at hx
   cases hc : fr[i]? with
   | none => rw [hc] at hx; cases hx
   | some y =>
    rw [hc] at hx
    cases hx
    obtain ⟨dx',p',n',fs',ex',fp',fn',dd',en',_,_,fm'⟩ := la'.dd
    have il := (B4.mp hc).1
    have tl := jP (fr.take i) ns
    rw [CI] at tl
    have tk : fr.take (i + 1) = fr.take i ++ [y] := by rw [List.take_succ,hc]; rfl
    refine ⟨_,rfl,x,_,dx',_,_,rfl,ex',B.cl_Larder,B.na_Larder_names,fn',_,rfl,n',_,rfl,fP.k (k := .inr y) en' (by rw [eJ]; omega),?_⟩
    rw [iR,<- oj,<- tk]
    obtain ⟨la2,k2,_⟩ := la'.learn (ms := eK ns (fr.take (i + 1))) ex' fn'
    exact ⟨k.trans k2,⟨_,rfl⟩,la2⟩
  ·rintro σ H' ⟨k,⟨o,rfl⟩,la'⟩
   rw [B2,Cu] at la'
   exact q H' _ ((KF.of g1).trans k) la' (gT nd) fun y => jO.trans (fmem y)
theorem y1 : ax ["self"] ["self"] (ap vE) := ⟨rfl,rfl,rfl,by decide +kernel,rfl,by decide +kernel,by decide +kernel⟩
set_option maxHeartbeats 4000000 in
theorem y2 {dV : Value} (F : bz K "known" "Larder.known" vE dV f fd) (B : Bn K mg c_EmptyHeap c_InRing c_Larder c_NoAmount c_NoDish c_NoName c_NoNet c_NoNumber c_NoPack c_NoPlan c_NoRow c_NoStand c_NoStandIn c_NoStep c_StoveError c_TooFew c_TooMany c_Twice f_Z15 f_Z16 f_Z17 f_Z18 f_Z19 f_Z20 f_Z21 f_Z23 f_Z24)  : aZ P w K mg base bg 1 f fd ["self"] (i9 c_Larder) := by
 have sc := y1
 refine F.ok sc (fun vs H Q E h => ?_) (fun cdv A outer s H vs Q E hr h => ?_)
 ·obtain ⟨x,F0,rows,ns,rfl,_⟩ := h
  rfl
 obtain ⟨x,F0,rows,ns,rfl,la,nd,l64,q⟩ := h
 refine ⟨_,(ak (aG (aC (eR rfl) rfl B.b_sorted PyProof.Rows.Boot.«sorted» (aa (cy (pv 0) rfl) ag)))),?_⟩
 obtain ⟨dx,p,n,fs,ex,fp,fn,dd,en,_,_,fm⟩ := la.dd
 refine ⟨_,rfl,x,_,dx,_,_,rfl,ex,B.cl_Larder,B.na_Larder_names,fn,n,ns,_,rfl,en,qT ns _,nd,l64,fun p ys np pr sr => q p _ ys (ae np _) ac sr pr⟩
theorem y3 : ax ["self","good"] ["self","good"] (ap vF) := ⟨rfl,rfl,rfl,by decide +kernel,rfl,by decide +kernel,by decide +kernel⟩
set_option maxHeartbeats 4000000 in
theorem y4 {dV : Value} (F : bz K "held" "Larder.held" vF dV f fd) (B : Bn K mg c_EmptyHeap c_InRing c_Larder c_NoAmount c_NoDish c_NoName c_NoNet c_NoNumber c_NoPack c_NoPlan c_NoRow c_NoStand c_NoStandIn c_NoStep c_StoveError c_TooFew c_TooMany c_Twice f_Z15 f_Z16 f_Z17 f_Z18 f_Z19 f_Z20 f_Z21 f_Z23 f_Z24) (DZ14 : Dx P w K mg base bg 2 "all_inside" ["parts","good"] [] gz) (XZ8 : Dx P w K mg base (cA P w) 2 "refuse_no_names" ["things"] [] (dX K c_NoName)) : aZ P w K mg base (cA P w) 3 f fd ["self","good"] (io K c_Larder c_NoName) := by
 have sc := y3
 refine F.okX sc (fun vs H Q E h => ?_) (fun cdv A outer s H vs Q E hr h => ?_)
 ·obtain ⟨x,v,F0,rows,m,g,bs,ns,ps,rfl,_⟩ := h
  rfl
 obtain ⟨x,v,F1,rows,m,g,bs,ns,ps,rfl,lb,ok,few,hv,eN,qq⟩ := h
 refine ⟨_,(af (aU (gn XZ8 hr (by decide) rfl cH (aa (bj (aa (pv 1) ag)) ag))) (ak (aG (aY DZ14 hr (by decide) rfl (aa (cy (pv 0) rfl) (aa (pv 1) ag)))))),?_⟩
 refine ⟨_,rfl,(by show 1 <= sizeLine; decide),fun l0 n0 => ?_⟩
 have g1 := ae n0 (.lst [v])
 refine ⟨l0,_,rfl,ac,(fun y hy => by rw [B5.mp hy]; exact hv.imp id (cO.same g1)),fun nn => ?_,fun nn H' gg => eN (fun z => nn fun y hy => by rw [B5.mp hy]; exact z) H' (g1.trans gg)⟩
 obtain ⟨z,rfl,mz⟩ := nn v (by simp)
 have qz := qq z rfl mz
 have lb1 := lb.same g1
 generalize aq H l0 (.lst [.str z]) = H1 at g1 lb1 ⊢
 obtain ⟨F0,la,sub,back⟩ := lb1.la
 obtain ⟨dx,p,n,fs,ex,fp,fn,dd,en,_,_,fm⟩ := la.dd
 exact ⟨_,rfl,x,_,dx,_,_,rfl,ex,B.cl_Larder,B.na_Larder_parts,fp,_,rfl,p,z,rows,ps,rfl,dd,ok,few,fun l H2 ys g2 n2 e2 s2 d2 m2 => qz l H2 ys (g1.trans g2) e2 s2 d2 m2⟩
theorem y6 : ax ["self","good"] ["self","good"] (ap vG) := ⟨rfl,rfl,rfl,by decide +kernel,rfl,by decide +kernel,by decide +kernel⟩
set_option maxHeartbeats 4000000 in
theorem y8 {dV : Value} (F : bz K "barred" "Larder.barred" vG dV f fd) (B : Bn K mg c_EmptyHeap c_InRing c_Larder c_NoAmount c_NoDish c_NoName c_NoNet c_NoNumber c_NoPack c_NoPlan c_NoRow c_NoStand c_NoStandIn c_NoStep c_StoveError c_TooFew c_TooMany c_Twice f_Z15 f_Z16 f_Z17 f_Z18 f_Z19 f_Z20 f_Z21 f_Z23 f_Z24) (DZ13 : Dx P w K mg base bg 2 "chain_down" ["parts","good","goals"] [] gu) (XZ8 : Dx P w K mg base (cA P w) 2 "refuse_no_names" ["things"] [] (dX K c_NoName)) : aZ P w K mg base (cA P w) 3 f fd ["self","good"] (dI K c_Larder c_NoName) := by
 have sc := y6
 refine F.okX sc (fun vs H Q E h => ?_) (fun cdv A outer s H vs Q E hr h => ?_)
 ·obtain ⟨x,v,F0,rows,m,g,bs,ns,ps,rfl,_⟩ := h
  rfl
 obtain ⟨x,v,F1,rows,m,g,bs,ns,ps,rfl,lb,ok,few,b10,hv,eN,qq⟩ := h
 refine ⟨_,(af (aU (gn XZ8 hr (by decide) rfl cH (aa (bj (aa (pv 1) ag)) ag))) (ak (aG (aY DZ13 hr (by decide) rfl (aa (cy (pv 0) rfl) (aa (pv 1) (aa (eV (oE rfl) rfl B.b_list boot_list (aa (cy (pv 0) rfl) ag)) ag))))))),?_⟩
 refine ⟨_,rfl,(by show 1 <= sizeLine; decide),fun l0 n0 => ?_⟩
 have g1 := ae n0 (.lst [v])
 refine ⟨l0,_,rfl,ac,(fun y hy => by rw [B5.mp hy]; exact hv.imp id (cO.same g1)),fun nn => ?_,fun nn H' gg => eN (fun z => nn fun y hy => by rw [B5.mp hy]; exact z) H' (g1.trans gg)⟩
 obtain ⟨z,rfl,mz⟩ := nn v (by simp)
 have qz := qq z rfl mz
 have lb1 := lb.same g1
 generalize aq H l0 (.lst [.str z]) = H1 at g1 lb1 ⊢
 obtain ⟨F0,la,sub,back⟩ := lb1.la
 obtain ⟨dx',p,n,fs',ex',fp,fn,dd,en,_,_,fm'⟩ := la.dd
 obtain ⟨dx,s,b,fs,dk,ex,es,eb,bd,hb,fm,sF,bF,pb⟩ := lb1.at_
 refine ⟨_,rfl,x,_,dx',_,_,rfl,ex',B.cl_Larder,B.na_Larder_parts,fp,_,rfl,_,rfl,x,_,dx,_,_,rfl,ex,B.cl_Larder,B.na_Larder_bars,eb,b,_,rfl,hb,fun l2 n2 => ?_⟩
 have kk : (bw bs (.bl true)).map (fun p => kV p.1) = bs.map V.str := by
  unfold bw
  rw [CG]
  rfl
 rw [kk]
 have g2 := ae n2 (.lst (bs.map V.str))
 exact ⟨p,l2,z,rows,ps,bs,rfl,dd.same g2,ok,few,⟨ac,b10⟩,fun H3 g3 nl => qz.1 H3 ((g1.trans g2).trans g3) nl,fun l H3 c goal g3 el wy gm gl ga => qz.2 l H3 c goal ((g1.trans g2).trans g3) el wy gm gl ga⟩
theorem y9 : ax ["self","good"] ["self","good"] (ap vH) := ⟨rfl,rfl,rfl,by decide +kernel,rfl,by decide +kernel,by decide +kernel⟩
set_option maxHeartbeats 4000000 in
theorem za {dV : Value} (F : bz K "bar" "Larder.bar" vH dV f fd) (B : Bn K mg c_EmptyHeap c_InRing c_Larder c_NoAmount c_NoDish c_NoName c_NoNet c_NoNumber c_NoPack c_NoPlan c_NoRow c_NoStand c_NoStandIn c_NoStep c_StoveError c_TooFew c_TooMany c_Twice f_Z15 f_Z16 f_Z17 f_Z18 f_Z19 f_Z20 f_Z21 f_Z23 f_Z24) (DZ16 : du P w K mg base bg 1 f_Z16 ["self","told"] [] (ig c_Larder)) (XZ8 : Dx P w K mg base (cA P w) 2 "refuse_no_names" ["things"] [] (dX K c_NoName)) : aZ P w K mg base (cA P w) 3 f fd ["self","good"] (lh K c_Larder c_NoName) := by
 have sc := y9
 refine F.okX sc (fun vs H Q E h => ?_) (fun cdv A outer s H vs Q E hr h => ?_)
 ·obtain ⟨x,v,F0,rows,m,g,bs,ns,rfl,_⟩ := h
  rfl
 obtain ⟨x,v,F1,rows,m,g,bs,ns,rfl,lb,b200,nd,n79,hv,eN,qq⟩ := h
 refine ⟨_,(af (aU (gn XZ8 hr (by decide) rfl cH (aa (bj (aa (pv 1) ag)) ag))) (af (aU (fo (pv 0) DZ16 hr (by decide) (aa (bj (aa (pv 1) ag)) ag))) (ak (dU (cu hr) (cy (pv 0) rfl) (pv 1) bY rfl)))),?_⟩
 have slt : (3000 : Nat) < sizeLine := by decide
 refine ⟨_,rfl,(by show 1 <= sizeLine; decide),fun l0 n0 => ?_⟩
 have g1 := ae n0 (.lst [v])
 refine ⟨l0,_,rfl,ac,(fun y hy => by rw [B5.mp hy]; exact hv.imp id (cO.same g1)),fun nn => ?_,fun nn H' gg => eN (fun z => nn fun y hy => by rw [B5.mp hy]; exact z) H' (g1.trans gg)⟩
 obtain ⟨z,rfl,mz⟩ := nn v (by simp)
 have qz := qq z rfl mz
 have lb1 := lb.same g1
 generalize aq H l0 (.lst [.str z]) = H1 at g1 lb1 ⊢
 obtain ⟨F0,la,sub,back⟩ := lb1.la
 obtain ⟨dx,s,b,fs,dk,ex,es,eb,bd,hb,fm,sF,bF,pb⟩ := lb1.at_
 refine ⟨_,rfl,x,_,dx,_,rfl,ex,B.cl_Larder,B.me_Z16,fm _ (by decide),_,rfl,(by show 1 <= sizeLine; decide),fun l4 n4 => ?_⟩
 have g4 := ae n4 (.lst [.str z])
 obtain ⟨F0,la,sub,back⟩ := (lb1.same g4).la
 refine ⟨x,l4,F0,rows,ns,[z],rfl,la,ac,(by simp; omega),nd,fun H5 ms k5 la5 nd5 m5 => ?_⟩
 have lb5 := back _ _ _ la5 k5
 have kF : KF F1 H H5 := (KF.of (g1.trans g4)).trans fun a o n e => k5 a o (fun z => n (sub a z)) e
 obtain ⟨dx,s,b,fs,dk,ex,es,eb,bd,hb,fm,sF,bF,pb⟩ := lb5.at_
 refine ⟨_,rfl,x,_,dx,_,_,rfl,ex,B.cl_Larder,B.na_Larder_bars,eb,_,rfl,b,_,rfl,fP.k (k := .inr z) hb (by rw [eJ]; omega),?_⟩
 rw [iR]
 obtain ⟨lb6,k6⟩ := pb (bT bs z)
 exact qz _ ms (kF.trans k6) lb6 nd5 fun y => (m5 y).trans (by simp)
theorem zb : ax ["self","good"] ["self","good"] (ap vI) := ⟨rfl,rfl,rfl,by decide +kernel,rfl,by decide +kernel,by decide +kernel⟩
set_option maxHeartbeats 4000000 in
theorem zc {dV : Value} (F : bz K "allow" "Larder.allow" vI dV f fd) (B : Bn K mg c_EmptyHeap c_InRing c_Larder c_NoAmount c_NoDish c_NoName c_NoNet c_NoNumber c_NoPack c_NoPlan c_NoRow c_NoStand c_NoStandIn c_NoStep c_StoveError c_TooFew c_TooMany c_Twice f_Z15 f_Z16 f_Z17 f_Z18 f_Z19 f_Z20 f_Z21 f_Z23 f_Z24) (XZ8 : Dx P w K mg base (cA P w) 2 "refuse_no_names" ["things"] [] (dX K c_NoName)) : aZ P w K mg base (cA P w) 3 f fd ["self","good"] (f8 K c_Larder c_NoName) := by
 have sc := zb
 refine F.okX sc (fun vs H Q E h => ?_) (fun cdv A outer s H vs Q E hr h => ?_)
 ·obtain ⟨x,v,F0,rows,m,g,bs,ns,rfl,_⟩ := h
  rfl
 obtain ⟨x,v,F1,rows,m,g,bs,ns,rfl,lb,hv,eN,qq⟩ := h
 refine ⟨_,(af (aU (gn XZ8 hr (by decide) rfl cH (aa (bj (aa (pv 1) ag)) ag))) (ak (aU (lZ (cy (pv 0) rfl) (pv 1) bZ ⟨rfl,rfl,rfl,rfl⟩)))),?_⟩
 refine ⟨_,rfl,(by show 1 <= sizeLine; decide),fun l0 n0 => ?_⟩
 have g1 := ae n0 (.lst [v])
 refine ⟨l0,_,rfl,ac,(fun y hy => by rw [B5.mp hy]; exact hv.imp id (cO.same g1)),fun nn => ?_,fun nn H' gg => eN (fun z => nn fun y hy => by rw [B5.mp hy]; exact z) H' (g1.trans gg)⟩
 obtain ⟨z,rfl,mz⟩ := nn v (by simp)
 have qz := qq z rfl mz
 have lb1 := lb.same g1
 generalize aq H l0 (.lst [.str z]) = H1 at g1 lb1 ⊢
 obtain ⟨dx,s,b,fs,dk,ex,es,eb,bd,hb,fm,sF,bF,pb⟩ := lb1.at_
 refine ⟨_,rfl,x,_,dx,_,_,rfl,ex,B.cl_Larder,B.na_Larder_bars,eb,b,rfl,.inl ⟨_,.inl hb⟩,_,rfl,_,.inr z,hb,rfl,fun w hw => ?_,fun hw => ?_⟩
 ·rw [jY]
  obtain ⟨lb6,k6⟩ := pb (hJ bs z)
  exact qz _ ((KF.of g1).trans k6) lb6
 ·rw [fV] at hw
  have nz : z ∉ bs := fun h => by rw [if_pos h] at hw; cases hw
  exact qz _ (KF.of g1) (by rw [jZ nz]; exact lb1)
theorem zd : ax ["self","good"] ["self","good"] (ap xG) := ⟨rfl,rfl,rfl,by decide +kernel,rfl,by decide +kernel,by decide +kernel⟩
set_option maxHeartbeats 4000000 in
theorem ze {dV : Value} {hd : Option Value} (F : bz K "allow" "Larder.allow" xG dV f fd) (B : Bn K mg c_EmptyHeap c_InRing c_Larder c_NoAmount c_NoDish c_NoName c_NoNet c_NoNumber c_NoPack c_NoPlan c_NoRow c_NoStand c_NoStandIn c_NoStep c_StoveError c_TooFew c_TooMany c_Twice f_Z15 f_Z16 f_Z17 f_Z18 f_Z19 f_Z20 f_Z21 f_Z23 f_Z24) (HZ10 : ∀ hd,ue hd P w K mg base 2 "refuse_no_names" ["things"] (oK hd)) : qG hd P w K mg base 3 f fd ["self","good"] (jf hd c_Larder) := by
 have sc := zd
 refine F.okN sc (fun vs H Q E h => ?_) (fun cdv A outer s H vs Q E hr h => ?_)
 ·obtain ⟨x,z,F0,rows,m,g,bs,ns,rfl,_⟩ := h
  rfl
 obtain ⟨x,z,F1,rows,m,g,bs,ns,rfl,lb,mz,hok,qz⟩ := h
 refine ⟨_,(af (aU (iN (j := 2) (HZ10 hd) hr (by decide) rfl (aa (bj (aa (pv 1) ag)) ag))) (ak (aU (lZ (cy (pv 0) rfl) (pv 1) bZ ⟨rfl,rfl,rfl,rfl⟩)))),?_⟩
 refine ⟨_,rfl,(by show 1 <= sizeLine; decide),fun l0 n0 => ?_⟩
 have g1 := ae n0 (.lst [.str z])
 refine ⟨l0,_,rfl,ac,(fun y hy => by rw [B5.mp hy]; exact ⟨z,rfl,mz⟩),wX hok g1,?_⟩
 have lb1 := lb.same g1
 generalize aq H l0 (.lst [.str z]) = H1 at g1 lb1 ⊢
 obtain ⟨dx,s,b,fs,dk,ex,es,eb,bd,hb,fm,sF,bF,pb⟩ := lb1.at_
 refine ⟨_,rfl,x,_,dx,_,_,rfl,ex,B.cl_Larder,B.na_Larder_bars,eb,b,rfl,.inl ⟨_,.inl hb⟩,_,rfl,_,.inr z,hb,rfl,fun w hw => ?_,fun hw => ?_⟩
 ·rw [jY]
  obtain ⟨lb6,k6⟩ := pb (hJ bs z)
  exact qz _ ((KF.of g1).trans k6) lb6
 ·rw [fV] at hw
  have nz : z ∉ bs := fun h => by rw [if_pos h] at hw; cases hw
  exact qz _ (KF.of g1) (by rw [jZ nz]; exact lb1)
theorem zf : ax ["self","good","other","ratio","others"] ["self","good","other","ratio"] (ap vJ) := ⟨rfl,rfl,rfl,by decide +kernel,rfl,by decide +kernel,by decide +kernel⟩
set_option maxHeartbeats 4000000 in
theorem zh {dV : Value} (F : bz K "stand" "Larder.stand" vJ dV f fd) (B : Bn K mg c_EmptyHeap c_InRing c_Larder c_NoAmount c_NoDish c_NoName c_NoNet c_NoNumber c_NoPack c_NoPlan c_NoRow c_NoStand c_NoStandIn c_NoStep c_StoveError c_TooFew c_TooMany c_Twice f_Z15 f_Z16 f_Z17 f_Z18 f_Z19 f_Z20 f_Z21 f_Z23 f_Z24) (Dis_Z3 : Dx P w K mg base bg 2 "is_fraction" ["thing"] [] (nS K)) (DZ16 : du P w K mg base bg 1 f_Z16 ["self","told"] [] (ig c_Larder)) (XZ3 : Dx P w K mg base (cA P w) 2 "fraction" ["top","bottom"] [.int 1] (pI c_NoNumber)) (XZ8 : Dx P w K mg base (cA P w) 2 "refuse_no_names" ["things"] [] (dX K c_NoName)) : aZ P w K mg base (cA P w) 3 f fd ["self","good","other","ratio"] (jb K c_Larder c_NoName c_NoStand) := by
 have sc := zf
 refine F.okX sc (fun vs H Q E h => ?_) (fun cdv A outer s H vs Q E hr h => ?_)
 ·obtain ⟨x,v,w,r,F0,rows,m,g,bs,ns,rfl,_⟩ := h
  rfl
 obtain ⟨x,v,w,r,F1,rows,m,g,bs,ns,rfl,lb,m1000,nd,n78,hv,hw,hr0,eN,qq⟩ := h
 refine ⟨_,(af (aU (gn XZ8 hr (by decide) rfl cH (aa (bj (aa (pv 1) (aa (pv 2) ag))) ag))) (af (aV (aA iu (pv 3) bZ (aE _)) (ak (ay (i := 3) sc.nd rfl (Or.inl rfl) (uN XZ3 hr (by decide) rfl cH (aa am ag)))) aM) (af (aV (aA cf (pv 1) (pv 2) (aE _)) (ak (dD B.x_NoStand rfl B.m_NoStand rfl cH (aa bL ag))) aM) (af (aV (kb (wE (cu hr) (pv 2) (iE (cu hr) (cy (pv 0) rfl) (pv 1) cG ⟨rfl,rfl,rfl,rfl⟩)) (by with_unfolding_all rfl)) (ak (dD B.x_NoStand rfl B.m_NoStand rfl cH (aa bL ag))) aM) (af (aV (PW.pt (fK (cx (b4 (aY Dis_Z3 hr (by decide) rfl (aa (pv 3) ag)))) (fh (aA vV (bh cg (pv 3) am (fun _ _ => rfl)) am (aE _))))) (ak (dD B.x_NoStand rfl B.m_NoStand rfl cH (aa bL ag))) aM) (af (aU (fo (pv 0) DZ16 hr (by decide) (aa (bj (aa (pv 1) (aa (pv 2) ag))) ag))) (af (ay (i := 4) sc.nd rfl (Or.inl rfl) (gO PySem.F.plainAttrs_dict PySem.F.slot_dict_setdefault PySem.F.type_dict_setdefault qK (cy (pv 0) rfl) (aa (pv 1) (aa cG ag)))) (ak (dU (cu hr) (pv 4) (pv 2) (pv 3) rfl))))))))),?_⟩
 have slt : (3000 : Nat) < sizeLine := by decide
 refine ⟨_,rfl,_,rfl,(by show 2 <= sizeLine; decide),fun l0 n0 => ?_⟩
 have g1 := ae n0 (.lst [v,w])
 refine ⟨l0,_,rfl,ac,(fun y hy => ?_),fun nn => ?_,fun nn H' gg => eN (fun z => nn fun y hy => ?_) H' (g1.trans gg)⟩
 ·rcases B9.mp hy with rfl | hy
  ·exact hv.imp id (cO.same g1)
  ·rw [B5.mp hy]
   exact hw.imp id (cO.same g1)
 rotate_left
 ·rcases B9.mp hy with rfl | hy
  ·exact z.1
  ·rw [B5.mp hy]
   exact z.2
 obtain ⟨zg,rfl,mg'⟩ := nn v (by simp)
 obtain ⟨zo,rfl,mo'⟩ := nn w (by simp)
 obtain ⟨qS,qD⟩ := qq zg zo rfl rfl mg' mo'
 have lb1 := lb.same g1
 generalize aq H l0 (.lst [.str zg,.str zo]) = H1 at g1 lb1 ⊢
 try dsimp only [bG,bM]
 refine cut (fun σ H' => ∃ r' : V,σ = [some (.ref x),some (.str zg),some (.str zo),some r',none] /\ aB H1 H' /\ ((∃ (p q : Int) (t : Addr),r' = .ref t /\ H' t = some (.tup [.int p,.int q]) /\ 0 < p /\ si p q /\ Bd 200 p /\ Bd 200 q /\ eh H r p q /\ ∀ r2,r = .ref r2 -> t = r2) ∨ (cp K H' r' /\ cp K H r))) (fun N hN => ?_) ?_
 ·rcases hr0 with ⟨p,q,⟨rfl,rfl,rfl⟩ | ⟨t,rfl,et,p0,lo,bp,bq⟩⟩ | bad
  ·refine ⟨_,rfl,rfl,_,rfl,dT rfl ⟨1,1,rfl,Bd.one.mono (by decide),fun _ p' q' f t H2 g2 e2 => ?_,fun z => absurd z (by decide)⟩⟩
   obtain ⟨rfl,rfl⟩ := sY f
   exact hN _ _ ⟨_,rfl,g2,.inl ⟨1,1,t,rfl,e2,by decide,⟨by decide,rfl⟩,Bd.one.mono (by decide),Bd.one.mono (by decide),.inl ⟨rfl,rfl,rfl⟩,fun r2 z => (by cases z)⟩⟩
  ·exact ⟨_,rfl,rfl,_,rfl,dF nofun (hN _ _ ⟨.ref t,rfl,.refl _,.inl ⟨p,q,t,rfl,g1 _ _ et,p0,lo,bp,bq,.inr ⟨t,rfl,et,p0,lo,bp,bq⟩,fun r2 z => (by cases z; rfl)⟩⟩)⟩
  ·exact ⟨_,rfl,rfl,_,rfl,dF bad.1 (hN _ _ ⟨r,rfl,.refl _,.inr ⟨bad.same g1,bad⟩⟩)⟩
 rintro σ H2 ⟨r',rfl,g2,hr2⟩
 have k2 := g1.trans g2
 have lb2 := lb1.same g2
 refine ⟨_,rfl,_,rfl,rfl,_,rfl,d2 (fun c => ⟨(by show 1 <= sizeLine; decide),qS (.inl (by injection c)) _ k2⟩) (fun c => ?_)⟩
 have zne : zg ≠ zo := fun z => c (by rw [z])
 obtain ⟨dx,s,b,fs,dk,ex,es,eb,bd,hb,fm,sF,bF,pb⟩ := lb2.at_
 try dsimp only [bG,bM]
 refine cut (fun σ H' => σ = [some (.ref x),some (.str zg),some (.str zo),some r',none] /\ aB H2 H' /\ ¬ fJ g zg zo) (fun N hN => ?_) ?_
 ·refine ⟨_,rfl,_,rfl,x,_,dx,_,_,rfl,ex,B.cl_Larder,B.na_Larder_stands,es,s,rfl,.inl ⟨_,.inl bd.at_⟩,_,rfl,fun pn hn => ?_⟩
  have g3 := ae hn (.dK [])
  refine ⟨_,cF.k (k := .inr zg) (g3 _ _ bd.at_),?_⟩
  rcases bd.ex zg with ⟨e1,e2⟩ | ⟨a,row,e1,e2,e3,e4,e5,e6,e7⟩
  ·rw [e1]
   exact ⟨pn,_,rfl,cF.k (k := .inr zo) ac,_,rfl,bX (hN _ _ ⟨rfl,g3,fun ⟨t,z⟩ => (by rw [e2] at z; cases z)⟩)⟩
  ·rw [e1]
   refine ⟨a,_,rfl,cF.k (k := .inr zo) (g3 _ _ e2),_,rfl,?_⟩
   cases hg : g zg zo with
   | none =>
    have : aK (cM row) (.inr zo) = none := by
     cases hx : aK (cM row) (.inr zo) with
     | none => rfl
     | some u =>
      obtain ⟨⟨y,t⟩,hm,e⟩ := BH.mp (show (.inr zo,u) ∈ cM row from kY hx)
      cases e
      have := (e7 _ _).mpr hm
      rw [hg] at this
      cases this
    rw [this]
    exact bX (hN _ _ ⟨rfl,g3,fun ⟨t,z⟩ => (by rw [hg] at z; cases z)⟩)
   | some t =>
    rw [i8 e5 ((e7 zo t).mp hg)]
    exact bI ⟨(by show 1 <= sizeLine; decide),qS (.inr (.inl ⟨t,hg⟩)) _ (k2.trans g3)⟩
 rintro σ H3 ⟨rfl,g3,nst⟩
 have k3 := k2.trans g3
 have lb3 := lb2.same g3
 clear ex es eb bd hb fm sF bF pb
 rcases hr2 with ⟨p,q,t,rfl,et,p0,lo,bp,bq,rok,tr⟩ | ⟨bad,bad0⟩
 rotate_left
 ·have bad3 := bad.same g3
  obtain ⟨_,f | ⟨t,p,q,rfl,et,f,pz⟩⟩ := bad3
  ·exact ⟨_,rfl,r',false,rfl,f,_,rfl,bI ⟨(by show 1 <= sizeLine; decide),qS (.inr (.inr bad0)) _ k3⟩⟩
  ·exact ⟨_,rfl,_,true,rfl,f,_,rfl,bX ⟨_,rfl,t,_,_,_,rfl,rfl,cR.of et,rfl,_,_,rfl,rfl,_,rfl,dT pz ⟨(by show 1 <= sizeLine; decide),qS (.inr (.inr bad0)) _ k3⟩⟩⟩
 have et3 := g3 _ _ et
 refine ⟨_,rfl,_,true,rfl,gp et3 (by rw [decide_eq_true (show 1 <= q by have := lo.pos; omega),decide_eq_true lo.low]; rfl),_,rfl,bX ⟨_,rfl,t,_,_,_,rfl,rfl,cR.of et3,rfl,_,_,rfl,rfl,_,rfl,dF (by omega) ?_⟩⟩
 obtain ⟨dx,s,b,fs,dk,ex,es,eb,bd,hb,fm,sF,bF,pb⟩ := lb3.at_
 refine ⟨_,rfl,x,_,dx,_,rfl,ex,B.cl_Larder,B.me_Z16,fm _ (by decide),_,rfl,_,rfl,(by show 2 <= sizeLine; decide),fun l4 n4 => ?_⟩
 have g4 := ae n4 (.lst [.str zg,.str zo])
 obtain ⟨F0,la,sub,back⟩ := (lb3.same g4).la
 refine ⟨x,l4,F0,rows,ns,[zg,zo],rfl,la,ac,(by simp; omega),nd,fun H5 ms k5 la5 nd5 m5 => ?_⟩
 have lb5 := back _ _ _ la5 k5
 have kF : KF F1 H H5 := (KF.of (k3.trans g4)).trans fun a o n e => k5 a o (fun z => n (sub a z)) e
 have et5 : H5 t = some (.tup [.int p,.int q]) := k5 _ _ (fun z => (lb3.same g4).not (g4 _ _ et3) (fun _ z => nomatch z) (sub t z)) (g4 _ _ et3)
 clear ex es eb bd hb fm sF bF pb
 obtain ⟨dx,s,b,fs,dk,ex,es,eb,bd,hb,fm,sF,bF,pb⟩ := lb5.at_
 have dF : ∀ a ∈ F1,∃ kv,H5 a = some (.dK kv) := fun a ha => by
  obtain ⟨_,_,_,_,_,_,_,_,_,_,_,_,_,_,_,_,_,_,_,q8,_⟩ := lb5.ex
  exact q8 a ha
 refine ⟨_,rfl,x,_,dx,_,_,rfl,ex,B.cl_Larder,B.na_Larder_stands,es,.inr (.inr (.inl ⟨rfl,.inl ⟨_,bd.at_⟩⟩)),_,rfl,fun pn hn => ?_⟩
 have g6 := ae hn (.dK [])
 have dkl := bd.few
 have m5' : ∀ y,y ∈ ms ↔ y ∈ ns ∨ y = zg ∨ y = zo := fun y => (m5 y).trans (by simp)
 refine ⟨s,_,.inr zg,.ref pn,rfl,rfl,g6 _ _ bd.at_,by omega,fun w hw => ?_,fun hw => ?_⟩
 ·rcases bd.ex zg with ⟨e1,_⟩ | ⟨a,row,e1,e2,e3,e4,e5,e6,e7⟩
  ·rw [hw] at e1; cases e1
  rw [hw] at e1
  cases e1
  have aF := im.mp e3
  have lb6 := lb5.same g6
  have bd6 := bd.same g6
  have bd7 := BD.put (g' := lf g zg zo t) bd6 hw (g6 _ _ e2) (fun _ _ => rfl)
  refine ⟨_,rfl,_,rfl,_,rfl,a,_,rfl,fP.k (k := .inr zo) (g6 _ _ e2) (by unfold cM; rw [B2]; omega),?_⟩
  refine qD zne nst p q rok F1 _ ms t ((kF.trans (KF.of g6)).trans (KF.put _ aF)) FG.refl (LB.stands (r := a) (u := .dK []) lb6 (g6 _ _ ex) es (fun _ h => h) (fun b' o n e => KF.put _ aF b' o n e) (fun b' o e ns' ni => ?_) (bd7.mono (by omega)) (fun dk2 e y b' z => ?_) (fun b' hb' => ?_)) (by rw [aj (fun z => by rw [z] at et5; rw [et5] at e2; cases e2)]; exact g6 _ _ et5) tr nd5 m5'
  ·rw [aj (fun z => ni dk bd6.at_ zg (by rw [z]; exact hw))]
   exact e
  ·rw [bd6.at_] at e
   cases e
   exact .inl z
  ·by_cases c : b' = a
   ·exact ⟨_,by rw [c]; exact ac⟩
   ·obtain ⟨kv,e⟩ := dF b' hb'
    exact ⟨kv,by rw [aj c]; exact g6 _ _ e⟩
 ·have ps : pn ≠ s := fun z => by rw [z,bd.at_] at hn; cases hn
  have pF : pn ∉ F1 := lb5.free hn
  have new : ∀ y,aK dk (.inr y) ≠ some (.ref pn) := fun y => bd.new hn y
  have bd6 := ve (F' := F1 ++ [pn]) (bd.same g6) (fun a h => CK _ h)
  have bd7 := BD.open (x0 := zg) bd6 hw (show aq H5 pn (.dK []) pn = some (.dK (cM [])) from ac) (im.mpr (by simp)) ps new
  have hv7 : aK (putK dk (.inr zg) (.ref pn)) (.inr zg) = some (V.ref pn) := by rw [fO,if_pos rfl]
  have ep7 : aq (aq H5 pn (.dK [])) s (.dK (putK dk (.inr zg) (.ref pn))) pn = some (.dK (cM [])) := by rw [aj ps]; exact ac
  have bd8 := BD.put (g' := lf g zg zo t) bd7 hv7 ep7 (fun _ _ => rfl)
  refine ⟨_,rfl,_,rfl,_,rfl,pn,_,rfl,fP.k (k := .inr zo) (kvs := []) ep7 (by show 0 < sizeLine; omega),?_⟩
  have tp : t ≠ pn := fun z => by rw [z,hn] at et5; cases et5
  have ts : t ≠ s := fun z => by rw [z,bd.at_] at et5; cases et5
  refine qD zne nst p q rok (F1 ++ [pn]) _ ms t (kF.trans fun b' o n e => ?_) (fun a ha => ?_) (LB.stands (r := s) (u := .dK []) lb5 ex es (fun a h => CK _ h) (fun b' o n e => ?_) (fun b' o e ns' ni => ?_) bd8 (fun dk2 e y b' z => ?_) (fun b' hb' => ?_)) (by rw [aj tp,aj ts,aj tp]; exact et5) tr nd5 m5'
  ·rw [aj (fun z => by rw [z,hn] at e; cases e),aj (fun z => n (by rw [z]; exact sF)),aj (fun z => by rw [z,hn] at e; cases e)]
   exact e
  ·rcases BN.mp ha with h | h
   ·exact .inl h
   ·rw [B5.mp h]
    refine .inr ?_
    cases hp : H pn with
    | none => rfl
    | some ob => rw [kF _ _ pF hp] at hn; cases hn
  ·rw [aj (fun z => by rw [z,hn] at e; cases e),aj (fun z => n (CK _ (by rw [z]; exact sF))),aj (fun z => by rw [z,hn] at e; cases e)]
   exact e
  ·rw [aj (fun z => by rw [z,hn] at e; cases e),aj ns',aj (fun z => by rw [z,hn] at e; cases e)]
   exact e
  ·rw [bd.at_] at e
   cases e
   rw [fO] at z
   split at z
   ·cases z
    exact .inr hn
   ·exact .inl z
  ·by_cases c1 : b' = pn
   ·exact ⟨_,by rw [c1]; exact ac⟩
   ·by_cases c2 : b' = s
    ·exact ⟨_,by rw [aj c1,c2]; exact ac⟩
    ·rcases BN.mp hb' with h | h
     ·obtain ⟨kv,e⟩ := dF b' h
      exact ⟨kv,by rw [aj c1,aj c2,aj c1]; exact e⟩
     ·exact absurd (B5.mp h) c1
theorem zi : ax ["self","good","pair"] ["self","good"] (ap vK) := ⟨rfl,rfl,rfl,by decide +kernel,rfl,by decide +kernel,by decide +kernel⟩
set_option maxHeartbeats 4000000 in
theorem zj {dV : Value} (F : bz K "stand_in" "Larder.stand_in" vK dV f fd) (B : Bn K mg c_EmptyHeap c_InRing c_Larder c_NoAmount c_NoDish c_NoName c_NoNet c_NoNumber c_NoPack c_NoPlan c_NoRow c_NoStand c_NoStandIn c_NoStep c_StoveError c_TooFew c_TooMany c_Twice f_Z15 f_Z16 f_Z17 f_Z18 f_Z19 f_Z20 f_Z21 f_Z23 f_Z24) (DZ6 : Dx P w K mg base bg 4 "ways_out" ["stands","good"] [] (tL K)) (XZ8 : Dx P w K mg base (cA P w) 2 "refuse_no_names" ["things"] [] (dX K c_NoName)) (XZ19 : du P w K mg base (cA P w) 3 f_Z19 ["self","good"] [] (dI K c_Larder c_NoName)) (I_NoStandIn : AE P w K mg base 1 c_NoStandIn ["self","good"] (kE c_NoStandIn "good")) : aZ P w K mg base (cA P w) 5 f fd ["self","good"] (mV K c_Larder c_NoName c_NoStandIn) := by
 have sc := zi
 refine F.okX sc (fun vs H Q E h => ?_) (fun cdv A outer s H vs Q E hr h => ?_)
 ·obtain ⟨x,v,F0,rows,m,g,bs,ns,ps,vw,U,Rt,rfl,_⟩ := h
  rfl
 obtain ⟨x,v,F1,rows,m,g,bs,ns,ps,vw,U,Rt,rfl,lb,m200,ok,few,b10,hv,ra,hU,u17,rt0,rts,eN,qq⟩ := h
 refine ⟨_,(af (aU (gn XZ8 hr (by decide) rfl cH (aa (bj (aa (pv 1) ag)) ag))) (af (c5 (su rfl rfl) rfl (dQ (aY DZ6 hr (by decide) rfl (aa (cy (pv 0) rfl) (aa (pv 1) ag)))) (bJ (i := 2) sc.nd rfl (Or.inl rfl)) (ak (aV (aA iu (sI XZ19 hr (by decide) cH (pv 0) (aa (bh bK (bh cg (pv 2) am (fun _ _ => rfl)) (oV kc am) (fun _ _ => rfl)) ag)) bZ (aE _)) (ak (aG (pv 2))) aM))) (ak (uO I_NoStandIn hr (by decide) rfl B.m_NoStandIn rfl cH (aa (pv 1) ag))))),?_⟩
 refine ⟨_,rfl,(by show 1 <= sizeLine; decide),fun l0 n0 => ?_⟩
 have g1 := ae n0 (.lst [v])
 refine ⟨l0,_,rfl,ac,(fun y hy => by rw [B5.mp hy]; exact hv.imp id (cO.same g1)),fun nn => ?_,fun nn H' gg => eN (fun z => nn fun y hy => by rw [B5.mp hy]; exact z) H' (g1.trans gg)⟩
 obtain ⟨z,rfl,mz⟩ := nn v (by simp)
 have qz := qq z rfl mz
 have lb1 := lb.same g1
 generalize aq H l0 (.lst [.str z]) = H1 at g1 lb1 ⊢
 have ra1 : ∀ a b t,g a b = some t -> fc K 200 H1 t (vw a b).1 (vw a b).2 := fun a b t e => ⟨cR.of (g1 _ _ (ra.fr a b t e).1),(ra.fr a b t e).2.2.1.pos,(ra.fr a b t e).2.2.2.1,(ra.fr a b t e).2.2.2.2⟩
 obtain ⟨dx,s,b,fs,dk,ex,es,eb,bd,hb,fm,sF,bF,pb⟩ := lb1.at_
 refine ⟨_,rfl,x,_,dx,_,_,rfl,ex,B.cl_Larder,B.na_Larder_stands,es,_,rfl,s,z,200,17,vw,g,U,Rt,rfl,bd.done m200 ra1,hU,u17,by decide,by decide,by decide,rt0 z rfl,rts,fun l cs H2 g2 nl wo bf => ?_⟩
 obtain ⟨q1,q2⟩ := qz cs bf
 obtain ⟨ts,el,lt,each⟩ := wo.ex
 have lst : ∀ (j : Nat) (d : List Str),cs[j]? = some d -> Nm (aO d) := fun j d hd => by
  by_cases c0 : j = 0
  ·subst c0
   rw [bf.first] at hd
   cases hd
   exact mz
  ·obtain ⟨i,c,y,_,_,_,e,⟨t,ht⟩,_⟩ := bf.from_ j d (by omega) hd
   rw [e]
   have : aO (c ++ [y]) = y := by unfold aO; simp
   rw [this]
   exact (ra.nm _ _ _ ht).2
 refine ⟨l,rfl,⟨_,bv.of el⟩,dy (xs := ts.map V.ref) (fun k σ H' => (∃ o2 : Option V,σ = [some (.ref x),some (.str z),o2]) /\ aB H2 H' /\ ∀ (j : Nat) (d : List Str),j < k -> cs[j]? = some d -> Blk ps bs (aO d)) ⟨⟨none,rfl⟩,.refl _,fun j d h => absurd h (Nat.not_lt_zero _)⟩ (fun k σ H' _ h => bv.of (h.2.1 _ _ el)) ?_ ?_⟩
 ·rintro k y σ H3 hy ⟨⟨o2,rfl⟩,g3,bl⟩
  rw [BM] at hy
  obtain ⟨t,ht,rfl⟩ := CA.mp hy
  have kl : k < cs.length := by rw [<- lt]; exact (B4.mp ht).1
  have hc := BG kl
  generalize cs[k] = c at hc
  obtain ⟨cl,rl,p,q,e1,e2,_,rt,_,e3⟩ := each k t c ht hc
  have nl := lst k c hc
  have k3 := g2.trans g3
  have c1 : 1 <= c.length := by
   cases c with
   | nil => exact absurd nl.1 (by show ¬ 1 <= (sL "").length; decide)
   | cons _ _ => simp
  have al : gN (c.map V.str) (-1) = some (.str (aO c)) := jW (fun z => by rw [z] at c1; simp at c1)
  have lb3 := lb1.same k3
  obtain ⟨dx3,s3,b3,fs3,dk3,ex3,es3,eb3,bd3,hb3,fm3,sF3,bF3,pb3⟩ := lb3.at_
  refine ⟨_,rfl,x,_,dx3,_,rfl,ex3,B.cl_Larder,B.me_Z19,fm3 _ (by decide),_,rfl,t,_,_,_,rfl,rfl,cR.of (g3 _ _ e1),rfl,_,rfl,cl,_,_,_,rfl,rfl,bv.of (g3 _ _ e2),al,x,.str (aO c),F1,rows,m,g,bs,ns,ps,rfl,lb3,ok,few,b10,.inl ⟨_,rfl,nl⟩,fun z' => absurd ⟨_,rfl,nl⟩ z',fun z' ez' mz' => ?_⟩
  injection ez' with ez'
  subst ez'
  refine ⟨fun H4 g4 nb => ?_,fun lw H4 cw goal g4 ew wy gm gl ga => ?_⟩
  ·exact ⟨rfl,_,rfl,dT rfl ⟨_,rfl,q1 k c t cl rl p q H4 ((g1.trans k3).trans g4) hc bl (fun ⟨b',h1,h2⟩ => nb b' h1 h2) (g4 _ _ (g3 _ _ e1)) (g4 _ _ (g3 _ _ e2)) (g4 _ _ (g3 _ _ e3)) rt⟩⟩
  ·refine ⟨rfl,_,rfl,dF nofun ⟨⟨_,rfl⟩,g3.trans g4,fun j d hj hd => ?_⟩⟩
   by_cases cj : j = k
   ·subst cj
    rw [hc] at hd
    cases hd
    exact ⟨goal,gm,gl⟩
   ·exact bl j d (by omega) hd
 ·rintro σ H3 ⟨⟨o2,rfl⟩,g3,bl⟩
  rw [B2,lt] at bl
  refine ⟨_,rfl,(by show 1 <= sizeLine; decide),fun xa na => uP na fun d H4 gx ea ed ne gd edd => ⟨rfl,d,ea,?_⟩⟩
  exact q2 (fun j d hd => bl j d (B4.mp hd).1 hd) d _ (((g1.trans g2).trans g3).trans gd) edd
theorem zk : ax ["_law_script","_law_k"] ["_law_script","_law_k"] (ap vL) := ⟨rfl,rfl,rfl,by decide +kernel,rfl,by decide +kernel,by decide +kernel⟩
set_option maxHeartbeats 4000000 in
theorem zm {dV : Value} (F : bz K "_law_cell_at" "_law_cell_at" vL dV f fd) (B : Bn K mg c_EmptyHeap c_InRing c_Larder c_NoAmount c_NoDish c_NoName c_NoNet c_NoNumber c_NoPack c_NoPlan c_NoRow c_NoStand c_NoStandIn c_NoStep c_StoveError c_TooFew c_TooMany c_Twice f_Z15 f_Z16 f_Z17 f_Z18 f_Z19 f_Z20 f_Z21 f_Z23 f_Z24)  : aZ P w K mg base bg 1 f fd ["_law_script","_law_k"] (nJ K) := by
 have sc := zk
 refine F.ok sc (fun vs H Q E h => ?_) (fun cdv A outer s H vs Q E hr h => ?_)
 ·obtain ⟨a,ns,k,rfl,_⟩ := h
  rfl
 obtain ⟨a,ns,k,rfl,hS,h0,q⟩ := h
 refine ⟨_,(af (aV (aA lR (pv 1) (aC bC rfl B.b_len boot_len (aa (pv 0) ag)) (aE _)) (ak (aG (bh bK (pv 0) (pv 1) (fun _ _ => rfl)))) aM) (ak (aG am))),?_⟩
 refine ⟨_,rfl,_,rfl,a,_,rfl,.inl hS,_,_,rfl,rfl,_,rfl,d2 (fun c => ?_) (fun c => ?_)⟩
 ·obtain ⟨v,hv⟩ := uB h0 c
  exact ⟨_,rfl,_,rfl,a,_,_,_,rfl,rfl,hS,hv,q v⟩
 ·exact q 0
theorem zp : ax ["_law_number","_law_many","_law_cell","_law_letters","_law_base","_law_k","_law_at","_law_size","_law_step","_law_core","_law_names_here","_law_sign"] ["_law_number","_law_many"] (ap vM) := ⟨rfl,rfl,rfl,by decide +kernel,rfl,by decide +kernel,by decide +kernel⟩
set_option maxHeartbeats 4000000 in
theorem zq {dV : Value} (F : bz K "_law_names" "_law_names" vM dV f fd) (B : Bn K mg c_EmptyHeap c_InRing c_Larder c_NoAmount c_NoDish c_NoName c_NoNet c_NoNumber c_NoPack c_NoPlan c_NoRow c_NoStand c_NoStandIn c_NoStep c_StoveError c_TooFew c_TooMany c_Twice f_Z15 f_Z16 f_Z17 f_Z18 f_Z19 f_Z20 f_Z21 f_Z23 f_Z24)  : aZ P w K mg base bg 1 f fd ["_law_number","_law_many"] jc := by
 have sc := zp
 refine F.ok sc (fun vs H Q E h => ?_) (fun cdv A outer s H vs Q E hr h => ?_)
 ·obtain ⟨n,m,rfl,_⟩ := h
  rfl
 obtain ⟨nb,many,rfl,m0,m1,q⟩ := h
 refine ⟨_,(af (ay (i := 2) sc.nd rfl (Or.inl rfl) (au aS (pv 0) am)) (af (ay (i := 3) sc.nd rfl (Or.inl rfl) bL) (af (ay (i := 4) sc.nd rfl (Or.inl rfl) bL) (af (c5 PassesOwn.never rfl (jx rfl B.b_range (aa am ag)) (bJ (i := 5) sc.nd rfl (Or.inl rfl)) (ak (ay (i := 4) sc.nd rfl (Or.inl rfl) (au b5 (pv 4) (bh nu (pv 3) (au aS (au aS (au c9 (au dj (pv 2) am) (au dj (au dj (au c9 (pv 5) (pv 5)) (au c9 am (pv 5))) am)) am) am) (fun _ _ => rfl)))))) (af (ay (i := 6) sc.nd rfl (Or.inl rfl) (au aS (au bc (pv 2) am) am)) (af (ay (i := 7) sc.nd rfl (Or.inl rfl) (au aS (au bc (pv 2) am) am)) (af (ay (i := 8) sc.nd rfl (Or.inl rfl) (bh bK (bj (aa am (aa am (aa am (aa am (aa am (aa am (aa am (aa am ag))))))))) (au aS (au bc (pv 2) am) am) (fun _ _ => rfl))) (af (ay (i := 9) sc.nd rfl (Or.inl rfl) (cD fq (pv 4) dS (cT (pv 7)))) (af (ay (i := 10) sc.nd rfl (Or.inl rfl) (bj ag)) (af (c5 PassesOwn.never rfl (jx rfl B.b_range (aa (pv 1) ag)) (bJ (i := 5) sc.nd rfl (Or.inl rfl)) (af (ay (i := 11) sc.nd rfl (Or.inl rfl) (bh nu (pv 3) (au aS (au dj (au bc (pv 2) am) (au c9 (pv 5) (pv 8))) am) (fun _ _ => rfl))) (ak (aV (aA ir (pv 1) am (aE _)) (ak (aU (gO C6 CC CB bP (pv 10) (aa (au b5 (au b5 (au b5 (cD fq (pv 9) dS (cT (pv 6))) (bh nu (pv 3) (au bc (pv 5) am) (fun _ _ => rfl))) (pv 11)) (cD fq (pv 9) (cT (pv 6)) dS)) ag)))) (ak (aV (PW.pt (rN (aA cf (au aS (pv 2) am) am (aE _)) (oU (aA vV (pv 1) am (aE _))))) (ak (aU (gO C6 CC CB bP (pv 10) (aa (cD fq (pv 4) dS (cT (au dj (pv 5) am))) ag)))) (ak (aV (aA cf (au aS (pv 2) am) am (aE _)) (ak (aU (gO C6 CC CB bP (pv 10) (aa (au b5 (cD fq (pv 4) dS (cT (au aS (pv 5) am))) (pv 11)) ag)))) (ak (aU (gO C6 CC CB bP (pv 10) (aa (au b5 (au b5 (cD fq (pv 9) dS (cT (pv 6))) (pv 11)) (cD fq (pv 9) (cT (pv 6)) dS)) ag)))))))))))) (ak (aG (pv 10))))))))))))),?_⟩
 refine ⟨_,rfl,_,_,rfl,rfl,(by show (1000003 : Int) ≠ 0; decide),?_⟩
 have c0 := BJ nb (show (0 : Int) < 1000003 by decide)
 have c1 := BS nb (show (0 : Int) < 1000003 by decide)
 have s9 : (9000 : Nat) <= sizeLine := by decide
 have one : ∀ c : Nat,(⟨#[c]⟩ : Str).length = 1 := fun _ => rfl
 have sm : ∀ (x : Int),0 <= x -> x < 2 ^ 30 -> Bd 30 x := fun x h0 h1 => by unfold Bd; omega
 have bd3 : Bd 30 (3 : Int) := by unfold Bd; decide
 try dsimp only [bG,bM]
 refine cut (fun σ H' => H = H' /\ ∃ c : Int,0 <= c /\ c < 1000003 /\ σ = [some (.int nb),some (.int many),some (.int c),some (.str c7),none,none,none,none,none,none,none,none]) (fun N hN => hN _ _ ⟨rfl,_,c0,c1,rfl⟩) ?_
 clear c0 c1
 rintro σ _ ⟨rfl,c,c0,c1,rfl⟩
 refine cut (fun σ H' => H = H' /\ σ = [some (.int nb),some (.int many),some (.int c),some (.str c7),some (.str ""),none,none,none,none,none,none,none]) (fun N hN => hN _ _ ⟨rfl,rfl⟩) ?_
 rintro σ _ ⟨rfl,rfl⟩
 refine cut (fun σ H' => H = H' /\ ∃ (b : Str) (o5 : Option V),σ = [some (.int nb),some (.int many),some (.int c),some (.str c7),some (.str b),o5,none,none,none,none,none,none] /\ b.length = 12 /\ Lt b) (fun N hN => ?_) ?_
 ·refine ⟨_,rfl,(by decide),(by decide),gc (fun i σ H' => H = H' /\ ∃ (b : Str) (o5 : Option V),σ = [some (.int nb),some (.int many),some (.int c),some (.str c7),some (.str b),o5,none,none,none,none,none,none] /\ b.length = i /\ Lt b) ⟨rfl,_,none,rfl,rfl,Lt.nil⟩ (fun i σ H' hi hP => ?_) (fun σ H' hP => ?_)⟩
  ·obtain ⟨rfl,b,o5,rfl,hb,hL⟩ := hP
   have hi' : i < 12 := hi
   have bk : Bd 30 (0 + (i : Int)) := sm _ (by omega) (by omega)
   have b1 : Bd 60 ((0 + (i : Int)) * (0 + (i : Int))) := bk.mul bk
   have b2 : Bd 60 (3 * (0 + (i : Int))) := bd3.mul bk
   have b3 : Bd 62 ((0 + (i : Int)) * (0 + (i : Int)) + 3 * (0 + (i : Int)) + 7) := (b1.add b2).add ((show Bd 61 (7 : Int) by unfold Bd; decide))
   have i0 := BJ (((c + 1) * ((0 + (i : Int)) * (0 + (i : Int)) + 3 * (0 + (i : Int)) + 7)).fmod 1013) (show (0 : Int) < 26 by decide)
   have i1 := BS (((c + 1) * ((0 + (i : Int)) * (0 + (i : Int)) + 3 * (0 + (i : Int)) + 7)).fmod 1013) (show (0 : Int) < 26 by decide)
   obtain ⟨ch,hch,hq⟩ := tw i0 i1
   refine ⟨_,rfl,_,rfl,_,rfl,_,_,rfl,rfl,_,rfl,_,rfl,_,_,rfl,rfl,bk.ok bk,_,rfl,_,_,rfl,rfl,bd3.ok bk,_,_,rfl,rfl,_,_,rfl,rfl,_,_,rfl,rfl,(sm (c + 1) (by omega) (by omega)).ok b3,_,_,rfl,rfl,(by show (1013 : Int) ≠ 0; decide),_,_,rfl,rfl,(by show (26 : Int) ≠ 0; decide),c7,_,ch,rfl,rfl,(by decide),hch,_,_,rfl,rfl,?_,?_⟩
   ·rw [one]; omega
   ·exact ⟨rfl,_,_,rfl,by rw [Str.length_append,one,hb],hL.app (Lt.one hq)⟩
  ·obtain ⟨rfl,b,o5,rfl,hb,hL⟩ := hP
   exact hN _ _ ⟨rfl,b,o5,rfl,by rw [hb]; rfl,hL⟩
 rintro σ _ ⟨rfl,b,o5,rfl,hb12,hL⟩
 have hb : b.length <= 12 := by omega
 have hz : b.length <= sizeLine := by omega
 have a0 := BJ (c.fdiv 3) (show (0 : Int) < 11 by decide)
 have z0 := BJ (c.fdiv 40) (show (0 : Int) < 11 by decide)
 have t0 := BJ (c.fdiv 500) (show (0 : Int) < 8 by decide)
 have t1 := BS (c.fdiv 500) (show (0 : Int) < 8 by decide)
 refine ⟨_,rfl,_,_,rfl,rfl,⟨by show (3 : Int) ≠ 0; decide,BP (by decide)⟩,_,_,rfl,rfl,(by show (11 : Int) ≠ 0; decide),?_⟩
 refine ⟨_,rfl,_,_,rfl,rfl,⟨by show (40 : Int) ≠ 0; decide,BP (by decide)⟩,_,_,rfl,rfl,(by show (11 : Int) ≠ 0; decide),?_⟩
 refine ⟨(by show 8 <= sizeLine; decide),fun ls ns => ?_⟩
 have g1 := ae ns (.lst [.int 1,.int 3,.int 5,.int 7,.int 9,.int 11,.int 15,.int 17])
 obtain ⟨v,hv,ev⟩ := nW (xs := [V.int 1,V.int 3,V.int 5,V.int 7,V.int 9,V.int 11,V.int 15,V.int 17]) t0 (by show (c.fdiv 500).fmod 8 < ((8 : Nat) : Int); exact t1)
 obtain ⟨st,rfl,st0,st1,sto⟩ : ∃ y : Int,v = .int y /\ 0 <= y /\ y < 20 /\ lj y := by
  simp at hv
  rcases hv with rfl | rfl | rfl | rfl | rfl | rfl | rfl | rfl
  all_goals exact ⟨_,rfl,by decide,by decide,by unfold lj; decide⟩
 refine ⟨_,rfl,_,_,rfl,rfl,⟨by show (500 : Int) ≠ 0; decide,BP (by decide)⟩,_,_,rfl,rfl,(by show (8 : Int) ≠ 0; decide),ls,_,_,_,rfl,rfl,bv.of ac,ev,?_⟩
 refine ⟨_,rfl,_,rfl,_,rfl,b,rfl,hz,?_⟩
 have hc : (cW b none (some ((c.fdiv 40).fmod 11))).length <= 12 := BZ (de _ _ _) hb
 refine ⟨(by show 0 <= sizeLine; decide),fun lp np => ?_⟩
 have z1 := BS (c.fdiv 40) (show (0 : Int) < 11 by decide)
 have a1 := BS (c.fdiv 3) (show (0 : Int) < 11 by decide)
 have hc10 : (cW b none (some ((c.fdiv 40).fmod 11))).length <= 10 := by rw [f6 z0]; omega
 have hcL := hL.cut none (some ((c.fdiv 40).fmod 11))
 generalize cW b none (some ((c.fdiv 40).fmod 11)) = core at *
 have cz : core.length <= sizeLine := by omega
 have g2 := g1.trans (ae np (.lst []))
 have cl : ∀ lo hi,(cW core lo hi).length <= 12 := fun lo hi => BZ (de _ _ _) hc
 have bl : ∀ lo hi,(cW b lo hi).length <= 12 := fun lo hi => BZ (de _ _ _) hb
 try dsimp only [bG,bM]
 refine cut (fun σ H' => aB H H' /\ ∃ (zs : List Str) (o5 o11 : Option V),σ = [some (.int nb),some (.int many),some (.int c),some (.str c7),some (.str b),o5,some (.int ((c.fdiv 3).fmod 11)),some (.int ((c.fdiv 40).fmod 11)),some (.int st),some (.str core),some (.ref lp),o11] /\ (zs.length : Int) = many /\ H' lp = some (.lst (zs.map V.str)) /\ ∀ (k : Nat) (z : Str),zs[k]? = some z -> Nm z /\ vo (c.fmod 3) (cW core none (some ((c.fdiv 3).fmod 11))).cps.toList (cW core (some ((c.fdiv 3).fmod 11)) none).cps.toList k (sgn (c.fdiv 7) st k) z) (fun N hN => ?_) ?_
 ·refine ⟨_,rfl,_,rfl,(by omega),(by omega),gc (fun i σ H' => aB H H' /\ ∃ (zs : List Str) (o5 o11 : Option V),σ = [some (.int nb),some (.int many),some (.int c),some (.str c7),some (.str b),o5,some (.int ((c.fdiv 3).fmod 11)),some (.int ((c.fdiv 40).fmod 11)),some (.int st),some (.str core),some (.ref lp),o11] /\ zs.length = i /\ H' lp = some (.lst (zs.map V.str)) /\ ∀ (k : Nat) (z : Str),zs[k]? = some z -> Nm z /\ vo (c.fmod 3) (cW core none (some ((c.fdiv 3).fmod 11))).cps.toList (cW core (some ((c.fdiv 3).fmod 11)) none).cps.toList k (sgn (c.fdiv 7) st k) z) ⟨g2,[],o5,none,rfl,rfl,ac,fun k z h => by simp at h⟩ (fun i σ H' hi hP => ?_) (fun σ H' hP => ?_)⟩
  ·obtain ⟨g,zs,o5,o11,rfl,hl,e,nz⟩ := hP
   have hi' : (i : Int) < many := by have : i < many.toNat := hi; omega
   have i0 := BJ (c.fdiv 7 + (0 + (i : Int)) * st) (show (0 : Int) < 26 by decide)
   have i1 := BS (c.fdiv 7 + (0 + (i : Int)) * st) (show (0 : Int) < 26 by decide)
   have hch := vk i0 i1
   have hq : 97 <= sgn (c.fdiv 7) st i /\ sgn (c.fdiv 7) st i <= 122 := by unfold sgn; omega
   rw [show 97 + ((c.fdiv 7 + (0 + (i : Int)) * st).fmod 26).toNat = sgn (c.fdiv 7) st i from rfl] at hch
   have k0 : 0 <= (0 + (i : Int)).fdiv 26 := by rw [Int.fdiv_eq_ediv_of_nonneg _ (by decide)]; omega
   have k1 : (0 + (i : Int)).fdiv 26 < 26 := by rw [Int.fdiv_eq_ediv_of_nonneg _ (by decide)]; omega
   obtain ⟨ch2,hch2⟩ := pM k0 k1
   have app : ∀ (z : Str),aB H (aq H' lp (.lst (zs.map V.str ++ [.str z]))) /\ aq H' lp (.lst (zs.map V.str ++ [.str z])) lp = some (.lst ((zs ++ [z]).map V.str)) := fun z => ⟨fT g (g1.free np) _,by rw [ac,Bv]; rfl⟩
   have lnp : (zs.map V.str).length < sizeLine := by rw [B2,hl]; omega
   refine ⟨_,rfl,_,rfl,_,_,rfl,rfl,⟨by show (7 : Int) ≠ 0; decide,BP (by decide)⟩,_,rfl,_,rfl,_,_,rfl,rfl,(sm _ (by omega) (by omega)).ok (sm st (by omega) (by omega)),_,_,rfl,rfl,_,_,rfl,rfl,(by show (26 : Int) ≠ 0; decide),c7,_,sgn (c.fdiv 7) st i,rfl,rfl,(by decide),hch,?_⟩
   have sn : ∀ z,Nm z /\ vo (c.fmod 3) (cW core none (some ((c.fdiv 3).fmod 11))).cps.toList (cW core (some ((c.fdiv 3).fmod 11)) none).cps.toList i (sgn (c.fdiv 7) st i) z -> ∀ (k : Nat) (y : Str),(zs ++ [z])[k]? = some y -> Nm y /\ vo (c.fmod 3) (cW core none (some ((c.fdiv 3).fmod 11))).cps.toList (cW core (some ((c.fdiv 3).fmod 11)) none).cps.toList k (sgn (c.fdiv 7) st k) y := fun z hz' k y hy => by
    by_cases ck : k < zs.length
    ·rw [BB ck] at hy
     exact nz k y hy
    ·rw [BX (by omega)] at hy
     have : k - zs.length = 0 := by
      cases hk : k - zs.length with
      | zero => rfl
      | succ n => rw [hk] at hy; simp at hy
     rw [this] at hy
     cases hy
     have : k = i := by omega
     rw [this]
     exact hz'
   have q0 := BJ (0 + (i : Int)) (show (0 : Int) < 11 by decide)
   have q1 := BS (0 + (i : Int)) (show (0 : Int) < 11 by decide)
   refine ⟨_,rfl,_,_,rfl,rfl,_,rfl,d2 (fun z26 => absurd m1 (by omega)) (fun _ => ?_)⟩
   ·refine ⟨_,rfl,_,_,rfl,rfl,(by show (3 : Int) ≠ 0; decide),rfl,_,rfl,xJ (fun m1c => ⟨_,rfl,_,_,rfl,rfl,_,rfl,d2 (fun _ => ?_) (fun z12 => absurd m1 (by omega))⟩) (fun m1n => ?_)⟩
    ·refine ⟨_,rfl,.inl ⟨rfl,_,bv.of e⟩,_,rfl,_,rfl,_,_,rfl,rfl,_,rfl,b,rfl,hz,lp,_,_,rfl,rfl,e,lnp,(app _).1,_,_,_,rfl,by rw [B8,hl]; rfl,(app _).2,sn _ ?_⟩
     refine ⟨(hL.cut _ _).nm ?_ ?_,?_⟩
     ·rw [f6 (by omega)]; omega
     ·exact bl _ _
     ·unfold vo
      rw [if_pos m1c,f6 (by omega)]
      omega
    ·refine ⟨_,rfl,_,_,rfl,rfl,(by show (3 : Int) ≠ 0; decide),rfl,_,rfl,xJ (fun m2c => ?_) (fun m2n => ?_)⟩
     ·refine ⟨_,rfl,.inl ⟨rfl,_,bv.of e⟩,_,rfl,_,rfl,_,_,rfl,rfl,(by show (11 : Int) ≠ 0; decide),_,rfl,b,rfl,hz,_,rfl,_,_,rfl,rfl,?_,lp,_,_,rfl,rfl,e,lnp,(app _).1,_,_,_,rfl,by rw [B8,hl]; rfl,(app _).2,sn _ ?_⟩
      ·(simp only [Str.length_append,one]; have l3 := bl none (some ((0 + (i : Int)).fmod 11)); omega)
      ·refine ⟨((hL.cut _ _).app (Lt.one hq)).nm ?_ ?_,?_⟩
       ·rw [Str.length_append,one]; omega
       ·rw [Str.length_append,one,f6 q0]; omega
       ·unfold vo
        rw [if_neg m1n,if_pos m2c]
        exact ⟨_,lq _ _⟩
     ·refine ⟨_,rfl,.inl ⟨rfl,_,bv.of e⟩,_,rfl,_,rfl,_,rfl,core,rfl,cz,_,rfl,_,_,rfl,rfl,?_,_,rfl,_,rfl,_,rfl,core,rfl,cz,_,_,rfl,rfl,?_,lp,_,_,rfl,rfl,e,lnp,(app _).1,_,_,_,rfl,by rw [B8,hl]; rfl,(app _).2,sn _ ?_⟩
      ·(simp only [Str.length_append,one]; have l1 := cl none (some ((c.fdiv 3).fmod 11)); have l2 := cl (some ((c.fdiv 3).fmod 11)) none; omega)
      ·(simp only [Str.length_append,one]; have l1 := cl none (some ((c.fdiv 3).fmod 11)); have l2 := cl (some ((c.fdiv 3).fmod 11)) none; omega)
      ·refine ⟨(((hcL.cut _ _).app (Lt.one hq)).app (hcL.cut _ _)).nm ?_ ?_,?_⟩
       ·rw [Str.length_append,Str.length_append,one]; omega
       ·rw [Str.length_append,Str.length_append,one,f6 a0,u5 a0]; omega
       ·unfold vo
        rw [if_neg m1n,if_neg m2n,lq,lq,List.append_assoc]
        rfl
  ·obtain ⟨g,zs,o5,o11,rfl,hl,e,nz⟩ := hP
   exact hN _ _ ⟨g,zs,o5,o11,rfl,by omega,e,nz⟩
 rintro σ H1 ⟨g,zs,o5',o11,rfl,hl,e,nz⟩
 exact ⟨_,rfl,q lp H1 zs g e hl (fun z hz => by obtain ⟨k,hk⟩ := C5.mp hz; exact (nz k z hk).1) (rf sto (by omega) nz)⟩
theorem zr : ax ["_law_one","_law_other"] ["_law_one","_law_other"] (ap vN) := ⟨rfl,rfl,rfl,by decide +kernel,rfl,by decide +kernel,by decide +kernel⟩
set_option maxHeartbeats 4000000 in
theorem zt {dV : Value} (F : bz K "_law_divisor_of" "_law_divisor_of" vN dV f fd) (B : Bn K mg c_EmptyHeap c_InRing c_Larder c_NoAmount c_NoDish c_NoName c_NoNet c_NoNumber c_NoPack c_NoPlan c_NoRow c_NoStand c_NoStandIn c_NoStep c_StoveError c_TooFew c_TooMany c_Twice f_Z15 f_Z16 f_Z17 f_Z18 f_Z19 f_Z20 f_Z21 f_Z23 f_Z24)  : aZ P w K mg base bg 1 f fd ["_law_one","_law_other"] oG := by
 have sc := zr
 refine F.ok sc (fun vs H Q E h => ?_) (fun cdv A outer s H vs Q E hr h => ?_)
 ·obtain ⟨a,b,rfl,_⟩ := h
  rfl
 obtain ⟨a,b,rfl,b0,q⟩ := h
 refine ⟨_,(af (em PassesOwn.never (aA oZ (pv 1) am (aE _)) (ak (wn (i := 0) (j := 1) rfl sc.nd rfl rfl (by decide) rfl rfl (aa (pv 1) (aa (au aS (pv 0) (pv 1)) ag)) rfl))) (ak (aG (aC ix rfl B.b_abs boot_abs (aa (pv 0) ag))))),?_⟩
 refine eu (fun σ H' => H = H' /\ ∃ (g l : Int),σ = [some (.int g),some (.int l)] /\ (l = 0 -> 0 <= g) /\ 0 <= l /\ bD g l = bD a b)
  (fun (σ : L2.St) (_ : Hp) => match σ[1]? with | some (some (V.int l)) => l.toNat | _ => 0) ⟨rfl,_,_,rfl,fun z => by omega,by omega,rfl⟩ ?_ (fun σ H Q Q' m ⟨v,e,s,k,hk,h2⟩ => ⟨v,e,s,k,hk,m _ _ h2⟩)
 rintro σ H' ⟨rfl,g,l,rfl,g0,l0,inv⟩
 refine ⟨_,rfl,rfl,_,rfl,Bh (fun c => ?_) (fun c => ?_)⟩
 ·have lp : 0 < l := by omega
  refine ⟨_,rfl,_,rfl,_,rfl,_,_,rfl,rfl,c,_,_,rfl,⟨rfl,l,g.fmod l,rfl,fun _ => l0,BJ g lp,?_⟩,?_⟩
  ·rw [jG lp]; exact inv
  ·have h1 := BS g lp
   have h2 := BJ g lp
   show (g.fmod l).toNat < l.toNat
   omega
 ·have g1 := g0 c
  subst c
  rw [jH g1] at inv
  rw [<- inv] at q
  refine ⟨_,rfl,_,rfl,?_⟩
  rw [if_neg (show ¬ g < 0 by omega)]
  exact q
theorem zu : ax ["_law_cell","_law_top","_law_bottom","_law_by"] ["_law_cell"] (ap vO) := ⟨rfl,rfl,rfl,by decide +kernel,rfl,by decide +kernel,by decide +kernel⟩
set_option maxHeartbeats 4000000 in
theorem zw {dV : Value} (F : bz K "_law_ratio" "_law_ratio" vO dV f fd) (B : Bn K mg c_EmptyHeap c_InRing c_Larder c_NoAmount c_NoDish c_NoName c_NoNet c_NoNumber c_NoPack c_NoPlan c_NoRow c_NoStand c_NoStandIn c_NoStep c_StoveError c_TooFew c_TooMany c_Twice f_Z15 f_Z16 f_Z17 f_Z18 f_Z19 f_Z20 f_Z21 f_Z23 f_Z24) (DZ27 : Dx P w K mg base bg 1 "_law_divisor_of" ["_law_one","_law_other"] [] oG) : aZ P w K mg base bg 2 f fd ["_law_cell"] gG := by
 have sc := zu
 refine F.ok sc (fun vs H Q E h => ?_) (fun cdv A outer s H vs Q E hr h => ?_)
 ·obtain ⟨c,rfl,_⟩ := h
  rfl
 obtain ⟨c,rfl,c0,c1,q⟩ := h
 refine ⟨_,(af (ay (i := 1) sc.nd rfl (Or.inl rfl) (au dj am (au aS (au c9 (pv 0) am) (au dj (au hW am am) am)))) (af (ay (i := 2) sc.nd rfl (Or.inl rfl) (au dj am (au aS (au c9 (pv 0) am) (bh bK (bj (aa am (aa am (aa (au hW am am) (aa (au hW am am) ag))))) (au aS (pv 0) am) (fun _ _ => rfl))))) (af (ay (i := 3) sc.nd rfl (Or.inl rfl) (aY DZ27 hr (by decide) rfl (aa (pv 1) (aa (pv 2) ag)))) (ak (aG (b6 (aa (au bc (pv 1) (pv 3)) (aa (au bc (pv 2) (pv 3)) ag)))))))),?_⟩
 have t0 := BJ (c * 48271) (show (0 : Int) < 10 ^ 59 + 213 by decide)
 have t1 := BS (c * 48271) (show (0 : Int) < 10 ^ 59 + 213 by decide)
 have w0 := BJ c (show (0 : Int) < 4 by decide)
 have w1 := BS c (show (0 : Int) < 4 by decide)
 refine ⟨_,rfl,_,_,rfl,rfl,IntMulOk.of_right (by decide),_,_,rfl,rfl,⟨by decide,by decide⟩,_,_,rfl,rfl,_,_,rfl,rfl,(by show (10 ^ 59 + 213 : Int) ≠ 0; decide),_,_,rfl,rfl,?_⟩
 have top : ∃ a : Int,a = 1 + (c * 48271).fmod (10 ^ Cd 59 + 213) /\ 0 < a /\ a < 2 ^ 199 := ⟨_,rfl,by show 0 < 1 + (c * 48271).fmod (10 ^ 59 + 213); omega,by show 1 + (c * 48271).fmod (10 ^ 59 + 213) < 2 ^ 199; omega⟩
 obtain ⟨a,ea,a0,a1⟩ := top
 dsimp only
 rw [<- ea]
 clear ea
 refine ⟨_,rfl,_,_,rfl,rfl,IntMulOk.of_right (by decide),_,_,rfl,rfl,⟨by decide,by decide⟩,_,_,rfl,rfl,⟨by decide,by decide⟩,(by show 4 <= sizeLine; decide),fun l4 n4 => ?_⟩
 have g4 := ae n4 (.lst [.int 10,.int 1000,.int (10 ^ Cd 20),.int (10 ^ Cd 59)])
 have pick : ∃ v : Int,gN [V.int 10,V.int 1000,V.int (10 ^ Cd 20),V.int (10 ^ Cd 59)] (c.fmod 4) = some (.int v) /\ 0 < v /\ v <= 10 ^ 59 := by
  rcases (by omega : c.fmod 4 = 0 ∨ c.fmod 4 = 1 ∨ c.fmod 4 = 2 ∨ c.fmod 4 = 3) with e | e | e | e
  ·rw [e]; exact ⟨_,rfl,by decide,by decide⟩
  ·rw [e]; exact ⟨_,rfl,by decide,by decide⟩
  ·rw [e]; exact ⟨_,rfl,by decide,by decide⟩
  ·rw [e]; exact ⟨_,rfl,by decide,by decide⟩
 obtain ⟨v,av,v0,v1⟩ := pick
 refine ⟨_,rfl,_,_,rfl,rfl,(by show (4 : Int) ≠ 0; decide),l4,_,_,_,rfl,rfl,bv.of ac,av,_,_,rfl,rfl,(by omega),_,_,rfl,rfl,?_⟩
 generalize aq H l4 (.lst [.int 10,.int 1000,.int (10 ^ Cd 20),.int (10 ^ Cd 59)]) = H1 at g4 ⊢
 have b0' := BJ (c * 69621) v0
 have b1' := BS (c * 69621) v0
 dsimp only
 generalize hb : 1 + (c * 69621).fmod v = bt
 have b0 : 0 < bt := by omega
 have b1 : bt < 2 ^ 199 := by omega
 have bne : bt ≠ 0 := by omega
 have f := v3 (a := a) bne
 have cn := nH (a := a) bne
 have cb := sj (a := a) bne (show Bd 200 bt by unfold Bd; omega)
 rw [uC b0] at f cn cb
 refine ⟨_,rfl,_,rfl,a,bt,rfl,b0,?_⟩
 refine ⟨_,rfl,_,rfl,_,_,rfl,rfl,⟨cn,cb.div cn⟩,_,rfl,_,rfl,_,_,rfl,rfl,⟨cn,cb.div cn⟩,(by show 2 <= sizeLine; decide),fun t nt => ?_⟩
 exact q _ _ (u0 f.same b0 f.pos a0) f.to (Bd.of_le (show Bd 200 a by unfold Bd; omega) f.bt) (Bd.of_le (show Bd 200 bt by unfold Bd; omega) f.bb) t _ (g4.trans (ae nt _)) ac
theorem zx : ax ["_law_cell","_law_some"] ["_law_cell"] (ap uc) := ⟨rfl,rfl,rfl,by decide +kernel,rfl,by decide +kernel,by decide +kernel⟩
set_option maxHeartbeats 4000000 in
theorem zy {dV : Value} (F : bz K "_law_odd_ratio" "_law_odd_ratio" uc dV f fd) (B : Bn K mg c_EmptyHeap c_InRing c_Larder c_NoAmount c_NoDish c_NoName c_NoNet c_NoNumber c_NoPack c_NoPlan c_NoRow c_NoStand c_NoStandIn c_NoStep c_StoveError c_TooFew c_TooMany c_Twice f_Z15 f_Z16 f_Z17 f_Z18 f_Z19 f_Z20 f_Z21 f_Z23 f_Z24)  : aZ P w K mg base bg 1 f fd ["_law_cell"] (fF K) := by
 have sc := zx
 refine F.ok sc (fun vs H Q E h => ?_) (fun cdv A outer s H vs Q E hr h => ?_)
 ·obtain ⟨c,rfl,_⟩ := h
  rfl
 obtain ⟨c,rfl,q⟩ := h
 obtain ⟨e1,e2,p1,p2,p3,p4,p5,p6,p7,p8,p9,p10,p11,p12,j1,he1,he2,hs1,hs2,hb⟩ : ∃ (e1 e2 : Expr) (p1 p2 p3 p4 p5 p6 p7 p8 p9 p10 p11 p12 : Pos) (j1 : _),(∀ X : Cx,PE X e1 (iy AM)) /\ (∀ X : Cx,PE X e2 (iy AN)) /\ (∀ t l env,swapsWith e1 t l env = pure false) /\ (∀ t l env,swapsWith (.BinOp (.Name "_law_some" p3) .Add e2 p4) t l env = pure false) /\ bN uc = [.Assign [.Name "_law_some" p1] e1 p2,.Assign [.Name "_law_some" p5] (.BinOp (.Name "_law_some" p3) .Add e2 p4) p6,.Return (some (.Subscript (.Name "_law_some" p7) (.BinOp (.Name "_law_cell" p8) .Mod (.Constant (.int 16) j1 p9) p10) p11)) p12] := ⟨_,_,_,_,_,_,_,_,_,_,_,_,_,_,_,fun X => @yC X _ _ _ _ _ _ _ _ _ _ _ _ _ _ _ _ _ _ _ _ _ _ _ _ _ _ _ _ _ _ _ _ _ _ _ _ _ _ _ _ _ _,fun X => @yD X _ _ _ _ _ _ _ _ _ _ _ _ _ _ _ _ _ _ _ _ _ _ _ _ _ _ _ _ _ _ _ _ _,fun _ _ _ => rfl,fun _ _ _ => rfl,rfl⟩
 rw [hb]
 refine ⟨_,(af (ay (i := 1) sc.nd rfl (Or.inl rfl) (he1 _) (hs1 _ _ _)) (af (ay (i := 1) sc.nd rfl (Or.inl rfl) (au nB (pv 1) (he2 _)) (hs2 _ _ _)) (ak (aG (bh bK (pv 1) (au aS (pv 0) am) (fun _ _ => rfl)))))),?_⟩
 have i0 := BJ c (show (0 : Int) < 16 by decide)
 have i1 := BS c (show (0 : Int) < 16 by decide)
 try dsimp only [bG,bM]
 refine cut (fun σ H' => ∃ (l : Addr) (L : List V),σ = [some (.int c),some (.ref l)] /\ aB H H' /\ H' l = some (.lst L) /\ L.length = 8 /\ ∀ v ∈ L,cp K H' v) (fun N hN => ?_) ?_
 ·refine ⟨(by show 2 <= sizeLine; decide),fun t1 n1 => ⟨_,rfl,(by show 2 <= sizeLine; decide),fun t2 n2 => ⟨(by show 2 <= sizeLine; decide),fun t3 n3 => ⟨(by show 2 <= sizeLine; decide),fun t4 n4 => ⟨_,rfl,(by show 2 <= sizeLine; decide),fun t5 n5 => ⟨(by show 2 <= sizeLine; decide),fun l6 n6 => ⟨(by show 8 <= sizeLine; decide),fun l7 n7 => ?_⟩⟩⟩⟩⟩⟩⟩
  have g1 := ae n1 (.tup [.int 0,.int 1])
  have g2 := ae n2 (.tup [.int (-3),.int 2])
  have g3 := ae n3 (.tup [.int 2,.int 4])
  have g4 := ae n4 (.tup [.int 1,.int 0])
  have g5 := ae n5 (.tup [.int 3,.int (-2)])
  have g6 := ae n6 (.lst [.int 1,.int 2])
  have g7 := ae n7 (.lst (zX t1 t2 t3 t4 t5 l6))
  have gA := (((((g1.trans g2).trans g3).trans g4).trans g5).trans g6).trans g7
  exact hN _ _ ⟨l7,zX t1 t2 t3 t4 t5 l6,rfl,gA,ac,rfl,vq ((((((g2.trans g3).trans g4).trans g5).trans g6).trans g7) t1 _ ac) (((((g3.trans g4).trans g5).trans g6).trans g7) t2 _ ac) ((((g4.trans g5).trans g6).trans g7) t3 _ ac) (((g5.trans g6).trans g7) t4 _ ac) ((g6.trans g7) t5 _ ac) (g7 l6 _ ac)⟩
 rintro σ H1 ⟨l,L,rfl,gA,el,l8,bad⟩
 try dsimp only [bG,bM]
 refine cut (fun σ H' => ∃ (l : Addr) (L : List V),σ = [some (.int c),some (.ref l)] /\ aB H H' /\ H' l = some (.lst L) /\ L.length = 16 /\ ∀ v ∈ L,cp K H' v) (fun N hN => ?_) ?_
 ·refine ⟨_,rfl,(by show 2 <= sizeLine; decide),fun t1 n1 => ⟨(by show 3 <= sizeLine; decide),fun t2 n2 => ⟨(by show 1 <= sizeLine; decide),fun t3 n3 => ⟨(by show 0 <= sizeLine; decide),fun t4 n4 => ⟨(by show 2 <= sizeLine; decide),fun t5 n5 => ⟨(by show 8 <= sizeLine; decide),fun l7 n7 => ?_⟩⟩⟩⟩⟩⟩
  have g1 := ae n1 (.tup [.bl true,.int 2])
  have g2 := ae n2 (.tup [.int 1,.int 2,.int 3])
  have g3 := ae n3 (.tup [.int 1])
  have g4 := ae n4 (.tup [])
  have g5 := ae n5 (.tup [.int 1,.bl true])
  have g7 := ae n7 (.lst (zY t1 t2 t3 t4 t5))
  have gB := ((((g1.trans g2).trans g3).trans g4).trans g5).trans g7
  have bB := vr (K := K) (((((g2.trans g3).trans g4).trans g5).trans g7) t1 _ ac) ((((g3.trans g4).trans g5).trans g7) t2 _ ac) (((g4.trans g5).trans g7) t3 _ ac) ((g5.trans g7) t4 _ ac) (g7 t5 _ ac)
  refine ⟨l,l7,_,_,rfl,rfl,gB _ _ el,ac,by rw [l8]; show 8 + 8 <= sizeLine; decide,fun l9 n9 => ?_⟩
  have g9 := ae n9 (.lst (L ++ zY t1 t2 t3 t4 t5))
  refine hN _ _ ⟨l9,_,rfl,(gA.trans gB).trans g9,ac,by rw [B8,l8]; rfl,fun v hv => ?_⟩
  rcases BN.mp hv with z | z
  ·exact (bad v z).same (gB.trans g9)
  ·exact (bB v z).same g9
 clear el l8 bad gA
 rintro σ H1 ⟨l,L,rfl,gA,el,l16,bad⟩
 obtain ⟨v,hv,ev⟩ := nW (xs := L) i0 (by rw [l16]; exact i1)
 exact ⟨_,rfl,_,rfl,_,_,rfl,rfl,(by show (16 : Int) ≠ 0; decide),l,_,_,_,rfl,rfl,bv.of el,ev,q v _ gA (bad v hv)⟩
theorem zA : ax ["_law_cell"] ["_law_cell"] (ap ud) := ⟨rfl,rfl,rfl,by decide +kernel,rfl,by decide +kernel,by decide +kernel⟩
set_option maxHeartbeats 4000000 in
theorem zB {dV : Value} (F : bz K "_law_no_name" "_law_no_name" ud dV f fd) (B : Bn K mg c_EmptyHeap c_InRing c_Larder c_NoAmount c_NoDish c_NoName c_NoNet c_NoNumber c_NoPack c_NoPlan c_NoRow c_NoStand c_NoStandIn c_NoStep c_StoveError c_TooFew c_TooMany c_Twice f_Z15 f_Z16 f_Z17 f_Z18 f_Z19 f_Z20 f_Z21 f_Z23 f_Z24)  : aZ P w K mg base bg 1 f fd ["_law_cell"] (gH K) := by
 have sc := zA
 refine F.ok sc (fun vs H Q E h => ?_) (fun cdv A outer s H vs Q E hr h => ?_)
 ·obtain ⟨c,rfl,_⟩ := h
  rfl
 obtain ⟨c,rfl,q⟩ := h
 obtain ⟨e1,p1,p2,p3,p4,p5,j1,he1,hb⟩ : ∃ (e1 : Expr) (p1 p2 p3 p4 p5 : Pos) (j1 : _),(∀ X : Cx,PE X e1 (iy AO)) /\ bN ud = [.Return (some (.Subscript e1 (.BinOp (.Name "_law_cell" p1) .Mod (.Constant (.int 12) j1 p2) p3) p4)) p5] := ⟨_,_,_,_,_,_,_,fun X => @yE X _ _ _ _ _ _ _ _ _ _ _ _ _ _ _ _ _ _ _ _ _ _ _ _ _ _ _ _,rfl⟩
 rw [hb]
 refine ⟨_,(ak (aG (bh bK (he1 _) (au aS (pv 0) am) (fun _ _ => rfl)))),?_⟩
 have i0 := BJ c (show (0 : Int) < 12 by decide)
 have i1 := BS c (show (0 : Int) < 12 by decide)
 refine ⟨(by show 1 <= sizeLine; decide),fun l1 n1 => ⟨(by show 1 <= sizeLine; decide),fun t1 m1 => ⟨(by show 12 <= sizeLine; decide),fun l2 n2 => ?_⟩⟩⟩
 have g1 := ae n1 (.lst [.str "a"])
 have g2 := ae m1 (.tup [.str "a"])
 have e1 := g2 _ _ (show aq H l1 (.lst [.str "a"]) l1 = some (.lst [.str "a"]) from ac)
 have e2 : aq (aq H l1 (.lst [.str "a"])) t1 (.tup [.str "a"]) t1 = some (.tup [.str "a"]) := ac
 have gA := g1.trans g2
 generalize aq (aq H l1 (.lst [.str "a"])) t1 (.tup [.str "a"]) = H1 at n2 gA e1 e2 ⊢
 have g3 := ae n2 (.lst (zZ l1 t1))
 obtain ⟨v,hv,ev⟩ := nW (xs := zZ l1 t1) i0 (by show c.fmod 12 < ((12 : Nat) : Int); exact i1)
 obtain ⟨ho,hn⟩ := vt (K := K) (g3 _ _ e1) (g3 _ _ e2) v hv
 exact ⟨_,rfl,_,_,rfl,rfl,(by show (12 : Int) ≠ 0; decide),l2,_,_,v,rfl,rfl,bv.of ac,ev,q v _ (gA.trans g3) ho hn⟩
theorem zC : ax ["_law_e"] ["_law_e"] (ap vP) := ⟨rfl,rfl,rfl,by decide +kernel,rfl,by decide +kernel,by decide +kernel⟩
set_option maxHeartbeats 4000000 in
theorem zD {dV : Value} {hd : Option Value} (F : bz K "_law_alone" "_law_alone" vP dV f fd) (B : Bn K mg c_EmptyHeap c_InRing c_Larder c_NoAmount c_NoDish c_NoName c_NoNet c_NoNumber c_NoPack c_NoPlan c_NoRow c_NoStand c_NoStandIn c_NoStep c_StoveError c_TooFew c_TooMany c_Twice f_Z15 f_Z16 f_Z17 f_Z18 f_Z19 f_Z20 f_Z21 f_Z23 f_Z24)  : qG hd P w K mg base 1 f fd ["_law_e"] (dJ c_NoName c_NoStand) := by
 have sc := zC
 refine F.okH sc (fun vs H Q E h => ?_) (fun cdv A outer s H vs Q E hr h => ?_)
 ·obtain ⟨a,C,rfl,_⟩ := h
  rfl
 obtain ⟨a,C,rfl,⟨⟨n,e⟩,xd⟩,hC,q⟩ := h
 refine ⟨_,(af (aV (b4 (aC (iU (K := K) rfl) rfl B.b_isinstance boot_isinstance (aa (pv 0) (aa (b6 (aa (bx (v := V.ref c_EmptyHeap) rfl B.m_EmptyHeap rfl) (aa (bx (v := V.ref c_InRing) rfl B.m_InRing rfl) (aa (bx (v := V.ref c_NoAmount) rfl B.m_NoAmount rfl) (aa (bx (v := V.ref c_NoDish) rfl B.m_NoDish rfl) (aa (bx (v := V.ref c_NoNet) rfl B.m_NoNet rfl) (aa (bx (v := V.ref c_NoNumber) rfl B.m_NoNumber rfl) (aa (bx (v := V.ref c_NoPack) rfl B.m_NoPack rfl) (aa (bx (v := V.ref c_NoPlan) rfl B.m_NoPlan rfl) (aa (bx (v := V.ref c_NoRow) rfl B.m_NoRow rfl) ag)))))))))) ag)))) (ak (aG bY)) aM) (ak (aG (dP (aC (eX (K := K) rfl) rfl B.b_isinstance boot_isinstance (aa (pv 0) (aa (bx (v := V.ref c_StoveError) rfl B.m_StoveError rfl) ag))) (dO (gb (aC (iU (K := K) rfl) rfl B.b_isinstance boot_isinstance (aa (pv 0) (aa (b6 (aa (bx (v := V.ref c_NoStandIn) rfl B.m_NoStandIn rfl) (aa (bx (v := V.ref c_NoStep) rfl B.m_NoStep rfl) (aa (bx (v := V.ref c_TooFew) rfl B.m_TooFew rfl) (aa (bx (v := V.ref c_TooMany) rfl B.m_TooMany rfl) (aa (bx (v := V.ref c_Twice) rfl B.m_Twice rfl) ag)))))) ag))))))))),?_⟩
 rcases hC with rfl | rfl
 ·skip
  refine ⟨_,rfl,(by show 9 <= sizeLine; decide),fun t1 n1 => ?_⟩
  have g1 := ae n1 (.tup [.ref c_EmptyHeap,.ref c_InRing,.ref c_NoAmount,.ref c_NoDish,.ref c_NoNet,.ref c_NoNumber,.ref c_NoPack,.ref c_NoPlan,.ref c_NoRow])
  refine ⟨a,_,none,t1,[c_EmptyHeap,c_InRing,c_NoAmount,c_NoDish,c_NoNet,c_NoNumber,c_NoPack,c_NoPlan,c_NoRow],false,rfl,⟨n,g1 _ _ e⟩,trivial,B.i_NoName,ac,B.ka_NoName_1,_,rfl,bX ?_⟩
  refine ⟨_,rfl,a,_,none,_,true,rfl,⟨n,g1 _ _ e⟩,trivial,B.i_NoName,.own B.k_NoName_StoveError,true,rfl,bI ?_⟩
  refine ⟨_,rfl,(by show 5 <= sizeLine; decide),fun t2 n2 => ?_⟩
  have g2 := g1.trans (ae n2 (.tup [.ref c_NoStandIn,.ref c_NoStep,.ref c_TooFew,.ref c_TooMany,.ref c_Twice]))
  refine ⟨a,_,none,t2,[c_NoStandIn,c_NoStep,c_TooFew,c_TooMany,c_Twice],false,rfl,⟨n,g2 _ _ e⟩,trivial,B.i_NoName,ac,B.ka_NoName_2,_,rfl,q _ g2⟩
 ·skip
  refine ⟨_,rfl,(by show 9 <= sizeLine; decide),fun t1 n1 => ?_⟩
  have g1 := ae n1 (.tup [.ref c_EmptyHeap,.ref c_InRing,.ref c_NoAmount,.ref c_NoDish,.ref c_NoNet,.ref c_NoNumber,.ref c_NoPack,.ref c_NoPlan,.ref c_NoRow])
  refine ⟨a,_,none,t1,[c_EmptyHeap,c_InRing,c_NoAmount,c_NoDish,c_NoNet,c_NoNumber,c_NoPack,c_NoPlan,c_NoRow],false,rfl,⟨n,g1 _ _ e⟩,trivial,B.i_NoStand,ac,B.ka_NoStand_1,_,rfl,bX ?_⟩
  refine ⟨_,rfl,a,_,none,_,true,rfl,⟨n,g1 _ _ e⟩,trivial,B.i_NoStand,.own B.k_NoStand_StoveError,true,rfl,bI ?_⟩
  refine ⟨_,rfl,(by show 5 <= sizeLine; decide),fun t2 n2 => ?_⟩
  have g2 := g1.trans (ae n2 (.tup [.ref c_NoStandIn,.ref c_NoStep,.ref c_TooFew,.ref c_TooMany,.ref c_Twice]))
  refine ⟨a,_,none,t2,[c_NoStandIn,c_NoStep,c_TooFew,c_TooMany,c_Twice],false,rfl,⟨n,g2 _ _ e⟩,trivial,B.i_NoStand,ac,B.ka_NoStand_2,_,rfl,q _ g2⟩
theorem zE : ax ["_law_larder","_law_way","_law_odd","_law_e"] ["_law_larder","_law_way","_law_odd"] (ap vQ) := ⟨rfl,rfl,rfl,by decide +kernel,rfl,by decide +kernel,by decide +kernel⟩
set_option maxHeartbeats 4000000 in
theorem zF {dV : Value} (F : bz K "_law_handed" "_law_handed" vQ dV f fd) (B : Bn K mg c_EmptyHeap c_InRing c_Larder c_NoAmount c_NoDish c_NoName c_NoNet c_NoNumber c_NoPack c_NoPlan c_NoRow c_NoStand c_NoStandIn c_NoStep c_StoveError c_TooFew c_TooMany c_Twice f_Z15 f_Z16 f_Z17 f_Z18 f_Z19 f_Z20 f_Z21 f_Z23 f_Z24) (XZ18 : du P w K mg base (cA P w) 3 f_Z18 ["self","good"] [] (io K c_Larder c_NoName)) (XZ19 : du P w K mg base (cA P w) 3 f_Z19 ["self","good"] [] (dI K c_Larder c_NoName)) (XZ20 : du P w K mg base (cA P w) 3 f_Z20 ["self","good"] [] (lh K c_Larder c_NoName)) (XZ21 : du P w K mg base (cA P w) 3 f_Z21 ["self","good"] [] (f8 K c_Larder c_NoName)) (XZ24 : du P w K mg base (cA P w) 5 f_Z24 ["self","good"] [] (mV K c_Larder c_NoName c_NoStandIn)) (HZ31 : ∀ hd,ue hd P w K mg base 1 "_law_alone" ["_law_e"] (dJ c_NoName c_NoStand)) : aZ P w K mg base bg 6 f fd ["_law_larder","_law_way","_law_odd"] (fG K c_Larder) := by
 have sc := zE
 refine F.ok sc (fun vs H Q E h => ?_) (fun cdv A outer s H vs Q E hr h => ?_)
 ·obtain ⟨x,w,v,F0,m,g,bs,ns,vw,U,rfl,_⟩ := h
  rfl
 obtain ⟨x,w,v,F1,m,g,bs,ns,vw,U,rfl,lb,m200,b10,nd,n79,ra,hU,u17,od,nn,q⟩ := h
 refine ⟨_,(af (nN rfl rfl (fun pins E => (ak (aV (aA cf (pv 1) am (aE _)) (ak (aU (d5 (K := K) rfl XZ20 hr (by decide) (pv 0) (aa (pv 2) ag)))) (ak (aV (aA cf (pv 1) am (aE _)) (ak (aU (d5 (K := K) rfl XZ21 hr (by decide) (pv 0) (aa (pv 2) ag)))) (ak (aV (aA cf (pv 1) am (aE _)) (ak (aU (d5 (K := K) rfl XZ18 hr (by decide) (pv 0) (aa (pv 2) ag)))) (ak (aV (aA cf (pv 1) am (aE _)) (ak (aU (d5 (K := K) rfl XZ19 hr (by decide) (pv 0) (aa (pv 2) ag)))) (ak (aU (d5 (K := K) rfl XZ24 hr (by decide) (pv 0) (aa (pv 2) ag))))))))))))) (nP B.t_NoName rfl B.m_NoName sc.nd (i := 3) rfl rfl (fun pins a => (ak (aG (dP (iN (j := 5) (HZ31 (some (.ref a))) (hr.suite _) (by decide) rfl (aa (pv 3) ag)) (dO (gb (aC (eX (K := K) rfl) rfl B.b_isinstance boot_isinstance (aa (pv 3) (aa (bx (v := V.ref c_NoStand) rfl B.m_NoStand rfl) ag))))))))) nO)) (ak (aG bY))),?_⟩
 obtain ⟨dx,s,b,fs,dk,ex,es,eb,bd,hb,fm,sF,bF,pb⟩ := lb.at_
 refine ⟨_,rfl,rfl,_,rfl,d2 (fun _ => ?_) (fun _ => ⟨_,rfl,rfl,_,rfl,d2 (fun _ => ?_) (fun _ => ⟨_,rfl,rfl,_,rfl,d2 (fun _ => ?_) (fun _ => ⟨_,rfl,rfl,_,rfl,d2 (fun _ => ?_) (fun _ => ?_)⟩)⟩)⟩)⟩
 ·exact ⟨_,rfl,x,_,dx,_,rfl,ex,B.cl_Larder,B.me_Z20,fm _ (by decide),_,rfl,x,v,F1,[],m,g,bs,ns,rfl,lb,by omega,nd,n79,.inr od,fun _ => fun H1 g1 a na => ⟨c_NoName,true,rfl,B.s_NoName_NoName,bI ⟨_,rfl,a,c_NoName,rfl,⟨⟨_,ac⟩,trivial⟩,.inl rfl,fun H2 g2 => ⟨true,rfl,bI ⟨_,rfl,a,_,none,_,false,rfl,⟨_,g2 _ _ ac⟩,trivial,B.i_NoName,.own B.k_NoName_NoStand,_,rfl,q _ ((g1.trans (ae na _)).trans g2)⟩⟩⟩⟩,fun z ez mz => absurd ⟨z,ez,mz⟩ nn⟩
 ·exact ⟨_,rfl,x,_,dx,_,rfl,ex,B.cl_Larder,B.me_Z21,fm _ (by decide),_,rfl,x,v,F1,[],m,g,bs,ns,rfl,lb,.inr od,fun _ => fun H1 g1 a na => ⟨c_NoName,true,rfl,B.s_NoName_NoName,bI ⟨_,rfl,a,c_NoName,rfl,⟨⟨_,ac⟩,trivial⟩,.inl rfl,fun H2 g2 => ⟨true,rfl,bI ⟨_,rfl,a,_,none,_,false,rfl,⟨_,g2 _ _ ac⟩,trivial,B.i_NoName,.own B.k_NoName_NoStand,_,rfl,q _ ((g1.trans (ae na _)).trans g2)⟩⟩⟩⟩,fun z ez mz => absurd ⟨z,ez,mz⟩ nn⟩
 ·exact ⟨_,rfl,x,_,dx,_,rfl,ex,B.cl_Larder,B.me_Z18,fm _ (by decide),_,rfl,x,v,F1,[],m,g,bs,ns,[],rfl,lb,bO.nil,by simp,.inr od,fun _ => fun H1 g1 a na => ⟨c_NoName,true,rfl,B.s_NoName_NoName,bI ⟨_,rfl,a,c_NoName,rfl,⟨⟨_,ac⟩,trivial⟩,.inl rfl,fun H2 g2 => ⟨true,rfl,bI ⟨_,rfl,a,_,none,_,false,rfl,⟨_,g2 _ _ ac⟩,trivial,B.i_NoName,.own B.k_NoName_NoStand,_,rfl,q _ ((g1.trans (ae na _)).trans g2)⟩⟩⟩⟩,fun z ez mz => absurd ⟨z,ez,mz⟩ nn⟩
 ·exact ⟨_,rfl,x,_,dx,_,rfl,ex,B.cl_Larder,B.me_Z19,fm _ (by decide),_,rfl,x,v,F1,[],m,g,bs,ns,[],rfl,lb,bO.nil,by simp,b10,.inr od,fun _ => fun H1 g1 a na => ⟨c_NoName,true,rfl,B.s_NoName_NoName,bI ⟨_,rfl,a,c_NoName,rfl,⟨⟨_,ac⟩,trivial⟩,.inl rfl,fun H2 g2 => ⟨true,rfl,bI ⟨_,rfl,a,_,none,_,false,rfl,⟨_,g2 _ _ ac⟩,trivial,B.i_NoName,.own B.k_NoName_NoStand,_,rfl,q _ ((g1.trans (ae na _)).trans g2)⟩⟩⟩⟩,fun z ez mz => absurd ⟨z,ez,mz⟩ nn⟩
 ·exact ⟨_,rfl,x,_,dx,_,rfl,ex,B.cl_Larder,B.me_Z24,fm _ (by decide),_,rfl,x,v,F1,[],m,g,bs,ns,[],vw,U,vd vw,rfl,lb,m200,bO.nil,by simp,b10,.inr od,ra,hU,u17,fun z ez => oC _ _,fun c p q y t r s h1 h2 h3 => k9 h1 h3,fun _ => fun H1 g1 a na => ⟨c_NoName,true,rfl,B.s_NoName_NoName,bI ⟨_,rfl,a,c_NoName,rfl,⟨⟨_,ac⟩,trivial⟩,.inl rfl,fun H2 g2 => ⟨true,rfl,bI ⟨_,rfl,a,_,none,_,false,rfl,⟨_,g2 _ _ ac⟩,trivial,B.i_NoName,.own B.k_NoName_NoStand,_,rfl,q _ ((g1.trans (ae na _)).trans g2)⟩⟩⟩⟩,fun z ez mz => absurd ⟨z,ez,mz⟩ nn⟩
theorem zG : ax ["_law_larder","_law_one","_law_other","_law_ratio_here","_law_bare","_law_told_here","_law_e"] ["_law_larder","_law_one","_law_other","_law_ratio_here","_law_bare"] (ap vR) := ⟨rfl,rfl,rfl,by decide +kernel,rfl,by decide +kernel,by decide +kernel⟩
set_option maxHeartbeats 4000000 in
theorem zH {dV : Value} (F : bz K "_law_told" "_law_told" vR dV f fd) (B : Bn K mg c_EmptyHeap c_InRing c_Larder c_NoAmount c_NoDish c_NoName c_NoNet c_NoNumber c_NoPack c_NoPlan c_NoRow c_NoStand c_NoStandIn c_NoStep c_StoveError c_TooFew c_TooMany c_Twice f_Z15 f_Z16 f_Z17 f_Z18 f_Z19 f_Z20 f_Z21 f_Z23 f_Z24) (XZ23 : du P w K mg base (cA P w) 3 f_Z23 ["self","good","other","ratio"] [.non] (jb K c_Larder c_NoName c_NoStand)) (HZ31 : ∀ hd,ue hd P w K mg base 1 "_law_alone" ["_law_e"] (dJ c_NoName c_NoStand)) : aZ P w K mg base bg 6 f fd ["_law_larder","_law_one","_law_other","_law_ratio_here","_law_bare"] (jd K c_Larder) := by
 have sc := zG
 refine F.ok sc (fun vs H Q E h => ?_) (fun cdv A outer s H vs Q E hr h => ?_)
 ·obtain ⟨x,v,w,r,b,F0,m,g,bs,ns,rfl,_⟩ := h
  rfl
 obtain ⟨x,v,w,r,b,F1,m,g,bs,ns,rfl,lb,m1000,nd,n78,hv,hw,hr0,qN,qq⟩ := h
 refine ⟨_,(af (ay (i := 5) sc.nd rfl (Or.inl rfl) bZ) (af (nN rfl rfl (fun pins E => (ak (aV (PW.pt (rN (b4 (pv 4)) (oU (aA iu (pv 3) bZ (aE _))))) (ak (ay (i := 5) sc.nd rfl (Or.inl rfl) (tM (K := K) rfl XZ23 hr (by decide) (pv 0) (aa (pv 1) (aa (pv 2) ag))))) (ak (ay (i := 5) sc.nd rfl (Or.inl rfl) (d5 (K := K) rfl XZ23 hr (by decide) (pv 0) (aa (pv 1) (aa (pv 2) (aa (pv 3) ag))))))))) (nP B.t_NoName rfl B.m_NoName sc.nd (i := 6) rfl rfl (fun pins a => (ak (aG (bh (mU (K := K) rfl) (bj (aa bL (aa bL ag))) (eV eQ rfl B.b_int boot_int (aa (dP (iN (j := 5) (HZ31 (some (.ref a))) (hr.suite _) (by decide) rfl (aa (pv 6) ag)) (dO (gb (aC (eX (K := K) rfl) rfl B.b_isinstance boot_isinstance (aa (pv 6) (aa (bx (v := V.ref c_NoStand) rfl B.m_NoStand rfl) ag)))))) ag)) (fun _ _ => rfl))))) (nP B.t_NoStand rfl B.m_NoStand sc.nd (i := 6) rfl rfl (fun pins a => (ak (aG (bh (mU (K := K) rfl) (bj (aa bL (aa bL ag))) (eV eQ rfl B.b_int boot_int (aa (dP (iN (j := 5) (HZ31 (some (.ref a))) (hr.suite _) (by decide) rfl (aa (pv 6) ag)) (dO (gb (aC (eX (K := K) rfl) rfl B.b_isinstance boot_isinstance (aa (pv 6) (aa (bx (v := V.ref c_NoName) rfl B.m_NoName rfl) ag)))))) ag)) (fun _ _ => rfl))))) nO))) (ak (aG (bh bK (bj (aa bL (aa bL ag))) (eV eQ rfl B.b_int boot_int (aa (bV iu (pv 5) bZ (aE _)) ag)) (fun _ _ => rfl)))))),?_⟩
 obtain ⟨dx,s,b',fs,dk,ex,es,eb,bd,hb,fm,sF,bF,pb⟩ := lb.at_
 refine ⟨_,rfl,b,rfl,?_⟩
 cases b with
 | true =>
  refine bI ⟨_,rfl,rfl,_,rfl,d2 (fun e => ?_) (fun e => ?_)⟩
  ·subst e
   exact ⟨_,rfl,x,_,dx,_,rfl,ex,B.cl_Larder,B.me_Z23,fm _ (by decide),_,rfl,_,rfl,x,v,w,_,F1,[],m,g,bs,ns,rfl,lb,m1000,nd,n78,hv,hw,hr0,(fun n => fun H1 g1 a na => ⟨c_NoName,true,rfl,B.s_NoName_NoName,bI ⟨(by show 2 <= sizeLine; decide),fun l nl => ⟨_,rfl,a,c_NoName,rfl,⟨⟨_,ae nl _ _ _ ac⟩,trivial⟩,.inl rfl,fun H2 g2 => ⟨true,rfl,bI ⟨_,rfl,a,_,none,_,false,rfl,⟨_,g2 _ _ (ae nl _ _ _ ac)⟩,trivial,B.i_NoName,.own B.k_NoName_NoStand,_,rfl,_,rfl,l,_,_,_,rfl,rfl,bv.of (g2 _ _ ac),rfl,qN n _ (((g1.trans (ae na _)).trans (ae nl _)).trans g2)⟩⟩⟩⟩⟩),fun zg zo e1 e2 n1 n2 => ⟨fun z => fun H1 g1 a na => ⟨c_NoStand,false,rfl,B.s_NoStand_NoName,bX ⟨c_NoStand,true,rfl,B.s_NoStand_NoStand,bI ⟨(by show 2 <= sizeLine; decide),fun l nl => ⟨_,rfl,a,c_NoStand,rfl,⟨⟨_,ae nl _ _ _ ac⟩,trivial⟩,.inr rfl,fun H2 g2 => ⟨true,rfl,bI ⟨_,rfl,a,_,none,_,false,rfl,⟨_,g2 _ _ (ae nl _ _ _ ac)⟩,trivial,B.i_NoStand,.own B.k_NoStand_NoName,_,rfl,_,rfl,l,_,_,_,rfl,rfl,bv.of (g2 _ _ ac),rfl,(qq zg zo e1 e2 n1 n2).1 z _ (((g1.trans (ae na _)).trans (ae nl _)).trans g2)⟩⟩⟩⟩⟩⟩,fun ne ns' p q ok F' H1 ms t k1 k2 k3 k4 _ k5 k6 => ⟨(by show 2 <= sizeLine; decide),fun l nl => ⟨_,rfl,rfl,_,rfl,l,_,_,_,rfl,rfl,bv.of ac,rfl,(qq zg zo e1 e2 n1 n2).2 ne ns' p q ok F' _ ms t (KF.trans k1 (KF.of (ae nl _))) k2 (k3.same (ae nl _)) (ae nl _ _ _ k4) k5 k6⟩⟩⟩⟩
  ·exact ⟨_,rfl,x,_,dx,_,rfl,ex,B.cl_Larder,B.me_Z23,fm _ (by decide),_,rfl,_,rfl,_,rfl,x,v,w,_,F1,[],m,g,bs,ns,rfl,lb,m1000,nd,n78,hv,hw,hr0,(fun n => fun H1 g1 a na => ⟨c_NoName,true,rfl,B.s_NoName_NoName,bI ⟨(by show 2 <= sizeLine; decide),fun l nl => ⟨_,rfl,a,c_NoName,rfl,⟨⟨_,ae nl _ _ _ ac⟩,trivial⟩,.inl rfl,fun H2 g2 => ⟨true,rfl,bI ⟨_,rfl,a,_,none,_,false,rfl,⟨_,g2 _ _ (ae nl _ _ _ ac)⟩,trivial,B.i_NoName,.own B.k_NoName_NoStand,_,rfl,_,rfl,l,_,_,_,rfl,rfl,bv.of (g2 _ _ ac),rfl,qN n _ (((g1.trans (ae na _)).trans (ae nl _)).trans g2)⟩⟩⟩⟩⟩),fun zg zo e1 e2 n1 n2 => ⟨fun z => fun H1 g1 a na => ⟨c_NoStand,false,rfl,B.s_NoStand_NoName,bX ⟨c_NoStand,true,rfl,B.s_NoStand_NoStand,bI ⟨(by show 2 <= sizeLine; decide),fun l nl => ⟨_,rfl,a,c_NoStand,rfl,⟨⟨_,ae nl _ _ _ ac⟩,trivial⟩,.inr rfl,fun H2 g2 => ⟨true,rfl,bI ⟨_,rfl,a,_,none,_,false,rfl,⟨_,g2 _ _ (ae nl _ _ _ ac)⟩,trivial,B.i_NoStand,.own B.k_NoStand_NoName,_,rfl,_,rfl,l,_,_,_,rfl,rfl,bv.of (g2 _ _ ac),rfl,(qq zg zo e1 e2 n1 n2).1 z _ (((g1.trans (ae na _)).trans (ae nl _)).trans g2)⟩⟩⟩⟩⟩⟩,fun ne ns' p q ok F' H1 ms t k1 k2 k3 k4 _ k5 k6 => ⟨(by show 2 <= sizeLine; decide),fun l nl => ⟨_,rfl,rfl,_,rfl,l,_,_,_,rfl,rfl,bv.of ac,rfl,(qq zg zo e1 e2 n1 n2).2 ne ns' p q ok F' _ ms t (KF.trans k1 (KF.of (ae nl _))) k2 (k3.same (ae nl _)) (ae nl _ _ _ k4) k5 k6⟩⟩⟩⟩
 | false =>
  refine bX ?_
  exact ⟨_,rfl,x,_,dx,_,rfl,ex,B.cl_Larder,B.me_Z23,fm _ (by decide),_,rfl,_,rfl,_,rfl,x,v,w,_,F1,[],m,g,bs,ns,rfl,lb,m1000,nd,n78,hv,hw,hr0,(fun n => fun H1 g1 a na => ⟨c_NoName,true,rfl,B.s_NoName_NoName,bI ⟨(by show 2 <= sizeLine; decide),fun l nl => ⟨_,rfl,a,c_NoName,rfl,⟨⟨_,ae nl _ _ _ ac⟩,trivial⟩,.inl rfl,fun H2 g2 => ⟨true,rfl,bI ⟨_,rfl,a,_,none,_,false,rfl,⟨_,g2 _ _ (ae nl _ _ _ ac)⟩,trivial,B.i_NoName,.own B.k_NoName_NoStand,_,rfl,_,rfl,l,_,_,_,rfl,rfl,bv.of (g2 _ _ ac),rfl,qN n _ (((g1.trans (ae na _)).trans (ae nl _)).trans g2)⟩⟩⟩⟩⟩),fun zg zo e1 e2 n1 n2 => ⟨fun z => fun H1 g1 a na => ⟨c_NoStand,false,rfl,B.s_NoStand_NoName,bX ⟨c_NoStand,true,rfl,B.s_NoStand_NoStand,bI ⟨(by show 2 <= sizeLine; decide),fun l nl => ⟨_,rfl,a,c_NoStand,rfl,⟨⟨_,ae nl _ _ _ ac⟩,trivial⟩,.inr rfl,fun H2 g2 => ⟨true,rfl,bI ⟨_,rfl,a,_,none,_,false,rfl,⟨_,g2 _ _ (ae nl _ _ _ ac)⟩,trivial,B.i_NoStand,.own B.k_NoStand_NoName,_,rfl,_,rfl,l,_,_,_,rfl,rfl,bv.of (g2 _ _ ac),rfl,(qq zg zo e1 e2 n1 n2).1 z _ (((g1.trans (ae na _)).trans (ae nl _)).trans g2)⟩⟩⟩⟩⟩⟩,fun ne ns' p q ok F' H1 ms t k1 k2 k3 k4 _ k5 k6 => ⟨(by show 2 <= sizeLine; decide),fun l nl => ⟨_,rfl,rfl,_,rfl,l,_,_,_,rfl,rfl,bv.of ac,rfl,(qq zg zo e1 e2 n1 n2).2 ne ns' p q ok F' _ ms t (KF.trans k1 (KF.of (ae nl _))) k2 (k3.same (ae nl _)) (ae nl _ _ _ k4) k5 k6⟩⟩⟩⟩
theorem zI : ax ["_law_larder","_law_stands","_law_names_here","_law_cell","_law_one","_law_other","_law_ratio_here","_law_right","_law_way","_law_bare","_law_odd"] ["_law_larder","_law_stands","_law_names_here","_law_cell"] (ap vS) := ⟨rfl,rfl,rfl,by decide +kernel,rfl,by decide +kernel,by decide +kernel⟩
set_option maxHeartbeats 4000000 in
theorem zJ {dV : Value} (F : bz K "_law_deed" "_law_deed" vS dV f fd) (B : Bn K mg c_EmptyHeap c_InRing c_Larder c_NoAmount c_NoDish c_NoName c_NoNet c_NoNumber c_NoPack c_NoPlan c_NoRow c_NoStand c_NoStandIn c_NoStep c_StoveError c_TooFew c_TooMany c_Twice f_Z15 f_Z16 f_Z17 f_Z18 f_Z19 f_Z20 f_Z21 f_Z23 f_Z24) (DZ28 : Dx P w K mg base bg 2 "_law_ratio" ["_law_cell"] [] gG) (DZ29 : Dx P w K mg base bg 1 "_law_odd_ratio" ["_law_cell"] [] (fF K)) (DZ30 : Dx P w K mg base bg 1 "_law_no_name" ["_law_cell"] [] (gH K)) (DZ32 : Dx P w K mg base bg 6 "_law_handed" ["_law_larder","_law_way","_law_odd"] [] (fG K c_Larder)) (DZ33 : Dx P w K mg base bg 6 "_law_told" ["_law_larder","_law_one","_law_other","_law_ratio_here","_law_bare"] [] (jd K c_Larder)) : aZ P w K mg base bg 7 f fd ["_law_larder","_law_stands","_law_names_here","_law_cell"] (lA K c_Larder) := by
 have sc := zI
 refine F.ok sc (fun vs H Q E h => ?_) (fun cdv A outer s H vs Q E hr h => ?_)
 ·obtain ⟨x,d,l,c,nm,n,rfl,_⟩ := h
  rfl
 obtain ⟨x,d,l,c,nm,n,rfl,⟨F1,m,g,ns,es,vw,s9⟩,el,n2,n6,nmz,n50,q⟩ := h
 refine ⟨_,(af (ay (i := 4) sc.nd rfl (Or.inl rfl) (bh bK (pv 2) (au aS (au bc (pv 3) am) (aC bC rfl B.b_len boot_len (aa (pv 2) ag))) (fun _ _ => rfl))) (af (ay (i := 5) sc.nd rfl (Or.inl rfl) (bh bK (pv 2) (au aS (au bc (au bc (pv 3) am) (aC bC rfl B.b_len boot_len (aa (pv 2) ag))) (aC bC rfl B.b_len boot_len (aa (pv 2) ag))) (fun _ _ => rfl))) (af (ay (i := 6) sc.nd rfl (Or.inl rfl) bZ) (af (ay (i := 7) sc.nd rfl (Or.inl rfl) (dP (bV oZ (pv 4) (pv 5) (aE _)) (dO (wk (eW (cu hr) (b6 (aa (pv 4) (aa (pv 5) ag))) (pv 1)) (by with_unfolding_all rfl))))) (af (ay (i := 8) sc.nd rfl (Or.inl rfl) (au aS (au bc (pv 3) am) am)) (af (aV (aA cf (pv 8) am (aE _)) (af (ay (i := 6) sc.nd rfl (Or.inl rfl) (aY DZ29 hr (by decide) rfl (aa (au bc (pv 3) am) ag))) (ak (ay (i := 7) sc.nd rfl (Or.inl rfl) bY))) (ak (aV (aA ir (pv 8) am (aE _)) (ak (ay (i := 6) sc.nd rfl (Or.inl rfl) (aY DZ28 hr (by decide) rfl (aa (au aS (pv 3) (au hW am am)) ag)))) aM))) (af (ay (i := 9) sc.nd rfl (Or.inl rfl) (bV cf (au aS (au bc (pv 3) am) am) am (aE _))) (af (aV (aA cf (au aS (pv 3) am) am (aE _)) (af (ay (i := 10) sc.nd rfl (Or.inl rfl) (aY DZ30 hr (by decide) rfl (aa (au bc (pv 3) am) ag))) (af (aV (aA ir (au aS (au bc (pv 3) am) am) am (aE _)) (ak (aG (aY DZ32 hr (by decide) rfl (aa (pv 0) (aa (au ww (au aS (au bc (pv 3) am) am) am) (aa (pv 10) ag)))))) aM) (af (aV (aA cf (au aS (au bc (pv 3) am) am) am (aE _)) (ak (aG (bV cf (aY DZ33 hr (by decide) rfl (aa (pv 0) (aa (pv 10) (aa (pv 5) (aa (pv 6) (aa (pv 9) ag)))))) bL (aE _)))) aM) (ak (aG (bV cf (aY DZ33 hr (by decide) rfl (aa (pv 0) (aa (pv 4) (aa (pv 10) (aa (pv 6) (aa (pv 9) ag)))))) bL (aE _))))))) aM) (af (aV (cx (b4 (pv 7))) (ak (aG (bV cf (aY DZ33 hr (by decide) rfl (aa (pv 0) (aa (pv 4) (aa (pv 5) (aa (pv 6) (aa (pv 9) ag)))))) bL (aE _)))) aM) (af (dU (cu hr) (pv 1) (b6 (aa (pv 4) (aa (pv 5) ag))) (pv 6) rfl) (af (aV (aA iu (pv 6) bZ (aE _)) (ak (dU (cu hr) (pv 1) (b6 (aa (pv 4) (aa (pv 5) ag))) (b6 (aa am (aa am ag))) rfl)) aM) (ak (aG (bV cf (aY DZ33 hr (by decide) rfl (aa (pv 0) (aa (pv 4) (aa (pv 5) (aa (pv 6) (aa (pv 9) ag)))))) bL (aE _))))))))))))))),?_⟩
 have qt : ∀ (z : Str) (H3 : Hp),Q (.bl true) H3 -> Q (.bl (decide (V.str z = V.str z))) H3 := fun z H3 h => by rw [decide_eq_true rfl]; exact h
 have ll : (nm.map V.str).length = nm.length := B2 _
 have lp : (0 : Int) < ((nm.map V.str).length : Int) := by omega
 have ln : ((nm.map V.str).length : Int) ≠ 0 := by omega
 have i0 : ∀ e : Int,0 <= e.fmod ((nm.map V.str).length : Int) /\ e.fmod ((nm.map V.str).length : Int) < (nm.length : Int) := fun e => ⟨BJ _ lp,by have := BS e lp; omega⟩
 obtain ⟨a,ea,ain⟩ := mT (i0 (c.fdiv 9)).1 (i0 (c.fdiv 9)).2
 obtain ⟨b,eb,bin⟩ := mT (i0 ((c.fdiv 9).fdiv ((nm.map V.str).length : Int))).1 (i0 ((c.fdiv 9).fdiv ((nm.map V.str).length : Int))).2
 have na := nmz a ain
 have nb := nmz b bin
 refine ⟨_,rfl,_,rfl,_,_,rfl,rfl,⟨by decide,BP (by decide)⟩,_,rfl,l,_,rfl,.inl (bv.of el),_,_,rfl,rfl,ln,l,_,_,_,rfl,rfl,bv.of el,ea,?_⟩
 refine ⟨_,rfl,_,rfl,_,_,rfl,rfl,⟨by decide,BP (by decide)⟩,_,rfl,l,_,rfl,.inl (bv.of el),_,_,rfl,rfl,⟨ln,BP (by omega)⟩,_,rfl,l,_,rfl,.inl (bv.of el),_,_,rfl,rfl,ln,l,_,_,_,rfl,rfl,bv.of el,eb,?_⟩
 try dsimp only [bG,bM]
 refine cut (fun σ H' => σ = [some (.ref x),some (.ref d),some (.ref l),some (.int c),some (.str a),some (.str b),some .non,none,none,none,none] /\ H = H') (fun N hN => hN _ _ ⟨rfl,rfl⟩) ?_
 rintro σ H0 ⟨rfl,rfl⟩
 refine cut (fun σ H' => ∃ r : Bool,σ = [some (.ref x),some (.ref d),some (.ref l),some (.int c),some (.str a),some (.str b),some .non,some (.bl r),none,none,none] /\ aB H H' /\ (r = true ↔ a ≠ b /\ ∀ t,(a,b,t) ∉ es)) (fun N hN => ?_) ?_
 ·refine ⟨_,rfl,_,rfl,rfl,_,rfl,?_⟩
  by_cases ab : a = b
  ·subst ab
   rw [decide_eq_true rfl]
   exact bX (hN _ _ ⟨false,rfl,.refl _,by simp⟩)
  ·rw [decide_eq_false (fun z => ab (by injection z))]
   refine bI ⟨_,rfl,_,rfl,(by show 2 <= sizeLine; decide),fun t0 n0 => ⟨_,rfl,d,_,rfl,cF.t (k := [.inr a,.inr b]) (ae n0 _ _ _ s9.d) ac,?_⟩⟩
   refine hN _ _ ⟨_,rfl,ae n0 _,?_⟩
   cases hv : aK (fH es) [.inr a,.inr b] with
   | none => exact ⟨fun _ => ⟨ab,fun t z => by obtain ⟨t',e',_⟩ := mX z; rw [hv] at e'; cases e'⟩,fun _ => rfl⟩
   | some v =>
    obtain ⟨t,_,z⟩ := ly hv
    exact ⟨nofun,fun w => absurd z (w.2 t)⟩
 rintro σ H1 ⟨r,rfl,g1,hr1⟩
 refine ⟨_,rfl,_,_,rfl,rfl,⟨by decide,BP (by decide)⟩,_,_,rfl,rfl,(by show (5 : Int) ≠ 0; decide),?_⟩
 try dsimp only [bG,bM]
 refine cut (fun σ H' => ∃ (r : Bool) (v : V),σ = [some (.ref x),some (.ref d),some (.ref l),some (.int c),some (.str a),some (.str b),some v,some (.bl r),some (.int ((c.fdiv 5).fmod 5)),none,none] /\ aB H H' /\ ((∃ p q,eh H' v p q) ∨ cp K H' v) /\ (r = true -> (a ≠ b /\ ∀ t,(a,b,t) ∉ es) /\ ∃ p q,eh H' v p q) /\ (r = false -> a = b ∨ fJ g a b ∨ cp K H' v)) (fun N hN => ?_) ?_
 ·have old : r = false -> a = b ∨ fJ g a b := fun z => by
   refine Classical.byContradiction fun w => ?_
   rw [not_or] at w
   have : r = true := hr1.mpr ⟨w.1,fun t z => w.2 ((s9.st a b).mpr ⟨t,z⟩)⟩
   rw [z] at this
   cases this
  refine ⟨_,rfl,rfl,_,rfl,xJ (fun _ => ?_) (fun _ => ⟨_,rfl,_,_,rfl,rfl,_,rfl,d2 (fun _ => ?_) (fun _ => ?_)⟩)⟩
  ·exact ⟨_,rfl,_,_,rfl,rfl,⟨by decide,BP (by decide)⟩,_,rfl,fun v H2 g2 bad => hN _ _ ⟨false,v,rfl,g1.trans g2,.inr bad,nofun,fun _ => .inr (.inr bad)⟩⟩
  ·have w0 := BJ c (show (0 : Int) < 10 ^ 60 by decide)
   have w1 := BS c (show (0 : Int) < 10 ^ 60 by decide)
   refine ⟨_,rfl,_,_,rfl,rfl,⟨by decide,by decide⟩,_,_,rfl,rfl,(by show (10 ^ 60 : Int) ≠ 0; decide),_,rfl,w0,w1,fun p q' p0 lo b1 b2 t H2 g2 et => ?_⟩
   have ok : eh H2 (.ref t) p q' := .inr ⟨t,rfl,et,p0,lo,b1,b2⟩
   exact hN _ _ ⟨r,.ref t,rfl,g1.trans g2,.inl ⟨p,q',ok⟩,fun z => ⟨hr1.mp z,p,q',ok⟩,fun z => (old z).imp id .inl⟩
  ·have ok : eh H1 .non 1 1 := .inl ⟨rfl,rfl,rfl⟩
   exact hN _ _ ⟨r,.non,rfl,g1,.inl ⟨1,1,ok⟩,fun z => ⟨hr1.mp z,1,1,ok⟩,fun z => (old z).imp id .inl⟩
 clear g1 hr1 H1
 rintro σ H1 ⟨r1,v,rfl,g1,hv,hT,hF⟩
 refine ⟨_,rfl,_,_,rfl,rfl,⟨by decide,BP (by decide)⟩,_,_,rfl,rfl,(by show (2 : Int) ≠ 0; decide),rfl,?_⟩
 have sN := s9.same g1
 have lb1 := sN.lb
 try dsimp only [bG,bM]
 refine ⟨_,rfl,_,_,rfl,rfl,(by show (9 : Int) ≠ 0; decide),rfl,_,rfl,xJ (fun _ => ?_) (fun _ => ?_)⟩
 ·refine ⟨_,rfl,_,_,rfl,rfl,⟨by decide,BP (by decide)⟩,_,rfl,fun w H2 g2 od nn => ?_⟩
  have sM := sN.same g2
  have lb2 := sM.lb
  refine ⟨_,rfl,_,_,rfl,rfl,⟨by decide,BP (by decide)⟩,_,_,rfl,rfl,(by show (8 : Int) ≠ 0; decide),_,_,rfl,rfl,_,rfl,d2 (fun _ => ?_) (fun _ => ?_)⟩
  ·exact ⟨_,rfl,_,rfl,_,_,rfl,rfl,⟨by decide,BP (by decide)⟩,_,_,rfl,rfl,(by show (8 : Int) ≠ 0; decide),_,_,rfl,rfl,_,rfl,x,_,w,F1,m,g,[],ns,vw,nm,rfl,lb2,by have := s9.few; omega,by simp,s9.nn,by have := s9.len (by simp); omega,sM.ra,fun a b z => by obtain ⟨t,z⟩ := (s9.st a b).mp z; exact (s9.inn _ _ _ z).2.1,by omega,od,nn,fun H3 g3 => q _ (KN.of ((g1.trans g2).trans g3)) ⟨F1,m,g,ns,es,vw,(sM.same g3).more⟩⟩
  ·have hv2 : (∃ p q,eh H2 v p q) ∨ cp K H2 v := hv.imp (fun ⟨p,q,h⟩ => ⟨p,q,h.same g2⟩) (·.same g2)
   refine ⟨_,rfl,_,_,rfl,rfl,⟨by decide,BP (by decide)⟩,_,_,rfl,rfl,(by show (2 : Int) ≠ 0; decide),rfl,_,rfl,xJ (fun _ => ?_) (fun _ => ?_)⟩
   ·exact ⟨_,rfl,_,rfl,_,rfl,_,rfl,_,rfl,x,w,.str b,v,_,F1,m,g,[],ns,rfl,lb2,by have := s9.few; omega,s9.nn,by have := s9.len (by simp); omega,.inr od,.inl ⟨b,rfl,nb⟩,hv2,fun _ H3 g3 => ⟨rfl,qt _ _ (q _ (KN.of ((g1.trans g2).trans g3)) ⟨F1,m,g,ns,es,vw,(sM.same g3).more⟩)⟩,fun zg zo e1 e2 n1 n2 => absurd ⟨zg,e1,n1⟩ nn⟩
   ·exact ⟨_,rfl,_,rfl,_,rfl,_,rfl,_,rfl,x,.str a,w,v,_,F1,m,g,[],ns,rfl,lb2,by have := s9.few; omega,s9.nn,by have := s9.len (by simp); omega,.inl ⟨a,rfl,na⟩,.inr od,hv2,fun _ H3 g3 => ⟨rfl,qt _ _ (q _ (KN.of ((g1.trans g2).trans g3)) ⟨F1,m,g,ns,es,vw,(sM.same g3).more⟩)⟩,fun zg zo e1 e2 n1 n2 => absurd ⟨zo,e2,n2⟩ nn⟩
 ·refine ⟨_,rfl,r1,rfl,?_⟩
  cases r1 with
  | false =>
   refine bI ⟨_,rfl,_,rfl,_,rfl,_,rfl,_,rfl,x,.str a,.str b,v,_,F1,m,g,[],ns,rfl,lb1,by have := s9.few; omega,s9.nn,by have := s9.len (by simp); omega,.inl ⟨a,rfl,na⟩,.inl ⟨b,rfl,nb⟩,hv,fun z => absurd ⟨⟨a,rfl,na⟩,⟨b,rfl,nb⟩⟩ z,fun zg zo e1 e2 n1 n2 => ?_⟩
   cases e1
   cases e2
   refine ⟨fun _ H3 g3 => ⟨rfl,qt _ _ (q _ (KN.of (g1.trans g3)) ⟨F1,m,g,ns,es,vw,(sN.same g3).more⟩)⟩,fun ne nst p q' ok => ?_⟩
   rcases hF rfl with z | z | z
   ·exact absurd z ne
   ·exact absurd z nst
   ·exact (tO ok z).elim
  | true =>
   obtain ⟨⟨ab,new⟩,p,q',ok⟩ := hT rfl
   have few := s9.few
   have kz : (fH es).length < sizeLine := by rw [f9]; have : 1000 <= sizeLine := (by decide); omega
   refine bX ?_
   refine ⟨_,rfl,_,rfl,_,rfl,_,rfl,(by show 2 <= sizeLine; decide),fun t1 n1 => ⟨d,_,rfl,fP.t (k := [.inr a,.inr b]) (ae n1 _ _ _ sN.d) ac kz,?_⟩⟩
   have lbA := (lb1.same (ae n1 (.tup [.str a,.str b]))).far (ae n1 _ _ _ sN.d) (fun _ z => nomatch z) (fun _ _ _ z => nomatch z) (.dT (putK (fH es) [.inr a,.inr b] v))
   have kA : ∀ a' o,a' ≠ d -> H1 a' = some o -> aq (aq H1 t1 (.tup [.str a,.str b])) d (.dT (putK (fH es) [.inr a,.inr b] v)) a' = some o := fun a' o n' e' => by rw [aj n']; exact ae n1 _ _ _ e'
   have dA : aq (aq H1 t1 (.tup [.str a,.str b])) d (.dT (putK (fH es) [.inr a,.inr b] v)) d = some (.dT (putK (fH es) [.inr a,.inr b] v)) := ac
   generalize aq (aq H1 t1 (.tup [.str a,.str b])) d (.dT (putK (fH es) [.inr a,.inr b] v)) = H2 at lbA kA dA ⊢
   have kn := mW new
   try dsimp only [bG,bM]
   refine cut (fun σ H' => ∃ (t0 : Addr) (p q' : Int),σ = [some (.ref x),some (.ref d),some (.ref l),some (.int c),some (.str a),some (.str b),some v,some (.bl true),some (.int ((c.fdiv 5).fmod 5)),some (.bl (decide (V.int ((c.fdiv 7).fmod 2) = V.int 0))),none] /\ (∀ a o,a ≠ d -> H1 a = some o -> H' a = some o) /\ LB c_Larder F1 H' x [] m g [] ns /\ eh H' v p q' /\ H' t0 = some (.tup [.int p,.int q']) /\ H' d = some (.dT (fH (es ++ [(a,b,t0)])))) (fun N hN => ?_) ?_
   ·refine ⟨_,rfl,rfl,_,rfl,d2 (fun e => ?_) (fun e => ?_)⟩
    ·subst e
     refine ⟨(by show 2 <= sizeLine; decide),fun t2 n2 => ⟨_,rfl,_,rfl,_,rfl,(by show 2 <= sizeLine; decide),fun t3 n3 => ?_⟩⟩
     have gB := (ae n2 (.tup [.int 1,.int 1])).trans (ae n3 (.tup [.str a,.str b]))
     have e2 := ae n3 (.tup [.str a,.str b]) t2 _ ac
     have e3 : aq (aq H2 t2 (.tup [.int 1,.int 1])) t3 (.tup [.str a,.str b]) t3 = some (.tup [.str a,.str b]) := ac
     generalize aq (aq H2 t2 (.tup [.int 1,.int 1])) t3 (.tup [.str a,.str b]) = H3 at gB e2 e3 ⊢
     have dB := gB _ _ dA
     have t2d : t2 ≠ d := fun z => by rw [z,dB] at e2; cases e2
     refine ⟨d,_,rfl,fP.t (k := [.inr a,.inr b]) dB e3 (by rw [L2.eD _ kn,B8,f9,BW]; have : 1000 <= sizeLine := (by decide); omega),hN _ _ ⟨t2,1,1,rfl,fun a' o n' e' => ?_,(lbA.same gB).far dB (fun _ z => nomatch z) (fun _ _ _ z => nomatch z) _,.inl ⟨rfl,rfl,rfl⟩,by rw [aj t2d]; exact e2,?_⟩⟩
     ·rw [aj n']; exact gB _ _ (kA a' o n' e')
     ·rw [ac,tN kn,qa new]
    ·rcases ok with ⟨z,_⟩ | ⟨t,rfl,et,zz⟩
     ·exact absurd z e
     ·have et2 := kA t _ (fun z => by rw [z,sN.d] at et; cases et) et
      exact hN _ _ ⟨t,p,q',rfl,kA,lbA,.inr ⟨t,rfl,et2,zz⟩,et2,by rw [dA,qa new]⟩
   ·clear kA lbA dA hT hF hv ok
    rintro σ H3 ⟨t0,p,q',rfl,k3,lb3,ok,e0,d3⟩
    refine ⟨_,rfl,_,rfl,_,rfl,_,rfl,_,rfl,x,.str a,.str b,v,_,F1,m,g,[],ns,rfl,lb3,by omega,s9.nn,by have := s9.len (by simp); omega,.inl ⟨a,rfl,na⟩,.inl ⟨b,rfl,nb⟩,.inl ⟨p,q',ok⟩,fun z => absurd ⟨⟨a,rfl,na⟩,⟨b,rfl,nb⟩⟩ z,fun zg zo e1 e2 n1 n2 => ?_⟩
    cases e1
    cases e2
    refine ⟨fun z => ?_,fun _ _ p2 q2 ok2 F2 H4 ms t kf fg lb4 et nd hs => ⟨rfl,qt _ _ (q _ ?_ ?_)⟩⟩
    ·rcases z with z | z | z
     ·exact absurd z ab
     ·obtain ⟨t,z⟩ := (s9.st a b).mp z
      exact absurd z (new t)
     ·exact (tO ok z).elim
    ·exact ((KN.of g1).trans fun a' o n' _ e' => k3 a' o n' e').trans (KN.kf lb3 kf)
    ·obtain ⟨rfl,rfl⟩ := rh ok ok2
     obtain ⟨p0,lo,b1,b2⟩ := tP ok
     exact ⟨F2,m + 2,_,ms,_,_,sN.put lb3 k3 d3 e0 kf lb4 et p0 lo b1 b2 na nb ain bin ab new nd hs⟩
theorem zK : ax ["_law_larder","_law_stands","_law_good","_law_row","_law_found"] ["_law_larder","_law_stands","_law_good"] (ap vT) := ⟨rfl,rfl,rfl,by decide +kernel,rfl,by decide +kernel,by decide +kernel⟩
set_option maxHeartbeats 4000000 in
theorem zL {dV : Value} (F : bz K "_law_given" "_law_given" vT dV f fd) (B : Bn K mg c_EmptyHeap c_InRing c_Larder c_NoAmount c_NoDish c_NoName c_NoNet c_NoNumber c_NoPack c_NoPlan c_NoRow c_NoStand c_NoStandIn c_NoStep c_StoveError c_TooFew c_TooMany c_Twice f_Z15 f_Z16 f_Z17 f_Z18 f_Z19 f_Z20 f_Z21 f_Z23 f_Z24) (DZ20 : du P w K mg base bg 3 f_Z20 ["self","good"] [] (oM c_Larder)) (DZ21 : du P w K mg base bg 3 f_Z21 ["self","good"] [] (jg c_Larder)) (XZ24 : du P w K mg base (cA P w) 5 f_Z24 ["self","good"] [] (mV K c_Larder c_NoName c_NoStandIn)) (HZ22 : ∀ hd,xB hd P w K mg base 3 f_Z21 ["self","good"] (jf hd c_Larder)) : aZ P w K mg base bg 6 f fd ["_law_larder","_law_stands","_law_good"] (je K c_Larder) := by
 have sc := zK
 refine F.ok sc (fun vs H Q E h => ?_) (fun cdv A outer s H vs Q E hr h => ?_)
 ·obtain ⟨x,d,z,nm,n,ex0,rfl,_⟩ := h
  rfl
 obtain ⟨x,d,z,nm,n,ex0,rfl,⟨F1,m,g,ns,es,vw,s9⟩,zin,exn,n6,nmz,n50,q⟩ := h
 refine ⟨_,(af (aU (fo (pv 0) DZ20 hr (by decide) (aa (pv 2) ag))) (af (ay (i := 3) sc.nd rfl (Or.inl rfl) (aC gY rfl B.b_sorted PyProof.Rows.Boot.«sorted» (aa (lv (qJ (own := "_law_pair") (ys := ["_law_good"]) (js := [2]) rfl (yw (AF yu) (.cons rfl .nil) (by decide) rfl rfl rfl rfl rfl rfl rfl rfl) (i6 (pv 1)) (fun C fp s H => (aA cf (bh (ik (K := K) rfl) (pv 0) am (fun _ _ => rfl)) (pv 1) (aE _))) (fun C fp s H => (bh (ik (K := K) rfl) (pv 0) am (fun _ _ => rfl))))) ag))) (af (ay (i := 4) sc.nd rfl (Or.inl rfl) bZ) (af (nN rfl rfl (fun pins E => (ak (ay (i := 4) sc.nd rfl (Or.inl rfl) (d5 (K := K) rfl XZ24 hr (by decide) (pv 0) (aa (pv 2) ag))))) (xD B.t_NoStandIn rfl B.m_NoStandIn (fun pins a => (af (aU (xC (K := K) (j := 5) rfl (pv 0) (HZ22 (some (.ref a))) (hr.suite _) (by decide) (aa (pv 2) ag))) (ak (aG (bV (rC (K := K) rfl hr.units0) (pv 3) (bj ag) (aE _)))))) nO)) (af (aU (fo (pv 0) DZ21 hr (by decide) (aa (pv 2) ag))) (ak (aG (dP (bV (tH hr.units0) (pv 3) (bj ag) (aE _)) (dO (bV (va 1 (Nat.lt_trans (Nat.add_lt_add_left (by decide : 2 < 64) _) hr.units)) (pv 4) (b6 (aa (bj (aa (pv 2) (aa (bh bK (pv 3) am (fun _ _ => rfl)) ag))) (aa (ko (cu hr) (pv 1) (b6 (aa (pv 2) (aa (bh bK (pv 3) am (fun _ _ => rfl)) ag))) (fun _ _ => rfl)) ag))) (aE _))))))))))),?_⟩
 have nz := nmz z zin
 have few := s9.few
 obtain ⟨dx,s0,b0,fs,dk,ex,es0,eb,bd,hb,fm,sF,bF,pb⟩ := s9.lb.at_
 refine ⟨_,rfl,x,_,dx,_,rfl,ex,B.cl_Larder,B.me_Z20,fm _ (by decide),_,rfl,x,z,F1,[],m,g,[],ns,rfl,s9.lb,by simp,s9.nn,by have := s9.len exn; omega,nz,fun H1 ms k1 lb1 nd hs => ?_⟩
 have a1 : bT [] z = [z] := by unfold bT; rw [if_neg (by simp)]; rfl
 rw [a1] at lb1
 have sA : S9 K c_Larder H1 x d nm n (ex0 ++ [z]) F1 m g [z] ms es vw := s9.bars k1 lb1 nd fun y => by
  rw [hs y,s9.nsm y,BN,B5,or_assoc]
 have kn1 : KN d H H1 := KN.kf s9.lb k1
 clear pb fm bd hb ex hs a1
 try dsimp only [bG,bM]
 refine cut (fun σ H' => ∃ (lr : Addr) (ys : List Str),σ = [some (.ref x),some (.ref d),some (.str z),some (.ref lr),none] /\ aB H1 H' /\ H' lr = some (.lst (ys.map V.str)) /\ sortedS ys = true /\ ∀ y,y ∈ ys ↔ fJ g z y) (fun N hN => ?_) ?_
 ·refine ⟨_,rfl,d,_,rfl,sA.d,fun o nf => rg (yJ z) z4 ac (by rw [f9]; have : 1000 <= sizeLine := (by decide); omega) (fun i k v b hk H3 g3 hb => ?_) (fun p H3 g3 e3 => ?_)⟩
  ·obtain ⟨a',b',rfl⟩ := oO hk
   refine ⟨fun R hR => ?_,fun R hR => ?_⟩
   ·rw [t6] at hR
    exact ⟨_,rfl,b,_,_,_,rfl,rfl,cR.of hb,rfl,_,rfl,rfl,_,rfl,hR⟩
   ·exact ⟨_,rfl,b,_,_,_,rfl,rfl,cR.of hb,rfl,hR⟩
  ·have g4 := tE sA.d g3
   rw [qd] at e3
   have pd : p ≠ d := fun w => by rw [w,g3 d _ ac] at e3; cases e3
   refine ⟨d,o,_,g3 _ _ ac,nf,p,oP es z,rfl,by rw [aj pd]; exact e3,by have := ua es z; omega,fun lr ys nlr pm so => ?_⟩
   exact hN _ _ ⟨lr,ys,rfl,g4.trans (ae nlr _),ac,so,fun y => by rw [pm.mem_iff,t8,s9.st]⟩
 rintro σ H2 ⟨lr,ys,rfl,g2,er,so,hy⟩
 have sB := sA.same g2
 have lb2 := sB.lb
 obtain ⟨dx,s0,b0,fs,dk,ex,es0,eb,bd,hb,fm,sF,bF,pb⟩ := lb2.at_
 have irr : ∀ a b,fJ g a b -> a ≠ b := fun a b h => by obtain ⟨t,h⟩ := (s9.st a b).mp h; exact (s9.inn _ _ _ h).2.2
 have r1 : hJ [z] z = [] := by unfold hJ; rw [CJ,if_neg (by simp)]; rfl
 have fin : ∀ (H3 H4 : Hp),aB H2 H3 -> KF F1 H3 H4 -> LB c_Larder F1 H4 x [] m g (hJ [z] z) ms -> KN d H H4 /\ lM K c_Larder H4 x d nm n (ex0 ++ [z]) := fun H3 H4 g3 k4 lb4 => by
  rw [r1] at lb4
  exact ⟨(kn1.trans (KN.of (g2.trans g3))).trans (KN.kf (lb2.same g3) k4),F1,m,g,ms,es,vw,(sB.same g3).bars k4 lb4 nd sA.nsm⟩
 refine ⟨_,rfl,x,_,dx,_,rfl,ex,B.cl_Larder,B.me_Z24,fm _ (by decide),_,rfl,x,.str z,F1,[],m,g,[z],ms,[],vw,nm,vd vw,rfl,lb2,by omega,bO.nil,by simp,by simp,.inl ⟨z,rfl,nz⟩,sB.ra,fun a b h => by obtain ⟨t,h⟩ := (s9.st a b).mp h; exact (s9.inn _ _ _ h).2.1,by omega,fun y ey => oC _ _,fun c p q y t r s h1 h2 h3 => k9 h1 h3,fun nn => absurd ⟨z,rfl,nz⟩ nn,fun y ey _ cs hbf => ?_⟩
 cases ey
 refine ⟨fun k c t cl rl p q' H3 g3 hk bl nb e1 e2 e3 hRt => ?_,fun all dd H3 g3 ed a na => ⟨c_NoStandIn,true,rfl,B.s_NoStandIn_NoStandIn,bI ?_⟩⟩
 ·obtain ⟨x',rfl,rx,least⟩ := ri hbf irr hk (fun j d' hj hd => lB.mp (bl j d' hj hd)) (fun w => nb (lB.mpr w))
  have xin := (hy x').mpr rx
  cases ys with
  | nil => cases xin
  | cons y0 ys =>
  have y0x := ub so xin fun y hy' => least y ((hy y).mp hy')
  subst y0x
  obtain ⟨t9,ht9⟩ := rx
  obtain ⟨_,_,lo,_,_⟩ := s9.ra.fr z y0 t9 ht9
  obtain ⟨rfl,rfl⟩ := xz hRt lo
  obtain ⟨t0,hv,hin⟩ := mX (Classical.choose_spec ((s9.st z y0).mp ⟨t9,ht9⟩))
  have lb3 := lb2.same g3
  obtain ⟨dx,s0,b0,fs,dk,ex,es0,eb,bd,hb,fm,sF,bF,pb⟩ := lb3.at_
  refine ⟨_,rfl,x,_,dx,_,rfl,ex,B.cl_Larder,B.me_Z21,fm _ (by decide),_,rfl,x,z,F1,[],m,g,[z],ms,rfl,lb3,nz,fun H4 k4 lb4 => ?_⟩
  obtain ⟨kN,lw⟩ := fin H3 H4 g3 k4 lb4
  have er4 := k4 _ _ (lb3.not (g3 _ _ er) (fun _ z => nomatch z)) (g3 _ _ er)
  have e14 := k4 _ _ (lb3.not e1 (fun _ z => nomatch z)) e1
  have e24 := k4 _ _ (lb3.not e2 (fun _ z => nomatch z)) e2
  have e34 := k4 _ _ (lb3.not e3 (fun _ z => nomatch z)) e3
  have ed4 := k4 _ _ (lb3.not (g3 _ _ sB.d) (fun _ z => nomatch z)) (g3 _ _ sB.d)
  have ev4 := k4 _ _ (lb3.not (g3 _ _ (sB.val _ _ _ hin)) (fun _ z => nomatch z)) (g3 _ _ (sB.val _ _ _ hin))
  refine ⟨_,rfl,(by show 0 <= sizeLine; decide),fun l0 n0 => ⟨lr,l0,_,rfl,rfl,bv.of (ae n0 _ _ _ er4),bv.of ac,_,rfl,bI ?_⟩⟩
  have g5 := ae n0 (.lst [])
  generalize aq H4 l0 (.lst []) = H5 at g5 ⊢
  have at0 : gN ((y0 :: ys).map V.str) 0 = some (.str y0) := c8 (j := 0) rfl
  refine ⟨_,rfl,_,rfl,_,rfl,lr,_,_,_,rfl,rfl,bv.of (g5 _ _ er4),at0,(by show 2 <= sizeLine; decide),fun l1 n1 => ⟨_,rfl,_,rfl,_,rfl,lr,_,_,_,rfl,rfl,bv.of (ae n1 _ _ _ (g5 _ _ er4)),at0,(by show 2 <= sizeLine; decide),fun t1 m1 => ⟨d,.ref t0,rfl,by rw [<- hv]; exact cF.t (k := [.inr z,.inr y0]) (ae m1 _ _ _ (ae n1 _ _ _ (g5 _ _ ed4))) ac,(by show 2 <= sizeLine; decide),fun t2 m2 => ?_⟩⟩⟩
  have g6 := ((ae n1 (.lst [.str z,.str y0])).trans (ae m1 (.tup [.str z,.str y0]))).trans (ae m2 (.tup [.ref l1,.ref t0]))
  have el1 := (ae m2 (.tup [.ref l1,.ref t0])) _ _ ((ae m1 (.tup [.str z,.str y0])) _ _ (show aq H5 l1 (.lst [.str z,.str y0]) l1 = some (.lst ([z,y0].map V.str)) from ac))
  exact ⟨t,t2,_,_,rfl,rfl,cR.of (g6 _ _ (g5 _ _ e14)),cR.of ac,⟨tR (g6 _ _ (g5 _ _ e24)) el1,tT (g6 _ _ (g5 _ _ e34)) (g6 _ _ (g5 _ _ ev4)),trivial⟩,q _ (kN.trans (KN.of (g5.trans g6))) (lw.same (g5.trans g6))⟩
 ·have lb3 := (lb2.same g3).same (ae na (nM a (.ref c_NoStandIn) (some dd)))
  have g4 := g3.trans (ae na (nM a (.ref c_NoStandIn) (some dd)))
  have hok : jn (some (.ref a)) (aq H3 a (nM a (.ref c_NoStandIn) (some dd))) := fun v e => by cases e; exact ⟨a,_,_,_,rfl,ac⟩
  generalize aq H3 a (nM a (.ref c_NoStandIn) (some dd)) = H4 at lb3 g4 hok ⊢
  obtain ⟨dx,s0,b0,fs,dk,ex,es0,eb,bd,hb,fm,sF,bF,pb⟩ := lb3.at_
  refine ⟨_,rfl,x,_,dx,_,rfl,ex,B.cl_Larder,B.me_Z21,fm _ (by decide),_,rfl,x,z,F1,[],m,g,[z],ms,rfl,lb3,nz,hok,fun H5 k5 lb5 => ?_⟩
  obtain ⟨kN,lw⟩ := fin H4 H5 g4 k5 lb5
  have er5 := k5 _ _ (lb3.not (g4 _ _ er) (fun _ z => nomatch z)) (g4 _ _ er)
  have ye : ys = [] := List.eq_nil_iff_forall_not_mem.mpr fun y h => tQ hbf irr (fun j d' hd => lB.mp (all j d' hd)) y ((hy y).mp h)
  subst ye
  exact ⟨_,rfl,(by show 0 <= sizeLine; decide),fun l0 n0 => ⟨lr,l0,_,rfl,rfl,bv.of (ae n0 _ _ _ er5),bv.of ac,q _ (kN.trans (KN.of (ae n0 _))) (lw.same (ae n0 _))⟩⟩
theorem zM : ax ["_law_script","_law_names_here","_law_larder","_law_stands","_law_cell","_law_known","_law_good","_law_k","_law_name"] ["_law_script"] (ap lG) := ⟨rfl,rfl,rfl,by decide +kernel,rfl,by decide +kernel,by decide +kernel⟩
set_option maxHeartbeats 4000000 in
theorem zN {dV : Value} (F : bz K "law" "law" lG dV f fd) (B : Bn K mg c_EmptyHeap c_InRing c_Larder c_NoAmount c_NoDish c_NoName c_NoNet c_NoNumber c_NoPack c_NoPlan c_NoRow c_NoStand c_NoStandIn c_NoStep c_StoveError c_TooFew c_TooMany c_Twice f_Z15 f_Z16 f_Z17 f_Z18 f_Z19 f_Z20 f_Z21 f_Z23 f_Z24) (DZ15 : du P w K mg base bg 1 f_Z15 ["self"] [] (gF c_Larder)) (DZ17 : du P w K mg base bg 1 f_Z17 ["self"] [] (i9 c_Larder)) (DZ18 : du P w K mg base bg 3 f_Z18 ["self","good"] [] (lD c_Larder)) (DZ19 : du P w K mg base bg 3 f_Z19 ["self","good"] [] (gJ c_Larder)) (DZ24 : du P w K mg base bg 5 f_Z24 ["self","good"] [] (tY K c_Larder)) (DZ25 : Dx P w K mg base bg 1 "_law_cell_at" ["_law_script","_law_k"] [] (nJ K)) (DZ26 : Dx P w K mg base bg 1 "_law_names" ["_law_number","_law_many"] [] jc) (DZ34 : Dx P w K mg base bg 7 "_law_deed" ["_law_larder","_law_stands","_law_names_here","_law_cell"] [] (lA K c_Larder)) (DZ35 : Dx P w K mg base bg 6 "_law_given" ["_law_larder","_law_stands","_law_good"] [] (je K c_Larder)) : aZ P w K mg base bg 8 f fd ["_law_script"] (pq K) := by
 have sc := zM
 refine F.ok sc (fun vs H Q E h => ?_) (fun cdv A outer s H vs Q E hr h => ?_)
 ·obtain ⟨a,ns,rfl,_⟩ := h
  rfl
 obtain ⟨a,ns,rfl,hS,h63,q⟩ := h
 refine ⟨_,(af (ay (i := 1) sc.nd rfl (Or.inl rfl) (aY DZ26 hr (by decide) rfl (aa (aY DZ25 hr (by decide) rfl (aa (pv 0) (aa am ag))) (aa (au dj am (au aS (aY DZ25 hr (by decide) rfl (aa (pv 0) (aa am ag))) am)) ag)))) (af (ay (i := 2) sc.nd rfl (Or.inl rfl) (wY B.mk_Larder DZ15 hr (by decide) rfl B.m_Larder)) (af (ay (i := 3) sc.nd rfl (Or.inl rfl) r6) (af (c5 PassesOwn.never rfl (dQ (cD ut (pv 0) (cT am) (cT am))) (bJ (i := 4) sc.nd rfl (Or.inl rfl)) (af (aV (cx (b4 (aY DZ34 hr (by decide) rfl (aa (pv 2) (aa (pv 3) (aa (pv 1) (aa (pv 4) ag))))))) (ak (aG bY)) aM) (af (ay (i := 5) sc.nd rfl (Or.inl rfl) (mY rfl rfl B.b_sorted rfl B.b_set PyProof.Rows.Boot.«sorted» PyProof.Rows.Boot.«set» (au nB (lv (pE (own := "_law_pair") (ys := []) (js := []) rfl (yw yu .nil (by decide) rfl rfl rfl rfl rfl rfl rfl rfl) (i6 (pv 3)) (fun C fp s H => (bh (ik (K := K) rfl) (pv 0) am (fun _ _ => rfl))))) (lv (pE (own := "_law_pair") (ys := []) (js := []) rfl (yw yu .nil (by decide) rfl rfl rfl rfl rfl rfl rfl rfl) (i6 (pv 3)) (fun C fp s H => (bh (ik (K := K) rfl) (pv 0) am (fun _ _ => rfl)))))))) (ak (aV (aA (sE hr.units0) (sH (pv 2) DZ17 hr (by decide)) (pv 5) (aE _)) (ak (aG bY)) aM))))) (af (c5 PassesOwn.never rfl (dQ (pv 1)) (bJ (i := 6) sc.nd rfl (Or.inl rfl)) (ak (aV (cx (b4 (aY DZ35 hr (by decide) rfl (aa (pv 2) (aa (pv 3) (aa (pv 6) ag)))))) (ak (aG bY)) aM))) (af (c5 PassesOwn.never rfl (qj rfl B.b_range (aa am (aa am ag))) (bJ (i := 7) sc.nd rfl (Or.inl rfl)) (af (ay (i := 8) sc.nd rfl (Or.inl rfl) (au vg bL (pv 7))) (ak (aV (aA kj (pv 8) (pv 1) (by with_unfolding_all rfl)) (af (aV (PW.pt (fK (aA (vc 1 (Nat.lt_trans (Nat.add_lt_add_left (by decide : 2 < 64) _) hr.units)) (fo (pv 2) DZ24 hr (by decide) (aa (pv 8) ag)) (b6 (aa (bj (aa (pv 8) ag)) (aa (b6 (aa am (aa am ag))) ag))) (aE _)) (fh (aA o9 (fo (pv 2) DZ19 hr (by decide) (aa (pv 8) ag)) bZ (aE _))))) (ak (aG bY)) aM) (ak (aV (aA (sE hr.units0) (fo (pv 2) DZ18 hr (by decide) (aa (pv 8) ag)) (bj (aa (pv 8) ag)) (aE _)) (ak (aG bY)) aM))) aM)))) (ak (aG (bV (wW hr.units0) (sH (pv 2) DZ17 hr (by decide)) (aC gY rfl B.b_sorted PyProof.Rows.Boot.«sorted» (aa (pv 1) ag)) (aE _)))))))))),?_⟩
 have slt : (3000 : Nat) < sizeLine := by decide
 refine ⟨_,rfl,a,ns,1,rfl,hS,(by decide),fun c1 => ⟨_,rfl,a,ns,0,rfl,hS,(by decide),fun hd => ⟨_,_,rfl,rfl,(by show (5 : Int) ≠ 0; decide),_,_,rfl,rfl,?_⟩⟩⟩
 have m0 := BJ hd (show (0 : Int) < 5 by decide)
 have m1 := BS hd (show (0 : Int) < 5 by decide)
 refine ⟨c1,_,rfl,(by omega),(by omega),fun ln H1 zs g1 en zl nz ndz => ?_⟩
 have z2 : 2 <= zs.length := by omega
 have z6 : zs.length <= 6 := by omega
 clear zl m0 m1 hd c1
 try dsimp only [bG,bM]
 intro x dx nx ndx ne
 refine ⟨x,dx,rfl,ac,fun H2 F0 k2 f0 lb => ⟨rfl,?_⟩⟩
 have g2 : aB H1 H2 := fun b o e => k2 b o (fun z => by rw [z,nx] at e; cases e) (by rw [aj (fun z => by rw [z,nx] at e; cases e),aj (fun z => by rw [z,ndx] at e; cases e)]; exact e)
 try dsimp only [bG,bM]
 refine fun d nd => ?_
 have g3 := ae nd (.dT [])
 have lw : lM K c_Larder (aq H2 d (.dT [])) x d zs 0 [] := lM.start (lb.same g3) ac
 have en3 := g3 _ _ (g2 _ _ en)
 have gA := (g1.trans g2).trans g3
 have dln : ln ≠ d := fun z => by rw [<- z,g2 _ _ en] at nd; cases nd
 generalize aq H2 d (.dT []) = H3 at lw gA en3 ⊢
 clear g3 nd g2 k2 lb f0 F0 en g1 ne ndx nx dx H2 H1
 try dsimp only [bG,bM]
 refine cut (fun σ H' => ∃ (n : Nat) (o4 o5 : Option V),σ = [some (.ref a),some (.ref ln),some (.ref x),some (.ref d),o4,o5,none,none,none] /\ lM K c_Larder H' x d zs n [] /\ n <= 63 /\ H' ln = some (.lst (zs.map V.str))) (fun N hN => ?_) ?_
 ·refine ⟨_,rfl,_,rfl,_,rfl,a,_,rfl,gA.seq hS,fun ls nls => ⟨ls,rfl,⟨_,bv.of ac⟩,?_⟩⟩
  have cl := gM (ns.map V.int) (some 2) (some 46)
  rw [B2] at cl
  have ci : ∀ v ∈ qp (ns.map V.int) (some 2) (some 46),∃ c : Int,v = .int c := fun v hv => by
   obtain ⟨c,_,e⟩ := BH.mp (List.mem_of_mem_drop (List.mem_of_mem_take hv))
   exact ⟨c,e.symm⟩
  generalize qp (ns.map V.int) (some 2) (some 46) = cells at cl ci
  have g4 := ae nls (.lst cells)
  have lsd : ls ≠ d := fun z => by
   obtain ⟨F1,m,g,ns',es,vw,s9⟩ := lw
   rw [z,s9.d] at nls
   cases nls
  refine dy (xs := cells) (fun i σ H' => H' ls = some (.lst cells) /\ H' ln = some (.lst (zs.map V.str)) /\ lM K c_Larder H' x d zs i [] /\ ∃ (o4 o5 : Option V),σ = [some (.ref a),some (.ref ln),some (.ref x),some (.ref d),o4,o5,none,none,none]) ⟨ac,g4 _ _ en3,lw.same g4,none,none,rfl⟩ (fun i σ H' _ h => bv.of h.1) ?_ ?_
  ·rintro i v σ H4 hv ⟨el,en4,lw4,o4,o5,rfl⟩
   have il := (B4.mp hv).1
   obtain ⟨c,rfl⟩ := ci v (BI hv)
   refine ⟨_,rfl,_,rfl,_,rfl,_,rfl,x,d,ln,c,zs,i,rfl,lw4,en4,z2,z6,nz,by omega,fun H5 k5 lw5 => ⟨true,rfl,bX ?_⟩⟩
   have el5 := k5 _ _ lsd (fun _ z => by cases z) el
   have en5 := k5 _ _ dln (fun _ z => by cases z) en4
   obtain ⟨F1,m,g,ns',es,vw,s9⟩ := id lw5
   have few := s9.few
   try dsimp only [bG,bM]
   refine ⟨_,rfl,d,_,rfl,s9.d,fun o nf => pZ Bj ac (by rw [f9]; omega) (fun i k v b hk H6 g6 hb R hR => ?_) (fun p1 H6 g6 e6 => ?_)⟩
   ·obtain ⟨a',b',rfl⟩ := oO hk
    exact ⟨_,rfl,b,_,_,_,rfl,rfl,cR.of hb,rfl,hR⟩
   refine ⟨d,o,_,g6 _ _ ac,nf,?_⟩
   have p1d : p1 ≠ d := fun w => by rw [w,g6 d _ ac] at e6; cases e6
   have g7 := tE s9.d g6
   have e7 : aq H6 d (.dT (fH es)) p1 = some (.lst ((es.map (·.1)).map V.str)) := by rw [aj p1d,e6,yK]
   have d7 := g7 _ _ s9.d
   generalize aq H6 d (.dT (fH es)) = H7 at g7 e7 d7 ⊢
   clear g6 e6 nf o H6
   refine ⟨_,rfl,d,_,rfl,d7,fun o nf => pZ z4 ac (by rw [f9]; omega) (fun i k v b hk H6 g6 hb R hR => ?_) (fun p2 H6 g6 e6 => ?_)⟩
   ·obtain ⟨a',b',rfl⟩ := oO hk
    exact ⟨_,rfl,b,_,_,_,rfl,rfl,cR.of hb,rfl,hR⟩
   refine ⟨d,o,_,g6 _ _ ac,nf,?_⟩
   have p2d : p2 ≠ d := fun w => by rw [w,g6 d _ ac] at e6; cases e6
   have g8 := tE d7 g6
   have e8 : aq H6 d (.dT (fH es)) p2 = some (.lst ((es.map (·.2.1)).map V.str)) := by rw [aj p2d,e6,yL]
   have e78 := g8 _ _ e7
   generalize aq H6 d (.dT (fH es)) = H8 at g8 e8 e78 ⊢
   clear g6 e6 nf o H6
   refine ⟨p1,p2,_,_,rfl,rfl,e78,e8,by rw [B2,B2,B2,B2]; omega,fun p3 n3 => ⟨p3,es.map (·.1) ++ es.map (·.2.1),rfl,bv.of (by rw [Bv]; exact ac),by rw [B8,B2,B2]; omega,(fun ks nk mk => by have := Wo.cK nk (m := zs) (fun y hy => by rcases BN.mp ((mk y).mp hy) with h | h <;> (obtain ⟨⟨a',b',t'⟩,h',rfl⟩ := BH.mp h) <;> first | exact (s9.inn _ _ _ h').1 | exact (s9.inn _ _ _ h').2.1); omega),fun p4 ys n4 ndy my so => ?_⟩⟩
   have g9 := ((g7.trans g8).trans (ae n3 _)).trans (ae n4 (.lst (ys.map V.str)))
   have e9 : aq (aq H8 p3 (.lst ((es.map (·.1)).map V.str ++ (es.map (·.2.1)).map V.str))) p4 (.lst (ys.map V.str)) p4 = some (.lst (ys.map V.str)) := ac
   generalize aq (aq H8 p3 (.lst ((es.map (·.1)).map V.str ++ (es.map (·.2.1)).map V.str))) p4 (.lst (ys.map V.str)) = H9 at g9 e9 ⊢
   have s9' := s9.same g9
   try dsimp only [bG,bM]
   obtain ⟨dx,s0,b0,fs,dk,ex,es0,eb,bd,hb,fm,sF,bF,pb⟩ := s9'.lb.at_
   obtain ⟨F0,la,_,_⟩ := s9'.lb.la
   refine ⟨_,rfl,x,_,dx,_,rfl,ex,B.cl_Larder,B.me_Z17,fm _ (by decide),x,F0,[],ns',rfl,la,s9.nn,(by have := s9.len (by simp); omega),fun l' HA ys' gB eB so' pm => ⟨_,rfl,l',p4,ys.map V.str,rfl,rfl,bv.of ?_,bv.of (gB _ _ e9),gK ys,_,rfl,bX ?_⟩⟩
   ·have : ys' = ys := So.gS so' so (pm.trans ((List.perm_ext_iff_of_nodup s9.nn ndy).mpr fun y => by
     rw [s9.nsm y,my y,BN,BH,BH]
     constructor
     ·rintro (⟨a',b',t,h,rfl | rfl⟩ | h)
      ·exact .inl ⟨_,h,rfl⟩
      ·exact .inr ⟨_,h,rfl⟩
      ·cases h
     ·rintro (⟨⟨a',b',t⟩,h,rfl⟩ | ⟨⟨a',b',t⟩,h,rfl⟩)
      ·exact .inl ⟨a',b',t,h,.inl rfl⟩
      ·exact .inl ⟨a',b',t,h,.inr rfl⟩))
    rw [<- this]
    exact eB
   ·exact ⟨gB _ _ (g9 _ _ el5),gB _ _ (g9 _ _ en5),lw5.same (g9.trans gB),_,_,rfl⟩
  ·rintro σ H4 ⟨el,en4,lw4,o4,o5,rfl⟩
   exact hN _ _ ⟨_,o4,o5,rfl,lw4,by omega,en4⟩
 clear lw en3 gA H3
 rintro σ H3 ⟨n,o4,o5,rfl,lw,n63,en3⟩
 refine cut (fun σ H' => ∃ (o6 : Option V),σ = [some (.ref a),some (.ref ln),some (.ref x),some (.ref d),o4,o5,o6,none,none] /\ lM K c_Larder H' x d zs n zs /\ H' ln = some (.lst (zs.map V.str))) (fun N hN => ?_) ?_
 ·refine ⟨_,rfl,ln,rfl,⟨_,bv.of en3⟩,dy (xs := zs.map V.str) (fun i σ H' => H' ln = some (.lst (zs.map V.str)) /\ lM K c_Larder H' x d zs n (zs.take i) /\ ∃ o6 : Option V,σ = [some (.ref a),some (.ref ln),some (.ref x),some (.ref d),o4,o5,o6,none,none]) ⟨en3,lw,none,rfl⟩ (fun i σ H' _ h => bv.of h.1) ?_ ?_⟩
  ·rintro i v σ H4 hv ⟨en4,lw4,o6,rfl⟩
   rw [BM] at hv
   cases hz : zs[i]? with
   | none => rw [hz] at hv; cases hv
   | some z =>
    rw [hz] at hv
    cases hv
    refine ⟨_,rfl,_,rfl,_,rfl,x,d,z,zs,n,zs.take i,rfl,lw4,BI hz,fun y hy => List.mem_of_mem_take hy,z6,nz,n63,fun H5 k5 lw5 => ⟨true,rfl,bX ⟨k5 _ _ dln (fun _ z => by cases z) en4,?_,_,rfl⟩⟩⟩
    rw [List.take_succ,hz]
    exact lw5
  ·rintro σ H4 ⟨en4,lw4,o6,rfl⟩
   rw [B2,Cu] at lw4
   exact hN _ _ ⟨o6,rfl,lw4,en4⟩
 clear lw en3 H3
 rintro σ H3 ⟨o6,rfl,lw,en3⟩
 refine cut (fun σ H' => ∃ (o7 o8 : Option V),σ = [some (.ref a),some (.ref ln),some (.ref x),some (.ref d),o4,o5,o6,o7,o8] /\ lM K c_Larder H' x d zs n zs /\ H' ln = some (.lst (zs.map V.str))) (fun N hN => ?_) ?_
 ·refine ⟨1,8,rfl,(by decide),gc (lo := 1) (fun i σ H' => ∃ (o7 o8 : Option V),σ = [some (.ref a),some (.ref ln),some (.ref x),some (.ref d),o4,o5,o6,o7,o8] /\ lM K c_Larder H' x d zs n zs /\ H' ln = some (.lst (zs.map V.str))) ⟨none,none,rfl,lw,en3⟩ ?_ (fun σ H' h => hN _ _ h)⟩
  rintro i σ H4 hi ⟨o7,o8,rfl,lw4,en4⟩
  have i7 : i < 7 := hi
  have nq := AQ (k := 1 + (i : Int)) (by omega) (by omega)
  refine ⟨_,rfl,"q",_,rfl,rfl,by decide,by omega,by omega,?_⟩
  generalize Txt.mul "q" (1 + (i : Int)) = z at nq ⊢
  try dsimp only [bG,bM]
  refine ⟨_,rfl,_,rfl,ln,_,rfl,.inl (bv.of en4),rfl,CQ.mpr fun v hv => by obtain ⟨y,_,rfl⟩ := BH.mp hv; rfl,_,rfl,?_⟩
  cases hb : (if true = true then !wA (.str z) (zs.map V.str) else wA (.str z) (zs.map V.str)) with
  | false => exact bX ⟨_,_,rfl,lw4,en4⟩
  | true =>
  refine bI ?_
  clear hb
  obtain ⟨F1,m,g,ns',es,vw,s9⟩ := id lw4
  have few := s9.few
  have hU : ∀ a b,fJ g a b -> b ∈ zs := fun a b h => by obtain ⟨t,h⟩ := (s9.st a b).mp h; exact (s9.inn _ _ _ h).2.1
  have nob : ∀ y,¬ Blk [] [] y := fun y ⟨b,hb,_⟩ => by cases hb
  obtain ⟨dx,s0,b0,fs,dk,ex,es0,eb,bd,hb,fm,sF,bF,pb⟩ := s9.lb.at_
  try dsimp only [bG,bM]
  refine cut (fun σ H' => σ = [some (.ref a),some (.ref ln),some (.ref x),some (.ref d),o4,o5,o6,some (.int (1 + (i : Int))),some (.str z)] /\ aB H4 H') (fun N' hN' => ?_) ?_
  ·refine ⟨_,rfl,x,_,dx,_,rfl,ex,B.cl_Larder,B.me_Z24,fm _ (by decide),_,rfl,x,z,F1,[],m,g,[],ns',[],vw,zs,vd vw,rfl,s9.lb,by omega,bO.nil,by simp,by simp,nq,s9.ra,hU,by omega,oC _ _,fun c p q y t r s h1 h2 h3 => k9 h1 h3,fun cs hbf => ⟨0,_,hbf.first,nob _⟩,fun cs hbf k c t cl rl p q' H5 g5 hk bl nb e1 e2 e3 hRt => ?_⟩
   have k0 : k = 0 := by
    rcases CW k with w | w
    ·exact w
    ·exact absurd (bl 0 _ w hbf.first) (nob _)
   subst k0
   rw [hbf.first] at hk
   cases hk
   obtain ⟨rfl,rfl⟩ := tJ hRt
   refine ⟨_,rfl,(by show 1 <= sizeLine; decide),fun l1 n1 => ⟨(by show 2 <= sizeLine; decide),fun t1 m1 => ⟨(by show 2 <= sizeLine; decide),fun t2 m2 => ?_⟩⟩⟩
   have g6 := ((ae n1 (.lst [.str z])).trans (ae m1 (.tup [.int 1,.int 1]))).trans (ae m2 (.tup [.ref l1,.ref t1]))
   have el1 := (ae m2 (.tup [.ref l1,.ref t1])) _ _ ((ae m1 (.tup [.int 1,.int 1])) _ _ (show aq H5 l1 (.lst [.str z]) l1 = some (.lst ([z].map V.str)) from ac))
   have et1 := (ae m2 (.tup [.ref l1,.ref t1])) t1 _ ac
   refine ⟨t,t2,_,_,rfl,rfl,cR.of (g6 _ _ e1),cR.of ac,⟨tR (g6 _ _ e2) el1,tT (g6 _ _ e3) et1,trivial⟩,_,rfl,bX ?_⟩
   generalize aq (aq (aq H5 l1 (.lst [.str z])) t1 (.tup [.int 1,.int 1])) t2 (.tup [.ref l1,.ref t1]) = H6 at g6 ⊢
   have s6 := (s9.same g5).same g6
   obtain ⟨dx,s0,b0,fs,dk,ex,es0,eb,bd,hb,fm,sF,bF,pb⟩ := s6.lb.at_
   refine ⟨_,rfl,x,_,dx,_,rfl,ex,B.cl_Larder,B.me_Z19,fm _ (by decide),_,rfl,x,z,F1,[],m,g,[],ns',[],rfl,s6.lb,bO.nil,by simp,by simp,nq,fun H7 g7 _ => ⟨rfl,_,rfl,nF rfl (hN' _ _ ⟨rfl,(g5.trans g6).trans g7⟩)⟩,fun l H7 c goal g7 e w hg => absurd hg (by simp)⟩
  rintro σ H5 ⟨rfl,g5⟩
  have s5 := s9.same g5
  obtain ⟨dx,s0,b0,fs,dk,ex,es0,eb,bd,hb,fm,sF,bF,pb⟩ := s5.lb.at_
  refine ⟨_,rfl,x,_,dx,_,rfl,ex,B.cl_Larder,B.me_Z18,fm _ (by decide),_,rfl,x,z,F1,[],m,g,[],ns',[],rfl,s5.lb,bO.nil,by simp,nq,fun l H6 ys g6 e6 so ndy my => ⟨_,rfl,(by show 1 <= sizeLine; decide),fun l1 n1 => ⟨l,l1,_,rfl,rfl,bv.of ?_,bv.of ac,gK [z],_,rfl,bX ⟨_,_,rfl,lw4.same ((g5.trans g6).trans (ae n1 _)),((g5.trans g6).trans (ae n1 _)) _ _ en4⟩⟩⟩⟩
  have : ys = [z] := rD ndy fun y => (my y).trans qb
  rw [this] at e6
  exact ae n1 _ _ _ e6
 clear lw en3 H3
 rintro σ H3 ⟨o7,o8,rfl,lw,en3⟩
 obtain ⟨F1,m,g,ns',es,vw,s9⟩ := id lw
 obtain ⟨dx,s0,b0,fs,dk,ex,es0,eb,bd,hb,fm,sF,bF,pb⟩ := s9.lb.at_
 obtain ⟨F0,la,_,_⟩ := s9.lb.la
 refine ⟨_,rfl,x,_,dx,_,rfl,ex,B.cl_Larder,B.me_Z17,fm _ (by decide),x,F0,[],ns',rfl,la,s9.nn,(by have := s9.len (fun y h => h); omega),fun l' H4 ys' g4 e4 so' pm' => ⟨_,rfl,ln,zs,rfl,g4 _ _ en3,by omega,fun p ys np pm so => ⟨l',p,ys.map V.str,rfl,rfl,bv.of ?_,bv.of ac,gK ys,q _⟩⟩⟩
 have : ys' = ys := So.gS so' so (pm'.trans (((List.perm_ext_iff_of_nodup s9.nn ndz).mpr fun y => by
  rw [s9.nsm y]
  constructor
  ·rintro (⟨a',b',t,h,rfl | rfl⟩ | h)
   ·exact (s9.inn _ _ _ h).1
   ·exact (s9.inn _ _ _ h).2.1
   ·exact h
  ·exact .inr).trans pm.symm))
 rw [<- this]
 exact ae np _ _ _ e4
end
abbrev FnAt (K : B1) (f : Addr) (n q : Str) (st : Stmt) (dV : Value) : Prop := ∃ (oc : Value) (od : Option Addr) (kV dc pm : Value) (an : Option Addr) (cd ct : Value) (sl : Array (Option Value)),K.lookup f = some ⟨oc,od,.func (C9 n q (cV st) (bN st) (ap st) dV kV dc pm an cd ct),sl⟩ /\ Ca K cd q = true /\ C7 K (.ref f) = true
set_option maxHeartbeats 4000000 in
theorem xH {l : PySem.W.OpenLaw} {w : World} {K : B1} {h : Heap} {mg : Str -> Option Value} {fa fZ0 fZ2 fZ3 fis_Z3 fZ5 fZ6 fZ7 fZ8 fZ11 fZ12 fZ13 fZ14 fZ25 fZ26 fZ27 fZ28 fZ29 fZ30 fZ31 fZ32 fZ33 fZ34 fZ35 flaw c_EmptyHeap c_InRing c_Larder c_NoAmount c_NoDish c_NoName c_NoNet c_NoNumber c_NoPack c_NoPlan c_NoRow c_NoStand c_NoStandIn c_NoStep c_StoveError c_TooFew c_TooMany c_Twice f_Z15 f_Z16 f_Z17 f_Z18 f_Z19 f_Z20 f_Z21 f_Z23 f_Z24 f_NoStandIn : Addr} (X : K.In h) (G : h.Ns mainGlobals mg) (hfa : mg "law" = some (.ref fa))
  {od_NoStandIn an_NoStandIn odlaw anlaw : Option Addr} {sl_NoStandIn sllaw : Array (Option Value)} {oc_NoStandIn kV_NoStandIn dc_NoStandIn pm_NoStandIn cd_NoStandIn ct_NoStandIn oclaw kVlaw dclaw pmlaw cdlaw ctlaw : Value}
  {tk_LETTERS : Tok}
  {tk_MOST_LETTERS : Tok}
  {tk_MOST_NAMES : Tok}
  {TZ3 : Addr} {ToZ3 : Value} {TdZ3 : Option Addr} {TnZ3 : Nat} {TsZ3 : Array (Option Value)} {TtZ3 : Tok}
  {TZ23 : Addr} {ToZ23 : Value} {TdZ23 : Option Addr} {TnZ23 : Nat} {TsZ23 : Array (Option Value)}
  (aZ0 : B6 K mainGlobals "is_whole" = some (some (.ref fZ0)))
  (qZ0 : FnAt K fZ0 "is_whole" "is_whole" z5 .none)
  (aZ2 : B6 K mainGlobals "divisor" = some (some (.ref fZ2)))
  (qZ2 : FnAt K fZ2 "divisor" "divisor" z7 .none)
  (aZ3 : B6 K mainGlobals "fraction" = some (some (.ref fZ3)))
  (qZ3 : FnAt K fZ3 "fraction" "fraction" z8 (.ref TZ3))
  (ais_Z3 : B6 K mainGlobals "is_fraction" = some (some (.ref fis_Z3)))
  (qis_Z3 : FnAt K fis_Z3 "is_fraction" "is_fraction" lE .none)
  (aZ5 : B6 K mainGlobals "product" = some (some (.ref fZ5)))
  (qZ5 : FnAt K fZ5 "product" "product" z9 .none)
  (aZ6 : B6 K mainGlobals "ways_out" = some (some (.ref fZ6)))
  (qZ6 : FnAt K fZ6 "ways_out" "ways_out" Aa .none)
  (aZ7 : B6 K mainGlobals "is_name" = some (some (.ref fZ7)))
  (qZ7 : FnAt K fZ7 "is_name" "is_name" Ab .none)
  (aZ8 : B6 K mainGlobals "refuse_no_names" = some (some (.ref fZ8)))
  (qZ8 : FnAt K fZ8 "refuse_no_names" "refuse_no_names" Ac .none)
  (aZ11 : B6 K mainGlobals "names_ahead" = some (some (.ref fZ11)))
  (qZ11 : FnAt K fZ11 "names_ahead" "names_ahead" vy .none)
  (aZ12 : B6 K mainGlobals "chain_to" = some (some (.ref fZ12)))
  (qZ12 : FnAt K fZ12 "chain_to" "chain_to" vz .none)
  (aZ13 : B6 K mainGlobals "chain_down" = some (some (.ref fZ13)))
  (qZ13 : FnAt K fZ13 "chain_down" "chain_down" vA .none)
  (aZ14 : B6 K mainGlobals "all_inside" = some (some (.ref fZ14)))
  (qZ14 : FnAt K fZ14 "all_inside" "all_inside" vB .none)
  (aZ25 : B6 K mainGlobals "_law_cell_at" = some (some (.ref fZ25)))
  (qZ25 : FnAt K fZ25 "_law_cell_at" "_law_cell_at" vL .none)
  (aZ26 : B6 K mainGlobals "_law_names" = some (some (.ref fZ26)))
  (qZ26 : FnAt K fZ26 "_law_names" "_law_names" vM .none)
  (aZ27 : B6 K mainGlobals "_law_divisor_of" = some (some (.ref fZ27)))
  (qZ27 : FnAt K fZ27 "_law_divisor_of" "_law_divisor_of" vN .none)
  (aZ28 : B6 K mainGlobals "_law_ratio" = some (some (.ref fZ28)))
  (qZ28 : FnAt K fZ28 "_law_ratio" "_law_ratio" vO .none)
  (aZ29 : B6 K mainGlobals "_law_odd_ratio" = some (some (.ref fZ29)))
  (qZ29 : FnAt K fZ29 "_law_odd_ratio" "_law_odd_ratio" uc .none)
  (aZ30 : B6 K mainGlobals "_law_no_name" = some (some (.ref fZ30)))
  (qZ30 : FnAt K fZ30 "_law_no_name" "_law_no_name" ud .none)
  (aZ31 : B6 K mainGlobals "_law_alone" = some (some (.ref fZ31)))
  (qZ31 : FnAt K fZ31 "_law_alone" "_law_alone" vP .none)
  (aZ32 : B6 K mainGlobals "_law_handed" = some (some (.ref fZ32)))
  (qZ32 : FnAt K fZ32 "_law_handed" "_law_handed" vQ .none)
  (aZ33 : B6 K mainGlobals "_law_told" = some (some (.ref fZ33)))
  (qZ33 : FnAt K fZ33 "_law_told" "_law_told" vR .none)
  (aZ34 : B6 K mainGlobals "_law_deed" = some (some (.ref fZ34)))
  (qZ34 : FnAt K fZ34 "_law_deed" "_law_deed" vS .none)
  (aZ35 : B6 K mainGlobals "_law_given" = some (some (.ref fZ35)))
  (qZ35 : FnAt K fZ35 "_law_given" "_law_given" vT .none)
  (alaw : B6 K mainGlobals "law" = some (some (.ref flaw)))
  (llaw : K.lookup flaw = some ⟨oclaw,odlaw,.func (C9 "law" "law" (cV lG) (bN lG) (ap lG) .none kVlaw dclaw pmlaw anlaw cdlaw ctlaw),sllaw⟩) (claw : Ca K cdlaw "law" = true) (klaw : C7 K (.ref flaw) = true)
  (zg_LETTERS : B6 K mainGlobals "LETTERS" = some (some (.str "abcdefghijklmnopqrstuvwxyz" tk_LETTERS)))
  (zg_MOST_LETTERS : B6 K mainGlobals "MOST_LETTERS" = some (some (.int 12 tk_MOST_LETTERS)))
  (zg_MOST_NAMES : B6 K mainGlobals "MOST_NAMES" = some (some (.int 80 tk_MOST_NAMES)))
  (zb_abs : B6 K mainGlobals "abs" = some none)
  (zb_bool : B6 K mainGlobals "bool" = some none)
  (zb_int : B6 K mainGlobals "int" = some none)
  (zb_isinstance : B6 K mainGlobals "isinstance" = some none)
  (zb_len : B6 K mainGlobals "len" = some none)
  (zb_list : B6 K mainGlobals "list" = some none)
  (zb_range : B6 K mainGlobals "range" = some none)
  (zb_reversed : B6 K mainGlobals "reversed" = some none)
  (zb_set : B6 K mainGlobals "set" = some none)
  (zb_sorted : B6 K mainGlobals "sorted" = some none)
  (zb_str : B6 K mainGlobals "str" = some none)
  (zb_tuple : B6 K mainGlobals "tuple" = some none)
  (zm_EmptyHeap : B6 K mainGlobals "EmptyHeap" = some (some (.ref c_EmptyHeap)))
  (zm_InRing : B6 K mainGlobals "InRing" = some (some (.ref c_InRing)))
  (zm_Larder : B6 K mainGlobals "Larder" = some (some (.ref c_Larder)))
  (zm_NoAmount : B6 K mainGlobals "NoAmount" = some (some (.ref c_NoAmount)))
  (zm_NoDish : B6 K mainGlobals "NoDish" = some (some (.ref c_NoDish)))
  (zm_NoName : B6 K mainGlobals "NoName" = some (some (.ref c_NoName)))
  (zm_NoNet : B6 K mainGlobals "NoNet" = some (some (.ref c_NoNet)))
  (zm_NoNumber : B6 K mainGlobals "NoNumber" = some (some (.ref c_NoNumber)))
  (zm_NoPack : B6 K mainGlobals "NoPack" = some (some (.ref c_NoPack)))
  (zm_NoPlan : B6 K mainGlobals "NoPlan" = some (some (.ref c_NoPlan)))
  (zm_NoRow : B6 K mainGlobals "NoRow" = some (some (.ref c_NoRow)))
  (zm_NoStand : B6 K mainGlobals "NoStand" = some (some (.ref c_NoStand)))
  (zm_NoStandIn : B6 K mainGlobals "NoStandIn" = some (some (.ref c_NoStandIn)))
  (zm_NoStep : B6 K mainGlobals "NoStep" = some (some (.ref c_NoStep)))
  (zm_StoveError : B6 K mainGlobals "StoveError" = some (some (.ref c_StoveError)))
  (zm_TooFew : B6 K mainGlobals "TooFew" = some (some (.ref c_TooFew)))
  (zm_TooMany : B6 K mainGlobals "TooMany" = some (some (.ref c_TooMany)))
  (zm_Twice : B6 K mainGlobals "Twice" = some (some (.ref c_Twice)))
  (atZ15 : BK K (.ref c_Larder) "__init__" = some (some (.ref f_Z15)))
  (qZ15 : FnAt K f_Z15 "__init__" "Larder.__init__" vC .none)
  (atZ16 : BK K (.ref c_Larder) "learn" = some (some (.ref f_Z16)))
  (qZ16 : FnAt K f_Z16 "learn" "Larder.learn" vD .none)
  (atZ17 : BK K (.ref c_Larder) "known" = some (some (.ref f_Z17)))
  (qZ17 : FnAt K f_Z17 "known" "Larder.known" vE .none)
  (atZ18 : BK K (.ref c_Larder) "held" = some (some (.ref f_Z18)))
  (qZ18 : FnAt K f_Z18 "held" "Larder.held" vF .none)
  (atZ19 : BK K (.ref c_Larder) "barred" = some (some (.ref f_Z19)))
  (qZ19 : FnAt K f_Z19 "barred" "Larder.barred" vG .none)
  (atZ20 : BK K (.ref c_Larder) "bar" = some (some (.ref f_Z20)))
  (qZ20 : FnAt K f_Z20 "bar" "Larder.bar" vH .none)
  (atZ21 : BK K (.ref c_Larder) "allow" = some (some (.ref f_Z21)))
  (qZ21 : FnAt K f_Z21 "allow" "Larder.allow" vI .none)
  (atZ23 : BK K (.ref c_Larder) "stand" = some (some (.ref f_Z23)))
  (qZ23 : FnAt K f_Z23 "stand" "Larder.stand" vJ (.ref TZ23))
  (atZ24 : BK K (.ref c_Larder) "stand_in" = some (some (.ref f_Z24)))
  (qZ24 : FnAt K f_Z24 "stand_in" "Larder.stand_in" vK .none)
  (dZ3 : K.lookup TZ3 = some ⟨ToZ3,TdZ3,.seq #[.int 1 TtZ3] TnZ3,TsZ3⟩)
  (dZ23 : K.lookup TZ23 = some ⟨ToZ23,TdZ23,.seq #[.none] TnZ23,TsZ23⟩)
  (zx_NoName : CZ K c_NoName rE "ValueError.__new__" = true)
  (zi_NoName : XI K c_NoName)
  (zx_NoStand : CZ K c_NoStand rE "ValueError.__new__" = true)
  (zi_NoStand : XI K c_NoStand)
  (zx_NoNumber : CZ K c_NoNumber rE "ValueError.__new__" = true)
  (zi_NoNumber : XI K c_NoNumber)
  (zt_NoName : XT K c_NoName)
  (zt_NoStand : XT K c_NoStand)
  (zt_NoStandIn : XT K c_NoStandIn)
  (zs_NoStandIn_NoStandIn : CL K (.ref c_NoStandIn) (.ref c_NoStandIn) = some true)
  (zs_NoName_NoName : CL K (.ref c_NoName) (.ref c_NoName) = some true)
  (zs_NoStand_NoName : CL K (.ref c_NoStand) (.ref c_NoName) = some false)
  (zs_NoStand_NoStand : CL K (.ref c_NoStand) (.ref c_NoStand) = some true)
  (zk_NoName_StoveError : BR K (.ref c_NoName) (.ref c_StoveError) = some true)
  (zk_NoStand_StoveError : BR K (.ref c_NoStand) (.ref c_StoveError) = some true)
  (zk_NoName_NoStand : BR K (.ref c_NoName) (.ref c_NoStand) = some false)
  (zk_NoStand_NoName : BR K (.ref c_NoStand) (.ref c_NoName) = some false)
  (za_NoStandIn : XA K c_NoStandIn c_StoveError)
  (zn_NoStandIn : BK K (.ref c_NoStandIn) "good" = some none)
  (zi_NoStandIn : XI K c_NoStandIn)
  (zka_NoName_1 : CU K (.ref c_NoName) [.ref c_EmptyHeap,.ref c_InRing,.ref c_NoAmount,.ref c_NoDish,.ref c_NoNet,.ref c_NoNumber,.ref c_NoPack,.ref c_NoPlan,.ref c_NoRow] = some false)
  (zka_NoName_2 : CU K (.ref c_NoName) [.ref c_NoStandIn,.ref c_NoStep,.ref c_TooFew,.ref c_TooMany,.ref c_Twice] = some false)
  (zka_NoStand_1 : CU K (.ref c_NoStand) [.ref c_EmptyHeap,.ref c_InRing,.ref c_NoAmount,.ref c_NoDish,.ref c_NoNet,.ref c_NoNumber,.ref c_NoPack,.ref c_NoPlan,.ref c_NoRow] = some false)
  (zka_NoStand_2 : CU K (.ref c_NoStand) [.ref c_NoStandIn,.ref c_NoStep,.ref c_TooFew,.ref c_TooMany,.ref c_Twice] = some false)
  (zcl_Larder : pc K c_Larder)
  (zmk_Larder : Mk K c_Larder f_Z15)
  (zme_Z23 : dm K c_Larder "stand" f_Z23)
  (zme_Z20 : dm K c_Larder "bar" f_Z20)
  (zme_Z21 : dm K c_Larder "allow" f_Z21)
  (zme_Z17 : dm K c_Larder "known" f_Z17)
  (zme_Z18 : dm K c_Larder "held" f_Z18)
  (zme_Z19 : dm K c_Larder "barred" f_Z19)
  (zme_Z24 : dm K c_Larder "stand_in" f_Z24)
  (zme_Z16 : dm K c_Larder "learn" f_Z16)
  (zna_Larder_parts : bQ K c_Larder "parts")
  (zna_Larder_stands : bQ K c_Larder "stands")
  (zna_Larder_bars : bQ K c_Larder "bars")
  (zna_Larder_names : bQ K c_Larder "names")
  (ci_NoStandIn : zU K c_NoStandIn f_NoStandIn)
  (l_NoStandIn : K.lookup f_NoStandIn = some ⟨oc_NoStandIn,od_NoStandIn,.func (C9 "__init__" "NoStandIn.__init__" (cV ce) (bN ce) (ap ce) .none kV_NoStandIn dc_NoStandIn pm_NoStandIn an_NoStandIn cd_NoStandIn ct_NoStandIn),sl_NoStandIn⟩) (cc_NoStandIn : Ca K cd_NoStandIn "NoStandIn.__init__" = true) (k_NoStandIn : C7 K (.ref f_NoStandIn) = true)
  : ∃ fd : FuncData,(∀ (s : Shared) (v : Value),BindsTo s fd ⟨[v],[]⟩ [("_law_script",v)]) /\ ∀ base : Heap,K.In base -> base.Ns mainGlobals mg -> aZ l.prog w K mg base bg 8 fa fd ["_law_script"] (pq K) := by
 have e := hfa.symm.trans (B7 X G alaw)
 cases e
 have B : Bn K mg c_EmptyHeap c_InRing c_Larder c_NoAmount c_NoDish c_NoName c_NoNet c_NoNumber c_NoPack c_NoPlan c_NoRow c_NoStand c_NoStandIn c_NoStep c_StoveError c_TooFew c_TooMany c_Twice f_Z15 f_Z16 f_Z17 f_Z18 f_Z19 f_Z20 f_Z21 f_Z23 f_Z24 := ⟨Exists.intro _ <| B7 X G zg_LETTERS,Exists.intro _ <| B7 X G zg_MOST_LETTERS,Exists.intro _ <| B7 X G zg_MOST_NAMES,C0 X G zb_abs,C0 X G zb_bool,C0 X G zb_int,C0 X G zb_isinstance,C0 X G zb_len,C0 X G zb_list,C0 X G zb_range,C0 X G zb_reversed,C0 X G zb_set,C0 X G zb_sorted,C0 X G zb_str,C0 X G zb_tuple,B7 X G zm_EmptyHeap,B7 X G zm_InRing,B7 X G zm_Larder,B7 X G zm_NoAmount,B7 X G zm_NoDish,B7 X G zm_NoName,B7 X G zm_NoNet,B7 X G zm_NoNumber,B7 X G zm_NoPack,B7 X G zm_NoPlan,B7 X G zm_NoRow,B7 X G zm_NoStand,B7 X G zm_NoStandIn,B7 X G zm_NoStep,B7 X G zm_StoveError,B7 X G zm_TooFew,B7 X G zm_TooMany,B7 X G zm_Twice,zx_NoName,zi_NoName,zx_NoStand,zi_NoStand,zx_NoNumber,zi_NoNumber,zt_NoName,zt_NoStand,zt_NoStandIn,zs_NoStandIn_NoStandIn,zs_NoName_NoName,zs_NoStand_NoName,zs_NoStand_NoStand,zk_NoName_StoveError,zk_NoStand_StoveError,zk_NoName_NoStand,zk_NoStand_NoName,za_NoStandIn,zn_NoStandIn,zi_NoStandIn,zka_NoName_1,zka_NoName_2,zka_NoStand_1,zka_NoStand_2,zcl_Larder,zmk_Larder,zme_Z23,zme_Z20,zme_Z21,zme_Z17,zme_Z18,zme_Z19,zme_Z24,zme_Z16,zna_Larder_parts,zna_Larder_stands,zna_Larder_bars,zna_Larder_names⟩
 obtain ⟨_,_,_,_,_,_,_,_,_,lZ0,cZ0,kZ0⟩ := qZ0
 obtain ⟨_,_,_,_,_,_,_,_,_,lZ2,cZ2,kZ2⟩ := qZ2
 obtain ⟨_,_,_,_,_,_,_,_,_,lZ3,cZ3,kZ3⟩ := qZ3
 obtain ⟨_,_,_,_,_,_,_,_,_,lis_Z3,cis_Z3,kis_Z3⟩ := qis_Z3
 obtain ⟨_,_,_,_,_,_,_,_,_,lZ5,cZ5,kZ5⟩ := qZ5
 obtain ⟨_,_,_,_,_,_,_,_,_,lZ6,cZ6,kZ6⟩ := qZ6
 obtain ⟨_,_,_,_,_,_,_,_,_,lZ7,cZ7,kZ7⟩ := qZ7
 obtain ⟨_,_,_,_,_,_,_,_,_,lZ8,cZ8,kZ8⟩ := qZ8
 obtain ⟨_,_,_,_,_,_,_,_,_,lZ11,cZ11,kZ11⟩ := qZ11
 obtain ⟨_,_,_,_,_,_,_,_,_,lZ12,cZ12,kZ12⟩ := qZ12
 obtain ⟨_,_,_,_,_,_,_,_,_,lZ13,cZ13,kZ13⟩ := qZ13
 obtain ⟨_,_,_,_,_,_,_,_,_,lZ14,cZ14,kZ14⟩ := qZ14
 obtain ⟨_,_,_,_,_,_,_,_,_,lZ25,cZ25,kZ25⟩ := qZ25
 obtain ⟨_,_,_,_,_,_,_,_,_,lZ26,cZ26,kZ26⟩ := qZ26
 obtain ⟨_,_,_,_,_,_,_,_,_,lZ27,cZ27,kZ27⟩ := qZ27
 obtain ⟨_,_,_,_,_,_,_,_,_,lZ28,cZ28,kZ28⟩ := qZ28
 obtain ⟨_,_,_,_,_,_,_,_,_,lZ29,cZ29,kZ29⟩ := qZ29
 obtain ⟨_,_,_,_,_,_,_,_,_,lZ30,cZ30,kZ30⟩ := qZ30
 obtain ⟨_,_,_,_,_,_,_,_,_,lZ31,cZ31,kZ31⟩ := qZ31
 obtain ⟨_,_,_,_,_,_,_,_,_,lZ32,cZ32,kZ32⟩ := qZ32
 obtain ⟨_,_,_,_,_,_,_,_,_,lZ33,cZ33,kZ33⟩ := qZ33
 obtain ⟨_,_,_,_,_,_,_,_,_,lZ34,cZ34,kZ34⟩ := qZ34
 obtain ⟨_,_,_,_,_,_,_,_,_,lZ35,cZ35,kZ35⟩ := qZ35
 obtain ⟨_,_,_,_,_,_,_,_,_,lZ15,cZ15,kZ15⟩ := qZ15
 obtain ⟨_,_,_,_,_,_,_,_,_,lZ16,cZ16,kZ16⟩ := qZ16
 obtain ⟨_,_,_,_,_,_,_,_,_,lZ17,cZ17,kZ17⟩ := qZ17
 obtain ⟨_,_,_,_,_,_,_,_,_,lZ18,cZ18,kZ18⟩ := qZ18
 obtain ⟨_,_,_,_,_,_,_,_,_,lZ19,cZ19,kZ19⟩ := qZ19
 obtain ⟨_,_,_,_,_,_,_,_,_,lZ20,cZ20,kZ20⟩ := qZ20
 obtain ⟨_,_,_,_,_,_,_,_,_,lZ21,cZ21,kZ21⟩ := qZ21
 obtain ⟨_,_,_,_,_,_,_,_,_,lZ23,cZ23,kZ23⟩ := qZ23
 obtain ⟨_,_,_,_,_,_,_,_,_,lZ24,cZ24,kZ24⟩ := qZ24
 have FZ0 := aH (st := z5) lZ0 cZ0 kZ0
 have FZ1 := aH (st := AR) lZ0 cZ0 kZ0
 have FZ2 := aH (st := z7) lZ2 cZ2 kZ2
 have FZ3 := aH (st := z8) lZ3 cZ3 kZ3
 have Fis_Z3 := aH (st := lE) lis_Z3 cis_Z3 kis_Z3
 have FZ5 := aH (st := z9) lZ5 cZ5 kZ5
 have FZ6 := aH (st := Aa) lZ6 cZ6 kZ6
 have FZ7 := aH (st := Ab) lZ7 cZ7 kZ7
 have FZ8 := aH (st := Ac) lZ8 cZ8 kZ8
 have FZ9 := aH (st := AS) lZ7 cZ7 kZ7
 have FZ10 := aH (st := xF) lZ8 cZ8 kZ8
 have FZ11 := aH (st := vy) lZ11 cZ11 kZ11
 have FZ12 := aH (st := vz) lZ12 cZ12 kZ12
 have FZ13 := aH (st := vA) lZ13 cZ13 kZ13
 have FZ14 := aH (st := vB) lZ14 cZ14 kZ14
 have FZ15 := aH (st := vC) lZ15 cZ15 kZ15
 have FZ16 := aH (st := vD) lZ16 cZ16 kZ16
 have FZ17 := aH (st := vE) lZ17 cZ17 kZ17
 have FZ18 := aH (st := vF) lZ18 cZ18 kZ18
 have FZ19 := aH (st := vG) lZ19 cZ19 kZ19
 have FZ20 := aH (st := vH) lZ20 cZ20 kZ20
 have FZ21 := aH (st := vI) lZ21 cZ21 kZ21
 have FZ22 := aH (st := xG) lZ21 cZ21 kZ21
 have FZ23 := aH (st := vJ) lZ23 cZ23 kZ23
 have FZ24 := aH (st := vK) lZ24 cZ24 kZ24
 have FZ25 := aH (st := vL) lZ25 cZ25 kZ25
 have FZ26 := aH (st := vM) lZ26 cZ26 kZ26
 have FZ27 := aH (st := vN) lZ27 cZ27 kZ27
 have FZ28 := aH (st := vO) lZ28 cZ28 kZ28
 have FZ29 := aH (st := uc) lZ29 cZ29 kZ29
 have FZ30 := aH (st := ud) lZ30 cZ30 kZ30
 have FZ31 := aH (st := vP) lZ31 cZ31 kZ31
 have FZ32 := aH (st := vQ) lZ32 cZ32 kZ32
 have FZ33 := aH (st := vR) lZ33 cZ33 kZ33
 have FZ34 := aH (st := vS) lZ34 cZ34 kZ34
 have FZ35 := aH (st := vT) lZ35 cZ35 kZ35
 have Flaw := aH (st := lG) llaw claw klaw
 have F_NoStandIn := aH (st := ce) l_NoStandIn cc_NoStandIn k_NoStandIn
 refine ⟨C9 "law" "law" (cV lG) (bN lG) (ap lG) .none kVlaw dclaw pmlaw anlaw cdlaw ctlaw,?bind,fun base _ _ => ?ok⟩
 case bind => exact fun s v => .of_eq rfl
 case ok =>
  have I_NoStandIn : AE l.prog w K mg base 1 c_NoStandIn ["self","good"] (kE c_NoStandIn "good") := ⟨f_NoStandIn,_,lJ F_NoStandIn B,ci_NoStandIn,F_NoStandIn.binds0 (ps := ["self","good"]) fun _ _ _ _ _ _ us hl => match us,hl with | [_,_],_ => rfl⟩
  have bZ0 := FZ0.binds0 (ps := ["thing"]) fun _ _ _ _ _ _ us hl => match us,hl with | [_],_ => rfl
  have DZ0 : Dx l.prog w K mg base bg 1 "is_whole" ["thing"] [] ku := ⟨fZ0,_,AU FZ0 B ,B7 X G aZ0,kZ0,bZ0,⟨[],bZ0,.nil⟩⟩
  have bZ1 := FZ1.binds0 (ps := ["thing"]) fun _ _ _ _ _ _ us hl => match us,hl with | [_],_ => rfl
  have DZ1 : Dx l.prog w K mg base bg 1 "is_whole" ["thing"] [] (wT K) := ⟨fZ0,_,AW FZ1 B ,B7 X G aZ0,kZ0,bZ1,⟨[],bZ1,.nil⟩⟩
  have bZ2 := FZ2.binds0 (ps := ["one","other"]) fun _ _ _ _ _ _ us hl => match us,hl with | [_,_],_ => rfl
  have DZ2 : Dx l.prog w K mg base bg 1 "divisor" ["one","other"] [] pk := ⟨fZ2,_,AY FZ2 B ,B7 X G aZ2,kZ2,bZ2,⟨[],bZ2,.nil⟩⟩
  have XZ3 : Dx l.prog w K mg base (cA l.prog w) 2 "fraction" ["top","bottom"] [.int 1] (pI c_NoNumber) := ⟨fZ3,_,A0 FZ3 B DZ0 DZ2,B7 X G aZ3,kZ3,FZ3.binds (ps := ["top","bottom"]) (ds := []) dZ3 rfl fun _ _ _ _ _ _ us hl => match us,hl with | [_,_],_ => ⟨_,rfl,rfl⟩,⟨[.int 1 TtZ3],FZ3.binds (ps := ["top","bottom"]) (ds := [.int 1 TtZ3]) dZ3 rfl fun _ _ _ _ _ _ us hl => match us,hl with | [_],_ => ⟨_,rfl,rfl⟩ | [],h => absurd h (by simp) | _ :: _ :: _,h => absurd h (by simp),.cons ⟨_,rfl⟩ .nil⟩⟩
  have DZ3 : Dx l.prog w K mg base bg 2 "fraction" ["top","bottom"] [.int 1] uD := XZ3.calm wS
  have bis_Z3 := Fis_Z3.binds0 (ps := ["thing"]) fun _ _ _ _ _ _ us hl => match us,hl with | [_],_ => rfl
  have Dis_Z3 : Dx l.prog w K mg base bg 2 "is_fraction" ["thing"] [] (nS K) := ⟨fis_Z3,_,A2 Fis_Z3 B DZ1 DZ2,B7 X G ais_Z3,kis_Z3,bis_Z3,⟨[],bis_Z3,.nil⟩⟩
  have bZ5 := FZ5.binds0 (ps := ["one","other"]) fun _ _ _ _ _ _ us hl => match us,hl with | [_,_],_ => rfl
  have DZ5 : Dx l.prog w K mg base bg 3 "product" ["one","other"] [] (nK K) := ⟨fZ5,_,A4 FZ5 B DZ3,B7 X G aZ5,kZ5,bZ5,⟨[],bZ5,.nil⟩⟩
  have bZ6 := FZ6.binds0 (ps := ["stands","good"]) fun _ _ _ _ _ _ us hl => match us,hl with | [_,_],_ => rfl
  have DZ6 : Dx l.prog w K mg base bg 4 "ways_out" ["stands","good"] [] (tL K) := ⟨fZ6,_,A6 FZ6 B DZ3 DZ5,B7 X G aZ6,kZ6,bZ6,⟨[],bZ6,.nil⟩⟩
  have bZ7 := FZ7.binds0 (ps := ["thing"]) fun _ _ _ _ _ _ us hl => match us,hl with | [_],_ => rfl
  have DZ7 : Dx l.prog w K mg base bg 1 "is_name" ["thing"] [] (iQ K) := ⟨fZ7,_,A8 FZ7 B ,B7 X G aZ7,kZ7,bZ7,⟨[],bZ7,.nil⟩⟩
  have bZ8 := FZ8.binds0 (ps := ["things"]) fun _ _ _ _ _ _ us hl => match us,hl with | [_],_ => rfl
  have XZ8 : Dx l.prog w K mg base (cA l.prog w) 2 "refuse_no_names" ["things"] [] (dX K c_NoName) := ⟨fZ8,_,Ba FZ8 B DZ7,B7 X G aZ8,kZ8,bZ8,⟨[],bZ8,.nil⟩⟩
  have DZ8 : Dx l.prog w K mg base bg 2 "refuse_no_names" ["things"] [] wa := XZ8.calm (fun _ _ _ _ => xf)
  have bZ9 := FZ9.binds0 (ps := ["thing"]) fun _ _ _ _ _ _ us hl => match us,hl with | [_],_ => rfl
  have HZ9 : ∀ hd,ue hd l.prog w K mg base 1 "is_name" ["thing"] (lC hd) := fun hd => ⟨fZ7,_,Bc FZ9 B ,B7 X G aZ7,kZ7,bZ9⟩
  have bZ10 := FZ10.binds0 (ps := ["things"]) fun _ _ _ _ _ _ us hl => match us,hl with | [_],_ => rfl
  have HZ10 : ∀ hd,ue hd l.prog w K mg base 2 "refuse_no_names" ["things"] (oK hd) := fun hd => ⟨fZ8,_,yN FZ10 B HZ9,B7 X G aZ8,kZ8,bZ10⟩
  have bZ11 := FZ11.binds0 (ps := ["parts","good"]) fun _ _ _ _ _ _ us hl => match us,hl with | [_,_],_ => rfl
  have DZ11 : Dx l.prog w K mg base bg 1 "names_ahead" ["parts","good"] [] ie := ⟨fZ11,_,yP FZ11 B ,B7 X G aZ11,kZ11,bZ11,⟨[],bZ11,.nil⟩⟩
  have bZ12 := FZ12.binds0 (ps := ["ahead","goal"]) fun _ _ _ _ _ _ us hl => match us,hl with | [_,_],_ => rfl
  have DZ12 : Dx l.prog w K mg base bg 1 "chain_to" ["ahead","goal"] [] xj := ⟨fZ12,_,yR FZ12 B ,B7 X G aZ12,kZ12,bZ12,⟨[],bZ12,.nil⟩⟩
  have bZ13 := FZ13.binds0 (ps := ["parts","good","goals"]) fun _ _ _ _ _ _ us hl => match us,hl with | [_,_,_],_ => rfl
  have DZ13 : Dx l.prog w K mg base bg 2 "chain_down" ["parts","good","goals"] [] gu := ⟨fZ13,_,yT FZ13 B DZ11 DZ12,B7 X G aZ13,kZ13,bZ13,⟨[],bZ13,.nil⟩⟩
  have bZ14 := FZ14.binds0 (ps := ["parts","good"]) fun _ _ _ _ _ _ us hl => match us,hl with | [_,_],_ => rfl
  have DZ14 : Dx l.prog w K mg base bg 2 "all_inside" ["parts","good"] [] gz := ⟨fZ14,_,yV FZ14 B DZ11,B7 X G aZ14,kZ14,bZ14,⟨[],bZ14,.nil⟩⟩
  have bZ15 := FZ15.binds0 (ps := ["self"]) fun _ _ _ _ _ _ us hl => match us,hl with | [_],_ => rfl
  have DZ15 : du l.prog w K mg base bg 1 f_Z15 ["self"] [] (gF c_Larder) := ⟨_,yX FZ15 B ,bZ15,⟨[],bZ15,.nil⟩⟩
  have bZ16 := FZ16.binds0 (ps := ["self","told"]) fun _ _ _ _ _ _ us hl => match us,hl with | [_,_],_ => rfl
  have DZ16 : du l.prog w K mg base bg 1 f_Z16 ["self","told"] [] (ig c_Larder) := ⟨_,yZ FZ16 B ,bZ16,⟨[],bZ16,.nil⟩⟩
  have bZ17 := FZ17.binds0 (ps := ["self"]) fun _ _ _ _ _ _ us hl => match us,hl with | [_],_ => rfl
  have DZ17 : du l.prog w K mg base bg 1 f_Z17 ["self"] [] (i9 c_Larder) := ⟨_,y2 FZ17 B ,bZ17,⟨[],bZ17,.nil⟩⟩
  have bZ18 := FZ18.binds0 (ps := ["self","good"]) fun _ _ _ _ _ _ us hl => match us,hl with | [_,_],_ => rfl
  have XZ18 : du l.prog w K mg base (cA l.prog w) 3 f_Z18 ["self","good"] [] (io K c_Larder c_NoName) := ⟨_,y4 FZ18 B DZ14 XZ8,bZ18,⟨[],bZ18,.nil⟩⟩
  have DZ18 : du l.prog w K mg base bg 3 f_Z18 ["self","good"] [] (lD c_Larder) := XZ18.calm tZ
  have bZ19 := FZ19.binds0 (ps := ["self","good"]) fun _ _ _ _ _ _ us hl => match us,hl with | [_,_],_ => rfl
  have XZ19 : du l.prog w K mg base (cA l.prog w) 3 f_Z19 ["self","good"] [] (dI K c_Larder c_NoName) := ⟨_,y8 FZ19 B DZ13 XZ8,bZ19,⟨[],bZ19,.nil⟩⟩
  have DZ19 : du l.prog w K mg base bg 3 f_Z19 ["self","good"] [] (gJ c_Larder) := XZ19.calm oN
  have bZ20 := FZ20.binds0 (ps := ["self","good"]) fun _ _ _ _ _ _ us hl => match us,hl with | [_,_],_ => rfl
  have XZ20 : du l.prog w K mg base (cA l.prog w) 3 f_Z20 ["self","good"] [] (lh K c_Larder c_NoName) := ⟨_,za FZ20 B DZ16 XZ8,bZ20,⟨[],bZ20,.nil⟩⟩
  have DZ20 : du l.prog w K mg base bg 3 f_Z20 ["self","good"] [] (oM c_Larder) := XZ20.calm vx
  have bZ21 := FZ21.binds0 (ps := ["self","good"]) fun _ _ _ _ _ _ us hl => match us,hl with | [_,_],_ => rfl
  have XZ21 : du l.prog w K mg base (cA l.prog w) 3 f_Z21 ["self","good"] [] (f8 K c_Larder c_NoName) := ⟨_,zc FZ21 B XZ8,bZ21,⟨[],bZ21,.nil⟩⟩
  have DZ21 : du l.prog w K mg base bg 3 f_Z21 ["self","good"] [] (jg c_Larder) := XZ21.calm rB
  have bZ22 := FZ22.binds0 (ps := ["self","good"]) fun _ _ _ _ _ _ us hl => match us,hl with | [_,_],_ => rfl
  have HZ22 : ∀ hd,xB hd l.prog w K mg base 3 f_Z21 ["self","good"] (jf hd c_Larder) := fun hd => ⟨_,ze FZ22 B HZ10,bZ22⟩
  have XZ23 : du l.prog w K mg base (cA l.prog w) 3 f_Z23 ["self","good","other","ratio"] [.non] (jb K c_Larder c_NoName c_NoStand) := ⟨_,zh FZ23 B Dis_Z3 DZ16 XZ3 XZ8,FZ23.binds (ps := ["self","good","other","ratio"]) (ds := []) dZ23 rfl fun _ _ _ _ _ _ us hl => match us,hl with | [_,_,_,_],_ => ⟨_,rfl,rfl⟩,⟨[.none],FZ23.binds (ps := ["self","good","other","ratio"]) (ds := [.none]) dZ23 rfl fun _ _ _ _ _ _ us hl => match us,hl with | [_,_,_],_ => ⟨_,rfl,rfl⟩ | [],h => absurd h (by simp) | [_],h => absurd h (by simp) | [_,_],h => absurd h (by simp) | _ :: _ :: _ :: _ :: _,h => absurd h (by simp),.cons rfl .nil⟩⟩
  have DZ23 : du l.prog w K mg base bg 3 f_Z23 ["self","good","other","ratio"] [.non] yy := XZ23.calm (fun _ _ _ _ h => h.elim)
  have bZ24 := FZ24.binds0 (ps := ["self","good"]) fun _ _ _ _ _ _ us hl => match us,hl with | [_,_],_ => rfl
  have XZ24 : du l.prog w K mg base (cA l.prog w) 5 f_Z24 ["self","good"] [] (mV K c_Larder c_NoName c_NoStandIn) := ⟨_,zj FZ24 B DZ6 XZ8 XZ19 I_NoStandIn,bZ24,⟨[],bZ24,.nil⟩⟩
  have DZ24 : du l.prog w K mg base bg 5 f_Z24 ["self","good"] [] (tY K c_Larder) := XZ24.calm xE
  have bZ25 := FZ25.binds0 (ps := ["_law_script","_law_k"]) fun _ _ _ _ _ _ us hl => match us,hl with | [_,_],_ => rfl
  have DZ25 : Dx l.prog w K mg base bg 1 "_law_cell_at" ["_law_script","_law_k"] [] (nJ K) := ⟨fZ25,_,zm FZ25 B ,B7 X G aZ25,kZ25,bZ25,⟨[],bZ25,.nil⟩⟩
  have bZ26 := FZ26.binds0 (ps := ["_law_number","_law_many"]) fun _ _ _ _ _ _ us hl => match us,hl with | [_,_],_ => rfl
  have DZ26 : Dx l.prog w K mg base bg 1 "_law_names" ["_law_number","_law_many"] [] jc := ⟨fZ26,_,zq FZ26 B ,B7 X G aZ26,kZ26,bZ26,⟨[],bZ26,.nil⟩⟩
  have bZ27 := FZ27.binds0 (ps := ["_law_one","_law_other"]) fun _ _ _ _ _ _ us hl => match us,hl with | [_,_],_ => rfl
  have DZ27 : Dx l.prog w K mg base bg 1 "_law_divisor_of" ["_law_one","_law_other"] [] oG := ⟨fZ27,_,zt FZ27 B ,B7 X G aZ27,kZ27,bZ27,⟨[],bZ27,.nil⟩⟩
  have bZ28 := FZ28.binds0 (ps := ["_law_cell"]) fun _ _ _ _ _ _ us hl => match us,hl with | [_],_ => rfl
  have DZ28 : Dx l.prog w K mg base bg 2 "_law_ratio" ["_law_cell"] [] gG := ⟨fZ28,_,zw FZ28 B DZ27,B7 X G aZ28,kZ28,bZ28,⟨[],bZ28,.nil⟩⟩
  have bZ29 := FZ29.binds0 (ps := ["_law_cell"]) fun _ _ _ _ _ _ us hl => match us,hl with | [_],_ => rfl
  have DZ29 : Dx l.prog w K mg base bg 1 "_law_odd_ratio" ["_law_cell"] [] (fF K) := ⟨fZ29,_,zy FZ29 B ,B7 X G aZ29,kZ29,bZ29,⟨[],bZ29,.nil⟩⟩
  have bZ30 := FZ30.binds0 (ps := ["_law_cell"]) fun _ _ _ _ _ _ us hl => match us,hl with | [_],_ => rfl
  have DZ30 : Dx l.prog w K mg base bg 1 "_law_no_name" ["_law_cell"] [] (gH K) := ⟨fZ30,_,zB FZ30 B ,B7 X G aZ30,kZ30,bZ30,⟨[],bZ30,.nil⟩⟩
  have bZ31 := FZ31.binds0 (ps := ["_law_e"]) fun _ _ _ _ _ _ us hl => match us,hl with | [_],_ => rfl
  have HZ31 : ∀ hd,ue hd l.prog w K mg base 1 "_law_alone" ["_law_e"] (dJ c_NoName c_NoStand) := fun hd => ⟨fZ31,_,zD FZ31 B ,B7 X G aZ31,kZ31,bZ31⟩
  have DZ31 : Dx l.prog w K mg base bg 1 "_law_alone" ["_law_e"] [] (dJ c_NoName c_NoStand) := (HZ31 none).calm
  have bZ32 := FZ32.binds0 (ps := ["_law_larder","_law_way","_law_odd"]) fun _ _ _ _ _ _ us hl => match us,hl with | [_,_,_],_ => rfl
  have DZ32 : Dx l.prog w K mg base bg 6 "_law_handed" ["_law_larder","_law_way","_law_odd"] [] (fG K c_Larder) := ⟨fZ32,_,zF FZ32 B XZ18 XZ19 XZ20 XZ21 XZ24 HZ31,B7 X G aZ32,kZ32,bZ32,⟨[],bZ32,.nil⟩⟩
  have bZ33 := FZ33.binds0 (ps := ["_law_larder","_law_one","_law_other","_law_ratio_here","_law_bare"]) fun _ _ _ _ _ _ us hl => match us,hl with | [_,_,_,_,_],_ => rfl
  have DZ33 : Dx l.prog w K mg base bg 6 "_law_told" ["_law_larder","_law_one","_law_other","_law_ratio_here","_law_bare"] [] (jd K c_Larder) := ⟨fZ33,_,zH FZ33 B XZ23 HZ31,B7 X G aZ33,kZ33,bZ33,⟨[],bZ33,.nil⟩⟩
  have bZ34 := FZ34.binds0 (ps := ["_law_larder","_law_stands","_law_names_here","_law_cell"]) fun _ _ _ _ _ _ us hl => match us,hl with | [_,_,_,_],_ => rfl
  have DZ34 : Dx l.prog w K mg base bg 7 "_law_deed" ["_law_larder","_law_stands","_law_names_here","_law_cell"] [] (lA K c_Larder) := ⟨fZ34,_,zJ FZ34 B DZ28 DZ29 DZ30 DZ32 DZ33,B7 X G aZ34,kZ34,bZ34,⟨[],bZ34,.nil⟩⟩
  have bZ35 := FZ35.binds0 (ps := ["_law_larder","_law_stands","_law_good"]) fun _ _ _ _ _ _ us hl => match us,hl with | [_,_,_],_ => rfl
  have DZ35 : Dx l.prog w K mg base bg 6 "_law_given" ["_law_larder","_law_stands","_law_good"] [] (je K c_Larder) := ⟨fZ35,_,zL FZ35 B DZ20 DZ21 XZ24 HZ22,B7 X G aZ35,kZ35,bZ35,⟨[],bZ35,.nil⟩⟩
  exact zN Flaw B DZ15 DZ17 DZ18 DZ19 DZ24 DZ25 DZ26 DZ34 DZ35
theorem walk {l : PySem.W.OpenLaw} {q : Program} {loose : List Str} {XP : (Str -> Option Value) -> Heap -> Prop} {YP : World -> Heap -> Prop} {d : DefRec} {K : Params -> B1} (hn : l.most = some 63) (hdf : d.params.defaults = [])
  (hY : ∀ (w : World) (h : Heap),YP w h -> (K w.params).In h)
  (F : ∀ (w : World) (mg : Str -> Option Value) (fa : Addr) (h : Heap),(K w.params).In h -> h.Ns mainGlobals mg -> mg d.name = some (.ref fa) ->
   ∃ fd : FuncData,(∀ (s : Shared) (u : Value),BindsTo s fd ⟨[u],[]⟩ [("_law_script",u)]) /\ ∀ base : Heap,(K w.params).In base -> base.Ns mainGlobals mg -> aZ l.prog w (K w.params) mg base bg 8 fa fd ["_law_script"] (pq (K w.params))) :
  PySem.W.WalkO q loose XP YP l.row.toRowW d [] (fun f vs => PySem.call f vs) :=
 L2.uz (n := 63) (k := 8) (x := "_law_script") (CX := fun _ => bg) (sp := fun w => pq (K w.params)) hn (by decide) hdf ⟨rfl,by decide,by decide⟩ hY F (fun _ _ a ns hl _ hS => ⟨a,ns,rfl,hS,hl,fun _ => rfl⟩) fun _ _ _ _ _ z => z
end Lk29
open PySem PySem.W PyProof.Rows
set_option maxRecDepth 100000 in
set_option maxHeartbeats 0 in
theorem PySem.Challenge.cw_stovework_k29_stands_refused_holds : PySem.Challenge.rw_stovework_k29_stands_refused.Holds := by
 refine Lk29.hd ?_
 k_fill
 refine Lk29.walk (l := PySem.Challenge.rw_stovework_k29_stands_refused) rfl rfl (fun w h Y => PySem.W.kIn_of Y) ?F
 case F =>
  intro w mg fa h KX G hmg
  refine' Lk29.xH KX G hmg ?h0 ?h1 ?h2 ?h3 ?h4 ?h5 ?h6 ?h7 ?h8 ?h9 ?h10 ?h11 ?h12 ?h13 ?h14 ?h15 ?h16 ?h17 ?h18 ?h19 ?h20 ?h21 ?h22 ?h23 ?h24 ?h25 ?h26 ?h27 ?h28 ?h29 ?h30 ?h31 ?h32 ?h33 ?h34 ?h35 ?h36 ?h37 ?h38 ?h39 ?h40 ?h41 ?h42 ?h43 ?h44 ?h45 ?h46 ?h47 ?h48 ?h49 ?h50 ?h51 ?h52 ?h53 ?h54 ?h55 ?h56 ?h57 ?h58 ?h59 ?h60 ?h61 ?h62 ?h63 ?h64 ?h65 ?h66 ?h67 ?h68 ?h69 ?h70 ?h71 ?h72 ?h73 ?h74 ?h75 ?h76 ?h77 ?h78 ?h79 ?h80 ?h81 ?h82 ?h83 ?h84 ?h85 ?h86 ?h87 ?h88 ?h89 ?h90 ?h91 ?h92 ?h93 ?h94 ?h95 ?h96 ?h97 ?h98 ?h99 ?h100 ?h101 ?h102 ?h103 ?h104 ?h105 ?h106 ?h107 ?h108 ?h109 ?h110 ?h111 ?h112 ?h113 ?h114 ?h115 ?h116 ?h117 ?h118 ?h119 ?h120 ?h121 ?h122 ?h123 ?h124 ?h125 ?h126 ?h127 ?h128 ?h129 ?h130 ?h131 ?h132 ?h133 ?h134 ?h135 ?h136 ?h137 ?h138 ?h139 ?h140 ?h141 ?h142 ?h143 ?h144
  case h0 => k_is
  (case h1 => exact ⟨_,_,_,_,_,_,_,_,_,by k_is,by k_is,by k_is⟩)
  (case h2 => k_is)
  (case h3 => exact ⟨_,_,_,_,_,_,_,_,_,by k_is,by k_is,by k_is⟩)
  (case h4 => k_is)
  (case h5 => exact ⟨_,_,_,_,_,_,_,_,_,by k_is,by k_is,by k_is⟩)
  (case h6 => k_is)
  (case h7 => exact ⟨_,_,_,_,_,_,_,_,_,by k_is,by k_is,by k_is⟩)
  (case h8 => k_is)
  (case h9 => exact ⟨_,_,_,_,_,_,_,_,_,by k_is,by k_is,by k_is⟩)
  (case h10 => k_is)
  (case h11 => exact ⟨_,_,_,_,_,_,_,_,_,by k_is,by k_is,by k_is⟩)
  (case h12 => k_is)
  (case h13 => exact ⟨_,_,_,_,_,_,_,_,_,by k_is,by k_is,by k_is⟩)
  (case h14 => k_is)
  (case h15 => exact ⟨_,_,_,_,_,_,_,_,_,by k_is,by k_is,by k_is⟩)
  (case h16 => k_is)
  (case h17 => exact ⟨_,_,_,_,_,_,_,_,_,by k_is,by k_is,by k_is⟩)
  (case h18 => k_is)
  (case h19 => exact ⟨_,_,_,_,_,_,_,_,_,by k_is,by k_is,by k_is⟩)
  (case h20 => k_is)
  (case h21 => exact ⟨_,_,_,_,_,_,_,_,_,by k_is,by k_is,by k_is⟩)
  (case h22 => k_is)
  (case h23 => exact ⟨_,_,_,_,_,_,_,_,_,by k_is,by k_is,by k_is⟩)
  (case h24 => k_is)
  (case h25 => exact ⟨_,_,_,_,_,_,_,_,_,by k_is,by k_is,by k_is⟩)
  (case h26 => k_is)
  (case h27 => exact ⟨_,_,_,_,_,_,_,_,_,by k_is,by k_is,by k_is⟩)
  (case h28 => k_is)
  (case h29 => exact ⟨_,_,_,_,_,_,_,_,_,by k_is,by k_is,by k_is⟩)
  (case h30 => k_is)
  (case h31 => exact ⟨_,_,_,_,_,_,_,_,_,by k_is,by k_is,by k_is⟩)
  (case h32 => k_is)
  (case h33 => exact ⟨_,_,_,_,_,_,_,_,_,by k_is,by k_is,by k_is⟩)
  (case h34 => k_is)
  (case h35 => exact ⟨_,_,_,_,_,_,_,_,_,by k_is,by k_is,by k_is⟩)
  (case h36 => k_is)
  (case h37 => exact ⟨_,_,_,_,_,_,_,_,_,by k_is,by k_is,by k_is⟩)
  (case h38 => k_is)
  (case h39 => exact ⟨_,_,_,_,_,_,_,_,_,by k_is,by k_is,by k_is⟩)
  (case h40 => k_is)
  (case h41 => exact ⟨_,_,_,_,_,_,_,_,_,by k_is,by k_is,by k_is⟩)
  (case h42 => k_is)
  (case h43 => exact ⟨_,_,_,_,_,_,_,_,_,by k_is,by k_is,by k_is⟩)
  (case h44 => k_is)
  (case h45 => exact ⟨_,_,_,_,_,_,_,_,_,by k_is,by k_is,by k_is⟩)
  (case h46 => k_is)
  (case h47 => k_is)
  (case h48 => k_is)
  (case h49 => k_is)
  (case h50 => k_is)
  (case h51 => k_is)
  (case h52 => k_is)
  (case h53 => k_is)
  (case h54 => k_is)
  (case h55 => k_is)
  (case h56 => k_is)
  (case h57 => k_is)
  (case h58 => k_is)
  (case h59 => k_is)
  (case h60 => k_is)
  (case h61 => k_is)
  (case h62 => k_is)
  (case h63 => k_is)
  (case h64 => k_is)
  (case h65 => k_is)
  (case h66 => k_is)
  (case h67 => k_is)
  (case h68 => k_is)
  (case h69 => k_is)
  (case h70 => k_is)
  (case h71 => k_is)
  (case h72 => k_is)
  (case h73 => k_is)
  (case h74 => k_is)
  (case h75 => k_is)
  (case h76 => k_is)
  (case h77 => k_is)
  (case h78 => k_is)
  (case h79 => k_is)
  (case h80 => k_is)
  (case h81 => k_is)
  (case h82 => k_is)
  (case h83 => k_is)
  (case h84 => exact ⟨_,_,_,_,_,_,_,_,_,by k_is,by k_is,by k_is⟩)
  (case h85 => k_is)
  (case h86 => exact ⟨_,_,_,_,_,_,_,_,_,by k_is,by k_is,by k_is⟩)
  (case h87 => k_is)
  (case h88 => exact ⟨_,_,_,_,_,_,_,_,_,by k_is,by k_is,by k_is⟩)
  (case h89 => k_is)
  (case h90 => exact ⟨_,_,_,_,_,_,_,_,_,by k_is,by k_is,by k_is⟩)
  (case h91 => k_is)
  (case h92 => exact ⟨_,_,_,_,_,_,_,_,_,by k_is,by k_is,by k_is⟩)
  (case h93 => k_is)
  (case h94 => exact ⟨_,_,_,_,_,_,_,_,_,by k_is,by k_is,by k_is⟩)
  (case h95 => k_is)
  (case h96 => exact ⟨_,_,_,_,_,_,_,_,_,by k_is,by k_is,by k_is⟩)
  (case h97 => k_is)
  (case h98 => exact ⟨_,_,_,_,_,_,_,_,_,by k_is,by k_is,by k_is⟩)
  (case h99 => k_is)
  (case h100 => exact ⟨_,_,_,_,_,_,_,_,_,by k_is,by k_is,by k_is⟩)
  (case h101 => k_is)
  (case h102 => k_is)
  (case h103 => kernel_rfl)
  (case h104 => exact ⟨⟨by k_is,by k_is,by k_is⟩,by kernel_rfl,by k_is,by k_is,by k_is,by k_is⟩)
  (case h105 => kernel_rfl)
  (case h106 => exact ⟨⟨by k_is,by k_is,by k_is⟩,by kernel_rfl,by k_is,by k_is,by k_is,by k_is⟩)
  (case h107 => kernel_rfl)
  (case h108 => exact ⟨⟨by k_is,by k_is,by k_is⟩,by kernel_rfl,by k_is,by k_is,by k_is,by k_is⟩)
  (case h109 => exact ⟨by k_is,by kernel_rfl,by k_is⟩)
  (case h110 => exact ⟨by k_is,by kernel_rfl,by k_is⟩)
  (case h111 => exact ⟨by k_is,by kernel_rfl,by k_is⟩)
  (case h112 => k_is)
  (case h113 => k_is)
  (case h114 => k_is)
  (case h115 => k_is)
  (case h116 => kernel_rfl)
  (case h117 => kernel_rfl)
  (case h118 => kernel_rfl)
  (case h119 => kernel_rfl)
  (case h120 => exact ⟨by k_is,by kernel_rfl,by kernel_rfl,by k_is⟩)
  (case h121 => k_is)
  (case h122 => exact ⟨⟨by k_is,by k_is,by k_is⟩,by kernel_rfl,by k_is,by k_is,by k_is,by k_is⟩)
  (case h123 => kernel_rfl)
  (case h124 => kernel_rfl)
  (case h125 => kernel_rfl)
  (case h126 => kernel_rfl)
  (case h127 => exact ⟨by k_is,by k_is,by k_is,by k_is⟩)
  (case h128 => exact ⟨by k_is,by k_is,by k_is,by k_is⟩)
  (case h129 => exact ⟨by k_is,by k_is,by k_is⟩)
  (case h130 => exact ⟨by k_is,by k_is,by k_is⟩)
  (case h131 => exact ⟨by k_is,by k_is,by k_is⟩)
  (case h132 => exact ⟨by k_is,by k_is,by k_is⟩)
  (case h133 => exact ⟨by k_is,by k_is,by k_is⟩)
  (case h134 => exact ⟨by k_is,by k_is,by k_is⟩)
  (case h135 => exact ⟨by k_is,by k_is,by k_is⟩)
  (case h136 => exact ⟨by k_is,by k_is,by k_is⟩)
  (case h137 => unfold L2.bQ; k_is)
  (case h138 => unfold L2.bQ; k_is)
  (case h139 => unfold L2.bQ; k_is)
  (case h140 => unfold L2.bQ; k_is)
  (case h141 => exact ⟨⟨_,_,_,_,_,_,_,_,_,_,_,_,_,_,_,_,by k_is,by kernel_rfl,by k_is,by kernel_rfl⟩,by k_is,by k_is⟩)
  (case h142 => k_is)
  (case h143 => k_is)
  (case h144 => k_is)
