import PyProof.Rows.All
import Wide.All
import OpenK.AllK
import Wide.FinOn
import Lean
import PyProof.EqAt
import PyProof.EqKinds
import PyProof.TupleCall
import PyProof.NeKinds
import PyProof.StationsW
import PyProof.RulesAs
import PyProof.ExcArgsOwn
import PyProof.CompFree
import PyProof.ExcInit
import PyProof.ConsumeWalk
import PyProof.Rows.SeqGen
import PyProof.StrWalks
import PyProof.SliceStr2
import PyProof.MeetsStr
import KE.KIntText
import PyProof.Rows.FStr
import PyProof.StrCalls6
import PyProof.StrBlockL
import PyProof.ToksMono
import PyProof.WalkInts
import PyProof.Rows.MinMaxN
import PyProof.StrLawsReplace
import PyProof.StrLawsTight
import PyProof.Rows.StrLawsPart
import PyProof.DictWalks
import KE.KEqDict
import KE.KDictLaws
import KE.KRevIter
import PyProof.ListCopy
import PyProof.CollectIter
import PyProof.Rows.SetFrom
import PyProof.Rows.SortShellK
import PyProof.Rows.SortStr
import PyProof.Rows.SortWalk
import KE.KDictSum
import KE.KSortTup
import PyProof.TupleOfSeq
import PyProof.Rows.SortRuns
import PyProof.FactsAll.tuple_2
import PyProof.WalksEnum
import PyProof.EnumMake
import PyProof.EnumFor
import PyProof.ZipIter
import KE.KDictOf
import PyProof.DictItems
import PyProof.FactsAll.dict_itemiterator_1
import PyProof.Rows.StrMul
import KE.KDictList
import PyProof.Rows.SumAny
import KE.KIsAll
import PySem.Challenge.RW_stovework_k42_links_of_rounds
set_option maxHeartbeats 4000000
noncomputable section
abbrev sE:=PySem.Value->PySem.Shared->Prop
abbrev sF:=PySem.Str->Option PySem.Value
abbrev sG:=List (PySem.Addr×PySem.Obj)
abbrev sH:=Array (Option PySem.Value)
abbrev sI:=List PySem.Str
abbrev sJ:=List PySem.Addr
abbrev sK:=List PySem.Value
abbrev sL:=Option PySem.Addr
abbrev sM:=Option PySem.Value
open Array renaming getElem?_eq_getElem → AC, toList_append → AD, length_toList → AJ, getElem?_toList → AM, toList_extract → AU, getElem?_eq_some_iff → Ao, size_map → As, getD_eq_getD_getElem? → B1, toList_push → BM, toList_reverse → BN, mem_toList_iff → BO, getElem?_map → BX, getElem?_eq_none → BY, toList_inj → Bk
open Bool renaming false_eq_true → AG, false_ne_true → Ac, not_true → BG
open Int renaming fmod_nonneg_of_pos → Af, zero_add → An, fmod_lt_of_pos → B0, toNat_natCast → BR
open List renaming getElem?_eq_getElem → A0, getElem?_eq_some_iff → A4, length_map → A5, getElem?_append_right → A7, pairwise_append → A8, length_append → A9, getElem?_append_left → AA, mem_append → AE, getElem?_map → AF, mem_of_getElem? → AH, append_assoc → AI, length_take → AK, take_append_drop → AL, mem_cons → AT, size_toArray → AV, mem_append_right → AW, extract_eq_take_drop → AX, mem_cons_of_mem → AY, take_of_length_le → Aa, mem_map → Ab, mem_cons_self → Ae, map_cons → Ag, range → Ai, mem_iff_getElem? → Ak, length_cons → Ap, map_append → Aq, getElem?_take_of_lt → Ar, mem_range → Av, mem_singleton → Aw, eq_nil_of_length_eq_zero → Ax, drop_eq_getElem_cons → B6, mem_reverse → B7, pairwise_cons → B8, pairwise_map → BA, length_range → BB, map_map → BF, not_mem_nil → BI, getElem?_drop → BJ, getD_eq_getElem?_getD → BK, mem_append_left → BP, length_reverse → BU, getElem?_cons_succ → BV, length → BW, mem_of_mem_take → Bh, nodup_iff_pairwise_ne → Bi, Perm → Bl, pairwise_iff_getElem → Bp, extract_eq_drop_take → Bq, filterMap_cons → Br
open List.Perm renaming append_left → Ah, append_right → Au
open Nat renaming le_refl → AB, ne_of_lt → AS, lt_of_lt_of_le → Ad, le_trans → Az, zero_le → B5, lt_succ_of_lt → BC, add_sub_cancel_left → BD, mul_assoc → BS, min_eq_left → BZ, le_of_lt_succ → Ba, pow_succ → Bm
open Option renaming map_eq_some_iff → AR, bind_eq_some_iff → Aj, isSome_iff_exists → BQ
open Option.some renaming inj → B9
open PyProof renaming noPylong_small → AZ
open PySem renaming mem_of_lookup → B4
open PySem.F renaming plainAttrs_list → AN, type_list_append → AO, slot_list_append → AQ
open PySem.W renaming Frag → A6, nsIn → Al, mg_none_of → Am, kia_one → Ay, findIn → B2, emptyDict → B3, fnOf → BE, keepIn → BH, instObj → BL, mg_of → Bo
open PySem.W.Fast renaming te14364793385576792824 → Bb, te14289696077712309145 → Bc, te11892475500146522536 → Be, te10274390034422433532 → Bf, te10156331382660048174 → Bg, te6613529449190102663 → Bj
namespace Ht
open PySem PySem.W PyProof.Rows
noncomputable def hV (ok:Thread->Bool) (st:SharedT->Thread->Option (SharedT×Thread)) (n:Nat):SharedT->Thread->Option SharedT:=
 Nat.rec (motive:=fun _=>SharedT->Thread->Option SharedT) (fun _ _=>none) (fun _ ih s t=>
  Bool.rec (motive:=fun _=>Option SharedT)
   (Bool.rec (motive:=fun _=>Option SharedT) none (Option.rec (motive:=fun _=>Option SharedT) none (fun r=>Prod.rec (motive:=fun _=>Option SharedT) (fun s' t'=>ih s' t') r) (st s t)) (ok t))
   (some s) (through t)) n
theorem iO {tb:String->Option Builtin} {p:Program} {w:World} {m:Nat} {ann:sM}:∀{n:Nat} {s s':SharedT} {t:Thread},hV (stepOk m ann) (stepT (denote tb) p w) n s t=some s'->topRun tb p w m ann n s.abs t=some s'.abs
 |0,_,_,_,h=>by cases h
 |n+1,s,s',t,h=>by
  unfold topRun;have h':Bool.rec (motive:=fun _=>Option SharedT)
   (Bool.rec (motive:=fun _=>Option SharedT) none (Option.rec (motive:=fun _=>Option SharedT) none (fun r=>Prod.rec (motive:=fun _=>Option SharedT) (fun s' t'=>hV (stepOk m ann) (stepT (denote tb) p w) n s' t') r) (stepT (denote tb) p w s t)) (stepOk m ann t))
   (some s) (through t)=some s':=h
  cases ht:through t with
  |true=>rw[ht] at h';cases h';rfl
  |false=>
   rw[ht] at h';cases hk:stepOk m ann t with
   |false=>rw[hk] at h';cases h'
   |true=>
    rw[hk] at h';cases hs:stepT (denote tb) p w s t with
    |none=>rw[hs] at h';cases h'
    |some r=>
     obtain ⟨s₂,t₂⟩:=r;rw[hs] at h';dsimp only;rw[stepT_spec hs];exact iO h'
noncomputable def grow (l:List Obj):Nat->BT->Option BT:=
 List.rec (motive:=fun _=>Nat->BT->Option BT) (fun _ t=>some t) (fun o _ ih n t=>
  Bool.rec (motive:=fun _=>Option BT) none (ih (n+1) (t.ins n o)) ((t.ins n o).get n).isSome) l
theorem iP {life:Life}:∀{l:List Obj} {n:Nat} {t t':BT},grow l n t=some t'->absHeap t' (n+l.length) life=⟨(absHeap t n life).objs++l.toArray,life⟩
 | [],n,t,t',h=>by
  cases h;simp[absHeap]
 |o::l,n,t,t',h=>by
  have h':Bool.rec (motive:=fun _=>Option BT) none (grow l (n+1) (t.ins n o)) ((t.ins n o).get n).isSome=some t':=h
  cases e:((t.ins n o).get n).isSome with
  |false=>rw[e] at h';cases h'
  |true=>
   rw[e] at h';have z:=iP (life:=life) h';rw[absHeap_ins e] at z;rw[show n+(o::l).length=n+1+l.length by rw[Ap];omega,z]
   simp[Heap.push]
noncomputable def treeOf (s:Shared):Option SharedT:=
 Option.rec (motive:=fun _=>Option SharedT) none (fun t=>some ⟨t,s.heap.objs.size,s.heap.life,s.gens,s.drawn,s.toks,s.os⟩) (grow s.heap.objs.toList 0 .nil)
theorem hW {s:Shared} {s':SharedT} (h:treeOf s=some s'):s'.abs=s:=by
 have h':Option.rec (motive:=fun _=>Option SharedT) none (fun t=>some ⟨t,s.heap.objs.size,s.heap.life,s.gens,s.drawn,s.toks,s.os⟩) (grow s.heap.objs.toList 0 .nil)=some s':=h
 cases e:grow s.heap.objs.toList 0 .nil with
 |none=>rw[e] at h';cases h'
 |some t=>
  rw[e] at h';cases h';have z:=iP (life:=s.heap.life) e;obtain ⟨⟨objs,life⟩,gens,drawn,toks,os⟩:=s;simp only[SharedT.abs];have z':absHeap t objs.size life=⟨objs,life⟩:=by
   simpa [absHeap,BT.list] using z
  rw[z']
noncomputable def j9 (ok:Nat->sM->Thread->Bool) (st:SharedT->Thread->Option (SharedT×Thread)) (p:Program) (N:Nat) (s₀:Shared):Option Shared:=
 Bool.rec (motive:=fun _=>Option Shared) none
  ((treeOf s₀).bind fun t₀=>(hV (ok s₀.heap.objs.size (s₀.heap.nsMap mainGlobals "__annotations__")) st N t₀ (topStub p)).bind fun t₁=>
   (fun s₁=>Bool.rec (motive:=fun _=>Option Shared) none (some s₁) (staticsOk (importedModules p.main.body) s₀.heap s₁.heap&&namesBound p s₁.heap&&gensDone s₁&&laidKept s₀.heap s₁.heap)) t₁.abs)
  (s₀.heap.isNs mainGlobals&&s₀.gens.size==0)
theorem kc {tb:String->Option Builtin} {p:Program} {w:World} {N:Nat} {s₀ s:Shared} (h:j9 stepOk (stepT (denote tb) p w) p N s₀=some s):topFrom tb p w N s₀=some s:=by
 unfold j9 at h;unfold topFrom;cases e:s₀.heap.isNs mainGlobals&&s₀.gens.size==0 with
 |false=>rw[e] at h;cases h
 |true=>
  rw[e] at h;obtain ⟨t₀,e0,h⟩:=Aj.mp h;obtain ⟨t₁,e1,h⟩:=Aj.mp h;have r:=iO e1;rw[hW e0] at r;dsimp only;rw[r];dsimp only at h;show (match staticsOk (importedModules p.main.body) s₀.heap t₁.abs.heap&&namesBound p t₁.abs.heap&&gensDone t₁.abs&&laidKept s₀.heap t₁.abs.heap with|true=>some t₁.abs|false=>none)=some s
  cases q:staticsOk (importedModules p.main.body) s₀.heap t₁.abs.heap&&namesBound p t₁.abs.heap&&gensDone t₁.abs&&laidKept s₀.heap t₁.abs.heap with
  |false=>rw[q] at h;cases h
  |true=>rw[q] at h;exact h
noncomputable def gm (ok:Nat->sM->Thread->Bool) (st:SharedT->Thread->Option (SharedT×Thread)) (p:Program) (N:Nat) (s₀:Shared):Option Shared:=
 (treeOf s₀).bind fun t₀=>(hV (ok s₀.heap.objs.size (s₀.heap.nsMap mainGlobals "__annotations__")) st N t₀ (topStub p)).map fun t₁=>t₁.abs
def lE (p:Program) (s₀ s₁:Shared):Bool:=(s₀.heap.isNs mainGlobals&&s₀.gens.size==0)&&(staticsOk (importedModules p.main.body) s₀.heap s₁.heap&&namesBound p s₁.heap&&gensDone s₁&&laidKept s₀.heap s₁.heap)
theorem ke {tb:String->Option Builtin} {p:Program} {w:World} {N:Nat} {s₀ s:Shared} (h:gm stepOk (stepT (denote tb) p w) p N s₀=some s) (c:lE p s₀ s=true):topFrom tb p w N s₀=some s:=by
 apply kc;unfold gm at h;obtain ⟨t₀,e0,h⟩:=Aj.mp h;obtain ⟨t₁,e1,rfl⟩:=AR.mp h;unfold lE at c;rw[Bool.and_eq_true] at c;unfold j9;rw[c.1];show ((treeOf s₀).bind fun t₀=>_)=_
 rw[e0];show ((hV _ _ N t₀ (topStub p)).bind fun t₁=>_)=_
 rw[e1];show (Bool.rec (motive:=fun _=>Option Shared) none (some t₁.abs) (staticsOk (importedModules p.main.body) s₀.heap t₁.abs.heap&&namesBound p t₁.abs.heap&&gensDone t₁.abs&&laidKept s₀.heap t₁.abs.heap):Option Shared)=_
 rw[c.2]
abbrev Look (p:Program) (N:Nat) {α:Type} (f:Shared->Shared->α) (v:World->α):Prop:=∀w:World,((importEnds treeTable (opening p) w N (start (opening p)).1 (start (opening p)).2).bind fun s=>(fenceModules? p s).bind fun s₀=>(gm stepOk (stepT (denote treeTable) p w) p N s₀).map fun s₁=>f s₀ s₁)=some (v w)
theorem Look.at_ {p:Program} {N:Nat} {α:Type} {f:Shared->Shared->α} {v:World->α} (h:Look p N f v) (w:World) {s s₀ s₁:Shared} (a:importEnds treeTable (opening p) w N (start (opening p)).1 (start (opening p)).2=some s) (b:fenceModules? p s=some s₀) (c:gm stepOk (stepT (denote treeTable) p w) p N s₀=some s₁):f s₀ s₁=v w:=by
 have:=h w;rw[a] at this;replace this:((fenceModules? p s).bind fun s₀=>(gm stepOk (stepT (denote treeTable) p w) p N s₀).map fun s₁=>f s₀ s₁)=some (v w):=this
 rw[b] at this;replace this:((gm stepOk (stepT (denote treeTable) p w) p N s₀).map fun s₁=>f s₀ s₁)=some (v w):=this
 rw[c] at this;injection this
theorem kg {p q:Program} {loose:sI} {Xt:Shared->Bool} {α:Type} {Yf:Shared->α} {Ya:World->α} {N:Nat} {g0:Bool} (hc:Look p N (fun s₀ s₁=>lE p s₀ s₁) fun _=>true)
  (h1:Look p N (fun _ s=>openSeen q loose (importedModules p.main.body) Xt g0 s) fun _=>openGood q loose) (h2:Look p N (fun _ s=>Yf s) Ya):LeftO p q loose Xt Yf Ya N g0:=fun w=>by
 obtain ⟨s,a,e⟩:=Aj.mp (hc w);obtain ⟨s₀,b,e⟩:=Aj.mp e;obtain ⟨s₁,c,e⟩:=AR.mp e;have z:openEnds treeTable p w N=some s₁:=by
  unfold openEnds fencedOpening;rw[a];show (fenceModules? p s).bind _=_;rw[b];exact ke c e
 rw[z];show some (_,_)=some (_,_);rw[h1.at_ w a b c,h2.at_ w a b c]
noncomputable def iQ (t:SharedT) (a:Addr):Option Obj:=Bool.rec (motive:=fun _=>Option Obj) none ((fun o=>Bool.rec (motive:=fun _=>Option Obj) (some o) none (Obj.isFreed o)) ((t.tree.get a).getD default)) (Nat.blt a t.n)
theorem jj (t:SharedT) (a:Addr):iQ t a=t.abs.heap.get? a:=by
 unfold iQ SharedT.abs Heap.get?;dsimp only;rw[absHeap_at];cases h:Nat.blt a t.n with
 |false=>
  rw[if_neg fun z=>by rw[Nat.blt_eq.mpr z] at h;cases h]
 |true=>
  rw[if_pos (Nat.blt_eq.mp h)];obtain ⟨cls,dict,data,slots⟩:=(t.tree.get a).getD default;cases data<;>rfl
theorem jk {p:Program} {N:Nat} {as:sJ} {v:World->List (Option Obj)}
  (h:∀w:World,((importEnds treeTable (opening p) w N (start (opening p)).1 (start (opening p)).2).bind fun s=>(fenceModules? p s).bind fun s₀=>(treeOf s₀).bind fun t₀=>(hV (stepOk s₀.heap.objs.size (s₀.heap.nsMap mainGlobals "__annotations__")) (stepT (denote treeTable) p w) N t₀ (topStub p)).map fun t₁=>as.map (iQ t₁))=some (v w)):
  Look p N (fun _ s=>as.map s.heap.get?) v:=fun w=>by
 obtain ⟨s,a,e⟩:=Aj.mp (h w);obtain ⟨s₀,b,e⟩:=Aj.mp e;obtain ⟨t₀,c,e⟩:=Aj.mp e;obtain ⟨t₁,d,e⟩:=AR.mp e;rw[a];show (fenceModules? p s).bind _=_;rw[b];show (gm stepOk (stepT (denote treeTable) p w) p N s₀).map _=_;unfold gm;rw[c];show ((hV _ _ N t₀ (topStub p)).map fun t₁=>t₁.abs).map _=_
 rw[d];show some (as.map t₁.abs.heap.get?)=_;rw[<-e,show (as.map (iQ t₁))=as.map t₁.abs.heap.get? from List.map_congr_left fun a _=>jj t₁ a]
end Ht
set_option Elab.async false
set_option linter.all false
set_option maxRecDepth 100000
namespace Lk42
open PySem PySem.W PyProof.Rows
def qv:Program:={PySem.Challenge.pw_stovework_k42_links_of_rounds with main:={PySem.Challenge.pw_stovework_k42_links_of_rounds.main with body:=([0,2,3,4,6,7,8,9,11,13,14,15,16,17,18,19,20,21]:List Nat).filterMap fun i=>PySem.Challenge.pw_stovework_k42_links_of_rounds.main.body[i]?}}
def lo:sI:= ["Warm"]
theorem head {α:Type} {Yf:Shared->α} {Ya:World->α} {YP:World->Heap->Prop} {d:DefRec} {kwd:List (Str×Expr)} (left:LeftO PySem.Challenge.pw_stovework_k42_links_of_rounds qv lo (fun s=>xlAt qv [] s&&recOk [] s) Yf Ya 3956)
  (hY:∀w s,Yf s=Ya w->YP w s.heap) (hYk:∀w h h',YP w h->(∀b o,h.get? b=some o->h'.get? b=some o)->YP w h') (hd:defOf qv PySem.Challenge.rw_stovework_k42_links_of_rounds.row.name=some (d,kwd))
  (hp:PySem.Challenge.rw_stovework_k42_links_of_rounds.row.prog.theDef PySem.Challenge.rw_stovework_k42_links_of_rounds.row.name=some (d.params,d.body,d.scope)) (hk:kwWritten? d.params.kwonlyargs d.params.kw_defaults=some kwd)
  (said:PySem.Challenge.rw_stovework_k42_links_of_rounds.row.wellSaid=true) (hw:PySem.Challenge.rw_stovework_k42_links_of_rounds.row.toRowW.promised) (call:WalkO qv lo (XL qv []) YP PySem.Challenge.rw_stovework_k42_links_of_rounds.row.toRowW d kwd fun f vs=>PySem.call f vs):PySem.Challenge.rw_stovework_k42_links_of_rounds.row.Holds:=
 holds_open left hY hYk (fun s e=>xl_of s (Bool.and_eq_true_iff.mp e).1) XL.keeps hd hp hk (fun s e=>recFacts_of (Bool.and_eq_true_iff.mp e).2) rfl said (by decide+kernel) ⟨rfl,rfl,rfl,rfl,rfl,by decide+kernel⟩ hw call
set_option maxHeartbeats 0 in
theorem la:Ht.Look PySem.Challenge.pw_stovework_k42_links_of_rounds 3956 (fun s₀ s₁=>Ht.lE PySem.Challenge.pw_stovework_k42_links_of_rounds s₀ s₁) (fun _=>true):=by
 (intro w;rw[Bf,Bc,Bj,Bg,Be,Bb];kernel_rfl)
set_option maxHeartbeats 0 in
theorem lb:Ht.Look PySem.Challenge.pw_stovework_k42_links_of_rounds 3956 (fun _ s=>openSeen qv lo (importedModules PySem.Challenge.pw_stovework_k42_links_of_rounds.main.body) (fun s=>xlAt qv [] s&&recOk [] s) true s) (fun _=>openGood qv lo):=by
 (intro w;rw[Bf,Bc,Bj,Bg,Be,Bb,PySem.W.Fast.te4187177175401517315];kernel_rfl)
end Lk42
local macro_rules| `(tactic|o_head $H)=> `(tactic|(refine Lk42.head (Yf:=PySem.W.Hook.obs $H) (Ya:=PySem.W.Hook.val $H) (YP:=PySem.W.Hook.says $H) ?hl (PySem.W.Hook.of $H) (PySem.W.Hook.keeps $H) (by rfl) (by rfl) (by rfl) (by assumption) ?hw ?hc;(case hl=>(refine Ht.kg Lk42.la Lk42.lb ?c;(case c=>(refine Ht.jk ?c2;(case c2=>(intro w;rw[Bf,Bc,Bj,Bg,Be,Bb];kernel_rfl))))))))
namespace PySem.W.Fast
def tw17858771189433650328:PySem.Program:=PySem.Challenge.pw_stovework_k42_links_of_rounds
theorem te17858771189433650328:PySem.Challenge.pw_stovework_k42_links_of_rounds=tw17858771189433650328:=rfl
end PySem.W.Fast
set_option maxHeartbeats 0 in
open_top Lk42.hd for PySem.Challenge.rw_stovework_k42_links_of_rounds
namespace L2
open PySem PySem.Spec PyProof.Rows
abbrev Key:=Sum Int Str
def fh:Key->Value->Bool
 | .inl k,v=>Value.isInt k v
 | .inr x,v=>Value.isStrOf x v
def pT (w:World):Key->Int
 | .inl k=>hashInt k
 | .inr x=>hashStr w x
theorem aZ:∀{k:Key} {v:Value},fh k v=true->(∃i t,k=Sum.inl i/\v=Value.int i t)∨(∃x t,k=Sum.inr x/\v=Value.str x t)
 | .inl i,v,h=>by
  obtain ⟨t,e⟩:=Value.isInt_shape (k:=i) (v:=v) h;exact .inl ⟨i,t,rfl,e⟩
 | .inr x,v,h=>by
  obtain ⟨t,e⟩:=Value.isStrOf_shape (x:=x) (v:=v) h;exact .inr ⟨x,t,rfl,e⟩
theorem jm (i:Int) (t:Tok):fh (.inl i) (.int i t)=true:=by simp[fh,Value.isInt]
theorem jo (x:Str) (t:Tok):fh (.inr x) (.str x t)=true:=by simp[fh,Value.isStrOf]
theorem mS (a b:Int):decide ((Sum.inl a:Key)=Sum.inl b)=(a==b):=by
 by_cases e:a=b
 ·subst e;simp
 ·have h:¬(Sum.inl a:Key)=Sum.inl b:=fun q=>e (Sum.inl.inj q)
  rw[decide_eq_false h];exact (beq_eq_false_iff_ne.mpr e).symm
theorem mT (a b:Str):decide ((Sum.inr a:Key)=Sum.inr b)=decide (a=b):=by
 by_cases e:a=b
 ·subst e;simp
 ·have h:¬(Sum.inr a:Key)=Sum.inr b:=fun q=>e (Sum.inr.inj q)
  rw[decide_eq_false h,decide_eq_false e]
theorem mW (a:Int) (b:Str):decide ((Sum.inl a:Key)=Sum.inr b)=false:=decide_eq_false (fun q=>nomatch q)
theorem mX (a:Str) (b:Int):decide ((Sum.inr a:Key)=Sum.inl b)=false:=decide_eq_false (fun q=>nomatch q)
def ak (prog:Program) (w:World):PySem.KeyKind prog w Key where
 is:=fh
 hash:=pT w
 inj:=fun v a b ha hb=>by
  rcases aZ ha with ⟨i,t,rfl,rfl⟩|⟨x,t,rfl,rfl⟩
  ·rcases aZ hb with ⟨j,u,rfl,e⟩|⟨y,u,rfl,e⟩
   ·injection e with e1 _;rw[e1]
   ·exact nomatch e
  ·rcases aZ hb with ⟨j,u,rfl,e⟩|⟨y,u,rfl,e⟩
   ·exact nomatch e
   ·injection e with e1 _;rw[e1]
 byValue:=fun k v h=>by
  rcases aZ h with ⟨i,t,rfl,rfl⟩|⟨x,t,rfl,rfl⟩<;>rfl
 pyHash:=fun hv h=>by
  rcases aZ hv with ⟨i,t,rfl,rfl⟩|⟨x,t,rfl,rfl⟩
  ·exact wpAny_pyHash_int h
  ·exact wpAny_pyHash_str h
 eqBool:=fun hu hv h=>by
  rcases aZ hu with ⟨i,t,rfl,rfl⟩|⟨x,t,rfl,rfl⟩
  ·rcases aZ hv with ⟨j,u,rfl,rfl⟩|⟨y,u,rfl,rfl⟩
   ·rw[mS] at h;exact wpAny_eqBool_int h
   ·rw[mW] at h;exact SeqAt.EqAt.int_str i t y u _ _ _ _ h
  ·rcases aZ hv with ⟨j,u,rfl,rfl⟩|⟨y,u,rfl,rfl⟩
   ·rw[mX] at h;exact SeqAt.EqAt.str_int x t j u _ _ _ _ h
   ·rw[mT] at h;exact wpAny_eqBool_str h
 «strs» :=fun k x t v h=>by
  rcases aZ h with ⟨i,u,rfl,e⟩|⟨y,u,rfl,e⟩
  ·exact nomatch e
  ·injection e with e1 _
   subst e1;cases v<;>rfl
theorem gn (prog:Program) (w:World) (i:Int) (t:Tok):(ak prog w).is (.inl i) (.int i t)=true:=jm i t
theorem gp (prog:Program) (w:World) (x:Str) (t:Tok):(ak prog w).is (.inr x) (.str x t)=true:=jo x t
inductive V where
 |non|bl (b:Bool)|int (i:Int)|str (x:Str)|byt (b:Array UInt8)|flt (b:UInt64)|ref (a:Addr)|ty (n:String)
 deriving DecidableEq
def RelV:V->Value->Prop
 | .non,u=>u=Value.none
 | .bl b,u=>u=Value.bool b
 | .int i,u=>∃t,u=Value.int i t
 | .str x,u=>∃t,u=Value.str x t
 | .byt b,u=>∃t,u=Value.bytes b t
 | .flt b,u=>∃t,u=Value.float b t
 | .ref a,u=>u=Value.ref a
 | .ty n,u=>u=Value.type n
abbrev aO:List V->sK->Prop:=Paired RelV
theorem aO.length {xs:List V} {us:sK} (r:aO xs us):xs.length=us.length:=Paired.length r
theorem aO.get:∀{xs:List V} {us:sK} {i:Nat} {x:V},aO xs us->xs[i]?=some x->∃u,us[i]?=some u/\RelV x u
 |_,_,_,_,.nil,e=>by simp at e
 |_,_,0,_,.cons r _,e=>by simp at e;subst e;exact ⟨_,rfl,r⟩
 |_,_,i+1,x,.cons _ t,e=>by
  obtain ⟨u,h1,h2⟩:=aO.get (i:=i) (x:=x) t (by simpa using e)
  exact ⟨u,by simpa using h1,h2⟩
theorem aO.append:∀{xs ys:List V} {us ws:sK},aO xs us->aO ys ws->aO (xs++ys) (us++ws)
 |_,_,_,_,.nil,s=>s
 |_,_,_,_,.cons r t,s=> .cons r (aO.append t s)
theorem aO.take:∀{xs:List V} {us:sK} (n:Nat),aO xs us->aO (xs.take n) (us.take n)
 |_,_,0,_=> .nil
 |_,_,_+1,.nil=> .nil
 |_,_,n+1,.cons r t=> .cons r (aO.take n t)
theorem aO.drop:∀{xs:List V} {us:sK} (n:Nat),aO xs us->aO (xs.drop n) (us.drop n)
 |_,_,0,r=>r
 |_,_,_+1,.nil=> .nil
 |_,_,n+1,.cons _ t=>aO.drop n t
def hZ:Option V->sM->Prop
 |some v,some u=>RelV v u
 |none,none=>True
 |_,_=>False
def KV {κ:Type}:List (κ×V)->List (κ×Value)->Prop:=Paired fun (p:κ×V) (q:κ×Value)=>p.1=q.1/\RelV p.2 q.2
def kV:Key->V
 | .inl i=> .int i
 | .inr x=> .str x
inductive HO where
  |lst (xs:List V)
  |tup (xs:List V)
  |dK (kvs:List (Key×V))|dT (kvs:List (List Key×V))
  |set (S:Int->Bool) (n:Nat)
  |ins (C dx:Addr) (fs:List (Str×V))
  |own (x:Addr)
  |xd (fs:List (Str×V))
  |met (f x:Addr)
  |rng (lo hi:Int)
  |frz (o:Obj) (u:HO)
  |tbl (ps:Array Value)
  |ext (φ:Heap->Prop)
abbrev Hp:=Addr->Option HO
def aR (H:Hp) (a:Addr) (o:HO):Hp:=fun b=>if b=a then some o else H b
theorem ah {H:Hp} {a:Addr} {o:HO}:aR H a o a=some o:=by unfold aR;rw[if_pos rfl]
theorem ar {H:Hp} {a b:Addr} {o:HO} (h:b≠a):aR H a o b=H b:=by unfold aR;rw[if_neg h]
theorem aV {H:Hp} {a b:Addr} {o:HO} (h:H a=some o) (h':H b=none):a≠b:=by
 intro e;subst e;rw[h] at h';cases h'
section
variable (P:Program) (w:World)
def bz (H:Hp) (h:Heap) (a:Addr):HO->Prop
 | .lst xs=>xs.length<=sizeLine/\∃(its:sK) (n:Nat),aO xs its/\h.get? a=some {cls:= .type "list",data:= .seq its.toArray n}
 | .tup xs=>xs.length<=sizeLine/\∃its:sK,aO xs its/\IsTup h a its.toArray
 | .dK kvs=>kvs.length<=sizeLine/\(a==sysModules)=false/\∃vs,KV kvs vs/\h.DictOf (ak P w) a vs
 | .dT kvs=>kvs.length<=sizeLine/\(a==sysModules)=false/\∃xs:List (List Key×Addr×Value),
   Paired (fun (p:List Key×V) (q:List Key×Addr×Value)=>p.1=q.1/\H q.2.1=some (.tup (p.1.map kV))/\RelV p.2 q.2.2) kvs xs/\
   ∃o es ep,h.get? a=some o/\o.ExactDict/\o.data= .dict es ep/\es.toList=xs.map (entryOfKey (tupleKind (ak P w)))/\(xs.map (·.1)).Nodup
 | .set S n=>h.SetOf (intKind P w) a S n
 | .ins C dx fs=>H dx=some (.own a)/\fs.length<=1000/\dx≠a/\h.get? a=some (BL C dx)/\
   ∃mA,h.Ns1 dx mA/\(∀f,hZ (fs.lookup f) (mA f))/\PySem.Within mA (fs.map (·.1))
 | .own _=>∃o,h.get? a=some o
 | .xd fs=>∃mA,h.Ns1 a mA/\∀f,hZ (fs.lookup f) (mA f)
 | .rng lo hi=>∃t u v,h.get? a=some {cls:= .type "range",data:= .fields #[.int lo t,.int hi u,.int 1 v]}
 | .frz o u=>h.get? a=some o/\bz H h a u
 | .tbl ps=>h.get? a=some {cls:= .none,data:= .fields ps}
 | .met f x=>h.get? a=some (PySem.W.methodObj (.ref f) (.ref x))
 | .ext φ=>φ h/\(∃o,h.get? a=some o)/\∀h1 h2:Heap,φ h1->(∀o,h1.get? a=some o->h2.get? a=some o)->φ h2
def dR (H:Hp) (h:Heap):Prop:=∀a o,H a=some o->bz P w H h a o
end
section
variable {P:Program} {w:World} {H H':Hp} {h h':Heap} {a:Addr} {o:HO}
theorem bz.lt (x:bz P w H h a o):a<h.objs.size:=by
 cases o with
 |lst xs=>obtain ⟨_,_,_,_,e⟩:=x;exact Heap.lt_size e
 |tup xs=>obtain ⟨_,_,_,p⟩:=x;exact p.lt
 |dK kvs=>obtain ⟨_,_,_,_,o,_,_,e,_⟩:=x;exact Heap.lt_size e
 |dT kvs=>obtain ⟨_,_,_,_,o,_,_,e,_⟩:=x;exact Heap.lt_size e
 |set S n=>obtain ⟨o,_,_,_,e,_⟩:=x;exact Heap.lt_size e
 |ins C dx fs=>obtain ⟨_,_,_,e,_⟩:=x;exact Heap.lt_size e
 |own y=>obtain ⟨_,e⟩:=x;exact Heap.lt_size e
 |xd fs=>obtain ⟨_,⟨_,_,_,e,_⟩,_⟩:=x;exact Heap.lt_size e
 |rng lo hi=>obtain ⟨_,_,_,e⟩:=x;exact Heap.lt_size e
 |frz ob u=>obtain ⟨e,_⟩:=x;exact Heap.lt_size e
 |tbl ps=>exact Heap.lt_size (show h.get? a=some _ from x)
 |met f y=>exact Heap.lt_size (show h.get? a=some _ from x)
 |ext φ=>obtain ⟨_,⟨_,e⟩,_⟩:=x;exact Heap.lt_size e
theorem Paired.mapP {α β:Type} {F G:α->β->Prop}:∀{l₁:List α} {l₂:List β},Paired F l₁ l₂->(∀a b,F a b->G a b)->Paired G l₁ l₂
 |_,_,.nil,_=> .nil
 |_,_,.cons r t,f=> .cons (f _ _ r) (Paired.mapP t f)
theorem bz.stay (x:bz P w H h a o) (k:∀b u,(b=a∨H b=some (.own a))->h.get? b=some u->h'.get? b=some u)
  (ho:∀b,H b=some (.own a)->H' b=some (.own a)) (ht:∀b xs,H b=some (.tup xs)->H' b=some (.tup xs)):bz P w H' h' a o:=by
 induction o with
 |lst xs=>obtain ⟨z,its,n,r,e⟩:=x;exact ⟨z,its,n,r,k _ _ (.inl rfl) e⟩
 |tup xs=>obtain ⟨z,its,r,ob,e,c⟩:=x;exact ⟨z,its,r,ob,k _ _ (.inl rfl) e,c⟩
 |dK kvs=>obtain ⟨z,y,vs,r,ob,es,ep,e,c⟩:=x;exact ⟨z,y,vs,r,ob,es,ep,k _ _ (.inl rfl) e,c⟩
 |dT kvs=>
  obtain ⟨z,y,xs,r,ob,es,ep,e,c⟩:=x;exact ⟨z,y,xs,Paired.mapP r fun p q z=>⟨z.1,ht _ _ z.2.1,z.2.2⟩,ob,es,ep,k _ _ (.inl rfl) e,c⟩
 |set S n=>obtain ⟨ob,es,ep,t,e,c⟩:=x;exact ⟨ob,es,ep,t,k _ _ (.inl rfl) e,c⟩
 |ins C dx fs=>
  obtain ⟨d,z,ne,e,mA,⟨od,es,ep,e2,c⟩,r⟩:=x;exact ⟨ho _ d,z,ne,k _ _ (.inl rfl) e,mA,⟨od,es,ep,k _ _ (.inr d) e2,c⟩,r⟩
 |own y=>obtain ⟨ob,e⟩:=x;exact ⟨ob,k _ _ (.inl rfl) e⟩
 |xd fs=>obtain ⟨mA,⟨od,es,ep,e,c⟩,r⟩:=x;exact ⟨mA,⟨od,es,ep,k _ _ (.inl rfl) e,c⟩,r⟩
 |rng lo hi=>obtain ⟨t,u,v,e⟩:=x;exact ⟨t,u,v,k _ _ (.inl rfl) e⟩
 |frz ob u ih=>obtain ⟨e,q⟩:=x;exact ⟨k _ _ (.inl rfl) e,ih q⟩
 |tbl ps=>
  have e:h.get? a=some {cls:= .none,data:= .fields ps}:=x;show h'.get? a=some {cls:= .none,data:= .fields ps};exact k a _ (.inl rfl) e
 |met f y=>
  have e:h.get? a=some (PySem.W.methodObj (.ref f) (.ref y)):=x;show h'.get? a=some (PySem.W.methodObj (.ref f) (.ref y));exact k a _ (.inl rfl) e
 |ext φ=>obtain ⟨p,⟨o,e⟩,st⟩:=x;exact ⟨st _ _ p fun o q=>k _ _ (.inl rfl) q,⟨o,k _ _ (.inl rfl) e⟩,st⟩
theorem dR.lt (x:dR P w H h) (e:H a=some o):a<h.objs.size:=(x a o e).lt
theorem dR.fresh (x:dR P w H h) (e:h.objs.size<=a):H a=none:=by
 cases q:H a with
 |none=>rfl
 |some u=>exact absurd (Ad (x.lt q) e) (Nat.lt_irrefl _)
theorem dR.kept (x:dR P w H h) (k:∀b u,h.get? b=some u->h'.get? b=some u):dR P w H h':=fun a o e=>
 (x a o e).stay (fun b u _ q=>k b u q) (fun _ q=>q) fun _ _ q=>q
theorem dR.laid (x:dR P w H h) (k:∀b u,h.get? b=some u->h'.get? b=some u) (hp:h.objs.size<=a) (new:bz P w (aR H a o) h' a o):dR P w (aR H a o) h':=fun b u e=>by
 have hn:=x.fresh hp
 by_cases hb:b=a
 ·subst hb;rw[ah] at e;cases e;exact new
 ·rw[ar hb] at e;exact (x b u e).stay (fun c v _ q=>k c v q) (fun c q=>by rw[ar (aV q hn)];exact q) fun c xs q=>by rw[ar (aV q hn)];exact q
end
def Rd (H:Hp) (a:Addr) (u:HO):Prop:=H a=some u∨∃o,H a=some (.frz o u)
theorem Rd.ok {P:Program} {w:World} {H:Hp} {h:Heap} {a:Addr} {u:HO} (r:Rd H a u) (x:dR P w H h):bz P w H h a u:=by
 rcases r with r|⟨o,r⟩
 ·exact x a u r
 ·obtain ⟨_,q⟩:=x a _ r;exact q
def pM:Option HO->Prop
 |some (.lst _)=>True
 |some (.dK _)=>True
 |some (.dT _)=>True
 |some (.set _ _)=>True
 |some (.ins _ _ _)=>True
 |some (.ext _)=>True
 |_=>False
section
variable {P:Program} {w:World} {H:Hp} {h h':Heap} {x e:Addr} {o':HO}
theorem dR.write (ok:dR P w H h) (mu:pM (H x)) (he:e=x∨H e=some (.own x)) (k:∀b u,b≠e->h.get? b=some u->h'.get? b=some u) (heo:∃u,h'.get? e=some u)
  (new:bz P w (aR H x o') h' x o'):dR P w (aR H x o') h':=fun b u q=>by
 have nown:∀c y,H c=some (.own y)->c≠x:=fun c y r z=>by subst z;rw[r] at mu;exact mu
 have ntup:∀c xs,H c=some (.tup xs)->c≠x:=fun c xs r z=>by subst z;rw[r] at mu;exact mu
 by_cases hb:b=x
 ·subst hb;rw[ah] at q;cases q;exact new
 ·rw[ar hb] at q
  by_cases hbe:b=e
  ·have q':H b=some (.own x):=by
    rcases he with z|z
    ·exact absurd (hbe.trans z) hb
    ·rw[hbe];exact z
   rw[q] at q';cases q';obtain ⟨v,hv⟩:=heo;exact ⟨v,by rw[hbe];exact hv⟩
  ·refine (ok b u q).stay (fun c v hc r=>k c v ?_ r) (fun c r=>by rw[ar (nown c b r)];exact r) fun c xs r=>by rw[ar (ntup c xs r)];exact r
   rcases hc with rfl|hc
   ·exact hbe
   ·rintro rfl;rcases he with z|z
    ·exact nown c b hc z
    ·rw[hc] at z;cases z;exact hb rfl
end
structure Un (fs ex:sJ) (H H':Hp) (h h':Heap):Prop where
 keep:∀b o,h.get? b=some o->H b=none->b∉fs->b∉ex->h'.get? b=some o
 slot:∀b o,h.get? b=some o->H b=none->b∈fs->b∉ex->∃sl,h'.get? b=some {o with slots:=sl}
 free:∀b o,h.get? b=some o->H b=none->b∉ex->H' b=none
 there:∀b o,h.get? b=some o->b∉ex->∃o',h'.get? b=some o'
 tups:∀b xs,H b=some (.tup xs)->H' b=some (.tup xs)
 frzs:∀b o u,H b=some (.frz o u)->H' b=some (.frz o u)
 tbls:∀b ps,H b=some (.tbl ps)->∃more,H' b=some (.tbl (ps++more))
section
variable {fs fs' ex ex':sJ} {H H1 H2:Hp} {h h1 h2 h':Heap} {a x e:Addr} {o:HO}
theorem Un.any (u:Un fs ex H H1 h h1) {b:Addr} {ob:Obj} (q:h.get? b=some ob) (n:H b=none) (hx:b∉ex):∃sl,h1.get? b=some {ob with slots:=sl}:=by
 by_cases hb:b∈fs
 ·exact u.slot b ob q n hb hx
 ·exact ⟨ob.slots,u.keep b ob q n hb hx⟩
theorem Un.kept (k:∀b u,h.get? b=some u->h'.get? b=some u):Un fs ex H H h h':=
 ⟨fun b ob q _ _ _=>k b ob q,fun b ob q _ _ _=>⟨ob.slots,k b ob q⟩,fun _ _ _ n _=>n,fun b ob q _=>⟨ob,k b ob q⟩,fun _ _ q=>q,fun _ _ _ q=>q,fun _ ps q=>⟨#[],by rw[q];simp⟩⟩
theorem Un.refl:Un fs ex H H h h:=Un.kept fun _ _ q=>q
theorem Un.laid (k:∀b u,h.get? b=some u->h'.get? b=some u) (hp:h.objs.size<=a) (hn:H a=none):Un fs ex H (aR H a o) h h' where
 keep:=fun b u q _ _ _=>k b u q
 slot:=fun b u q _ _ _=>⟨u.slots,k b u q⟩
 free:=fun b u q n _=>by rw[ar (AS (Ad (Heap.lt_size q) hp))];exact n
 there:=fun b u q _=>⟨u,k b u q⟩
 tups:=fun b xs q=>by rw[ar (aV q hn)];exact q
 frzs:=fun b u xs q=>by rw[ar (aV q hn)];exact q
 tbls:=fun b ps q=>⟨#[],by rw[ar (aV q hn),q];simp⟩
theorem Un.write (mu:pM (H x)) (he:e=x∨H e=some (.own x)) (k:∀b u,b≠e->h.get? b=some u->h'.get? b=some u) (heo:∃u,h'.get? e=some u):Un fs ex H (aR H x o) h h':=by
 have hx:∀b,H b=none->b≠x:=fun b n z=>by subst z;rw[n] at mu;exact mu
 have hb:∀b,H b=none->b≠e:=fun b n z=>by
  subst z;rcases he with r|r
  ·exact hx b n r
  ·rw[n] at r;cases r
 have hm:∀b u,H b=some u->¬pM (some u)->b≠x:=fun b u q nm z=>by subst z;rw[q] at mu;exact nm mu
 refine ⟨fun b u q n _ _=>k b u (hb b n) q,fun b u q n _ _=>⟨u.slots,k b u (hb b n) q⟩,fun b u q n _=>by rw[ar (hx b n)];exact n,fun b u q _=>?_,
  fun b xs q=>by rw[ar (hm b _ q fun z=>z)];exact q,fun b u xs q=>by rw[ar (hm b _ q fun z=>z)];exact q,fun b ps q=>⟨#[],by rw[ar (hm b _ q fun z=>z),q];simp⟩⟩
 by_cases hbe:b=e
 ·subst hbe;exact heo
 ·exact ⟨u,k b u hbe q⟩
end
def pN (h:Heap) (H:Hp):sJ:=(Ai h.objs.size).filter fun a=>(H a).isSome
def fG (h:Heap) (H:Hp):Heap:=PySem.W.hideAll h (pN h H)
theorem jp (h:Heap) (H:Hp):(fG h H).objs.size=h.objs.size:=PySem.W.hideAll_size _ _
theorem kh {h:Heap} {H:Hp} {b:Addr} {o:Obj} (e:h.get? b=some o) (n:H b=none):(fG h H).get? b=some o:=
 PySem.W.hideAll_get _ e fun hm=>by
  have q:(H b).isSome=true:=(List.mem_filter.mp hm).2;rw[n] at q;simp at q
theorem lF {h:Heap} {H:Hp} {b:Addr} {o:Obj} (e:(fG h H).get? b=some o):h.get? b=some o/\H b=none:=by
 have e':h.get? b=some o:=PySem.W.of_hideAll (pN h H) e;refine ⟨e',?_⟩;cases q:H b with
 |none=>rfl
 |some x=>
  have hm:b∈pN h H:=List.mem_filter.mpr ⟨Av.mpr (Heap.lt_size e'),by simp[q]⟩
  have z:(fG h H).get? b=none:=PySem.W.hideAll_none (pN h H) hm;rw[z] at e;cases e
structure Mod (K:A6) (mg:sF) (base:Heap):Prop where
 kin:K.In base
 glob:base.Ns mainGlobals mg
 blt:∃mb,base.Ns builtinsNs mb/\∀x:Str,x≠ "__name__" ->mb x=bootBuiltins x
 nolimit:base.NoLimit
structure Cx where
 prog:Program
 w:World
 K:A6
 mg:Str->sM
 base:Heap
 A:Around
 N:sI
 s₀:Shared
 H₀:Hp
 env:Env
 outer:List Env
 stack:List Env
 ex:sJ
 fn:Str->Bool
 calm:Bool
 pn:sG
 xe:Value->Shared->Prop
def j0 (l:List Env):sJ:=l.filterMap (·.frame)
abbrev Cx.fs (X:Cx):sJ:=j0 X.outer
def pU (sc:Scope) (x:Str):Prop:=sc.names.lookup x=some .local∨sc.names.lookup x=some .cell∨sc.names.lookup x=some .free
def Loc (sc:Scope) (x:Str):Prop:=sc.names.lookup x=some .local∨sc.names.lookup x=some .cell
def Look (env:Env) (h:Heap) (m:sF) (x:Str) (u:Value):Prop:=
 (env.kindOf x=some .local/\m x=some u)∨((env.kindOf x=some .cell∨env.kindOf x=some .free)/\∃c,env.cells.lookup x=some c/\h.IsCell c (some u))
structure Cx.Ok (X:Cx):Prop where
 mod:Mod X.K X.mg X.base
 kind:X.env.scope.kind= .function
 glob:X.env.globals=mainGlobals
 blt:X.env.builtins=builtinsNs
 above:X.s₀.heap.objs.size<=X.env.locals
 inj:∀x y c,X.env.cells.lookup x=some c->X.env.cells.lookup y=some c->x=y
 has:∀x,(X.env.kindOf x=some .cell∨X.env.kindOf x=some .free)->∃c,X.env.cells.lookup x=some c
 cab:∀x c,X.fn x=true->X.env.cells.lookup x=some c->X.s₀.heap.objs.size<=c
 hd:X.calm=true->X.A.handled=none
 frames:X.A.frames=some X.stack
 stk:X.stack=X.outer∨(X.stack=X.env::X.outer/\X.env.frame=some X.env.locals)
 exf:∀b∈X.ex,b≠X.env.locals/\∀x c,X.env.cells.lookup x=some c->c≠b
 bs:∀b o,X.base.get? b=some o->X.s₀.heap.get? b=some o/\X.H₀ b=none
 bsz:X.base.objs.size<=X.s₀.heap.objs.size
 noex:∀b o,X.base.get? b=some o->b∉X.ex
 exfs:∀b∈X.ex,b∉X.fs
 funs:X.s₀.heap.FunFrames X.base X.outer
 frf:∀b∈X.fs,X.H₀ b=none
structure aD (X:Cx) (pins:sG) (σ:List (Option V)) (H:Hp) (s:Shared):Prop where
 ok:X.Ok
 os:s.os=X.s₀.os
 bare:AllBare s.gens
 base:Un X.fs X.ex X.H₀ H X.s₀.heap s.heap
 loc:∃m,s.heap.Ns X.env.locals m/\∀(i:Nat) (x:Str) (v:V),X.N[i]?=some x->σ[i]?=some (some v)->pU X.env.scope x->∃u,RelV v u/\Look X.env s.heap m x u
 cell:∀x c,X.env.cells.lookup x=some c->∃v,s.heap.IsCell c v
 free:H X.env.locals=none
 freeC:∀x c,X.env.cells.lookup x=some c->H c=none
 pin:∀p∈X.pn++pins,s.heap.get? p.1=some p.2/\H p.1=none/\p.1≠X.env.locals/\p.1∉X.fs/\∀v,p.2.data≠ .cell v
 hok:dR X.prog X.w H s.heap
 len:σ.length=X.N.length
variable {X:Cx} {pins:sG} {σ:List (Option V)} {H H':Hp} {s:Shared} {h':Heap}
theorem Cx.Ok.nofr (ok:X.Ok) {b:Addr} {o:Obj} (e:X.base.get? b=some o):b∉X.fs:=fun hb=>by
 have:=(ok.funs.mem hb).1;rw[e] at this;cases this
theorem aD.bs (I:aD X pins σ H s):∀b o,X.base.get? b=some o->s.heap.get? b=some o/\H b=none:=fun b o e=>
 ⟨I.base.keep b o (I.ok.bs b o e).1 (I.ok.bs b o e).2 (I.ok.nofr e) (I.ok.noex b o e),I.base.free b o (I.ok.bs b o e).1 (I.ok.bs b o e).2 (I.ok.noex b o e)⟩
theorem aD.bk (I:aD X pins σ H s):∀b o,X.base.get? b=some o->s.heap.get? b=some o:=fun b o e=>(I.bs b o e).1
theorem aD.mod (I:aD X pins σ H s):Mod X.K X.mg X.base:=I.ok.mod
theorem aD.kIn (I:aD X pins σ H s):X.K.In s.heap:=I.ok.mod.kin.keeps I.bk
theorem aD.lt (I:aD X pins σ H s):X.env.locals<s.heap.objs.size:=let ⟨_,hn,_⟩:=I.loc;hn.lt
theorem aD.sz (I:aD X pins σ H s):X.s₀.heap.objs.size<=s.heap.objs.size:=Az I.ok.above (Nat.le_of_lt I.lt)
theorem aD.nofs (I:aD X pins σ H s) {a:Addr} (h:s.heap.objs.size<=a):a∉X.fs:=fun hb=>by
 obtain ⟨_,o,ho,_⟩:=I.ok.funs.mem hb;exact absurd (Ad (Heap.lt_size ho) (Az I.sz h)) (Nat.lt_irrefl _)
theorem aD.cne (I:aD X pins σ H s):∀x c,X.env.cells.lookup x=some c->c≠X.env.locals:=fun x c e z=>by
 obtain ⟨v,o,ho,hd⟩:=I.cell x c e;obtain ⟨m,⟨o',es,ep,ho',hd',_⟩,_⟩:=I.loc;rw[z,ho'] at ho;cases ho;rw[hd'] at hd;cases hd
theorem aD.funs (I:aD X pins σ H s):s.heap.FunFrames X.base X.outer:=by
 have all:∀(l:List Env),(∀b∈j0 l,b∈X.fs)->X.s₀.heap.FunFrames X.base l->s.heap.FunFrames X.base l:=by
  intro l
  induction l with
  |nil=>intro _ _;trivial
  |cons env r ih=>
   intro hs hl;obtain ⟨hk,⟨L,o,hf,hn,ho,hd⟩,hr⟩:=hl;have hL:L∈X.fs:=hs L (by unfold j0;rw[Br,hf];exact Ae)
   obtain ⟨sl,e⟩:=I.base.slot L o ho (I.ok.frf L hL) hL fun z=>I.ok.exfs L z hL
   exact ⟨hk,⟨L,_,hf,hn,e,hd⟩,ih (fun b hb=>hs b (by unfold j0;rw[Br,hf];exact AY _ hb)) hr⟩
 exact all X.outer (fun _ hb=>hb) I.ok.funs
theorem aD.stack (I:aD X pins σ H s):s.heap.FunFrames X.base X.stack:=by
 rcases I.ok.stk with e|⟨e,hf⟩
 ·rw[e];exact I.funs
 ·rw[e];obtain ⟨m,hn,_⟩:=I.loc;refine .cons (by rw[I.ok.kind];decide) hf hn ?_ I.funs
  exact Heap.get?_none_of_le (Az I.ok.bsz I.ok.above)
theorem aD.stkSub (I:aD X pins σ H s):∀b∈j0 X.stack,b∈X.env.locals::X.fs:=fun b hb=>by
 rcases I.ok.stk with e|⟨e,hf⟩
 ·rw[e] at hb;exact AY _ hb
 ·rw[e] at hb;unfold j0 at hb;rw[Br,hf] at hb;exact hb
theorem aD.stkFree (I:aD X pins σ H s):∀b∈j0 X.stack,H b=none:=fun b hb=>by
 rcases AT.mp (I.stkSub b hb) with e|hb
 ·rw[e];exact I.free
 ·obtain ⟨_,o,ho,_⟩:=I.ok.funs.mem hb;exact I.base.free b o ho (I.ok.frf b hb) fun z=>I.ok.exfs b z hb
theorem aD.step {g':Array GenState} {t':Nat} {d':Drawn} {ch:sJ} (I:aD X pins σ H s)
  (hch:∀b∈ch,(b∈X.ex∨X.s₀.heap.objs.size<=b)/\b≠X.env.locals/\(∀x c,X.env.cells.lookup x=some c->c≠b)/\∀p∈X.pn++pins,p.1≠b)
  (keep:∀b o,b≠X.env.locals->b∉X.fs->b∉ch->s.heap.get? b=some o->H b=none->h'.get? b=some o)
  (slot:∀b o,b≠X.env.locals->b∈X.fs->b∉ch->s.heap.get? b=some o->H b=none->∃sl,h'.get? b=some {o with slots:=sl}) (free:∀b o,b∉ch->s.heap.get? b=some o->H b=none->H' b=none)
  (there:∀b o,b∉ch->s.heap.get? b=some o->∃o',h'.get? b=some o')
  (tups:∀b xs,H b=some (.tup xs)->H' b=some (.tup xs)) (frzs:∀b o u,H b=some (.frz o u)->H' b=some (.frz o u)) (tbls:∀b ps,H b=some (.tbl ps)->∃more,H' b=some (.tbl (ps++more)))
  (ns:∀m,s.heap.Ns X.env.locals m->h'.Ns X.env.locals m) (hok:dR X.prog X.w H' h') (hg:AllBare g'):
  aD X pins σ H' {s with heap:=h',gens:=g',drawn:=d',toks:=t'}:=by
 have neL:∀b o,X.s₀.heap.get? b=some o->b≠X.env.locals:=fun b o e=>AS (Ad (Heap.lt_size e) I.ok.above)
 have neC:∀b o,X.s₀.heap.get? b=some o->b∉X.ex->b∉ch:=fun b o e hx hb=>by
  rcases (hch b hb).1 with z|z
  ·exact hx z
  ·exact absurd (Ad (Heap.lt_size e) z) (Nat.lt_irrefl _)
 have cellK:∀x c,X.env.cells.lookup x=some c->∀v,s.heap.IsCell c v->h'.IsCell c v:=fun x c e v ⟨o,ho,hd⟩=>by
  have nch:c∉ch:=fun z=>(hch c z).2.2.1 x c e rfl
  by_cases hc:c∈X.fs
  ·obtain ⟨sl,q⟩:=slot c o (I.cne x c e) hc nch ho (I.freeC x c e);exact ⟨_,q,hd⟩
  ·exact ⟨o,keep c o (I.cne x c e) hc nch ho (I.freeC x c e),hd⟩
 refine ⟨I.ok,I.os,hg,⟨fun b o e n hb hx=>?_,fun b o e n hb hx=>?_,fun b o e n hx=>?_,fun b o e hx=>?_,fun b xs e=>tups b xs (I.base.tups b xs e),fun b o xs e=>frzs b o xs (I.base.frzs b o xs e),fun b ps e=>?_⟩,?_,fun x c e=>?_,?_,fun x c e=>?_,fun p hp=>?_,hok,I.len⟩
 ·exact keep b o (neL b o e) hb (neC b o e hx) (I.base.keep b o e n hb hx) (I.base.free b o e n hx)
 ·obtain ⟨sl,e1⟩:=I.base.slot b o e n hb hx;obtain ⟨sl',e2⟩:=slot b _ (neL b o e) hb (neC b o e hx) e1 (I.base.free b o e n hx);exact ⟨sl',e2⟩
 ·obtain ⟨o',e1⟩:=I.base.there b o e hx;exact free b o' (neC b o e hx) e1 (I.base.free b o e n hx)
 ·obtain ⟨o',e1⟩:=I.base.there b o e hx;exact there b o' (neC b o e hx) e1
 ·obtain ⟨m1,e1⟩:=I.base.tbls b ps e;obtain ⟨m2,e2⟩:=tbls b _ e1;exact ⟨m1++m2,by rw[e2,Array.append_assoc]⟩
 ·obtain ⟨m,hn,hl⟩:=I.loc;refine ⟨m,ns m hn,fun i x v e1 e2 e3=>?_⟩
  obtain ⟨u,r,l⟩:=hl i x v e1 e2 e3;refine ⟨u,r,?_⟩;rcases l with l|⟨k,c,e,z⟩
  ·exact .inl l
  ·exact .inr ⟨k,c,e,cellK x c e _ z⟩
 ·obtain ⟨v,z⟩:=I.cell x c e;exact ⟨v,cellK x c e v z⟩
 ·obtain ⟨m,⟨o,_,_,ho,_⟩,_⟩:=I.loc;exact free _ o (fun z=>(hch _ z).2.1 rfl) ho I.free
 ·obtain ⟨v,o,ho,hd⟩:=I.cell x c e;exact free c o (fun z=>(hch c z).2.2.1 x c e rfl) ho (I.freeC x c e)
 ·obtain ⟨e,n,ne,nf,d⟩:=I.pin p hp;have nch:p.1∉ch:=fun z=>(hch p.1 z).2.2.2 p hp rfl
  exact ⟨keep p.1 p.2 ne nf nch e n,free p.1 p.2 nch e n,ne,nf,d⟩
theorem aD.un {t':Nat} (I:aD X pins σ H s) (u:Un X.fs [] H H' s.heap h') (hok:dR X.prog X.w H' h'):aD X pins σ H' {s with heap:=h',toks:=t'}:=by
 obtain ⟨m,⟨o,es,ep,ho,r⟩,_⟩:=id I.loc;obtain ⟨sl,hL⟩:=u.any ho I.free (by simp)
 exact I.step (g':=s.gens) (d':=s.drawn) (ch:= []) (fun _ z=>nomatch z) (fun b o _ hb _ e n=>u.keep b o e n hb (by simp)) (fun b o _ hb _ e n=>u.slot b o e n hb (by simp)) (fun b o _ e n=>u.free b o e n (by simp)) (fun b o _ e=>u.there b o e (by simp)) u.tups u.frzs u.tbls (fun m' hm=>by
  obtain ⟨o',es',ep',ho',r'⟩:=hm;rw[ho] at ho';cases ho';exact ⟨_,es',ep',hL,r'⟩) hok I.bare
theorem aD.call {g':Array GenState} {t':Nat} {d':Drawn} {ch:sJ} (I:aD X pins σ H s) (u:Un (j0 X.stack) ch H H' s.heap h') (hok:dR X.prog X.w H' h') (hg:AllBare g')
  (hch:∀b∈ch,(b∈X.ex∨X.s₀.heap.objs.size<=b)/\b≠X.env.locals/\(∀x c,X.env.cells.lookup x=some c->c≠b)/\∀p∈X.pn++pins,p.1≠b):
  aD X pins σ H' {s with heap:=h',gens:=g',drawn:=d',toks:=t'}:=by
 obtain ⟨m,⟨o,es,ep,ho,r⟩,_⟩:=id I.loc;obtain ⟨sl,hL⟩:=u.any ho I.free fun z=>(hch _ z).2.1 rfl
 exact I.step (ch:=ch) hch (fun b o hL hb hc e n=>u.keep b o e n (fun z=>(AT.mp (I.stkSub b z)).elim hL hb) hc) (fun b o _ _ hc e n=>u.any e n hc) (fun b o hc e n=>u.free b o e n hc) (fun b o hc e=>u.there b o e hc) u.tups u.frzs u.tbls (fun m' hm=>by
  obtain ⟨o',es',ep',ho',r'⟩:=hm;rw[ho] at ho';cases ho';exact ⟨_,es',ep',hL,r'⟩) hok hg
theorem aD.turned {t':Nat} {it:Addr} (I:aD X pins σ H s) (k:∀b o,b≠it->s.heap.get? b=some o->h'.get? b=some o) (hn:H it=none) (hL:it≠X.env.locals)
  (h1:it∈X.ex∨X.s₀.heap.objs.size<=it) (h2:∀x c,X.env.cells.lookup x=some c->c≠it) (h3:∀p∈X.pn++pins,p.1≠it):aD X pins σ H {s with heap:=h',toks:=t'}:=by
 have nit:∀b u,H b=some u->b≠it:=fun b u e z=>by rw[z,hn] at e;cases e
 refine I.step (g':=s.gens) (d':=s.drawn) (ch:= [it]) (fun b hb=>?_) (fun b o _ _ hc e _=>k b o (fun z=>hc (by simp[z])) e) (fun b o _ _ hc e _=>⟨o.slots,k b o (fun z=>hc (by simp[z])) e⟩) (fun _ _ _ _ n=>n)
  (fun b o hc e=>⟨o,k b o (fun z=>hc (by simp[z])) e⟩) (fun _ _ e=>e) (fun _ _ _ e=>e) (fun b ps e=>⟨#[],by rw[e];simp⟩) (fun m hm=>?_) (fun b u e=>?_) I.bare
 ·have e:b=it:=by simpa using hb
  subst e;exact ⟨h1,hL,h2,h3⟩
 ·obtain ⟨o,es,ep,ho,r⟩:=hm;exact ⟨o,es,ep,k _ o (Ne.symm hL) ho,r⟩
 ·refine (I.hok b u e).stay (fun c v hc q=>k c v ?_ q) (fun _ q=>q) fun _ _ q=>q
  rcases hc with z|z
  ·rw[z];exact nit b u e
  ·exact nit c _ z
theorem aD.tok (I:aD X pins σ H s) (t:Nat):aD X pins σ H {s with toks:=t}:=I.un (h':=s.heap) (t':=t) Un.refl I.hok
theorem aD.kept {t':Nat} (I:aD X pins σ H s) (k:∀b u,s.heap.get? b=some u->h'.get? b=some u):aD X pins σ H {s with heap:=h',toks:=t'}:=I.un (Un.kept k) (I.hok.kept k)
theorem aD.laid {a:Addr} {o:HO} {t':Nat} (I:aD X pins σ H s) (k:∀b u,s.heap.get? b=some u->h'.get? b=some u) (hp:s.heap.objs.size<=a) (new:bz X.prog X.w (aR H a o) h' a o):
  aD X pins σ (aR H a o) {s with heap:=h',toks:=t'}:=I.un (Un.laid k hp (I.hok.fresh hp)) (I.hok.laid k hp new)
theorem aD.write {x e:Addr} {o:HO} {t':Nat} (I:aD X pins σ H s) (mu:pM (H x)) (he:e=x∨H e=some (.own x)) (k:∀b u,b≠e->s.heap.get? b=some u->h'.get? b=some u) (heo:∃u,h'.get? e=some u)
  (new:bz X.prog X.w (aR H x o) h' x o):aD X pins σ (aR H x o) {s with heap:=h',toks:=t'}:=I.un (Un.write mu he k heo) (I.hok.write mu he k heo new)
theorem aD.pins_of {pins':sG} (I:aD X pins σ H s) (h:∀p∈pins',s.heap.get? p.1=some p.2/\H p.1=none/\p.1≠X.env.locals/\p.1∉X.fs/\∀v,p.2.data≠ .cell v):aD X pins' σ H s:=
 ⟨I.ok,I.os,I.bare,I.base,I.loc,I.cell,I.free,I.freeC,fun p hp=>(AE.mp hp).elim (fun z=>I.pin p (BP _ z)) (h p),I.hok,I.len⟩
theorem gs {N:sI} (hN:N.Nodup) {i j:Nat} {x:Str} (a:N[i]?=some x) (b:N[j]?=some x):i=j:=by
 obtain ⟨h1,e1⟩:=A4.mp a;obtain ⟨h2,e2⟩:=A4.mp b;exact (List.getElem_inj hN).mp (e1.trans e2.symm)
theorem jq {M:Model} {A:Around} {E:sE} {i:Nat} {x:Str} {v:V} {u:Value} {Q:Unit->Shared->Prop} (I:aD X pins σ H s) (hN:X.N.Nodup) (hi:X.N[i]?=some x) (hx:Loc X.env.scope x) (r:RelV v u)
  (h:∀s',aD X pins (σ.set i (some v)) H s'->(∃a,Heap.SameBut a s.heap s'.heap/\(a=X.env.locals∨X.env.cells.lookup x=some a))->Q () s') (hf:X.fn x=true∨X.env.scope.names.lookup x=some .local:=by first|exact .inl rfl|exact .inr rfl|assumption):wpAny M A (storeName X.env x u) Q E s:=by
 obtain ⟨m,hn,hl⟩:=id I.loc;have hcls:(X.env.scope.kind== .class||(X.env.scope.kind== .module&&X.env.locals !=X.env.globals))=false:=by rw[I.ok.kind];rfl
 have hiσ:i<σ.length:=by rw[I.len];exact (A4.mp hi).1
 have cne:=I.cne;have tracked:∀{a:Addr} {h':Heap},(∃o,s.heap.get? a=some o/\H a=none)->Heap.SameBut a s.heap h'->dR X.prog X.w H h':=fun {a h'} ha hs b ob e=>by
  obtain ⟨_,_,hfree⟩:=ha;refine (I.hok b ob e).stay (fun c w' hc q=>(hs.2 c ?_).trans q) (fun _ q=>q) fun _ _ q=>q
  rintro rfl;rcases hc with rfl|hc
  ·rw[hfree] at e;cases e
  ·rw[hfree] at hc;cases hc
 rcases hx with hk|hk
 ·refine wpAny_storeName_local hk hn (fun h' hn' hs=>?_) hcls
  obtain ⟨oL,_,_,hoL,_⟩:=id hn;refine h _ ⟨I.ok,I.os,I.bare,⟨fun b o e n hb hx=>?_,fun b o e n hb hx=>?_,I.base.free,fun b o e hx=>?_,I.base.tups,I.base.frzs,I.base.tbls⟩,⟨_,hn',fun j y v' e1 e2 e3=>?_⟩,fun y c e=>?_,I.free,I.freeC,fun p hp=>?_,tracked ⟨oL,hoL,I.free⟩ hs,by simpa using I.len⟩ ⟨_,hs,.inl rfl⟩
  ·exact (hs.2 b (AS (Ad (Heap.lt_size e) I.ok.above))).trans (I.base.keep b o e n hb hx)
  ·obtain ⟨sl,e1⟩:=I.base.slot b o e n hb hx;exact ⟨sl,(hs.2 b (AS (Ad (Heap.lt_size e) I.ok.above))).trans e1⟩
  ·obtain ⟨o',e1⟩:=I.base.there b o e hx;exact ⟨o',(hs.2 b (AS (Ad (Heap.lt_size e) I.ok.above))).trans e1⟩
  ·by_cases hj:j=i
   ·subst hj;rw[hi] at e1;cases e1;rw[List.getElem?_set_self hiσ] at e2;cases e2;exact ⟨u,r,.inl ⟨hk,by simp⟩⟩
   ·rw[List.getElem?_set_ne (Ne.symm hj)] at e2;obtain ⟨u',r',q⟩:=hl j y v' e1 e2 e3;refine ⟨u',r',?_⟩;rcases q with ⟨k,e⟩|⟨k,c,e,z⟩
    ·refine .inl ⟨k,?_⟩;have:y≠x:=fun e=>hj (gs hN e1 (e▸hi))
     simp[this,e]
    ·exact .inr ⟨k,c,e,z.sameBut hs (cne y c e)⟩
  ·obtain ⟨w',z⟩:=I.cell y c e;exact ⟨w',z.sameBut hs (cne y c e)⟩
  ·obtain ⟨e,n,ne,nf,d⟩:=I.pin p hp;exact ⟨(hs.2 p.1 ne).trans e,n,ne,nf,d⟩
 ·have hfn:X.fn x=true:=by
   rcases hf with z|z
   ·exact z
   ·rw[z] at hk;cases hk
  obtain ⟨c,hc⟩:=I.ok.has x (.inl hk);obtain ⟨w',z⟩:=I.cell x c hc;refine wpAny_storeName_cell I.ok.kind hk hc z (fun h' hc' hs=>?_)
  obtain ⟨oc,hoc,hocd⟩:=id z;refine h {s with heap:=h'} ⟨I.ok,I.os,I.bare,⟨fun b o e n hb hx=>?_,fun b o e n hb hx=>?_,I.base.free,fun b o e hx=>?_,I.base.tups,I.base.frzs,I.base.tbls⟩,⟨m,hn.sameBut hs (Ne.symm (cne x c hc)),fun j y v' e1 e2 e3=>?_⟩,fun y c' e=>?_,I.free,I.freeC,fun p hp=>?_,tracked ⟨oc,hoc,I.freeC x c hc⟩ hs,by simpa using I.len⟩ ⟨c,hs,.inr hc⟩
  ·exact (hs.2 b (AS (Ad (Heap.lt_size e) (I.ok.cab x c hfn hc)))).trans (I.base.keep b o e n hb hx)
  ·obtain ⟨sl,e1⟩:=I.base.slot b o e n hb hx;exact ⟨sl,(hs.2 b (AS (Ad (Heap.lt_size e) (I.ok.cab x c hfn hc)))).trans e1⟩
  ·obtain ⟨o',e1⟩:=I.base.there b o e hx;exact ⟨o',(hs.2 b (AS (Ad (Heap.lt_size e) (I.ok.cab x c hfn hc)))).trans e1⟩
  ·by_cases hj:j=i
   ·subst hj;rw[hi] at e1;cases e1;rw[List.getElem?_set_self hiσ] at e2;cases e2;exact ⟨u,r,.inr ⟨.inl hk,c,hc,hc'⟩⟩
   ·rw[List.getElem?_set_ne (Ne.symm hj)] at e2;obtain ⟨u',r',q⟩:=hl j y v' e1 e2 e3;refine ⟨u',r',?_⟩;rcases q with q|⟨k,c',e,z'⟩
    ·exact .inl q
    ·refine .inr ⟨k,c',e,z'.sameBut hs ?_⟩;rintro rfl;exact hj (gs hN e1 (I.ok.inj _ _ _ e hc▸hi))
  ·by_cases hcc:c'=c
   ·subst hcc;exact ⟨_,hc'⟩
   ·obtain ⟨w2,z2⟩:=I.cell y c' e;exact ⟨w2,z2.sameBut hs hcc⟩
  ·obtain ⟨e,n,ne,nf,d⟩:=I.pin p hp;refine ⟨(hs.2 p.1 ?_).trans e,n,ne,nf,d⟩;intro q;rw[q,hoc] at e;have q':oc=p.2:=B9 e;exact d w' (by rw[<-q'];exact hocd)
theorem gu {M:Model} {A:Around} {E:sE} {i:Nat} {x:Str} {v:V} {u:Value} {Q:Unit->Shared->Prop} (I:aD X pins σ H s) (hN:X.N.Nodup) (hi:X.N[i]?=some x) (hx:Loc X.env.scope x) (r:RelV v u)
  (h:∀s',aD X pins (σ.set i (some v)) H s'->Q () s') (hf:X.fn x=true∨X.env.scope.names.lookup x=some .local:=by first|exact .inl rfl|exact .inr rfl|assumption):wpAny M A (storeName X.env x u) Q E s:=
 jq I hN hi hx r (fun s' I' _=>h s' I') hf
theorem aD.call' {s':Shared} {ch:sJ} (I:aD X pins σ H s) (ho:s'.os=s.os) (u:Un (j0 X.stack) ch H H' s.heap s'.heap) (hok:dR X.prog X.w H' s'.heap) (hg:AllBare s'.gens)
  (hch:∀b∈ch,(b∈X.ex∨X.s₀.heap.objs.size<=b)/\b≠X.env.locals/\(∀x c,X.env.cells.lookup x=some c->c≠b)/\∀p∈X.pn++pins,p.1≠b):aD X pins σ H' s':=by
 obtain ⟨h',g',d',t',o'⟩:=s';have e:o'=s.os:=ho;subst e;exact I.call (g':=g') (t':=t') (d':=d') u hok hg hch
abbrev XK:=Value->sL->Hp->Prop
abbrev St:=List (Option V)
abbrev VK:=V->Hp->Prop
abbrev TE:=St->Hp->VK->Prop
abbrev TT:=St->Hp->(Bool->Hp->Prop)->Prop
abbrev TA:=St->Hp->(List V->Hp->Prop)->Prop
structure Ends where
 nx:St->Hp->Prop
 rt:VK
 bk:St->Hp->Prop:=fun _ _=>False
 ct:St->Hp->Prop:=fun _ _=>False
abbrev TS:=Ends->St->Hp->Prop
def EP (X:Cx) (pins:sG) (σ:St) (Q:VK) (u:Value) (s':Shared):Prop:=∃v H',aD X pins σ H' s'/\RelV v u/\Q v H'
def TP (X:Cx) (pins:sG) (σ:St) (Q:Bool->Hp->Prop) (b:Bool) (s':Shared):Prop:=∃H',aD X pins σ H' s'/\Q b H'
def AP (X:Cx) (pins:sG) (σ:St) (Q:List V->Hp->Prop) (us:sK) (s':Shared):Prop:=∃vs H',aD X pins σ H' s'/\aO vs us/\Q vs H'
def SP (X:Cx) (pins:sG) (D:Ends) (f:Flow) (s':Shared):Prop:=
 match f with
 | .next=>∃σ' H',aD X pins σ' H' s'/\D.nx σ' H'
 | .brk=>∃σ' H',aD X pins σ' H' s'/\D.bk σ' H'
 | .cont=>∃σ' H',aD X pins σ' H' s'/\D.ct σ' H'
 | .ret u=>∃v σ' H',aD X pins σ' H' s'/\RelV v u/\D.rt v H'
def PE (X:Cx) (e:Expr) (t:TE):Prop:=
 ∀(pins:sG) (s:Shared) (σ:St) (H:Hp) (Q:VK),aD X pins σ H s->t σ H Q->wpAny (model X.prog X.w) X.A (eval e X.env) (EP X pins σ Q) X.xe s
def PT (X:Cx) (e:Expr) (t:TT):Prop:=
 ∀(pins:sG) (s:Shared) (σ:St) (H:Hp) (Q:Bool->Hp->Prop),aD X pins σ H s->t σ H Q->wpAny (model X.prog X.w) X.A (isTrue e X.env (eval e X.env)) (TP X pins σ Q) X.xe s
def PW (X:Cx) (e:Expr) (t:TT):Prop:=
 ∀(whole:Sem Value) (pins:sG) (s:Shared) (σ:St) (H:Hp) (Q:Bool->Hp->Prop),aD X pins σ H s->t σ H Q->wpAny (model X.prog X.w) X.A (isTrue e X.env whole) (TP X pins σ Q) X.xe s
theorem PW.pt {X:Cx} {e:Expr} {t:TT} (h:PW X e t):PT X e t:=h _
def PA (X:Cx) (es:List Expr) (t:TA):Prop:=
 ∀(pos:Pos) (pins:sG) (s:Shared) (σ:St) (H:Hp) (Q:List V->Hp->Prop),aD X pins σ H s->t σ H Q->wpAny (model X.prog X.w) X.A (spliced (backTo pos (starEach es X.env))) (AP X pins σ Q) X.xe s
def PS (X:Cx) (st:Stmt) (t:TS):Prop:=
 ∀(pins:sG) (s:Shared) (σ:St) (H:Hp) (D:Ends),aD X pins σ H s->t D σ H->wpAny (model X.prog X.w) X.A (exec st X.env) (SP X pins D) X.xe s
def j7 (X:Cx) (st:List Stmt) (t:TS):Prop:=
 ∀(pins:sG) (s:Shared) (σ:St) (H:Hp) (D:Ends),aD X pins σ H s->t D σ H->wpAny (model X.prog X.w) X.A (execs st X.env) (SP X pins D) X.xe s
theorem bE {α:Type} {t:Sem α} {Q Q':α->Shared->Prop} {M:Model} {A:Around} {E:sE} {s:Shared} (h:wpAny M A t Q E s) (hQ:∀a s,Q a s->Q' a s):wpAny M A t Q' E s:=wpAny_mono h hQ fun _ _ x=>x
section
def oq (i:Nat):TE:=fun σ H Q=>∃v,σ[i]?=some (some v)/\Q v H
def tC (v:V):TE:=fun _ H Q=>Q v H
theorem mY {i:Nat} {x:Str} {pos:Pos} (hN:X.N[i]?=some x) (hv:pU X.env.scope x) (hd:(x==("__debug__" :Str))=false:=by decide) (hcd:(x==("__classdict__" :Str))=false:=by decide):PE X (.Name x pos) (oq i):=by
 intro pins s σ H Q I h;obtain ⟨v,e,h⟩:=h;obtain ⟨m,hn,hl⟩:=I.loc;obtain ⟨u,r,l⟩:=hl i x v hN e hv;have fin:EP X pins σ Q u s:=⟨v,H,I,r,h⟩;rcases l with ⟨hk,hm⟩|⟨hk,c,hc,hcell⟩
 ·exact wpAny_Name (wpAny_loadName_local I.ok.kind hk hn hm fin) hd
 ·rcases hk with hk|hk
  ·exact wpAny_Name (wpAny_loadName_cell I.ok.kind hk hc hcell fin) hd
  ·exact wpAny_Name (wpAny_loadName_free I.ok.kind hk hc hcell fin hcd) hd
theorem af {i j pos}:PE X (.Constant (.int i) j pos) (tC (.int i)):=fun _ _ _ H _ I h=>wpAny_Constant_int ⟨.int i,H,I.tok _,⟨_,rfl⟩,h⟩
theorem bp {b j pos}:PE X (.Constant (.bool b) j pos) (tC (.bl b)):=fun _ _ _ H _ I h=>Constant_bool ⟨.bl b,H,I,rfl,h⟩
theorem ic {j pos}:PE X (.Constant .none j pos) (tC .non):=fun _ _ _ H _ I h=>Constant_none ⟨.non,H,I,rfl,h⟩
theorem cq {x j pos}:PE X (.Constant (.str x) j pos) (tC (.str x)):=fun _ _ _ H _ I h=>Calls.Constant_str ⟨.str x,H,I.tok _,⟨_,rfl⟩,h⟩
def Gl (X:Cx) (x:Str):Prop:=X.env.kindOf x=some .globalImplicit
theorem fH {E:sE} {pins:sG} {s:Shared} {σ:St} {H:Hp} {x:Str} {u:Value} {pos:Pos} {Q:sE} (I:aD X pins σ H s) (hg:Gl X x) (hm:X.mg x=some u) (h:Q u s)
  (hd:(x==("__debug__" :Str))=false:=by decide):wpAny (model X.prog X.w) X.A (eval (.Name x pos) X.env) Q E s:=
 Calls.Name_function_global I.ok.kind hg (Calls.loadGlobal_global (by rw[I.ok.glob];exact I.mod.glob.keeps I.bk) hm h) hd
theorem dq {E:sE} {pins:sG} {s:Shared} {σ:St} {H:Hp} {x:Str} {u:Value} {pos:Pos} {Q:sE} (I:aD X pins σ H s) (hg:Gl X x) (hm:X.mg x=none) (hv:bootBuiltins x=some u) (h:Q u s)
  (hn:x≠ "__name__" :=by decide) (hd:(x==("__debug__" :Str))=false:=by decide):wpAny (model X.prog X.w) X.A (eval (.Name x pos) X.env) Q E s:=by
 obtain ⟨mb,h1,h2⟩:=I.mod.blt;exact Calls.Name_function_global I.ok.kind hg (Calls.loadGlobal_builtin (by rw[I.ok.glob];exact I.mod.glob.keeps I.bk) hm (by rw[I.ok.blt];exact h1.keeps I.bk) ((h2 x hn).trans hv) h) hd
theorem aC {x:Str} {v:V} {u:Value} {pos:Pos} (hg:Gl X x) (hm:X.mg x=none) (hv:bootBuiltins x=some u) (r:RelV v u) (hn:x≠ "__name__" :=by decide) (hd:(x==("__debug__" :Str))=false:=by decide):PE X (.Name x pos) (tC v):=
 fun _ _ _ H _ I h=>dq I hg hm hv ⟨v,H,I,r,h⟩ hn hd
variable {a b:Expr} {ta tb:TE} {pos:Pos}
def tB (t:TE):TT:=fun σ H Q=>t σ H fun x H1=>∃c,x= .bl c/\Q c H1
theorem aU {e:Expr} {t:TE} (h:PE X e t) (he:∀whole,isTrue e X.env whole=(do let v<-whole;standAt e.pos;holding [v] (truthy v)):=by intro _;rfl):PT X e (tB t):=by
 intro pins s σ H Q I hw;refine isTrue_plain (bE (h pins s σ H _ I hw) fun v s1 ⟨x,H1,I1,r1,q1⟩=>?_) (he _)
 obtain ⟨d,rfl,q⟩:=q1;cases r1;exact wpAny_truthy_bool ⟨H1,I1,q⟩
variable {tA tB':TT} {rest:List Expr}
def pV (t u:TT):TT:=fun σ H Q=>t σ H fun c H1=>if c=true then u σ H1 Q else Q false H1
def qO (t u:TT):TT:=fun σ H Q=>t σ H fun c H1=>if c=true then Q true H1 else u σ H1 Q
def pW (t:TT):TT:=fun σ H Q=>t σ H fun c H1=>Q (!c) H1
theorem lG (ha:PT X a tA):PW X (.BoolOp .And [a] pos) tA:=by
 intro wh pins s σ H Q I h;refine isTrue_and (bE (ha pins s σ H Q I h) fun c s1 e=>?_)
 cases c with
 |true=>exact isTrue_and_nil e
 |false=>exact e
theorem mZ (ha:PT X a tA):PW X (.BoolOp .Or [a] pos) tA:=by
 intro wh pins s σ H Q I h;refine isTrue_or (bE (ha pins s σ H Q I h) fun c s1 e=>?_)
 cases c with
 |false=>exact isTrue_or_nil e
 |true=>exact e
theorem m4 (ha:PT X a tA) (hb:PW X (.BoolOp .And (b::rest) pos) tB'):PW X (.BoolOp .And (a::b::rest) pos) (pV tA tB'):=by
 intro wh pins s σ H Q I h;refine isTrue_and (bE (ha pins s σ H _ I h) fun c s1 ⟨H1,I1,q1⟩=>?_)
 cases c with
 |true=>exact hb wh pins s1 σ H1 Q I1 q1
 |false=>exact ⟨H1,I1,q1⟩
theorem ou (ha:PT X a tA) (hb:PW X (.BoolOp .Or (b::rest) pos) tB'):PW X (.BoolOp .Or (a::b::rest) pos) (qO tA tB'):=by
 intro wh pins s σ H Q I h;refine isTrue_or (bE (ha pins s σ H _ I h) fun c s1 ⟨H1,I1,q1⟩=>?_)
 cases c with
 |true=>exact ⟨H1,I1,q1⟩
 |false=>exact hb wh pins s1 σ H1 Q I1 q1
theorem bA (ha:PT X a tA):PT X (.UnaryOp .Not a pos) (pW tA):=by
 intro pins s σ H Q I h;exact isTrue_not (ha pins s σ H (fun c H1=>Q (!c) H1) I h)
def oy (ta tb:TE):TE:=fun σ H Q=>ta σ H fun x H1=>∃c,x= .bl c/\if c=true then tb σ H1 Q else Q (.bl false) H1
def oz (ta:TE):TE:=fun σ H Q=>ta σ H fun x H1=>∃c,x= .bl c/\Q (.bl (!c)) H1
theorem cD {op} {t:TE} (h:PE X a t):PE X (.BoolOp op [a] pos) t:=fun pins s σ H Q I hw=>BoolOp_one (h pins s σ H Q I hw)
theorem bQ (ha:PE X a ta) (hb:PE X (.BoolOp .And (b::rest) pos) tb):PE X (.BoolOp .And (a::b::rest) pos) (oy ta tb):=by
 intro pins s σ H Q I h;refine BoolOp_and (bE (ha pins s σ H _ I h) fun v s1 ⟨x,H1,I1,r1,q1⟩=>?_)
 obtain ⟨c,rfl,q1⟩:=q1;cases r1;refine wpAny_truthy_bool ?_;cases c with
 |true=>exact hb pins s1 σ H1 Q I1 q1
 |false=>exact ⟨.bl false,H1,I1,rfl,q1⟩
theorem fJ (ha:PE X a ta):PE X (.UnaryOp .Not a pos) (oz ta):=by
 intro pins s σ H Q I h;refine UnaryOp_ (bE (ha pins s σ H _ I h) fun v s1 ⟨x,H1,I1,r1,q1⟩=>?_)
 obtain ⟨c,rfl,q1⟩:=q1;cases r1;exact not_of (wpAny_truthy_bool ⟨.bl (!c),H1,I1,rfl,q1⟩)
def qP (t:TT) (ta tb:TE):TE:=fun σ H Q=>t σ H fun c H1=>if c=true then ta σ H1 Q else tb σ H1 Q
theorem gv {c:Expr} (hc:PT X c tA) (ha:PE X a ta) (hb:PE X b tb):PE X (.IfExp c a b pos) (qP tA ta tb):=by
 intro pins s σ H Q I h;refine wpAny_IfExp (bE (hc pins s σ H _ I h) fun d s1 ⟨H1,I1,q1⟩=>?_)
 cases d with
 |true=>exact ha pins s1 σ H1 Q I1 q1
 |false=>exact hb pins s1 σ H1 Q I1 q1
end
def aS (K:A6) (H:Hp) (a:Addr) (xs:List V):Prop:=
 Rd H a (.lst xs)∨
  ∃(o:Obj) (its:Array Value) (n:Nat),K.lookup a=some o/\o.cls= .type "list" /\o.dict=none/\o.data= .seq its n/\its.size<=sizeLine/\aO xs its.toList
def cr (K:A6) (H:Hp) (a:Addr) (xs:List V):Prop:=
 Rd H a (.tup xs)∨
  ∃(o:Obj) (its:Array Value) (n:Nat),K.lookup a=some o/\o.cls= .type "tuple" /\o.data= .seq its n/\its.size<=sizeLine/\aO xs its.toList
def pY:Value->Option V
 | .none=>some .non
 | .bool b=>some (.bl b)
 | .int i _=>some (.int i)
 | .str x _=>some (.str x)
 | .bytes b _=>some (.byt b)
 | .float b _=>some (.flt b)
 | .ref a=>some (.ref a)
 | .type n=>some (.ty n)
 |_=>none
theorem RelV.abs {x:V} {u:Value} (r:RelV x u):pY u=some x:=by
 cases x with
 |non=>cases r;rfl
 |bl _=>cases r;rfl
 |int _=>obtain ⟨t,rfl⟩:=r;rfl
 |str _=>obtain ⟨t,rfl⟩:=r;rfl
 |byt _=>obtain ⟨t,rfl⟩:=r;rfl
 |flt _=>obtain ⟨t,rfl⟩:=r;rfl
 |ref _=>cases r;rfl
 |ty _=>cases r;rfl
theorem RelV.inj {x y:V} {u:Value} (r:RelV x u) (q:RelV y u):x=y:=B9 (r.abs.symm.trans q.abs)
theorem aO.inj:∀{xs ys:List V} {us:sK},aO xs us->aO ys us->xs=ys
 |_,_,_,.nil,.nil=>rfl
 |_,_,_,.cons r t,.cons r' t'=>by rw[r.inj r',aO.inj t t']
variable {σ:St} {a:Addr} {xs ys:List V}
theorem aS.of {K:A6} (h:H a=some (.lst xs)):aS K H a xs:= .inl (.inl h)
theorem cr.of {K:A6} (h:H a=some (.tup xs)):cr K H a xs:= .inl (.inl h)
theorem aD.list (I:aD X pins σ H s) (h:aS X.K H a xs):∃its:sK,aO xs its/\PlainL s.heap a its.toArray/\xs.length<=sizeLine:=by
 rcases h with h|⟨o,its,n,hk,hc,hd,hs,hz,r⟩
 ·obtain ⟨z,its,n,r,e⟩:=h.ok I.hok;exact ⟨its,r,⟨_,n,e,rfl,rfl,rfl⟩,z⟩
 ·refine ⟨its.toList,r,⟨o,n,I.kIn a o hk,hc,hd,by simpa using hs⟩,?_⟩
  have e:=r.length;simp only[AJ] at e;omega
theorem aD.tuple (I:aD X pins σ H s) (h:cr X.K H a xs):∃its:sK,aO xs its/\IsTup s.heap a its.toArray/\xs.length<=sizeLine:=by
 rcases h with h|⟨o,its,n,hk,hc,hs,hz,r⟩
 ·obtain ⟨z,its,r,p⟩:=h.ok I.hok;exact ⟨its,r,p,z⟩
 ·refine ⟨its.toList,r,⟨o,I.kIn a o hk,hc,n,by simpa using hs⟩,?_⟩
  have e:=r.length;simp only[AJ] at e;omega
theorem aD.list_inj (I:aD X pins σ H s) (h:aS X.K H a xs) (h':aS X.K H a ys):xs=ys:=by
 obtain ⟨its,r,⟨o,n,e,_,_,d⟩,_⟩:=I.list h;obtain ⟨its',r',⟨o',n',e',_,_,d'⟩,_⟩:=I.list h';rw[e] at e';cases e';rw[d] at d';injection d' with d1 _
 have:its=its':=by simpa using congrArg Array.toList d1
 subst this;exact r.inj r'
abbrev Cx.wish (X:Cx) (E:sE):Cx:={X with xe:=E}
abbrev Cx.nox (X:Cx):Cx:=X.wish fun _ _=>False
theorem Cx.Ok.wish {X:Cx} (ok:X.Ok) (E:sE):(X.wish E).Ok:=
 ⟨ok.mod,ok.kind,ok.glob,ok.blt,ok.above,ok.inj,ok.has,ok.cab,ok.hd,ok.frames,ok.stk,ok.exf,ok.bs,ok.bsz,ok.noex,ok.exfs,ok.funs,ok.frf⟩
theorem Cx.Ok.unwish {X:Cx} {E:sE} (ok:(X.wish E).Ok):X.Ok:=
 ⟨ok.mod,ok.kind,ok.glob,ok.blt,ok.above,ok.inj,ok.has,ok.cab,ok.hd,ok.frames,ok.stk,ok.exf,ok.bs,ok.bsz,ok.noex,ok.exfs,ok.funs,ok.frf⟩
variable {E:sE}
theorem aD.wish (I:aD X pins σ H s) (E:sE):aD (X.wish E) pins σ H s:=⟨I.ok.wish E,I.os,I.bare,I.base,I.loc,I.cell,I.free,I.freeC,I.pin,I.hok,I.len⟩
theorem aD.unwish (I:aD (X.wish E) pins σ H s):aD X pins σ H s:=⟨I.ok.unwish,I.os,I.bare,I.base,I.loc,I.cell,I.free,I.freeC,I.pin,I.hok,I.len⟩
theorem SP.unwish {D:Ends} {f:Flow} {s':Shared} (h:SP (X.wish E) pins D f s'):SP X pins D f s':=by
 cases f with
 |next=>obtain ⟨σ',H',I,q⟩:=h;exact ⟨σ',H',I.unwish,q⟩
 |brk=>obtain ⟨σ',H',I,q⟩:=h;exact ⟨σ',H',I.unwish,q⟩
 |cont=>obtain ⟨σ',H',I,q⟩:=h;exact ⟨σ',H',I.unwish,q⟩
 |ret u=>obtain ⟨v,σ',H',I,r,q⟩:=h;exact ⟨v,σ',H',I.unwish,r,q⟩
theorem j7.nox {st:List Stmt} {t:TS} (h:j7 X.nox st t):j7 X st t:=fun pins s σ H D I hw=>
 wpAny_mono (h pins s σ H D (I.wish _) hw) (fun _ _ q=>q.unwish) fun _ _ z=>False.elim z
variable {st:Stmt} {rest:List Stmt} {t u:TS} {e:Expr} {te:TE} {pos:Pos}
def bL:TS:=fun D σ H=>D.nx σ H
def ki (t u:TS):TS:=fun D σ H=>t {D with nx:=u D} σ H
theorem aE:j7 X [] bL:=fun _ _ σ H _ I h=>wpAny_execs_nil ⟨σ,H,I,h⟩
theorem ae (h1:PS X st t) (h2:j7 X rest u):j7 X (st::rest) (ki t u):=by
 intro pins s σ H D I h;refine wpAny_execs_cons (bE (h1 pins s σ H {D with nx:=u D} I h) fun f s1 q=>?_)
 cases f with
 |next=>
  obtain ⟨σ',H',I',q⟩:=q;exact h2 pins s1 σ' H' D I' q
 |ret v=>exact q
 |brk=>exact q
 |cont=>exact q
theorem ag (h1:PS X st t):j7 X [st] t:=by
 intro pins s σ H D I h;refine wpAny_execs_cons (bE (h1 pins s σ H D I h) fun f s1 q=>?_)
 cases f with
 |next=>exact wpAny_execs_nil q
 |ret v=>exact q
 |brk=>exact q
 |cont=>exact q
theorem aD.quiet {pins:sG} {σ:St} {H:Hp} {s:Shared} (I:aD X pins σ H s):interactive X.env=false:=by simp[interactive,I.ok.kind]
def oA (te:TE):TS:=fun D σ H=>te σ H fun _ H1=>D.nx σ H1
theorem aX (he:PE X e te) (hs:swapsWith e none pos.line X.env=pure false:=by rfl):PS X (.Expr e pos) (oA te):=by
 intro pins s σ H D I h;exact wpAny_Expr_any (bE (he pins s σ H _ I h) fun v s1 ⟨x,H1,I1,r1,q1⟩=>⟨σ,H1,I1,q1⟩) I.quiet hs
def pZ (te:TE):TS:=fun D σ H=>te σ H D.rt
theorem aB (he:PE X e te):PS X (.Return (some e) pos) (pZ te):=by
 intro pins s σ H D I h;exact wpAny_Return_some (bE (he pins s σ H _ I h) fun v s1 ⟨x,H1,I1,r1,q1⟩=>⟨x,σ,H1,I1,r1,q1⟩)
def p0 (c:TT) (t u:TS):TS:=fun D σ H=>c σ H fun b H1=>if b=true then t D σ H1 else u D σ H1
theorem aJ {c:Expr} {a b:List Stmt} {tc:TT} (hc:PT X c tc) (ha:j7 X a t) (hb:j7 X b u):PS X (.If c a b pos) (p0 tc t u):=by
 intro pins s σ H D I h;refine wpAny_If (bE (hc pins s σ H _ I h) fun d s1 ⟨H1,I1,q1⟩=>?_)
 cases d with
 |true=>exact ha pins s1 σ H1 D I1 q1
 |false=>exact hb pins s1 σ H1 D I1 q1
abbrev TG:=V->St->Hp->(St->Hp->Prop)->Prop
abbrev m5:=List V->St->Hp->(St->Hp->Prop)->Prop
def PG (X:Cx) (target:Expr) (t:TG):Prop:=
 ∀(pins:sG) (s:Shared) (σ:St) (H:Hp) (v:V) (u:Value) (Q:St->Hp->Prop),aD X pins σ H s->RelV v u->t v σ H Q->
  wpAny (model X.prog X.w) X.A (assign target X.env u) (fun _ s'=>∃σ' H',aD X pins σ' H' s'/\Q σ' H') X.xe s
def pO (X:Cx) (ts:List Expr) (t:m5):Prop:=
 ∀(pins:sG) (s:Shared) (σ:St) (H:Hp) (vs:List V) (us:sK) (Q:St->Hp->Prop),aD X pins σ H s->aO vs us->t vs σ H Q->
  wpAny (model X.prog X.w) X.A (assignInOrder ((assignEach ts X.env).map (·.2)) us) (fun _ s'=>∃σ' H',aD X pins σ' H' s'/\Q σ' H') X.xe s
def bx (i:Nat):TG:=fun v σ H Q=>Q (σ.set i (some v)) H
theorem dX {i:Nat} {x:Str} (hN:X.N.Nodup) (hi:X.N[i]?=some x) (hx:Loc X.env.scope x) (hf:X.fn x=true∨X.env.scope.names.lookup x=some .local:=by first|exact .inl rfl|exact .inr rfl|assumption):PG X (.Name x pos) (bx i):=by
 intro pins s σ H v u Q I r h;exact wpAny_assign_Name (gu I hN hi hx r (fun s' I'=>⟨_,H,I',h⟩) hf)
def p5:m5:=fun vs σ H Q=>vs= []/\Q σ H
def oB (t:TG) (u:m5):m5:=fun vs σ H Q=>∃v r,vs=v::r/\t v σ H fun σ' H'=>u r σ' H' Q
theorem lH:pO X [] p5:=by
 intro pins s σ H vs us Q I r h;obtain ⟨e,h⟩:=h;subst e;cases r;exact assignInOrder_nil ⟨σ,H,I,h⟩
theorem c7 {e:Expr} {es:List Expr} {t:TG} {u:m5} (h1:PG X e t) (h2:pO X es u)
  (hs:(assignEach (e::es) X.env).map (·.2)=assign e X.env::(assignEach es X.env).map (·.2):=by rfl):pO X (e::es) (oB t u):=by
 intro pins s σ H vs us Q I r h;obtain ⟨v,vr,e1,h⟩:=h;subst e1;cases r with
 |cons r rr=>
  rw[hs];refine assignInOrder_cons (bE (h1 pins s σ H _ _ _ I r h) fun _ s1 ⟨σ1,H1,I1,q1⟩=>?_)
  exact h2 pins s1 σ1 H1 _ _ Q I1 rr q1
def p8 (K:A6) (n:Nat) (t:m5):TG:=fun v σ H Q=>∃a xs,v= .ref a/\cr K H a xs/\xs.length=n/\t xs σ H Q
theorem m7 {es:List Expr} {k:Nat} {t:m5} {n:Nat} (hc:X.calm=true) (h:pO X es t)
  (hn:(assignEach es X.env).length=n:=by rfl) (hst:(assignEach es X.env).findIdx? (·.1)=none:=by rfl):PG X (.Tuple es k pos) (p8 X.K n t):=by
 intro pins s σ H v u Q I r hw;obtain ⟨a,xs,e1,hq,hl,hw⟩:=hw;subst e1;cases r;obtain ⟨its,rv,ht,hz⟩:=I.tuple hq;refine assign_Tuple_tuple (I.ok.hd hc) ht (by simp[hn,<-hl,rv.length]) hst fun h' hx=>?_
 have I1:aD X pins σ H {s with heap:=h'}:=I.kept (t':=s.toks) fun b o e=>hx b o (AS (Heap.lt_size e)) e
 exact h pins _ σ H xs _ Q I1 (by simpa using rv) hw
def lI (te:TE) (g:TG):TS:=fun D σ H=>te σ H fun x H1=>g x σ H1 D.nx
theorem m9 {i:Nat} {x:Str} {e:Expr} {te:TE} {pos':Pos} (hN:X.N.Nodup) (hi:X.N[i]?=some x) (hx:Loc X.env.scope x) (he:PE X e te) (hs:swapsWith e (some (.Name x pos')) pos.line X.env=pure false:=by rfl) (hf:X.fn x=true∨X.env.scope.names.lookup x=some .local:=by first|exact .inl rfl|exact .inr rfl|assumption):
  PS X (.Assign [.Name x pos'] e pos) (lI te (bx i)):=by
 intro pins s σ H D I h;refine wpAny_Assign_Name (bE (he pins s σ H _ I h) fun v s1 ⟨y,H1,I1,r1,q1⟩=>?_) hs
 exact gu I1 hN hi hx r1 (fun s2 I2=>⟨_,H1,I2,q1⟩) hf
structure It where
 go:Nat->Hp->Prop
 yld:Nat->Hp->V->Hp->Prop
 stop:Nat->Hp->Prop
def eU (X:Cx) (pins:sG) (H:Hp) (b:Addr):Prop:=
 H b=none/\b≠X.env.locals/\b∉X.fs/\(b∈X.ex∨X.s₀.heap.objs.size<=b)/\(∀x c,X.env.cells.lookup x=some c->c≠b)/\∀p∈X.pn++pins,p.1≠b
theorem aD.fpOk {X:Cx} {pins:sG} {σ:St} {H H':Hp} {s:Shared} {b:Addr} (I:aD X pins σ H s) (hb:s.heap.objs.size<=b) (hn:H' b=none):eU X pins H' b:=by
 refine ⟨hn,Nat.ne_of_gt (Ad I.lt hb),I.nofs hb,.inr (Az I.sz hb),fun x c e z=>?_,fun p hp z=>?_⟩
 ·obtain ⟨v,q⟩:=I.cell x c e;exact absurd (Ad q.lt (by rw[z];exact hb)) (Nat.lt_irrefl _)
 ·exact absurd (Ad (Heap.lt_size (I.pin p hp).1) (by rw[z];exact hb)) (Nat.lt_irrefl _)
structure Turn (P:Program) (w:World) (K:A6) (tg:Expr) (J:It) (fp:sJ) (it:Addr) (tn:Nat->Heap->Prop):Prop where
 mem:it∈fp
 obj:∀i h,tn i h->∀b∈fp,∃o,h.get? b=some o/\∀v,o.data≠ .cell v
 keep:∀i h h',tn i h->(∀b∈fp,∀o,h.get? b=some o->h'.get? b=some o)->tn i h'
 item:∀(X:Cx),X.prog=P->X.w=w->X.K=K->X.calm=true->∀(i:Nat) (pins:sG) (s:Shared) (σ:St) (H:Hp) (E:sE),aD X pins σ H s->(∀b∈fp,eU X pins H b)->tn i s.heap->J.go i H->
  wpAny (model P w) X.A (pyNext (.ref it)) (fun r s1=>∃u,r=some u/\
   wpAny (model P w) X.A (letOwnedTupleGo tg (.ref it) u) (fun _ s2=>∃x H',aD X pins σ H' s2/\RelV x u/\J.yld i H x H'/\tn (i+1) s2.heap/\∀b∈fp,H' b=none) E s1) E s
 done:∀(X:Cx),X.prog=P->X.w=w->X.K=K->X.calm=true->∀(i:Nat) (pins:sG) (s:Shared) (σ:St) (H:Hp) (E:sE),aD X pins σ H s->(∀b∈fp,eU X pins H b)->tn i s.heap->J.stop i H->
  wpAny (model P w) X.A (pyNext (.ref it)) (fun r s1=>r=none/\aD X pins σ H s1) E s
 self:∀(A:Around) (i:Nat) (s:Shared) (Q:sE) (E:sE),tn i s.heap->Q (.ref it) s->wpAny (model P w) A (pyIter (.ref it)) Q E s
abbrev TI:=St->Hp->(It->Hp->Prop)->Prop
def qG (X:Cx) (pins:sG) (σ:St) (tg:Expr) (R:It->Hp->Prop) (itv:Value) (s2:Shared):Prop:=
 ∃(it:Addr) (fp:sJ) (tn:Nat->Heap->Prop) (J:It) (H':Hp),itv= .ref it/\aD X pins σ H' s2/\Turn X.prog X.w X.K tg J fp it tn/\tn 0 s2.heap/\(∀b∈fp,eU X pins H' b)/\R J H'
def PI (X:Cx) (tg iter:Expr) (wi:TI):Prop:=
 ∀(pins:sG) (s:Shared) (σ:St) (H:Hp) (R:It->Hp->Prop),aD X pins σ H s->wi σ H R->
  wpAny (model X.prog X.w) X.A (eval iter X.env) (fun v s1=>wpAny (model X.prog X.w) X.A (pyIter v) (qG X pins σ tg R) X.xe s1) X.xe s
theorem mJ {M:Model} {A:Around} {E:sE} {s:Shared} {tg:Expr} {it:Addr} {u:Value} {o:Obj} {n:String} {vs:Array Value} {Q:Unit->Shared->Prop} (ho:s.heap.get? it=some o) (hc:o.cls= .type n) (hd:o.data= .fields vs)
    (hn: ["enumerate","zip","dict_itemiterator","dict_reverseitemiterator","odict_iterator","itertools.zip_longest","itertools.pairwise"].contains n=false) (hQ:Q () s):wpAny M A (letOwnedTupleGo tg (.ref it) u) Q E s:=by
  unfold letOwnedTupleGo;cases tg<;>first
    |exact wpAny_pure hQ
    | (cases u<;>first
        |exact wpAny_pure hQ
        | (refine wpAny_bind (wpAny_load ho ?_)
           rw[hc,hd];show wpAny M A (if (["enumerate","zip","dict_itemiterator","dict_reverseitemiterator","odict_iterator","itertools.zip_longest","itertools.pairwise"].contains n&&vs[0]?==some (rawInt _))=true then _ else _) Q E s
           rw[if_neg (by intro h;rw[hn,Bool.false_and] at h;cases h)]
           exact wpAny_pure hQ))
def oC (K:A6) (a:Addr):It:=
 ⟨fun i H=>∃xs x,aS K H a xs/\xs[i]?=some x,fun i H x H'=>H'=H/\∀xs,aS K H a xs->xs[i]?=some x,fun i H=>∃xs,aS K H a xs/\xs.length<=i⟩
def ng (lo:Int) (n:Nat):It:=⟨fun i _=>i<n,fun i H x H'=>H'=H/\x= .int (lo+i),fun i _=>n<=i⟩
theorem jr {P:Program} {w:World} {K:A6} {tg:Expr} (a it:Addr):Turn P w K tg (oC K a) [it] it (fun i h=>h.IsListIter it a i) where
 mem:=by simp
 obj:=fun i h st b hb=>by
  have e:b=it:=by simpa using hb
  subst e;obtain ⟨o,e,c,d⟩:=st;exact ⟨o,e,fun v z=>by rw[d] at z;cases z⟩
 keep:=fun i h h' st k=>st.at fun o e=>k it (by simp) o e
 item:=by
  intro X hP hw hK hc i pins s σ H E I hf st hg;subst hP hw hK;obtain ⟨xs,x,hq,hx⟩:=hg;obtain ⟨its,rv,p,hz⟩:=I.list hq;obtain ⟨u,hu,ru⟩:=rv.get hx;obtain ⟨f0,f1,f2,f3,f4,f5⟩:=hf it (by simp)
  refine wpAny_pyNext_list_item st p.isList (x:=u) (by simpa using hu) fun h' st' sb=>?_
  have I1:aD X pins σ H {s with heap:=h'}:=I.turned (t':=s.toks) (fun b o hb e=>(sb.2 b hb).trans e) f0 f1 f3 f4 f5
  obtain ⟨o,e,c,d⟩:=id st';exact ⟨u,rfl,mJ (s:={s with heap:=h'}) e c d (by decide) ⟨x,H,I1,ru,⟨rfl,fun ys hy=>by rw[I.list_inj hy hq];exact hx⟩,st',fun b hb=>(hf b hb).1⟩⟩
 done:=by
  intro X hP hw hK hc i pins s σ H E I hf st hg;subst hP hw hK;obtain ⟨xs,hq,hx⟩:=hg;obtain ⟨its,rv,p,hz⟩:=I.list hq;obtain ⟨f0,f1,f2,f3,f4,f5⟩:=hf it (by simp)
  have hl:=rv.length;exact wpAny_pyNext_list_end (I.ok.hd hc) st p.isList (by simp;omega) fun h' eb=>⟨rfl,I.turned (t':=s.toks) (fun b o hb e=>eb b o hb e) f0 f1 f3 f4 f5⟩
 self:=fun _ _ _ _ _ st h=>wpAny_pyIter_listiter st h
theorem ie {P:Program} {w:World} {K:A6} {tg:Expr} (it:Addr) (lo:Int) (n:Nat):Turn P w K tg (ng lo n) [it] it (fun i h=>IsRangeIter h it (lo+(i:Nat)*1) ((n:Int)-(i:Nat)) 1) where
 mem:=by simp
 obj:=fun i h st b hb=>by
  have e:b=it:=by simpa using hb
  subst e;exact ⟨_,st,fun v z=>by
   have z':Data.fields _=Data.cell v:=z;cases z'⟩
 keep:=fun i h h' st k=>k it (by simp) _ st
 item:=by
  intro X hP hw hK hc i pins s σ H E I hf st hg;subst hP hw hK;obtain ⟨f0,f1,f2,f3,f4,f5⟩:=hf it (by simp)
  have W:=Walks.range (prog:=X.prog) (w:=X.w) (I.ok.hd hc) it lo 1 n;refine W.item i s _ _ hg st fun v h' tk hv st' kk=>?_
  obtain ⟨t,rfl⟩:=hv;have I1:aD X pins σ H {s with heap:=h',toks:=tk}:=I.turned (fun b o hb e=>kk b o (by simpa using hb) e) f0 f1 f3 f4 f5
  refine ⟨_,rfl,mJ (s:={s with heap:=h',toks:=tk}) (n:= "range_iterator") st' rfl rfl (by decide) ⟨.int (lo+i),H,I1,⟨t,?_⟩,⟨rfl,rfl⟩,st',fun b hb=>(hf b hb).1⟩⟩
  rw[Int.mul_one]
 done:=by
  intro X hP hw hK hc i pins s σ H E I hf st hg;subst hP hw hK;obtain ⟨f0,f1,f2,f3,f4,f5⟩:=hf it (by simp)
  exact wpAny_pyNext_range_end (I.ok.hd hc) st (by have:n<=i:=hg;omega) fun h' eb=>⟨rfl,I.turned (t':=s.toks) (fun b o hb e=>eb b o hb e) f0 f1 f3 f4 f5⟩
 self:=fun _ _ _ _ _ st h=>wpAny_pyIter_rangeiter st h
variable {tg:Expr}
def oE (K:A6) (tl:TE):TI:=fun σ H R=>tl σ H fun x H1=>∃a,x= .ref a/\(∃xs,aS K H1 a xs)/\R (oC K a) H1
theorem cw {l:Expr} {tl:TE} (hl:PE X l tl):PI X tg l (oE X.K tl):=by
 intro pins s σ H R I h;refine bE (hl pins s σ H _ I h) fun v s1 ⟨x,H1,I1,r1,q1⟩=>?_
 obtain ⟨a,e,⟨xs,hq⟩,q⟩:=q1;subst e;cases r1;obtain ⟨its,rv,p,hz⟩:=I1.list hq;refine wpAny_pyIter_list p.isList ?_;refine ⟨s1.heap.objs.size,[s1.heap.objs.size],_,_,H1,rfl,I1.kept (t':=s1.toks) fun b o e=>Heap.get?_push_of_some _ e,jr a _,⟨_,Heap.get?_push_size _ rfl,rfl,rfl⟩,fun b hb=>?_,q⟩
 have e:b=s1.heap.objs.size:=by simpa using hb
 subst e;exact I1.fpOk (AB _) (I1.hok.fresh (AB _))
theorem kj {pins:sG} {σ:St} {H:Hp} {s:Shared} {R:It->Hp->Prop} {E:sE} {lo hi:Int} {t u v:Tok} {tk:Nat} (I:aD X pins σ H s) (h1: -(2^62)<=lo) (h2:lo<2^62) (h3: -(2^62)<=hi) (h4:hi<2^62)
  (q:R (ng lo (hi-lo).toNat) H):wpAny (model X.prog X.w) X.A (pyIter (.ref s.heap.objs.size)) (qG X pins σ tg R) E {s with heap:=s.heap.push {cls:= .type "range",data:= .fields #[.int lo t,.int hi u,.int 1 v]},toks:=tk}:=by
 refine wpAny_pyIter_range (IsRange.new ..) (small_one h1 h2 h3 h4) ?_;have I1:aD X pins σ H {s with heap:=s.heap.push {cls:= .type "range",data:= .fields #[.int lo t,.int hi u,.int 1 v]},toks:=tk}:=I.kept fun b o e=>Heap.get?_push_of_some _ e
 refine ⟨(s.heap.push {cls:= .type "range",data:= .fields #[.int lo t,.int hi u,.int 1 v]}).objs.size,[(s.heap.push {cls:= .type "range",data:= .fields #[.int lo t,.int hi u,.int 1 v]}).objs.size],_,_,H,rfl,
  I1.kept (t':=tk) fun b o e=>Heap.get?_push_of_some _ e,ie _ lo (hi-lo).toNat,?_,fun b hb=>?_,q⟩
 ·have e1:lo+((0:Nat):Int)*1=lo:=by simp
  have e2:(((hi-lo).toNat:Nat):Int)-((0:Nat):Int)=Builtin.Range.rangeSize lo hi 1:=by rw[rangeSize_one];split<;>omega
  show IsRangeIter _ _ (lo+((0:Nat):Int)*1) ((((hi-lo).toNat:Nat):Int)-((0:Nat):Int)) 1;rw[e1,e2];exact Heap.get?_push_size _ rfl
 ·have e:b=(s.heap.push {cls:= .type "range",data:= .fields #[.int lo t,.int hi u,.int 1 v]}).objs.size:=by simpa using hb
  subst e;exact I1.fpOk (AB _) (I1.hok.fresh (AB _))
def oF (ta:TA):TI:=fun σ H R=>ta σ H fun vs H1=>∃j:Int,vs= [.int j]/\ -(2^62)<=j/\j<2^62/\R (ng 0 j.toNat) H1
theorem aW {a:Expr} {ta:TA} {p pos:Pos} (hg:Gl X "range") (hm:X.mg "range" =none) (ha:PA X [a] ta) (hs:starEach [a] X.env= [(false,eval a X.env)]:=by rfl):PI X tg (.Call (.Name "range" p) [a] [] pos) (oF ta):=by
 intro pins s σ H R I h;refine Call_ (dq I hg hm boot_range (PyProof.Rows.callWith_type1 (bE (ha pos pins s σ H _ I h) fun us s1 ⟨vs,H1,I1,r1,q1⟩=>?_) hs rfl))
 obtain ⟨j,e,q1,q2,q⟩:=q1;subst e;cases r1 with
 |cons r rr=>
  cases rr;obtain ⟨t,rfl⟩:=r;exact call_range_1 (kj I1 (by omega) (by omega) q1 q2 (by simpa using q))
def nh (wi:TI) (g:TG) (tb:TS):TS:=fun D σ H=>wi σ H fun J H1=>∃W:Nat->Nat->St->Hp->Prop,(∃m,W 0 m σ H1)/\∀i m σ H,W i m σ H->
 (J.stop i H/\D.nx σ H)∨(J.go i H/\∃N:St->Hp->Prop,(∀σ' H',N σ' H'->∃m',m'<m/\W (i+1) m' σ' H')/\∀x H',J.yld i H x H'->g x σ H' fun σ2 H2=>tb {D with nx:=N,ct:=N,bk:=D.nx} σ2 H2)
def d8 (fp:sJ) (h:Heap):sG:=fp.filterMap fun b=>(h.get? b).map fun o=>(b,o)
theorem cx {fp:sJ} {h:Heap} {b:Addr} {o:Obj} (hb:b∈fp) (e:h.get? b=some o):(b,o)∈d8 fp h:=List.mem_filterMap.mpr ⟨b,hb,by rw[e];rfl⟩
theorem jt {fp:sJ} {h:Heap} {p:Addr×Obj} (hp:p∈d8 fp h):p.1∈fp/\h.get? p.1=some p.2:=by
 obtain ⟨b,hb,e⟩:=List.mem_filterMap.mp hp;cases q:h.get? b with
 |none=>rw[q] at e;cases e
 |some o=>
  rw[q] at e;have e':(b,o)=p:=B9 e;subst e';exact ⟨hb,q⟩
theorem aD.pinned {pins:sG} {σ:St} {H:Hp} {s:Shared} {fp:sJ} (I:aD X pins σ H s) (hf:∀b∈fp,eU X pins H b) (ho:∀b∈fp,∃o,s.heap.get? b=some o/\∀v,o.data≠ .cell v):aD X (pins++d8 fp s.heap) σ H s:=
 I.pins_of fun p hp=>(AE.mp hp).elim (fun z=>I.pin p (AW _ z)) fun z=>by
  obtain ⟨hb,e⟩:=jt z;obtain ⟨f0,f1,f2,_⟩:=hf p.1 hb;obtain ⟨o,e',d⟩:=ho p.1 hb;rw[e] at e';cases e';exact ⟨e,f0,f1,f2,d⟩
theorem aD.unpinned {pins pl:sG} {σ:St} {H:Hp} {s:Shared} (I:aD X (pins++pl) σ H s):aD X pins σ H s:=I.pins_of fun p hp=>I.pin p (AW _ (BP _ hp))
theorem bf {iter:Expr} {body:List Stmt} {wi:TI} {g:TG} {tb:TS} {pos:Pos} (hp:PassesOwn (model X.prog X.w) X.A X.env X.xe) (hc:X.calm=true) (hi:PI X tg iter wi) (hg:PG X tg g) (hb:j7 X body tb)
  (hs:∀x,foldedSetIterable iter X.env x=pure x:=by intro _;rfl):PS X (.For tg iter body [] pos) (nh wi g tb):=by
 intro pins s σ H D I h;refine wpAny_For (bE (hi pins s σ H _ I h) fun v s1 h1=>bE h1 fun itv s2 h2=>?_) hs
 obtain ⟨it,fp,tn,J,H2,e,I2,T,st2,f2,W,⟨m0,w0⟩,turn⟩:=h2;subst e;have stat:∀{H':Hp},(∀b∈fp,H' b=none)->∀b∈fp,eU X pins H' b:=fun hn b hb=>⟨hn b hb,(f2 b hb).2⟩
 refine codeAny_forLoop_any (fun n s'=>∃i σ' H',aD X pins σ' H' s'/\tn i s'.heap/\(∀b∈fp,H' b=none)/\W i n σ' H') ?_ m0 ⟨0,σ,H2,I2,st2,fun b hb=>(f2 b hb).1,w0⟩
 rintro n s3 ⟨i,σ3,H3,I3,st3,fr3,w3⟩;rcases turn i n σ3 H3 w3 with ⟨stop,qn⟩|⟨go,N,hN,step⟩
 ·refine wpAny_passesOwn hp (bE (T.done X rfl rfl rfl hc i pins s3 σ3 H3 X.xe I3 (stat fr3) st3 stop) fun r s4 ⟨hr,I4⟩=>?_)
  subst hr;exact wpAny_execs_nil ⟨σ3,H3,I4,qn⟩
 ·refine wpAny_passesOwn hp (bE (T.item X rfl rfl rfl hc i pins s3 σ3 H3 X.xe I3 (stat fr3) st3 go) fun r s4 ⟨u,hr,h4⟩=>?_)
  subst hr;refine wpAny_passesOwn hp (bE h4 fun _ s5 ⟨x,H5,I5,r5,y5,st5,fr5⟩=>?_)
  have I5':=I5.pinned (stat fr5) (T.obj _ _ st5);refine wpAny_passesOwn hp (bE (hg _ s5 σ3 H5 x u _ I5' r5 (step x H5 y5)) fun _ s6 ⟨σ6,H6,I6,q6⟩=>?_)
  refine wpAny_passesOwn hp (bE (hb _ s6 σ6 H6 _ I6 q6) fun f s7 q7=>?_)
  have again:∀{σ7:St} {H7:Hp},aD X (pins++d8 fp s5.heap) σ7 H7 s7->N σ7 H7->∃m,m<n/\∃i σ' H',aD X pins σ' H' s7/\tn i s7.heap/\(∀b∈fp,H' b=none)/\W i m σ' H':=fun {σ7 H7} I7 n7=>by
   obtain ⟨m',hm,w7⟩:=hN σ7 H7 n7;refine ⟨m',hm,i+1,σ7,H7,I7.unpinned,T.keep _ _ _ st5 fun b hb o e=>(I7.pin (b,o) (AW _ (AW _ (cx hb e)))).1,fun b hb=>?_,w7⟩
   obtain ⟨o,e,d⟩:=T.obj _ _ st5 b hb;exact (I7.pin (b,o) (AW _ (AW _ (cx hb e)))).2.1
  cases f with
  |next=>obtain ⟨σ7,H7,I7,n7⟩:=q7;exact again I7 n7
  |cont=>obtain ⟨σ7,H7,I7,n7⟩:=q7;exact again I7 n7
  |brk=>obtain ⟨σ7,H7,I7,q7⟩:=q7;exact ⟨σ7,H7,I7.unpinned,q7⟩
  |ret v=>obtain ⟨x7,σ7,H7,I7,r7,q7⟩:=q7;exact ⟨x7,σ7,H7,I7.unpinned,r7,q7⟩
theorem bZ {K:A6} {a:Addr} {xs:List V} {g:TG} {tb:TS} {D:Ends} {σ:St} {H:Hp} (Pv:Nat->St->Hp->Prop) (h0:Pv 0 σ H) (hl:∀i σ H,i<=xs.length->Pv i σ H->aS K H a xs)
  (hs:∀i x σ H,xs[i]?=some x->Pv i σ H->g x σ H fun σ2 H2=>tb {D with nx:=Pv (i+1),ct:=Pv (i+1),bk:=D.nx} σ2 H2) (hd:∀σ H,Pv xs.length σ H->D.nx σ H):
  ∃W:Nat->Nat->St->Hp->Prop,(∃m,W 0 m σ H)/\∀i m σ H,W i m σ H->
   ((oC K a).stop i H/\D.nx σ H)∨((oC K a).go i H/\∃N:St->Hp->Prop,(∀σ' H',N σ' H'->∃m',m'<m/\W (i+1) m' σ' H')/\∀x H',(oC K a).yld i H x H'->g x σ H' fun σ2 H2=>tb {D with nx:=N,ct:=N,bk:=D.nx} σ2 H2):=by
 refine ⟨fun i m σ H=>m=xs.length-i/\i<=xs.length/\Pv i σ H,⟨xs.length,by simp,B5 _,h0⟩,?_⟩
 rintro i m σ H ⟨rfl,hi,p⟩;have q:=hl i σ H hi p
 by_cases hlt:i<xs.length
 ·refine .inr ⟨⟨xs,xs[i],q,by simp[hlt]⟩,Pv (i+1),fun σ' H' p'=>⟨xs.length-(i+1),by omega,rfl,hlt,p'⟩,fun x H' y=>?_⟩
  obtain ⟨e,y⟩:=y;subst e;exact hs i x σ _ (y xs q) p
 ·have e:i=xs.length:=by omega
  subst e;exact .inl ⟨⟨xs,q,AB _⟩,hd σ H p⟩
theorem aY {lo:Int} {n:Nat} {g:TG} {tb:TS} {D:Ends} {σ:St} {H:Hp} (Pv:Nat->St->Hp->Prop) (h0:Pv 0 σ H)
  (hs:∀i σ H,i<n->Pv i σ H->g (.int (lo+i)) σ H fun σ2 H2=>tb {D with nx:=Pv (i+1),ct:=Pv (i+1),bk:=D.nx} σ2 H2) (hd:∀σ H,Pv n σ H->D.nx σ H):
  ∃W:Nat->Nat->St->Hp->Prop,(∃m,W 0 m σ H)/\∀i m σ H,W i m σ H->
   ((ng lo n).stop i H/\D.nx σ H)∨((ng lo n).go i H/\∃N:St->Hp->Prop,(∀σ' H',N σ' H'->∃m',m'<m/\W (i+1) m' σ' H')/\∀x H',(ng lo n).yld i H x H'->g x σ H' fun σ2 H2=>tb {D with nx:=N,ct:=N,bk:=D.nx} σ2 H2):=by
 refine ⟨fun i m σ H=>m=n-i/\i<=n/\Pv i σ H,⟨n,by simp,B5 _,h0⟩,?_⟩
 rintro i m σ H ⟨rfl,hi,p⟩
 by_cases hlt:i<n
 ·refine .inr ⟨hlt,Pv (i+1),fun σ' H' p'=>⟨n-(i+1),by omega,rfl,hlt,p'⟩,fun x H' y=>?_⟩
  obtain ⟨e,y⟩:=y;subst e y;exact hs i σ _ hlt p
 ·have e:i=n:=by omega
  subst e;exact .inl ⟨AB _,hd σ H p⟩
abbrev R2:=V->V->Hp->VK->Prop
def fi (X:Cx) (f:Value->Value->Sem Value) (r:R2):Prop:=
 ∀(pins:sG) (s:Shared) (σ:St) (H:Hp) (x y:V) (v u:Value) (Q:VK),aD X pins σ H s->RelV x v->RelV y u->r x y H Q->
  wpAny (model X.prog X.w) X.A (f v u) (EP X pins σ Q) X.xe s
def p9 (X:Cx) (f:Value->Sem Value) (r:V->Hp->VK->Prop):Prop:=
 ∀(pins:sG) (s:Shared) (σ:St) (H:Hp) (x:V) (v:Value) (Q:VK),aD X pins σ H s->RelV x v->r x H Q->
  wpAny (model X.prog X.w) X.A (f v) (EP X pins σ Q) X.xe s
def d9 (X:Cx) (f:Value) (r:List V->Hp->VK->Prop):Prop:=
 ∀(pins:sG) (s:Shared) (σ:St) (H:Hp) (xs:List V) (us:sK) (Q:VK),aD X pins σ H s->aO xs us->r xs H Q->
  wpAny (model X.prog X.w) X.A (call f us) (EP X pins σ Q) X.xe s
def pP (r:R2) (ta tb:TE):TE:=fun σ H Q=>ta σ H fun x H1=>tb σ H1 fun y H2=>r x y H2 Q
def qQ (r:V->Hp->VK->Prop) (ta:TE):TE:=fun σ H Q=>ta σ H fun x H1=>r x H1 Q
def rI (C:Int->Int->Prop) (g:Int->Int->V):R2:=fun x y H Q=>∃i j,x= .int i/\y= .int j/\C i j/\Q (g i j) H
def nj (g:Int->Int->V):R2:=fun x y H Q=>∃i j,x= .int i/\y= .int j/\Q (g i j) H
def rU (g:Int->V):V->Hp->VK->Prop:=fun x H Q=>∃i,x= .int i/\Q (g i) H
section
variable {a b c:Expr} {ta tb tc:TE}
theorem nk (ha:PE X a ta) (hb:PE X b tb) {pins:sG} {s:Shared} {σ:St} {H:Hp} {R:V->V->Hp->Prop} (I:aD X pins σ H s)
  (h:ta σ H fun x H1=>tb σ H1 fun y H2=>R x y H2) {Q:sE} {f:Value->Value->Sem Value}
  (hf:∀v u s2 x y H2,aD X pins σ H2 s2->RelV x v->RelV y u->R x y H2->wpAny (model X.prog X.w) X.A (f v u) Q X.xe s2):
  wpAny (model X.prog X.w) X.A (eval a X.env) (fun v s₁=>wpAny (model X.prog X.w) X.A (eval b X.env) (fun u s₂=>wpAny (model X.prog X.w) X.A (f v u) Q X.xe s₂) X.xe s₁) X.xe s:=by
 refine bE (ha pins s σ H _ I h) fun v s1 ⟨x,H1,I1,r1,q1⟩=>?_
 refine bE (hb pins s1 σ H1 _ I1 q1) fun u s2 ⟨y,H2,I2,r2,q2⟩=>?_
 exact hf v u s2 x y H2 I2 r1 r2 q2
theorem ao {op:Operator} {r:R2} (ho:fi X (binaryOp op) r) (ha:PE X a ta) (hb:PE X b tb):PE X (.BinOp a op b pos) (pP r ta tb):=by
 intro pins s σ H Q I h;exact wpAny_BinOp (nk ha hb I h fun v u s2 x y H2 I2 rx ry q=>ho pins s2 σ H2 x y v u Q I2 rx ry q)
theorem oG {op:UnaryOp} {r:V->Hp->VK->Prop} (ho:p9 X (unaryOp op) r) (ha:PE X a ta):PE X (.UnaryOp op a pos) (qQ r ta):=by
 intro pins s σ H Q I h;exact UnaryOp_ (bE (ha pins s σ H _ I h) fun v s1 ⟨x,H1,I1,r1,q1⟩=>ho pins s1 σ H1 x v Q I1 r1 q1)
theorem pQ {f:Value->Value->Sem Value} {C:Int->Int->Prop} {g:Int->Int->Int}
  (rule:∀(i j:Int) (t u:Tok) (s:Shared) (Q:sE) (E:sE),C i j->Q (.int (g i j) s.toks) {s with toks:=s.toks+1}->wpAny (model X.prog X.w) X.A (f (.int i t) (.int j u)) Q E s):
  fi X f (rI C fun i j=> .int (g i j)):=by
 intro pins s σ H x y v u Q I rx ry h;obtain ⟨i,j,rfl,rfl,hc,q⟩:=h;obtain ⟨t,rfl⟩:=rx;obtain ⟨t',rfl⟩:=ry;exact rule i j t t' s _ _ hc ⟨.int (g i j),H,I.tok _,⟨_,rfl⟩,q⟩
theorem oH {f:Value->Value->Sem Value} {g:Int->Int->Int}
  (rule:∀(i j:Int) (t u:Tok) (s:Shared) (Q:sE) (E:sE),Q (.int (g i j) s.toks) {s with toks:=s.toks+1}->wpAny (model X.prog X.w) X.A (f (.int i t) (.int j u)) Q E s):
  fi X f (nj fun i j=> .int (g i j)):=by
 intro pins s σ H x y v u Q I rx ry h;obtain ⟨i,j,rfl,rfl,q⟩:=h;obtain ⟨t,rfl⟩:=rx;obtain ⟨t',rfl⟩:=ry;exact rule i j t t' s _ _ ⟨.int (g i j),H,I.tok _,⟨_,rfl⟩,q⟩
theorem nn {f:Value->Value->Sem Value} {g:Int->Int->Bool}
  (rule:∀(i j:Int) (t u:Tok) (s:Shared) (Q:sE) (E:sE),Q (.bool (g i j)) s->wpAny (model X.prog X.w) X.A (f (.int i t) (.int j u)) Q E s):
  fi X f (nj fun i j=> .bl (g i j)):=by
 intro pins s σ H x y v u Q I rx ry h;obtain ⟨i,j,rfl,rfl,q⟩:=h;obtain ⟨t,rfl⟩:=rx;obtain ⟨t',rfl⟩:=ry;exact rule i j t t' s _ _ ⟨.bl (g i j),H,I,rfl,q⟩
theorem br:fi X (binaryOp .Add) (nj fun i j=> .int (i+j)):=oH fun _ _ _ _ _ _ _ q=>add_int q
theorem km:fi X (binaryOp .Sub) (nj fun i j=> .int (i-j)):=oH fun _ _ _ _ _ _ _ q=>sub_int q
theorem aL:fi X (binaryOp .Mod) (rI (fun _ j=>j≠0) fun i j=> .int (i.fmod j)):=pQ fun _ _ _ _ _ _ _ hc q=>mod_int' hc q
theorem qR {f:Value->Sem Value} {g:Int->Int}
  (rule:∀(i:Int) (t:Tok) (s:Shared) (Q:sE) (E:sE),Q (.int (g i) s.toks) {s with toks:=s.toks+1}->wpAny (model X.prog X.w) X.A (f (.int i t)) Q E s):
  p9 X f (rU fun i=> .int (g i)):=by
 intro pins s σ H x v Q I rx h;obtain ⟨i,rfl,q⟩:=h;obtain ⟨t,rfl⟩:=rx;exact rule i t s _ _ ⟨.int (g i),H,I.tok _,⟨_,rfl⟩,q⟩
theorem nq:p9 X (unaryOp .USub) (rU fun i=> .int (-i)):=qR fun _ _ _ _ _ q=>neg_int q
end
def oI:V->V->Bool
 | .non,.non=>true| .non,.int _=>true| .int _,.non=>true| .non,.bl _=>true| .bl _,.non=>true| .non,.str _=>true| .str _,.non=>true
 | .int _,.int _=>true| .bl _,.bl _=>true| .str _,.str _=>true| .byt _,.byt _=>true
 | .int _,.str _=>true| .str _,.int _=>true| .bl _,.str _=>true| .str _,.bl _=>true
 |_,_=>false
def qS:R2:=fun x y H Q=>oI x y=true/\Q (.bl (decide (x=y))) H
def qT:R2:=fun x y H Q=>oI x y=true/\Q (.bl (!decide (x=y))) H
theorem iR {i j:Int}:decide (V.int i=V.int j)=(i==j):=by
 rw[Bool.eq_iff_iff];simp
theorem ko {i j:Bool}:decide (V.bl i=V.bl j)=(i==j):=by
 rw[Bool.eq_iff_iff];simp
theorem iS {i j:Str}:decide (V.str i=V.str j)=(i==j):=by
 rw[Bool.eq_iff_iff];simp
theorem iT {i j:Array UInt8}:decide (V.byt i=V.byt j)=(i.toList==j.toList):=by
 rw[Bool.eq_iff_iff];cases i;cases j;simp
section
variable {a b c:Expr} {ta tb tc:TE}
theorem aI {pins:sG} {σ:St} {H:Hp} {s:Shared} {Q:VK} {k k':Bool} (I:aD X pins σ H s) (q:Q (.bl k) H) (e:k=k'):EP X pins σ Q (.bool k') s:=by
 subst e;exact ⟨.bl k,H,I,rfl,q⟩
theorem bB:fi X (compareOp .Eq) qS:=by
 intro pins s σ H x y v u Q I rx ry h;obtain ⟨hs,q⟩:=h;cases x with
 |non=>
  cases rx;cases y with
  |non=>cases ry;exact PySem.EqNone.eq_none_none (aI I q (by simp))
  |bl j=>cases ry;exact PySem.EqNone.eq_none_bool (aI I q (by simp))
  |int j=>obtain ⟨t',rfl⟩:=ry;exact PySem.EqNone.eq_none_int (aI I q (by simp))
  |str j=>obtain ⟨t',rfl⟩:=ry;exact PySem.EqNone.eq_none_str (aI I q (by simp))
  |_=>exact absurd (show false=true from hs) Ac
 |bl i=>
  cases rx;cases y with
  |non=>cases ry;exact PySem.EqNone.eq_bool_none (aI I q (by simp))
  |bl j=>cases ry;exact eq_bool (aI I q ko)
  |str j=>obtain ⟨t',rfl⟩:=ry;exact PySem.EqMixed.eq_bool_str (aI I q (by simp))
  |_=>exact absurd (show false=true from hs) Ac
 |int i=>
  obtain ⟨t,rfl⟩:=rx;cases y with
  |non=>cases ry;exact PySem.EqNone.eq_int_none (aI I q (by simp))
  |int j=>obtain ⟨t',rfl⟩:=ry;exact eq_int (aI I q iR)
  |str j=>obtain ⟨t',rfl⟩:=ry;exact PySem.EqMixed.eq_int_str (aI I q (by simp))
  |_=>exact absurd (show false=true from hs) Ac
 |str i=>
  obtain ⟨t,rfl⟩:=rx;cases y with
  |non=>cases ry;exact PySem.EqNone.eq_str_none (aI I q (by simp))
  |bl j=>cases ry;exact PySem.EqMixed.eq_str_bool (aI I q (by simp))
  |int j=>obtain ⟨t',rfl⟩:=ry;exact PySem.EqMixed.eq_str_int (aI I q (by simp))
  |str j=>obtain ⟨t',rfl⟩:=ry;exact eq_str (aI I q iS)
  |_=>exact absurd (show false=true from hs) Ac
 |byt i=>
  obtain ⟨t,rfl⟩:=rx;cases y with
  |byt j=>obtain ⟨t',rfl⟩:=ry;exact PySem.W.eq_bytes (aI I q iT)
  |_=>exact absurd (show false=true from hs) Ac
 |_=>cases y<;>exact absurd (show false=true from hs) Ac
theorem iU:fi X (compareOp .NotEq) qT:=by
 intro pins s σ H x y v u Q I rx ry h;obtain ⟨hs,q⟩:=h;cases x with
 |non=>
  cases rx;cases y with
  |non=>cases ry;exact PySem.EqNone.ne_none_none (aI I q (by simp))
  |bl j=>cases ry;exact PySem.EqNone.ne_none_bool (aI I q (by simp))
  |int j=>obtain ⟨t',rfl⟩:=ry;exact PySem.EqNone.ne_none_int (aI I q (by simp))
  |str j=>obtain ⟨t',rfl⟩:=ry;exact PySem.EqNone.ne_none_str (aI I q (by simp))
  |_=>exact absurd (show false=true from hs) Ac
 |bl i=>
  cases rx;cases y with
  |non=>cases ry;exact PySem.EqNone.ne_bool_none (aI I q (by simp))
  |bl j=>cases ry;exact ne_bool (aI I q (congrArg not ko))
  |str j=>obtain ⟨t',rfl⟩:=ry;exact PySem.EqMixed.ne_bool_str (aI I q (by simp))
  |_=>exact absurd (show false=true from hs) Ac
 |int i=>
  obtain ⟨t,rfl⟩:=rx;cases y with
  |non=>cases ry;exact PySem.EqNone.ne_int_none (aI I q (by simp))
  |int j=>obtain ⟨t',rfl⟩:=ry;exact ne_int (aI I q (congrArg not iR))
  |str j=>obtain ⟨t',rfl⟩:=ry;exact PySem.EqMixed.ne_int_str (aI I q (by simp))
  |_=>exact absurd (show false=true from hs) Ac
 |str i=>
  obtain ⟨t,rfl⟩:=rx;cases y with
  |non=>cases ry;exact PySem.EqNone.ne_str_none (aI I q (by simp))
  |bl j=>cases ry;exact PySem.EqMixed.ne_str_bool (aI I q (by simp))
  |int j=>obtain ⟨t',rfl⟩:=ry;exact PySem.EqMixed.ne_str_int (aI I q (by simp))
  |str j=>obtain ⟨t',rfl⟩:=ry;exact ne_str (aI I q (congrArg not iS))
  |_=>exact absurd (show false=true from hs) Ac
 |byt i=>
  obtain ⟨t,rfl⟩:=rx;cases y with
  |byt j=>obtain ⟨t',rfl⟩:=ry;exact PySem.W.ne_bytes (aI I q (congrArg not iT))
  |_=>exact absurd (show false=true from hs) Ac
 |_=>cases y<;>exact absurd (show false=true from hs) Ac
theorem oJ:fi X (compareOp .Lt) (nj fun i j=> .bl (decide (i<j))):=nn fun _ _ _ _ _ _ _ q=>lt_int q
theorem oK:fi X (compareOp .LtE) (nj fun i j=> .bl (decide (i<=j))):=nn fun _ _ _ _ _ _ _ q=>le_int q
theorem mK:fi X (compareOp .Gt) (nj fun i j=> .bl (decide (j<i))):=nn fun _ _ _ _ _ _ _ q=>gt_int q
theorem kq:fi X (compareOp .Is) (fun x y H Q=>y= .non/\Q (.bl (decide (x= .non))) H):=by
 intro pins s σ H x y v u Q I rx ry h;obtain ⟨rfl,q⟩:=h;cases ry;refine is_none_gen (aI I q ?_);cases x<;>first
  |(cases rx;rfl)
  |(obtain ⟨t,rfl⟩:=rx;rfl)
theorem aM (b:Expr) {op:CmpOp} (h:op≠ .In:=by decide) (h2:op≠ .NotIn:=by decide):behindInMarks op b=false:=by
 have e1:(op==CmpOp.In)=false:=by cases op<;>first|rfl|exact absurd rfl h
 have e2:(op==CmpOp.NotIn)=false:=by cases op<;>first|rfl|exact absurd rfl h2
 cases b<;>simp[behindInMarks,e1,e2]
theorem ce {op:CmpOp} {r:R2} (ho:fi X (compareOp op) r) (ha:PE X a ta) (hb:PE X b tb) (hm:behindInMarks op b=false):PE X (.Compare a [op] [b] pos) (pP r ta tb):=by
 intro pins s σ H Q I h;exact wpAny_Compare1 (nk ha hb I h fun v u s2 x y H2 I2 rx ry q=>ho pins s2 σ H2 x y v u Q I2 rx ry q) hm
def oM (t:TE):TT:=fun σ H Q=>t σ H fun x H'=>∃k,x= .bl k/\Q k H'
theorem aQ {op:CmpOp} {r:R2} (ho:fi X (compareOp op) r) (ha:PE X a ta) (hb:PE X b tb) (hm:behindInMarks op b=false):PT X (.Compare a [op] [b] pos) (oM (pP r ta tb)):=by
 intro pins s σ H Q I h;refine wpAny_isTrue_Compare1 (bE (ha pins s σ H _ I h) fun v s1 ⟨x,H1,I1,r1,q1⟩=>bE (hb pins s1 σ H1 _ I1 q1) fun u s2 ⟨y,H2,I2,r2,q2⟩=>
  bE (ho pins s2 σ H2 x y v u _ I2 r1 r2 q2) fun c s3 ⟨z,H3,I3,r3,k,e,q3⟩=>?_) hm
 subst e;cases r3;exact wpAny_truthy_bool ⟨H3,I3,q3⟩
theorem fK:(sizeLine:Nat)<2^63:=by rw[sizeLine_eq];decide
theorem bw:fi X (binaryOp .Add) (fun x y H Q=>∃i j,x= .str i/\y= .str j/\i.length+j.length<=sizeLine/\Q (.str (i++j)) H):=by
 intro pins s σ H x y v u Q I rx ry h;obtain ⟨i,j,rfl,rfl,hz,q⟩:=h;obtain ⟨t,rfl⟩:=rx;obtain ⟨t',rfl⟩:=ry;exact add_str (fun t' tk=>⟨.str (i++j),H,I.tok _,⟨_,rfl⟩,q⟩) hz
theorem vals1 {x:V} {us:sK} (r:aO [x] us):∃u,us= [u]/\RelV x u:=by
 cases r with
 |cons r1 r2=>cases r2;exact ⟨_,rfl,r1⟩
theorem vals2 {x y:V} {us:sK} (r:aO [x,y] us):∃u w',us= [u,w']/\RelV x u/\RelV y w':=by
 cases r with
 |cons r1 r2=>
  cases r2 with
  |cons r3 r4=>cases r4;exact ⟨_,_,rfl,r1,r3⟩
theorem fj (hc:X.calm=true):d9 X (.builtin "max") (fun xs H Q=>∃i j,xs= [.int i,.int j]/\Q (.int (if j>i then j else i)) H):=by
 intro pins s σ H xs us Q I r h;obtain ⟨i,j,rfl,q⟩:=h;obtain ⟨u,w',rfl,⟨t,rfl⟩,⟨t',rfl⟩⟩:=vals2 r;refine max_two_ints (I.ok.hd hc) fun h' tk k=>⟨_,H,I.kept k,?_,q⟩
 by_cases hj:j>i
 ·rw[if_pos hj,if_pos hj];exact ⟨_,rfl⟩
 ·rw[if_neg hj,if_neg hj];exact ⟨_,rfl⟩
theorem fk (hc:X.calm=true):d9 X (.builtin "min") (fun xs H Q=>∃i j,xs= [.int i,.int j]/\Q (.int (if j<i then j else i)) H):=by
 intro pins s σ H xs us Q I r h;obtain ⟨i,j,rfl,q⟩:=h;obtain ⟨u,w',rfl,⟨t,rfl⟩,⟨t',rfl⟩⟩:=vals2 r;refine min_two_ints (I.ok.hd hc) fun h' tk k=>⟨_,H,I.kept k,?_,q⟩
 by_cases hj:j<i
 ·rw[if_pos hj,if_pos hj];exact ⟨_,rfl⟩
 ·rw[if_neg hj,if_neg hj];exact ⟨_,rfl⟩
end
structure ju (h:Heap) (x dx C:Addr) (mA:sF):Prop where
 obj:h.get? x=some (BL C dx)
 ns:h.Ns1 dx mA
 ne:dx≠x
theorem jv {h:Heap} {dx:Addr} {mA:sF} (n:h.Ns1 dx mA):∃od,h.get? dx=some od/\∀name,PySem.W.lookIn name od=some (mA name):=by
 obtain ⟨o,es,ep,ho,hd,hk,_,hm⟩:=n;refine ⟨o,ho,fun name=>?_⟩
 have e:=hm name;unfold nsFind findBy at e;rw[<-Array.find?_toList] at e;unfold PySem.W.lookIn;rw[hd];dsimp only
 split
 ·rename_i y q;rw[q] at e;exact congrArg some e
 ·rename_i q;rw[q] at e;have a:es.toList.any (·.refKey)=false:=by
   rw[List.any_eq_false];intro y hy;obtain ⟨z,t,hkey⟩:=hk y (BO.mp hy);simp[DictEntry.refKey,hkey]
  have a':¬es.toList.any (·.refKey)=true:=by rw[a];exact Ac
  rw[if_neg a'];exact congrArg some e
theorem ju.look {h:Heap} {x dx C:Addr} {mA:sF} (I:ju h x dx C mA):∃od,PySem.W.InstAt h x (BL C dx) C (some od)/\∀name,PySem.W.lookIn name od=some (mA name):=
 let ⟨od,ho,hl⟩:=jv I.ns
 ⟨od,⟨I.obj,rfl,rfl,ho⟩,hl⟩
section
variable {prog:Program} {w:World} {A:Around} {K:A6} {x dx C f:Addr} {mA:sF} {name:Str} {v:Value}
theorem lJ {expr:Bool} {Q:sE} (X:K.In s.heap) (I:ju s.heap x dx C mA) (hg:PySem.W.plainGet K C name=true) (hh:PySem.W.hasDictIn K C=true)
  (ha:B2 K (.ref C) name=some none) (hv:mA name=some v) (hv':PySem.W.handedIn v=true) (h:Q v {s with toks:=s.toks+1}):
  wpAny (model prog w) A (getAttr (.ref x) name expr) Q E s:=by
 obtain ⟨od,J,hl⟩:=I.look;exact PySem.W.get_value X J (PySem.W.plainGet_of hg).1 (PySem.W.findObj_own hh ha rfl (by rw[hl,hv])) hv' h
theorem lL {ns:sI} {Q:Unit->Shared->Prop} (X:K.In s.heap) (I:ju s.heap x dx C mA)
  (hs:B2 K (.ref C) "__setattr__" =some (some (.builtin "object.__setattr__"))) (hp:PySem.W.plainOver K C=true) (ht:PySem.W.takerIn K C name=some none) (hh:PySem.W.hasDictIn K C=true)
  (hw:PySem.Within mA ns) (hsz:ns.length<=sizeLine)
  (h:∀h',ju h' x dx C (fun y=>if y=name then some v else mA y)->Heap.SameBut dx s.heap h'->Q () {s with heap:=h',toks:=s.toks+2}):
  wpAny (model prog w) A (setAttr (.ref x) name v) Q E s:=by
 obtain ⟨od,J,hl⟩:=I.look;refine PySem.W.set_plain X J hs (PySem.W.osa_open (s:={s with toks:=s.toks+1}) (r:=none) X J hp ht fun b=>?_)
 obtain ⟨cd,hc,hd'⟩:=PySem.W.any_some hh;have hx:s.heap.get? x=some ⟨.ref C,some dx,.plain,#[]⟩:=I.obj;refine wpAny_bind (wpAny_pure (wpAny_bind (wpAny_bind (wpAny_loadPart hx (wpAny_bind (PySem.W.Looks.here (s:={s with toks:=s.toks+1}) (PySem.W.looks_clsIn X hc) ?_))))))
 rw[hd'];refine wpAny_pure (a:=some dx) (wpAny_bind (wpAny_pure (wpAny_bind ?_)));refine wpAny_nsSet1 (s:={s with toks:=s.toks+1}) I.ns fun h' hn2 hs2=>?_
 obtain ⟨oD,esD,epD,hoD,hdD,hcD⟩:=hn2.count (PySem.Within.cons name v hw);refine wpAny_bind (wpAny_lookBehind hoD (by rw[hdD];exact pastItsLine_dict (Az hcD (by rw[Ap];omega))) ?_)
 exact wpAny_pure (h _ ⟨(hs2.2 _ (Ne.symm I.ne)).trans I.obj,hn2,I.ne⟩ hs2)
theorem kr {R:Result->Shared->Prop} {vs:sK} {kw:List (Str×Value)} (X:K.In s.heap) (hm:PySem.W.makesIn K C=true)
  (hi:B2 K (.ref C) "__init__" =some (some (.ref f))) (hf:PySem.W.typeIn K (.ref f)=some (.type "function"))
  (h:codeAny (model prog w) (A.under (.builtin "type.__call__" ⟨.ref C::vs,kw⟩)) (.call (.ref f) ⟨.ref (s.heap.objs.size+1)::vs,kw⟩) (PySem.W.InitBack (s.heap.objs.size+1) R)
   {s with heap:=(s.heap.push B3).push (BL C s.heap.objs.size)}):
  codeAny (model prog w) A (.call (.ref C) ⟨vs,kw⟩) R s:=by
 obtain ⟨hh,g,d,t,os⟩:=s;exact PySem.W.make_core (PySem.W.makes_of X hm) (PySem.W.looks_findIn X hi) (fun self=>PySem.W.bind_fn X self hf) (.inl rfl) h
end
def az (f:Str) (v:V):List (Str×V)->List (Str×V)
 | []=> [(f,v)]
 |(g,x)::r=>if g=f then (g,v)::r else (g,x)::az f v r
theorem cE (f g:Str) (v:V):∀fs:List (Str×V),(az f v fs).lookup g=if g=f then some v else fs.lookup g
 | []=>by
  show List.lookup g [(f,v)]=_
  by_cases h:g=f
  ·have hb:(g==f)=true:=beq_iff_eq.mpr h;simp only[List.lookup,hb,if_pos h]
  ·have hb:(g==f)=false:=beq_eq_false_iff_ne.mpr h;simp only[List.lookup,hb,if_neg h]
 |(k,x)::r=>by
  have ih:=cE f g v r;rw[show az f v ((k,x)::r)=(if k=f then (k,v)::r else (k,x)::az f v r) from rfl]
  by_cases hk:k=f
  ·rw[if_pos hk]
   by_cases h:g=k
   ·have hb:(g==k)=true:=beq_iff_eq.mpr h;simp only[List.lookup,hb,if_pos (h.trans hk)]
   ·have hb:(g==k)=false:=beq_eq_false_iff_ne.mpr h;simp only[List.lookup,hb,if_neg (fun e:g=f=>h (e.trans hk.symm))]
  ·rw[if_neg hk]
   by_cases h:g=k
   ·have hb:(g==k)=true:=beq_iff_eq.mpr h;simp only[List.lookup,hb,if_neg (fun e:g=f=>hk (h.symm.trans e))]
   ·have hb:(g==k)=false:=beq_eq_false_iff_ne.mpr h;simp only[List.lookup,hb];exact ih
theorem dt (f:Str) (v:V):∀fs:List (Str×V),f∈(az f v fs).map (·.1)/\∀g,g∈fs.map (·.1)->g∈(az f v fs).map (·.1)
 | []=>⟨by simp[az],fun g h=>by simp at h⟩
 |(k,x)::r=>by
  obtain ⟨i1,i2⟩:=dt f v r;rw[show az f v ((k,x)::r)=(if k=f then (k,v)::r else (k,x)::az f v r) from rfl]
  by_cases hk:k=f
  ·rw[if_pos hk];subst hk;exact ⟨by simp,fun g h=>by simpa using h⟩
  ·rw[if_neg hk];refine ⟨?_,fun g h=>?_⟩
   ·rw[Ag];exact AY _ i1
   ·rw[Ag] at h⊢;rcases AT.mp h with e|e
    ·exact AT.mpr (.inl e)
    ·exact AY _ (i2 g e)
theorem aA (f:Str) (v:V):∀fs:List (Str×V),(az f v fs).length<=fs.length+1
 | []=>by simp[az]
 |(k,x)::r=>by
  have ih:=aA f v r;rw[show az f v ((k,x)::r)=(if k=f then (k,v)::r else (k,x)::az f v r) from rfl]
  by_cases hk:k=f
  ·rw[if_pos hk,Ap,Ap];omega
  ·rw[if_neg hk,Ap,Ap];omega
theorem hZ.some_of {v:V} {o:sM} (r:hZ (some v) o):∃u,o=some u/\RelV v u:=by
 cases o with
 |none=>exact (show False from r).elim
 |some u=>exact ⟨u,rfl,r⟩
theorem jw {v:V} {u:Value} (r:RelV v u):PySem.W.handedIn u=true:=by
 cases v with
 |non=>cases (show u=Value.none from r);rfl
 |bl b=>cases (show u=Value.bool b from r);rfl
 |int i=>obtain ⟨t,e⟩:=(show ∃t,u=Value.int i t from r);cases e;rfl
 |str x=>obtain ⟨t,e⟩:=(show ∃t,u=Value.str x t from r);cases e;rfl
 |byt b=>obtain ⟨t,e⟩:=(show ∃t,u=Value.bytes b t from r);cases e;rfl
 |flt b=>obtain ⟨t,e⟩:=(show ∃t,u=Value.float b t from r);cases e;rfl
 |ref a=>cases (show u=Value.ref a from r);rfl
 |ty n=>cases (show u=Value.type n from r);rfl
section
variable {P:Program} {w:World} {h:Heap} {C dx:Addr} {fs fs':List (Str×V)}
theorem fL (hok:dR P w H h) (e:H a=some (.ins C dx fs)):∃mA,ju h a dx C mA/\(∀f,hZ (fs.lookup f) (mA f))/\PySem.Within mA (fs.map (·.1))/\fs.length<=1000/\H dx=some (.own a):=by
 obtain ⟨d,z,ne,ob,mA,n,r,q⟩:=(show bz P w H h a (.ins C dx fs) from hok a _ e)
 exact ⟨mA,⟨ob,n,ne⟩,r,q,z,d⟩
end
structure fm (K:A6) (C:Addr):Prop where
 pg:PySem.W.plainGet K C Str.empty=true
 hd:PySem.W.hasDictIn K C=true
 po:PySem.W.plainOver K C=true
 sa:B2 K (.ref C) "__setattr__" =some (some (.builtin "object.__setattr__"))
theorem fm.get {K:A6} {C:Addr} (c:fm K C) (f:Str):PySem.W.plainGet K C f=true:=c.pg
def ai (K:A6) (C:Addr) (f:Str):Prop:=B2 K (.ref C) f=some none
theorem ai.taker {K:A6} {C:Addr} {f:Str} (n:ai K C f):PySem.W.takerIn K C f=some none:=by
 unfold PySem.W.takerIn;rw[show B2 K (.ref C) f=some none from n]
 rfl
section
variable {C dx:Addr} {fs:List (Str×V)} {f:Str} {v:V} {A:Around}
theorem ig {b:Bool} {Q:sE} (I:aD X pins σ H s) (e:H a=some (.ins C dx fs)) (c:fm X.K C) (n:ai X.K C f) (l:fs.lookup f=some v)
  (h:∀u s',aD X pins σ H s'->RelV v u->Q u s'):wpAny (model X.prog X.w) A (getAttr (.ref a) f b) Q E s:=by
 obtain ⟨mA,O,r,_,_,_⟩:=fL I.hok e;obtain ⟨u,hu,ru⟩:=hZ.some_of (v:=v) (o:=mA f) (by rw[<-l];exact r f)
 exact lJ I.kIn O (c.get f) c.hd n hu (jw ru) (h u _ (I.tok _) ru)
theorem ii {y:V} {u:Value} {Q:Unit->Shared->Prop} (I:aD X pins σ H s) (e:H a=some (.ins C dx fs)) (c:fm X.K C) (n:ai X.K C f) (hl:fs.length<1000) (ry:RelV y u)
  (h:∀s',aD X pins σ (aR H a (.ins C dx (az f y fs))) s'->Q () s'):wpAny (model X.prog X.w) A (setAttr (.ref a) f u) Q E s:=by
 obtain ⟨mA,O,r,wi,_,ho⟩:=fL I.hok e;have hz:(fs.map (·.1)).length<=sizeLine:=by rw[A5,sizeLine_eq];omega
 refine lL I.kIn O c.sa c.po n.taker c.hd wi hz fun h' O' sb=>h _ ?_
 have hd:∃o,h'.get? dx=some o:=let ⟨o,_,_,e',_⟩:=O'.ns;⟨o,e'⟩;refine I.write (x:=a) (e:=dx) (by rw[e];exact True.intro) (.inr ho) (fun b q hb z=>(sb.2 b hb).trans z) hd ?_
 refine ⟨by rw[ar O.ne];exact ho,?_,O.ne,O'.obj,_,O'.ns,fun g=>?_,fun g hg=>?_⟩
 ·have:=aA f y fs;omega
 ·show hZ ((az f y fs).lookup g) (if g=f then some u else mA g)
  rw[cE]
  by_cases q:g=f
  ·rw[if_pos q,if_pos q];exact ry
  ·rw[if_neg q,if_neg q];exact r g
 ·by_cases q:g=f
  ·rw[q];exact (dt f y fs).1
  ·refine (dt f y fs).2 g (wi g fun z=>hg ?_)
   show (if g=f then some u else mA g)=none
   rw[if_neg q];exact z
theorem aD.made (I:aD X pins σ H s):aD X pins σ (aR (aR H s.heap.objs.size (.own (s.heap.objs.size+1))) (s.heap.objs.size+1) (.ins C s.heap.objs.size []))
  {s with heap:=(s.heap.push B3).push (BL C s.heap.objs.size)}:=by
 have e1:(s.heap.push B3).get? s.heap.objs.size=some B3:=Heap.get?_push_size s.heap rfl;have e2:((s.heap.push B3).push (BL C s.heap.objs.size)).get? (s.heap.objs.size+1)=some (BL C s.heap.objs.size):=by
  have:=Heap.get?_push_size (s.heap.push B3) (o:=BL C s.heap.objs.size) rfl
  rwa [Heap.size_push] at this
 have e3:(s.heap.push B3).Ns s.heap.objs.size (fun _=>none):=⟨B3,#[],_,e1,rfl,(fun e he=>absurd he (by simp)),fun _=>rfl⟩
 have I1:=I.laid (a:=s.heap.objs.size) (o:= .own (s.heap.objs.size+1)) (h':=s.heap.push B3) (t':=s.toks) (fun b u q=>Heap.get?_push_of_some _ q) (AB _) ⟨_,e1⟩
 refine I1.laid (a:=s.heap.objs.size+1) (o:= .ins C s.heap.objs.size []) (t':=s.toks) (fun b u q=>Heap.get?_push_of_some _ q) (Nat.le_of_eq (Heap.size_push _ _)) ?_
 have ne:s.heap.objs.size≠s.heap.objs.size+1:=AS (Nat.lt_succ_self _);refine ⟨by rw[ar ne,ah],B5 _,ne,e2,fun _=>none,(Heap.Ns1.of_empty e3).at fun o q=>Heap.get?_push_of_some _ q,fun _=>True.intro,fun y hy=>absurd rfl hy⟩
theorem lM {prog:Program} {w:World} {env:Env} {e:Expr} {f:Str} {pos:Pos} {s:Shared} {Q:sE} (hb:attributeBase e f env (eval e env)=eval e env)
  (h:wpAny (model prog w) A (eval e env) (fun o s₁=>wpAny (model prog w) A (getAttr o f true) Q E s₁) E s):wpAny (model prog w) A (eval (.Attribute e f pos) env) Q E s:=
 Attribute_any_ h (by rw[arm_eval_Attribute,hb])
end
def qa (K:A6) (ta:TE) (f:Str):TE:=fun σ H Q=>ta σ H fun x H1=>∃a C dx fs v,x= .ref a/\H1 a=some (.ins C dx fs)/\fm K C/\ai K C f/\fs.lookup f=some v/\Q v H1
def qb (K:A6) (ta tv:TE) (f:Str):TS:=fun D σ H=>tv σ H fun y H1=>ta σ H1 fun x H2=>∃a C dx fs,x= .ref a/\H2 a=some (.ins C dx fs)/\fm K C/\ai K C f/\fs.length<1000/\
 D.nx σ (aR H2 a (.ins C dx (az f y fs)))
section
variable {o value:Expr} {f:Str} {pos' tpos:Pos} {ta tv:TE}
theorem ku (he:PE X e ta) (hb:attributeBase e f X.env (eval e X.env)=eval e X.env):PE X (.Attribute e f pos) (qa X.K ta f):=by
 intro pins s σ H Q I h;refine lM hb (bE (he pins s σ H _ I h) fun u s1 ⟨x,H1,I1,rx,a,C,dx,fs,v,ex,ea,c,n,l,q⟩=>?_)
 subst ex;obtain rfl:u=Value.ref a:=rx;exact ig I1 ea c n l fun u' s2 I2 ru=>⟨v,H1,I2,ru,q⟩
theorem b4 (ha:PE X o ta) (hv:PE X value tv) (hs:swapsWith value (some (.Attribute o f pos')) pos.line X.env=pure false):PS X (.Assign [.Attribute o f pos'] value pos) (qb X.K ta tv f):=by
 intro pins s σ H D I h;refine plainObj_wpAny_Assign_Attribute (bE (hv pins s σ H _ I h) fun u s1 ⟨y,H1,I1,ry,q⟩=>bE (ha pins s1 σ H1 _ I1 q) fun ov s2 ⟨x,H2,I2,rx,a,C,dx,fs,ex,ea,c,n,l,q2⟩=>?_) hs
 subst ex;obtain rfl:ov=Value.ref a:=rx;exact ii I2 ea c n l ry fun s3 I3=>⟨σ,_,I3,q2⟩
end
section
variable {A:Around} {Q:sE} {c:Value} {b:Bool}
inductive du (K:A6) (H:Hp):V->Value->Prop where
 |non:du K H .non (.type "NoneType")
 |bl (x:Bool):du K H (.bl x) (.type "bool")
 |int (i:Int):du K H (.int i) (.type "int")
 |str (x:Str):du K H (.str x) (.type "str")
 |flt (x:UInt64):du K H (.flt x) (.type "float")
 |lst {a:Addr} {xs:List V} (e:H a=some (.lst xs)):du K H (.ref a) (.type "list")
 |frz {a:Addr} {o:Obj} {xs:List V} (e:H a=some (.frz o (.lst xs))):du K H (.ref a) (.type "list")
 |tup {a:Addr} {xs:List V} (e:H a=some (.tup xs)):du K H (.ref a) (.type "tuple")
 |dK {a:Addr} {kvs:List (Key×V)} (e:H a=some (.dK kvs)):du K H (.ref a) (.type "dict")
 |dT {a:Addr} {kvs:List (List Key×V)} (e:H a=some (.dT kvs)):du K H (.ref a) (.type "dict")
 |ins {a C dx:Addr} {fs:List (Str×V)} (e:H a=some (.ins C dx fs)) (cl:fm K C) (ha:B2 K (.ref C) "__class__" =some (some (.builtin "object.__class__")))
   (hn:PySem.W.specialIn K (.builtin "object.__class__") "__get__" =some (some (.builtin "getset_descriptor.__get__"))) (htk:PySem.W.takesIn K (.builtin "object.__class__")=some true)
   (hm:PySem.W.mroIn K C (.type "object")=some true):du K H (.ref a) (.ref C)
theorem jx {x:V} {u t:Value} (I:aD X pins σ H s) (rx:RelV x u) (ty:du X.K H x t) (e:PySem.W.kitOne X.K t c=some b) (h:∀tk,Q (.bool b) {s with toks:=tk}):
  wpAny (model X.prog X.w) A (call (.builtin "isinstance") [u,c]) Q E s:=by
 cases ty with
 |non=>cases (show u=Value.none from rx);exact Ay PySem.W.kitx_none I.kIn True.intro e (fun z=>nomatch z) h
 |bl y=>cases (show u=Value.bool y from rx);exact Ay PySem.W.kitx_bool I.kIn True.intro e (fun z=>nomatch z) h
 |int i=>obtain ⟨t,q⟩:=(show ∃t,u=Value.int i t from rx);cases q;exact Ay PySem.W.kitx_int I.kIn True.intro e (fun z=>nomatch z) h
 |str y=>obtain ⟨t,q⟩:=(show ∃t,u=Value.str y t from rx);cases q;exact Ay PySem.W.kitx_str I.kIn True.intro e (fun z=>nomatch z) h
 |flt y=>obtain ⟨t,q⟩:=(show ∃t,u=Value.float y t from rx);cases q;exact Ay PySem.W.kitx_float I.kIn True.intro e (fun z=>nomatch z) h
 | @lst a xs ea=>
  cases (show u=Value.ref a from rx)
  obtain ⟨_,_,n,_,h1⟩:=(show bz X.prog X.w H s.heap a (.lst xs) from I.hok a _ ea)
  exact Ay PySem.W.kitx_list I.kIn ⟨_,h1,rfl⟩ e (fun z=>nomatch z) h
 | @frz a ob xs ea=>
  cases (show u=Value.ref a from rx)
  obtain ⟨_,_,_,n,_,h1⟩:=(show bz X.prog X.w H s.heap a (.frz ob (.lst xs)) from I.hok a _ ea)
  exact Ay PySem.W.kitx_list I.kIn ⟨_,h1,rfl⟩ e (fun z=>nomatch z) h
 | @tup a xs ea=>
  cases (show u=Value.ref a from rx)
  obtain ⟨_,_,_,p⟩:=(show bz X.prog X.w H s.heap a (.tup xs) from I.hok a _ ea)
  obtain ⟨o,h1,h2,_⟩:=p;exact Ay PySem.W.kitx_tuple I.kIn ⟨o,h1,h2⟩ e (fun z=>nomatch z) h
 | @dK a kvs ea=>
  cases (show u=Value.ref a from rx)
  obtain ⟨_,_,vs,_,p⟩:=(show bz X.prog X.w H s.heap a (.dK kvs) from I.hok a _ ea)
  obtain ⟨o,es,ep,h1,h2,_⟩:=p;exact Ay PySem.W.kitx_dict I.kIn ⟨o,h1,h2.1⟩ e (fun z=>nomatch z) h
 | @dT a kvs ea=>
  cases (show u=Value.ref a from rx)
  obtain ⟨_,_,xs,_,o,es,ep,h1,h2,_⟩:=(show bz X.prog X.w H s.heap a (.dT kvs) from I.hok a _ ea)
  exact Ay PySem.W.kitx_dict I.kIn ⟨o,h1,h2.1⟩ e (fun z=>nomatch z) h
 | @ins a C dx fs ea cl ha hn htk hm=>
  cases (show u=Value.ref a from rx)
  obtain ⟨mA,O,_⟩:=fL I.hok ea;obtain ⟨od,J,_⟩:=O.look;exact Ay (PySem.W.kitx_own (cl.get _) cl.hd ha hn htk hm) I.kIn J e (fun z=>nomatch z) h
end
structure bF (k:Nat) (A:Around):Prop where
 hd:A.handled=none
 dp:A.depth+3*k+5<recursionLimit
 un:A.units+16*k+200<cLine
theorem bF.mono {j k:Nat} {A:Around} (r:bF k A) (h:j<=k):bF j A:=⟨r.hd,by have:=r.dp;omega,by have:=r.un;omega⟩
theorem bF.deeper {k:Nat} {A:Around} (r:bF (k+1) A) (env:Env):bF k (A.deeper env):=
 ⟨r.hd,by have:=r.dp;show A.depth+1+3*k+5<_;omega,by have:=r.un;show A.units+3+16*k+200<_;omega⟩
theorem ij {A:Around} {C:Addr} {us:sK} {kw:List (Str×Value)}:(A.under (.builtin "type.__call__" ⟨.ref C::us,kw⟩)).depth=A.depth+1:=by
 first|rfl|simp[Around.under,Code.weight,Code.isCreation,Code.isGuard,Code.isCaller,Code.frames,Code.isFrame,guardIds]
theorem im {A:Around} {C:Addr} {us:sK} {kw:List (Str×Value)}:(A.under (.builtin "type.__call__" ⟨.ref C::us,kw⟩)).units=A.units+1:=by
 first|rfl|simp[Around.under,Code.cUnits,Code.frames,Code.isFrame]
theorem bF.make {k:Nat} {A:Around} (r:bF (k+1) A) (C:Addr) (us:sK) (kw:List (Str×Value)):bF k (A.under (.builtin "type.__call__" ⟨.ref C::us,kw⟩)):=
 ⟨r.hd,by have:=r.dp;rw[ij];omega,by have:=r.un;rw[im];omega⟩
theorem bF.depth {k:Nat} {A:Around} (r:bF k A):A.depth<recursionLimit:=by have:=r.dp;omega
theorem bF.units {k:Nat} {A:Around} (r:bF k A):A.units+64<cLine:=by have:=r.un;omega
def qc:TA:=fun _ H Q=>Q [] H
def oN (ta:TE) (tr:TA):TA:=fun σ H Q=>ta σ H fun x H1=>tr σ H1 fun xs H2=>Q (x::xs) H2
variable {es:List Expr} {t:TA}
theorem ad:PA X [] qc:=fun _ _ _ _ H Q I h=>Calls.spliced_nil ⟨[],H,I,.nil,h⟩
theorem aa (ha:PE X e te) (hr:PA X es t) (hs:starEach (e::es) X.env=(false,eval e X.env)::starEach es X.env:=by rfl):PA X (e::es) (oN te t):=by
 intro pos pins s σ H Q I h;rw[hs];show wpAny _ _ (spliced ((false,eval e X.env)::backTo pos (starEach es X.env))) _ _ s;refine Calls.spliced_cons (bE (ha pins s σ H _ I h) fun u s1 ⟨x,H1,I1,r1,q1⟩=>?_)
 exact bE (hr pos pins s1 σ H1 _ I1 q1) fun us s2 ⟨xs,H2,I2,r2,q2⟩=>⟨x::xs,H2,I2,.cons r1 r2,q2⟩
def qd (t:TA):TE:=fun σ H Q=>t σ H fun xs H1=>xs.length<=sizeLine/\∀p,H1 p=none->Q (.ref p) (aR H1 p (.tup xs))
def qe (t:TA):TE:=fun σ H Q=>t σ H fun xs H1=>xs.length<=sizeLine/\∀p,H1 p=none->Q (.ref p) (aR H1 p (.lst xs))
theorem bt {x1} (h:PA X es t):PE X (.Tuple es x1 pos) (qd t):=by
 intro pins s σ H Q I hq;refine wpAny_Tuple_spliced (bE (h pos pins s σ H _ I hq) fun us s1 ⟨xs,H1,I1,r,z,q⟩=>⟨by rw[<-r.length];exact z,?_⟩)
 have hf:H1 s1.heap.objs.size=none:=I1.hok.fresh (AB _);refine ⟨.ref s1.heap.objs.size,aR H1 s1.heap.objs.size (.tup xs),I1.laid (t':=s1.toks) (fun b u e=>Heap.get?_push_of_some _ e) (AB _) ?_,rfl,q _ hf⟩
 exact ⟨z,us,r,⟨_,Heap.get?_push_size _ rfl,rfl,_,rfl⟩⟩
theorem ba (h:PA X es t):PE X (.List es pos) (qe t):=by
 intro pins s σ H Q I hq;refine wpAny_List_spliced (bE (h pos pins s σ H _ I hq) fun us s1 ⟨xs,H1,I1,r,z,q⟩=>⟨by rw[<-r.length];exact z,?_⟩)
 have hf:H1 s1.heap.objs.size=none:=I1.hok.fresh (AB _);refine ⟨.ref s1.heap.objs.size,aR H1 s1.heap.objs.size (.lst xs),I1.laid (t':=s1.toks) (fun b u e=>Heap.get?_push_of_some _ e) (AB _) ?_,rfl,q _ hf⟩
 exact ⟨z,us,0,r,Heap.get?_push_size _ rfl⟩
abbrev Sp:=List V->Hp->VK->XK->Prop
abbrev iV:=List Env->Hp->Shared->XK->Value->Shared->Prop
structure io (P:Program) (w:World) (K:A6) (mg:sF) (base:Heap) (A:Around) (outer:List Env) (s:Shared) (H:Hp):Prop where
 frames:A.frames=some outer
 mod:Mod K mg base
 bs:∀b o,base.get? b=some o->s.heap.get? b=some o/\H b=none
 bsz:base.objs.size<=s.heap.objs.size
 funs:s.heap.FunFrames base outer
 frf:∀b∈j0 outer,H b=none
 hok:dR P w H s.heap
 bare:AllBare s.gens
def CE (outer:List Env) (P:Program) (w:World) (H:Hp) (s:Shared) (Q:VK) (u:Value) (s':Shared):Prop:=
 ∃v H',s'.os=s.os/\AllBare s'.gens/\Un (j0 outer) [] H H' s.heap s'.heap/\dR P w H' s'.heap/\RelV v u/\Q v H'
def CR (CX:iV) (outer:List Env) (P:Program) (w:World) (H:Hp) (s:Shared) (Q:VK) (E:XK) (r:Result) (s':Shared):Prop:=
 match r with
 | .ok (.ret u)=>CE outer P w H s Q u s'
 | .ok _=>False
 | .error e=>CX outer H s E e s'
structure bu (P:Program) (w:World) (K:A6) (mg:sF) (base:Heap) (CX:iV) (k:Nat) (f:Addr) (fd:FuncData) (ps:sI) (sp:Sp):Prop where
 len:∀vs H Q E,sp vs H Q E->vs.length=ps.length
 run:∀(A:Around) (outer:List Env) (s:Shared) (H:Hp) (args:Args) (us:sK) (vs:List V) (Q:VK) (E:XK),bF k A->io P w K mg base A outer s H->BindsTo s fd args (ps.zip us)->aO vs us->sp vs H Q E->
  codeAny (model P w) A (.call (.ref f) args) (CR CX outer P w H s Q E) s
theorem io.make {P:Program} {w:World} {K:A6} {mg:sF} {base:Heap} {A:Around} {outer:List Env} {s:Shared} {H:Hp} (e:io P w K mg base A outer s H) (C:Addr) (us:sK) (kw:List (Str×Value)):
  io P w K mg base (A.under (.builtin "type.__call__" ⟨.ref C::us,kw⟩)) outer s H:=⟨by first|exact e.frames|(simpa [Around.under,Code.envs,Code.isFrame,pushEnvs] using e.frames),e.mod,e.bs,e.bsz,e.funs,e.frf,e.hok,e.bare⟩
variable {s':Shared}
theorem aD.env0 (I:aD X pins σ H s):io X.prog X.w X.K X.mg X.base X.A X.stack s H:=
 ⟨I.ok.frames,I.ok.mod,I.bs,Az I.ok.bsz I.sz,I.stack,I.stkFree,I.hok,I.bare⟩
theorem aD.after {Q:VK} {u:Value} (I:aD X pins σ H s) (h:CE X.stack X.prog X.w H s Q u s'):EP X pins σ Q u s':=by
 obtain ⟨v,H',os,bare,un,hok,r,q⟩:=h;obtain ⟨hh,g,d,t,os'⟩:=s';obtain rfl:os'=s.os:=os;exact ⟨v,H',I.call (h':=hh) (g':=g) (d':=d) (t':=t) (ch:= []) un hok bare (fun b z=>absurd z (by simp)),r,q⟩
def iW (sp:Sp) (dvs:List V) (E:XK) (t:TA):TE:=fun σ H Q=>t σ H fun vs H1=>sp (vs++dvs) H1 Q E
def kv (C:Addr) (sp:Sp) (dvs:List V) (E:XK) (t:TA):TE:=fun σ H Q=>t σ H fun vs H1=>∀x dx,H1 x=none->H1 dx=none->dx≠x->
 sp (.ref x::(vs++dvs)) (aR (aR H1 dx (.own x)) x (.ins C dx [])) (fun v H2=>v= .non/\Q (.ref x) H2) E
def Binds (K:A6) (fd:FuncData) (ps:sI) (ds:sK):Prop:=
 ∀(s:Shared) (us:sK),K.In s.heap->(us++ds).length=ps.length->BindsTo s fd ⟨us,[]⟩ (ps.zip (us++ds))
theorem Binds.all {K:A6} {fd:FuncData} {ps:sI} (h:∀us:sK,us.length=ps.length->bindArgs fd ⟨us,[]⟩=pure (ps.zip us)):Binds K fd ps []:=fun s us _ hl=>by
 rw[List.append_nil] at hl⊢;exact .of_eq (h us hl)
def ee (CX:iV) (X:Cx) (E:XK):Prop:=∀(pins:sG) (σ:St) (H:Hp) (s:Shared) (e:Value) (s':Shared),aD X pins σ H s->CX X.stack H s E e s'->X.xe e s'
section
variable {CX:iV} {k:Nat} {f C:Addr} {fd:FuncData} {ps:sI} {sp:Sp} {dvs:List V} {ds:sK} {E:XK} {x m:Str} {p apos:Pos} {o:Expr} {ta:TE}
theorem ky {pins:sG} {σ:St} {H:Hp} {s:Shared} {Q:VK} {us:sK} {vs:List V} (F:bu X.prog X.w X.K X.mg X.base CX k f fd ps sp) (hr:bF k X.A) (hb:Binds X.K fd ps ds) (hd:aO dvs ds) (hx:ee CX X E)
  (I:aD X pins σ H s) (r:aO vs us) (h:sp (vs++dvs) H Q E):wpAny (model X.prog X.w) X.A (call (.ref f) us) (EP X pins σ Q) X.xe s:=by
 have r2:aO (vs++dvs) (us++ds):=r.append hd;have hl:(us++ds).length=ps.length:=by rw[<-r2.length];exact F.len _ _ _ _ h
 refine wpAny_call (codeAny_mono (F.run X.A X.stack s H ⟨us,[]⟩ (us++ds) (vs++dvs) Q E hr I.env0 (hb s us I.kIn hl) r2 h) fun r s' hq=>?_)
 cases r with
 |error e=>exact hx pins σ H s e s' I hq
 |ok fl=>
  cases fl with
  |ret u=>exact I.after hq
  |next=>exact False.elim hq
  |brk=>exact False.elim hq
  |cont=>exact False.elim hq
theorem lN (F:bu X.prog X.w X.K X.mg X.base CX k f fd ps sp) (hr:bF k X.A) (hg:Gl X x) (hm:X.mg x=some (.ref f)) (hk:BH X.K (.ref f)=true) (hb:Binds X.K fd ps ds) (hd:aO dvs ds) (hx:ee CX X E)
  (ha:PA X (e::es) t) (hdb:(x==("__debug__" :Str))=false:=by decide) (he:starEach (e::es) X.env=(false,eval e X.env)::starEach es X.env:=by rfl) (hpl:(backTo pos (starEach es X.env)).any (·.1)=false:=by rfl):
  PE X (.Call (.Name x p) (e::es) [] pos) (iW sp dvs E t):=by
 intro pins s σ H Q I h;refine wpAny_Call_Name_kw (fH I hg hm ?_ hdb);refine PySem.W.callWith_K (h₀:=X.base) I.ok.mod.kin hk (bE (ha pos pins s σ H _ I h) fun us s1 ⟨vs,H1,I1,r,q⟩=>⟨I1.kIn,?_⟩) he hpl
 exact ky F hr hb hd hx I1 r q
structure Mk (K:A6) (C f:Addr):Prop where
 makes:PySem.W.makesIn K C=true
 init:B2 K (.ref C) "__init__" =some (some (.ref f))
 fn:PySem.W.isFn K (.ref f)=true
 kp:BH K (.ref C)=true
theorem kz {pins:sG} {σ:St} {H:Hp} {s:Shared} {Q:VK} {us:sK} {vs:List V} (M:Mk X.K C f) (F:bu X.prog X.w X.K X.mg X.base CX k f fd ps sp) (hr:bF (k+1) X.A) (hb:Binds X.K fd ps ds) (hd:aO dvs ds)
  (hx:ee CX X E) (I:aD X pins σ H s) (r:aO vs us)
  (h:∀x dx,H x=none->H dx=none->dx≠x->sp (.ref x::(vs++dvs)) (aR (aR H dx (.own x)) x (.ins C dx [])) (fun v H2=>v= .non/\Q (.ref x) H2) E):
  wpAny (model X.prog X.w) X.A (call (.ref C) us) (EP X pins σ Q) X.xe s:=by
 have hq:=h (s.heap.objs.size+1) s.heap.objs.size (I.hok.fresh (Nat.le_succ _)) (I.hok.fresh (AB _)) (AS (Nat.lt_succ_self _));have I2:=aD.made (C:=C) I;have r2:aO (V.ref (s.heap.objs.size+1)::(vs++dvs)) (Value.ref (s.heap.objs.size+1)::(us++ds)):= .cons rfl (r.append hd);have hl:(Value.ref (s.heap.objs.size+1)::us++ds).length=ps.length:=by
  have e:=r2.length;rw[F.len _ _ _ _ hq] at e;exact e.symm
 refine wpAny_call (kr (f:=f) I.kIn M.makes M.init (beq_iff_eq.mp M.fn) (codeAny_mono (F.run _ X.stack _ _ ⟨Value.ref (s.heap.objs.size+1)::us,[]⟩ (Value.ref (s.heap.objs.size+1)::(us++ds)) _ _ E (hr.make C us [])
  (I2.env0.make C us []) (hb _ (Value.ref (s.heap.objs.size+1)::us) I2.kIn hl) r2 hq) fun r s' hq'=>?_))
 cases r with
 |error e=>exact hx pins σ _ _ e s' I2 hq'
 |ok fl=>
  cases fl with
  |ret u=>
   obtain ⟨v,H',I3,rv,ev,q3⟩:=I2.after hq';subst ev;exact ⟨rv,⟨V.ref (s.heap.objs.size+1),H',I3,rfl,q3⟩⟩
  |next=>exact False.elim hq'
  |brk=>exact False.elim hq'
  |cont=>exact False.elim hq'
theorem iX (M:Mk X.K C f) (F:bu X.prog X.w X.K X.mg X.base CX k f fd ps sp) (hr:bF (k+1) X.A) (hg:Gl X x) (hm:X.mg x=some (.ref C)) (hb:Binds X.K fd ps ds) (hd:aO dvs ds) (hx:ee CX X E)
  (ha:PA X (e::es) t) (hdb:(x==("__debug__" :Str))=false:=by decide) (he:starEach (e::es) X.env=(false,eval e X.env)::starEach es X.env:=by rfl) (hpl:(backTo pos (starEach es X.env)).any (·.1)=false:=by rfl):
  PE X (.Call (.Name x p) (e::es) [] pos) (kv C sp dvs E t):=by
 intro pins s σ H Q I h;refine wpAny_Call_Name_kw (fH I hg hm ?_ hdb);refine PySem.W.callWith_K (h₀:=X.base) I.ok.mod.kin M.kp (bE (ha pos pins s σ H _ I h) fun us s1 ⟨vs,H1,I1,r,q⟩=>⟨I1.kIn,?_⟩) he hpl
 exact kz M F hr hb hd hx I1 r q
end
structure aH (N P:sI) (sc:Scope):Prop where
 kind:sc.kind= .function
 co:sc.isCoroutine=false
 gen:sc.isGenerator=false
 nd:N.Nodup
 pre:N.take P.length=P
 par:∀x∈P,sc.names.lookup x=some .local∨sc.names.lookup x=some .cell
 nofree:∀y∈sc.names,y.2≠ .free
theorem fo {kindOf:Str->Option NameKind} {x:Str}:∀{binds:List (Str×Value)} {m:sF},(∀v,(x,v)∉binds)->bindL kindOf binds m x=m x
 | [],_,_=>rfl
 |(n,v)::r,m,h=>by
  unfold bindL;rw[fo fun w hw=>h w (AY _ hw)]
  split
  ·have:x≠n:=by rintro rfl;exact h v Ae
   simp[this]
  ·rfl
theorem fq {kindOf:Str->Option NameKind} {x:Str}:∀{binds:List (Str×Value)} {m:sF},(∀v,(x,v)∉binds)->bindC kindOf binds m x=m x
 | [],_,_=>rfl
 |(n,v)::r,m,h=>by
  unfold bindC;rw[fq fun w hw=>h w (AY _ hw)]
  split
  ·rfl
  ·have:x≠n:=by rintro rfl;exact h v Ae
   simp[this]
theorem fr {kindOf:Str->Option NameKind} {x:Str} {v:Value}:∀{P:sI} {vs:sK} {i:Nat} {m:sF},P.Nodup->P[i]?=some x->vs[i]?=some v->kindOf x=some .local->
  bindL kindOf (P.zip vs) m x=some v
 | [],_,_,_,_,h,_,_=>by simp at h
 |_::_,[],_,_,_,_,h,_=>by simp at h
 |p::P,w::vs,0,m,nd,h1,h2,hk=>by
  simp at h1 h2;subst h1;subst h2;show bindL kindOf ((p,w)::P.zip vs) m p=_;unfold bindL;rw[fo fun v hv=>(List.nodup_cons.mp nd).1 (List.of_mem_zip hv).1,if_pos hk]
  simp
 |p::P,w::vs,i+1,m,nd,h1,h2,hk=>by
  show bindL kindOf ((p,w)::P.zip vs) m x=_;unfold bindL;exact fr (i:=i) (List.nodup_cons.mp nd).2 (by simpa using h1) (by simpa using h2) hk
theorem fu {kindOf:Str->Option NameKind} {x:Str} {v:Value}:∀{P:sI} {vs:sK} {i:Nat} {m:sF},P.Nodup->P[i]?=some x->vs[i]?=some v->kindOf x≠some .local->
  bindC kindOf (P.zip vs) m x=some v
 | [],_,_,_,_,h,_,_=>by simp at h
 |_::_,[],_,_,_,_,h,_=>by simp at h
 |p::P,w::vs,0,m,nd,h1,h2,hk=>by
  simp at h1 h2;subst h1;subst h2;show bindC kindOf ((p,w)::P.zip vs) m p=_;unfold bindC;rw[fq fun v hv=>(List.nodup_cons.mp nd).1 (List.of_mem_zip hv).1,if_neg hk]
  simp
 |p::P,w::vs,i+1,m,nd,h1,h2,hk=>by
  show bindC kindOf ((p,w)::P.zip vs) m x=_;unfold bindC;exact fu (i:=i) (List.nodup_cons.mp nd).2 (by simpa using h1) (by simpa using h2) hk
def start (N:sI) (vs:List V):St:=vs.map some++List.replicate (N.length-vs.length) none
def jy (CX:iV) (P:Program) (w:World) (K:A6) (mg:sF) (base:Heap) (N:sI) (qual:Str) (scope:Scope) (f:Addr) (cd:Value) (A:Around) (outer:List Env) (s:Shared) (H:Hp) (E:XK):Cx where
 prog:=P
 w:=w
 K:=K
 mg:=mg
 base:=base
 A:=A.deeper (envOfC qual scope s.heap.objs.size f cd)
 N:=N
 s₀:=s
 H₀:=H
 env:=envOfC qual scope s.heap.objs.size f cd
 outer:=outer
 stack:=envOfC qual scope s.heap.objs.size f cd::outer
 ex:= []
 calm:=true
 fn:=fun _=>true
 pn:= []
 xe:=fun e s'=>wpAny (model P w) (A.deeper (envOfC qual scope s.heap.objs.size f cd)) (leaving (envOfC qual scope s.heap.objs.size f cd) e) (fun _ s''=>CX outer H s E e s'') (fun e' s''=>CX outer H s E e' s'') s'
theorem gw {sc:Scope} {n:Nat} {x:Str} (h:sc.names.lookup x=some .cell):∃c,(cellsFrom n sc.names []).lookup x=some c:=by
 have q:=PySem.W.cellsFrom_some sc.names n [] (.inl h);exact BQ.mp q
theorem jz {CX:iV} {P:Program} {w:World} {K:A6} {mg:sF} {base:Heap} {N ps:sI} {qual:Str} {scope:Scope} {f:Addr} {cd:Value} {A:Around} {outer:List Env} {s s1:Shared} {H:Hp} {E:XK} {us:sK} {vs:List V}
  (S:aH N ps scope) (hd:A.handled=none) (e0:io P w K mg base A outer s H) (hl:vs.length=ps.length) (r:aO vs us)
  (x:InCallC s s.heap.objs.size (bindL (envOfC qual scope s.heap.objs.size f cd).kindOf (ps.zip us) fun _=>none) (cellsFrom (s.heap.objs.size+1) scope.names []) (bindC (envOfC qual scope s.heap.objs.size f cd).kindOf (ps.zip us) fun _=>none) s1):
  aD (jy CX P w K mg base N qual scope f cd A outer s H E) [] (start N vs) H s1:=by
 have hpl:ps.length<=N.length:=by have:=congrArg BW S.pre;rw[AK] at this;omega
 obtain ⟨h1,tk,rfl,hk⟩:=x.done;have noA:∀b:Addr,b∉(jy CX P w K mg base N qual scope f cd A outer s H E).ex:=fun b z=>absurd (show b∈([]:sJ) from z) (by simp)
 refine ⟨⟨e0.mod,S.kind,rfl,rfl,AB _,fun y z c h1 h2=>?_,fun y hy=>?_,fun y c _ h=>?_,fun _=>hd,Around.frames_deeper e0.frames,.inr ⟨rfl,rfl⟩,fun b z=>absurd z (noA b),e0.bs,e0.bsz,fun b _ _=>noA b,fun b z=>absurd z (noA b),e0.funs,e0.frf⟩,
  rfl,e0.bare,Un.kept hk,⟨_,x.toInCall.ns,fun i y v h1 h2 h3=>?_⟩,fun y c h=>⟨_,x.cell y c h⟩,e0.hok.fresh (AB _),fun y c h=>?_,fun p hp=>absurd (show p∈([]:sG) from hp) (by simp),e0.hok.kept hk,?_⟩
 ·exact name_of_addr x.apart (B4 h1) (B4 h2)
 ·have hy:scope.names.lookup y=some .cell∨scope.names.lookup y=some .free:=hy;rcases hy with hy|hy
  ·exact gw hy
  ·exact absurd rfl (S.nofree _ (B4 hy))
 ·exact Nat.le_of_lt (x.above y c (B4 h))
 ·have hi:i<vs.length:=by
   unfold start at h2
   by_cases hi:i<vs.length
   ·exact hi
   ·rw[A7 (by simpa using hi)] at h2
    rw[List.getElem?_replicate] at h2
    split at h2<;>cases h2
  have ha:vs[i]?=some v:=by
   unfold start at h2;rw[AA (by simpa using hi),AF] at h2
   cases e:vs[i]? with
   |none=>rw[e] at h2;cases h2
   |some a=>rw[e] at h2;cases h2;rfl
  obtain ⟨u,hu,rv⟩:=r.get ha;have hp:ps[i]?=some y:=by
   rw[<-S.pre,Ar (by omega)];exact h1
  have ndP:ps.Nodup:=by rw[<-S.pre];exact S.nd.sublist (List.take_sublist _ _)
  refine ⟨u,rv,?_⟩;rcases S.par y (AH hp) with k|k
  ·exact .inl ⟨k,fr ndP hp hu k⟩
  ·obtain ⟨c,e⟩:=gw (n:=s.heap.objs.size+1) k;refine .inr ⟨.inl k,c,e,?_⟩;have q:=x.cell y c e;rw[fu ndP hp hu (by show scope.names.lookup y≠_;rw[k];decide)] at q
   exact q
 ·exact e0.hok.fresh (Nat.le_of_lt (x.above y c (B4 h)))
 ·unfold start;show _=N.length;rw[A9,A5,List.length_replicate];omega
theorem oO {CX:iV} {P:Program} {w:World} {K:A6} {mg:sF} {base:Heap} {k:Nat} {f:Addr} {name qual:Str} {params:Arguments} {body:List Stmt} {scope:Scope} {dV kV doc pm cdv ct oc:Value} {an od:sL}
  {osl:sH} {N ps:sI} {sp:Sp} (lk:K.lookup f=some ⟨oc,od,.func (BE name qual params body scope dV kV doc pm an cdv ct),osl⟩) (hcd:PySem.W.codeIn K cdv qual=true) (S:aH N ps scope)
  (len:∀vs H Q E,sp vs H Q E->vs.length=ps.length)
  (hbody:∀(A:Around) (outer:List Env) (s:Shared) (H:Hp) (vs:List V) (Q:VK) (E:XK),bF k (A.deeper (envOfC qual scope s.heap.objs.size f cdv))->sp vs H Q E->
   ∃t,j7 (jy CX P w K mg base N qual scope f cdv A outer s H E) body t/\t {nx:=fun _ H'=>Q .non H',rt:=Q} (start N vs) H):
  bu P w K mg base CX (k+1) f (BE name qual params body scope dV kV doc pm an cdv ct) ps sp:=by
 refine ⟨len,fun A outer s H args us vs Q E hr e0 hb r hsp=>?_⟩
 have hl:=len _ _ _ _ hsp;have KX:K.In s.heap:=e0.mod.kin.keeps fun b o e=>(e0.bs b o e).1
 have lim:s.heap.NoLimit:=e0.mod.nolimit.keeps fun b o e=>(e0.bs b o e).1
 have hkind:∀y∈ps.zip us,scope.names.lookup y.1=some .local∨(scope.names.lookup y.1=some .cell/\((cellsFrom (s.heap.objs.size+1) scope.names []).lookup y.1).isSome=true):=fun ⟨n,v⟩ hy=>by
  rcases S.par n (List.of_mem_zip hy).1 with q|q
  ·exact .inl q
  ·exact .inr ⟨q,PySem.W.cellsFrom_some _ _ _ (.inl q)⟩
 refine codeAny_call_function hr.depth (KX _ _ lk) rfl S.co S.gen rfl (PySem.W.codeRec_of KX hcd) (hb _ _ _ _ ?_);refine wpAny_newFunctionEnv_cells S.kind hkind fun env he s1 x=>?_
 subst he;refine ⟨lim.keeps x.toInCall.keep,codeAny_func ?_⟩;obtain ⟨t,ht,hq⟩:=hbody A outer s H vs Q E (hr.deeper _) hsp;have I:aD (jy CX P w K mg base N qual scope f cdv A outer s H E) [] (start N vs) H s1:=jz S hr.hd e0 hl r x;refine wpAny_mono (ht [] s1 (start N vs) H _ I hq) (fun fl s' hs=>?_) fun e s' hs=>hs
 have fin:∀{σ':St} {H':Hp} {v:V} {u:Value},aD (jy CX P w K mg base N qual scope f cdv A outer s H E) [] σ' H' s'->RelV v u->Q v H'->CE outer P w H s Q u s':=
  fun {σ' H' v u} J rv q=>⟨v,H',J.os,J.bare,J.base,J.hok,rv,q⟩
 cases fl with
 |ret u=>
  obtain ⟨v,σ',H',J,rv,q⟩:=hs;exact fin J rv q
 |next=>
  obtain ⟨σ',H',J,q⟩:=hs;exact fin (v:=V.non) (u:=Value.none) J rfl q
 |brk=>
  obtain ⟨_,_,_,q⟩:=hs;exact False.elim q
 |cont=>
  obtain ⟨_,_,_,q⟩:=hs;exact False.elim q
variable {x:Str} {p:Pos} {id T:String} {r:List V->Hp->VK->Prop}
def qH (r:List V->Hp->VK->Prop) (t:TA):TE:=fun σ H Q=>t σ H fun vs H1=>r vs H1 Q
theorem aj (hc:d9 X (.builtin id) r) (hg:Gl X x) (hm:X.mg x=none) (hv:bootBuiltins x=some (.builtin id)) (ha:PA X (e::es) t) (hn:x≠ "__name__" :=by decide) (hdb:(x==("__debug__" :Str))=false:=by decide)
  (he:starEach (e::es) X.env=(false,eval e X.env)::starEach es X.env:=by rfl) (hpl:(backTo pos (starEach es X.env)).any (·.1)=false:=by rfl):PE X (.Call (.Name x p) (e::es) [] pos) (qH r t):=by
 intro pins s σ H Q I h;refine wpAny_Call_Name_kw (dq I hg hm hv ?_ hn hdb);exact PyProof.Rows.callWith_builtin1 (bE (ha pos pins s σ H _ I h) fun us s1 ⟨vs,H1,I1,r1,q1⟩=>hc pins s1 σ H1 vs us Q I1 r1 q1) he hpl
theorem bX (hc:d9 X (.type T) r) (hg:Gl X x) (hm:X.mg x=none) (hv:bootBuiltins x=some (.type T)) (ha:PA X (e::es) t) (hn:x≠ "__name__" :=by decide) (hdb:(x==("__debug__" :Str))=false:=by decide)
  (he:starEach (e::es) X.env=(false,eval e X.env)::starEach es X.env:=by rfl) (hpl:(backTo pos (starEach es X.env)).any (·.1)=false:=by rfl):PE X (.Call (.Name x p) (e::es) [] pos) (qH r t):=by
 intro pins s σ H Q I h;refine wpAny_Call_Name_kw (dq I hg hm hv ?_ hn hdb);exact PyProof.Rows.callWith_type1 (bE (ha pos pins s σ H _ I h) fun us s1 ⟨vs,H1,I1,r1,q1⟩=>hc pins s1 σ H1 vs us Q I1 r1 q1) he hpl
end L2
namespace HT
open PySem PyProof.Rows
section
variable {prog:Program} {w:World} {A:Around} {E:sE} {s:Shared}
def cF (n d:Nat):Option Int->Nat
 |none=>d
 |some v=>if v<0 then (v+(n:Int)).toNat else min v.toNat n
end
end HT
namespace L2
open PySem PySem.Spec PyProof.Rows
abbrev TO:=St->Hp->(Option Int->Hp->Prop)->Prop
def PO (X:Cx) (e:Option Expr) (t:TO):Prop:=
 ∀(pins:sG) (s:Shared) (σ:St) (H:Hp) (Q:Option Int->Hp->Prop),aD X pins σ H s->t σ H Q->
  wpAny (model X.prog X.w) X.A (evalPart e X.env) (fun u s'=>∃o H',aD X pins σ H' s'/\IsPart u o/\Q o H') X.xe s
def lP:TO:=fun _ H Q=>Q none H
def oP (t:TE):TO:=fun σ H Q=>t σ H fun x H1=>∃i,x= .int i/\Q (some i) H1
section
variable {X:Cx} {e:Expr} {te:TE} {lo hi:Option Expr} {tl th:TO} {pos p2:Pos}
theorem cy:PO X none lP:=by
 intro pins s σ H Q I h;rw[evalPart_none];exact wpAny_pure ⟨none,H,I,.none,h⟩
theorem bT (h:PE X e te):PO X (some e) (oP te):=by
 intro pins s σ H Q I hw;rw[evalPart_some];refine bE (h pins s σ H _ I hw) fun u s1 ⟨x,H1,I1,r1,q1⟩=>?_
 obtain ⟨i,rfl,q⟩:=q1;obtain ⟨t,rfl⟩:=r1;exact ⟨some i,H1,I1,.int i t,q⟩
def qf (X:Cx) (r:V->Option Int->Option Int->Hp->VK->Prop):Prop:=
 ∀(pins:sG) (s:Shared) (σ:St) (H:Hp) (x:V) (v vl vu:Value) (lo hi:Option Int) (sl:Addr) (Q:VK),aD X pins σ H s->RelV x v->s.heap.IsSliceOf sl vl vu .none->IsPart vl lo->IsPart vu hi->r x lo hi H Q->
  ∃T id,typeLookup (.type T) "__getitem__" =pure (some (.builtin id))/\s.TypeIs v T/\wpAny (model X.prog X.w) X.A (getItem v (.ref sl)) (EP X pins σ Q) X.xe s
def qU (r:V->Option Int->Option Int->Hp->VK->Prop) (te:TE) (tl th:TO):TE:=fun σ H Q=>te σ H fun x H1=>tl σ H1 fun l H2=>th σ H2 fun u H3=>r x l u H3 Q
theorem bM {r:V->Option Int->Option Int->Hp->VK->Prop} (hr:qf X r) (he:PE X e te) (hl:PO X lo tl) (hu:PO X hi th):PE X (.Subscript e (.Slice lo hi none p2) pos) (qU r te tl th):=by
 intro pins s σ H Q I h;refine Subscript_ (bE (he pins s σ H _ I h) fun v s1 ⟨x,H1,I1,r1,q1⟩=>?_)
 refine wpAny_Slice (bE (hl pins s1 σ H1 _ I1 q1) fun vl s2 ⟨l,H2,I2,pl,q2⟩=>bE (hu pins s2 σ H2 _ I2 q2) fun vu s3 ⟨u,H3,I3,pu,q3⟩=>?_)
 rw[evalPart_none];refine wpAny_pure ?_;have I4:aD X pins σ H3 {s3 with heap:=s3.heap.push {cls:= .type "slice",data:= .fields #[vl,vu,.none]}}:=I3.kept (t':=s3.toks) fun b ob q=>Heap.get?_push_of_some _ q
 obtain ⟨T,id,hT,ht,hg⟩:=hr pins {s3 with heap:=s3.heap.push {cls:= .type "slice",data:= .fields #[vl,vu,.none]}} σ H3 x v vl vu l u s3.heap.objs.size Q I4 r1 (Heap.IsSliceOf.new ..) pl pu q3
 show wpAny (model X.prog X.w) X.A (subscriptTail e (.Slice lo hi none p2) v (.ref s3.heap.objs.size)) (EP X pins σ Q) X.xe {s3 with heap:=s3.heap.push {cls:= .type "slice",data:= .fields #[vl,vu,.none]}}
 exact tail_any (ops:= [.ref s3.heap.objs.size,v]) ht hT hg (by with_unfolding_all rfl)
def dS (xs:List V) (lo hi:Option Int):List V:=(xs.drop (HT.cF xs.length 0 lo)).take (HT.cF xs.length xs.length hi-HT.cF xs.length 0 lo)
theorem dJ (xs:List V) (lo hi:Option Int):(dS xs lo hi).length<=xs.length:=by
 unfold dS;rw[AK,List.length_drop];omega
end
def oj (n:Nat) (i:Int):Option Nat:=if 0<=i then (if i<n then some i.toNat else none) else if-(n:Int)<=i then some (i+n).toNat else none
def cR {α:Type} (xs:List α) (i:Int):Option α:=(oj xs.length i).bind fun j=>xs[j]?
theorem lQ {n:Nat} {i:Int} {j:Nat} (h:oj n i=some j):seqIndex? i n=some j/\j<n/\ -(n:Int)<=i/\i<n:=by
 unfold oj at h
 by_cases h0:0<=i
 ·rw[if_pos h0] at h
  by_cases h1:i<n
  ·rw[if_pos h1] at h;have e:i.toNat=j:=B9 h;exact ⟨by rw[seqIndex_of h0 h1,e],by omega,by omega,h1⟩
  ·rw[if_neg h1] at h;cases h
 ·rw[if_neg h0] at h
  by_cases h1: -(n:Int)<=i
  ·rw[if_pos h1] at h;have e:(i+n).toNat=j:=B9 h;exact ⟨by rw[seqIndex_neg (by omega) h1,e],by omega,h1,by omega⟩
  ·rw[if_neg h1] at h;cases h
theorem fM {α:Type} {xs:List α} {i:Int} {v:α} (h:cR xs i=some v):∃j,seqIndex? i xs.length=some j/\xs[j]?=some v/\j<xs.length/\ -(xs.length:Int)<=i/\i<xs.length:=by
 unfold cR at h;cases e:oj xs.length i with
 |none=>rw[e] at h;cases h
 |some j=>
  rw[e] at h;obtain ⟨h1,h2,h3,h4⟩:=lQ e;exact ⟨j,h1,h,h2,h3,h4⟩
theorem aT {α:Type} {xs:List α} {j:Nat} {v:α} (h:xs[j]?=some v):cR xs (j:Int)=some v:=by
 have hj:j<xs.length:=(A4.mp h).1;have e:oj xs.length (j:Int)=some j:=by
  unfold oj;rw[if_pos (by omega),if_pos (by omega)];simp
 unfold cR;rw[e];exact h
def lR (b:Expr):Prop:=∀o i,subscripted b false o i=operate [o,i] (getItem o i)
def kA (X:Cx) (r:R2):Prop:=
 ∀(value slice:Expr) (pins:sG) (s:Shared) (σ:St) (H:Hp) (x y:V) (v u:Value) (Q:VK),aD X pins σ H s->RelV x v->RelV y u->r x y H Q->
  subscripted slice false v u=operate [v,u] (getItem v u)->wpAny (model X.prog X.w) X.A (subscriptTail value slice v u) (EP X pins σ Q) X.xe s
def qV (X:Cx) (id:String) (r:V->List V->Hp->VK->Prop):Prop:=
 ∀(pins:sG) (s:Shared) (σ:St) (H:Hp) (x:V) (xs:List V) (v:Value) (us:sK) (Q:VK),aD X pins σ H s->RelV x v->aO xs us->r x xs H Q->
  wpAny (model X.prog X.w) X.A (call (.builtin id) (v::us)) (EP X pins σ Q) X.xe s
section
variable {X:Cx} {a b:Expr} {ta tb:TE} {pos:Pos}
theorem kA.or {r r':R2} (h:kA X r) (h':kA X r'):kA X (fun x y H Q=>r x y H Q∨r' x y H Q):=by
 intro value slice pins s σ H x y v u Q I rx ry q hs;rcases q with q|q
 ·exact h value slice pins s σ H x y v u Q I rx ry q hs
 ·exact h' value slice pins s σ H x y v u Q I rx ry q hs
theorem aP {r:R2} (hr:kA X r) (ha:PE X a ta) (hb:PE X b tb) (hs:lR b):PE X (.Subscript a b pos) (pP r ta tb):=by
 intro pins s σ H Q I h;exact Subscript_ (nk ha hb I h fun v u s2 x y H2 I2 rx ry q=>hr a b pins s2 σ H2 x y v u Q I2 rx ry q (hs _ _))
def nr (K:A6):R2:=fun x y H Q=>∃p xs i v,x= .ref p/\y= .int i/\aS K H p xs/\cR xs i=some v/\Q v H
def nA (K:A6):R2:=fun x y H Q=>∃p xs i v,x= .ref p/\y= .int i/\cr K H p xs/\cR xs i=some v/\Q v H
def oQ:R2:=fun x y H Q=>∃z i c,x= .str z/\y= .int i/\z.length<=sizeLine/\cR z.cps.toList i=some c/\Q (.str ⟨#[c]⟩) H
theorem bg:kA X (nr X.K):=by
 intro value slice pins s σ H x y v u Q I rx ry h hs;obtain ⟨p,xs,i,z,rfl,rfl,hq,he,q⟩:=h;cases rx;obtain ⟨t,rfl⟩:=ry;obtain ⟨its,r,pl,hz⟩:=I.list hq;obtain ⟨j,h1,h2,h3,h4,h5⟩:=fM he;obtain ⟨w,ew,rw'⟩:=r.get h2;have hl:=r.length;have hn:=fK;have fin:EP X pins σ Q w s:=⟨z,H,I,rw',q⟩
 by_cases h0:0<=i
 ·have hj:i.toNat=j:=by
   rw[seqIndex_of h0 h5] at h1;exact B9 h1
  exact item_listR pl.isList h0 (by omega) (by rw[hj];simpa using ew) fin hs
 ·have hj:(i+(its.toArray.size:Int)).toNat=j:=by
   rw[seqIndex_neg (by omega) h4] at h1
   rw[AV,<-hl];exact B9 h1
  exact subscriptTail_builtinR (x:=w) pl.isList.typeIs slot_list_getitem.lookup
   (wpAny_getItem_list_neg (Q:=fun r s'=>r=w/\EP X pins σ Q r s') pl.isList (by omega) (by rw[AV]<;>omega) (by omega) (by rw[hj];simpa using ew) ⟨rfl,fin⟩) hs
theorem bR:kA X (nA X.K):=by
 intro value slice pins s σ H x y v u Q I rx ry h hs;obtain ⟨p,xs,i,z,rfl,rfl,hq,he,q⟩:=h;cases rx;obtain ⟨t,rfl⟩:=ry;obtain ⟨its,r,pl,hz⟩:=I.tuple hq;obtain ⟨j,h1,h2,h3,h4,h5⟩:=fM he;obtain ⟨w,ew,rw'⟩:=r.get h2;have hl:=r.length;have hn:=fK;have fin:EP X pins σ Q w s:=⟨z,H,I,rw',q⟩;exact subscriptTail_builtinR (x:=w) pl.typeIs slot_tuple_getitem.lookup
  (getItem_tuple (j:=j) (Q:=fun r s'=>r=w/\EP X pins σ Q r s') pl (by omega) (by omega) (by rw[AV,<-hl];exact h1) (by simpa using ew) ⟨rfl,fin⟩) hs
theorem fN:kA X oQ:=by
 intro value slice pins s σ H x y v u Q I rx ry h hs;obtain ⟨z,i,c,rfl,rfl,hz,he,q⟩:=h;obtain ⟨t,rfl⟩:=rx;obtain ⟨t',rfl⟩:=ry;obtain ⟨j,h1,h2,h3,h4,h5⟩:=fM he;have hl:z.cps.toList.length=z.length:=by simp[Str.length]
 rw[hl] at h1 h4 h5;have hn:=fK;exact tail_any (typeIs_str s z t) slot_str_getitem.lookup (getItem_str (c:=c) (by
  have e1:decide (i< -(2^63:Int))=false:=decide_eq_false (by omega)
  have e2:decide (i≥2^63)=false:=decide_eq_false (by omega)
  rw[e1,e2,Bool.or_false]) (by rw[h1];simpa using h2) ⟨.str ⟨#[c]⟩,H,I.tok _,⟨_,rfl⟩,q⟩) hs
def qW (K:A6):R2:=fun x y H Q=>nr K x y H Q∨nA K x y H Q∨oQ x y H Q
theorem cG:kA X (qW X.K):=bg.or (bR.or fN)
theorem fO (lo hi:Option Int) (n:Nat):(sliceBounds lo hi none n).1=((HT.cF n 0 lo:Nat):Int)/\(sliceBounds lo hi none n).2.1=((HT.cF n n hi:Nat):Int)/\(sliceBounds lo hi none n).2.2=1:=by
 refine ⟨?_,?_,rfl⟩
 ·cases lo with
  |none=>simp[sliceBounds,HT.cF]
  |some i=>
   simp only[sliceBounds,HT.cF,Option.getD_none,show (1:Int)>0 by decide,if_true]
   by_cases h:i<0
   ·simp only[h,if_true]<;>omega
   ·simp only[h,if_false]<;>omega
 ·cases hi with
  |none=>simp[sliceBounds,HT.cF]
  |some i=>
   simp only[sliceBounds,HT.cF,Option.getD_none,show (1:Int)>0 by decide,if_true]
   by_cases h:i<0
   ·simp only[h,if_true]<;>omega
   ·simp only[h,if_false]<;>omega
theorem eV (its:sK) (lo hi:Option Int):slicePick its.toArray lo hi none=((its.drop (HT.cF its.length 0 lo)).take (HT.cF its.length its.length hi-HT.cF its.length 0 lo)).toArray:=by
 obtain ⟨h1,h2,h3⟩:=fO lo hi its.toArray.size;unfold slicePick;rw[h1,h2,h3];simp only[sliceRange_one,pick_run,AV]<;>rfl
def qg (K:A6):V->Option Int->Option Int->Hp->VK->Prop:=fun x lo hi H Q=>∃a xs,x= .ref a/\aS K H a xs/\∀p,H p=none->Q (.ref p) (aR H p (.lst (dS xs lo hi)))
theorem lS:qf X (qg X.K):=by
 intro pins s σ H x v vl vu lo hi sl Q I rx hs pl pu h;obtain ⟨a,xs,rfl,hx,q⟩:=h;cases rx;obtain ⟨its,r,ht,hz⟩:=I.list hx;have hlen:=r.length;refine ⟨"list",_,slot_list_getitem.lookup,ht.isList.typeIs,?_⟩;refine wpAny_getItem_list_slice ht.isList hs pl pu .none (by simp) ?_ (by rw[AV]<;>omega)
 rw[eV,<-hlen];refine ⟨.ref s.heap.objs.size,_,I.laid (t':=s.toks) (o:= .lst (dS xs lo hi)) (fun b ob q=>Heap.get?_push_of_some _ q) (AB _) ?_,rfl,q _ (I.hok.fresh (AB _))⟩
 exact ⟨Az (dJ xs lo hi) hz,_,0,(r.drop (HT.cF xs.length 0 lo)).take (HT.cF xs.length xs.length hi-HT.cF xs.length 0 lo),Heap.get?_push_size _ rfl⟩
theorem av:d9 X (.builtin "len") (fun xs H Q=>∃p ys,xs= [.ref p]/\(aS X.K H p ys∨cr X.K H p ys)/\Q (.int ys.length) H):=by
 intro pins s σ H xs us Q I r h;obtain ⟨p,ys,rfl,hq,q⟩:=h;obtain ⟨u,rfl,rx⟩:=vals1 r;cases rx;have hn:=fK;rcases hq with hq|hq
 ·obtain ⟨its,r',pl,hz⟩:=I.list hq;have hlen:=r'.length;exact Calls.call_len_list pl.isList (by simp only[AV]<;>omega) ⟨.int ys.length,H,I.tok _,⟨s.toks+1,by rw[AV,hlen]⟩,q⟩
 ·obtain ⟨its,r',pl,hz⟩:=I.tuple hq;have hlen:=r'.length;exact len_tuple pl (by simp only[AV]<;>omega) ⟨.int ys.length,H,I.tok _,⟨s.toks+1,by rw[AV,hlen]⟩,q⟩
theorem bh:d9 X (.type "list") (fun xs H Q=>∃p ys,xs= [.ref p]/\(aS X.K H p ys∨cr X.K H p ys)/\∀l,H l=none->Q (.ref l) (aR H l (.lst ys))):=by
 intro pins s σ H xs us Q I r h;obtain ⟨p,ys,rfl,hq,q⟩:=h;obtain ⟨u,rfl,rx⟩:=vals1 r;cases rx;have fin:∀(its:sK),aO ys its->ys.length<=sizeLine->∀(h':Heap) (c':Nat),(∀b o',s.heap.get? b=some o'->h'.get? b=some o')->
   h'.get? s.heap.objs.size=some {cls:= .type "list",dict:=none,data:= .seq its.toArray c',slots:= #[]}->EP X pins σ Q (.ref s.heap.objs.size) {s with heap:=h'}:=fun its r' hz h' c' kp e=>
  ⟨.ref s.heap.objs.size,_,I.laid (t':=s.toks) kp (AB _) (show bz X.prog X.w _ h' _ (.lst ys) from ⟨hz,its,c',r',e⟩),rfl,q _ (I.hok.fresh (AB _))⟩
 rcases hq with hq|hq
 ·obtain ⟨its,r',pl,hz⟩:=I.list hq;have hlen:=r'.length;obtain ⟨o,ho,hc,n,hd⟩:=pl.isList;exact call_list_seq p (.inl rfl) ho hc hd (fun h' c' kp e=>fin its r' hz h' c' kp e) (by simp only[AV]<;>omega)
 ·obtain ⟨its,r',pl,hz⟩:=I.tuple hq;have hlen:=r'.length;obtain ⟨o,ho,hc,n,hd⟩:=pl;exact call_list_seq p (.inr rfl) ho hc hd (fun h' c' kp e=>fin its r' hz h' c' kp e) (by simp only[AV]<;>omega)
def qI (K:A6) (T:String) (x:V) (H:Hp):Prop:=match x with
 | .str _=>T= "str"
 | .int _=>T= "int"
 | .ref p=>(T= "list" /\∃xs,aS K H p xs)∨(T= "tuple" /\∃o,K.lookup p=some o/\o.cls= .type "tuple" /\o.dict=none)∨
   (T= "dict" /\((∃kvs,H p=some (.dK kvs))∨∃kvs,H p=some (.dT kvs)))∨(T= "set" /\∃S n,H p=some (.set S n))
 |_=>False
theorem nB {pins:sG} {σ:St} {H:Hp} {s:Shared} {T:String} {x:V} {v:Value} (I:aD X pins σ H s) (r:RelV x v) (ty:qI X.K T x H):
  s.TypeIs v T/\∀a,v= .ref a->∃ob,s.heap.get? a=some ob/\ob.dict=none:=by
 cases x with
 |str z=>
  obtain ⟨t,rfl⟩:=r;cases (show T= "str" from ty)
  exact ⟨typeIs_str s z t,fun _ e=>nomatch e⟩
 |int i=>
  obtain ⟨t,rfl⟩:=r;cases (show T= "int" from ty)
  exact ⟨typeIs_int s i t,fun _ e=>nomatch e⟩
 |ref p=>
  cases r;rcases ty with ⟨rfl,xs,hq⟩|⟨rfl,o,hk,hc,hd⟩|⟨rfl,hk⟩|⟨rfl,S,n,hk⟩
  ·obtain ⟨its,_,pl,_⟩:=I.list hq;refine ⟨pl.isList.typeIs,fun a e=>?_⟩
   cases e;obtain ⟨o,n,e,c,hd,_⟩:=pl;exact ⟨o,e,hd⟩
  ·refine ⟨⟨o,I.kIn p o hk,hc⟩,fun a e=>?_⟩
   cases e;exact ⟨o,I.kIn _ o hk,hd⟩
  ·have z:∃o,s.heap.get? p=some o/\o.ExactDict:=by
    rcases hk with ⟨kvs,hk⟩|⟨kvs,hk⟩
    ·obtain ⟨_,_,_,_,o,_,_,e,ex,_⟩:=I.hok p _ hk;exact ⟨o,e,ex⟩
    ·obtain ⟨_,_,_,_,o,_,_,e,ex,_⟩:=I.hok p _ hk;exact ⟨o,e,ex⟩
   obtain ⟨o,e,ex⟩:=z;refine ⟨⟨o,e,ex.1⟩,fun a e2=>?_⟩
   cases e2;exact ⟨o,e,ex.2.1⟩
  ·obtain ⟨o,_,_,_,e,ex,_⟩:=I.hok p _ hk;refine ⟨⟨o,e,ex.1⟩,fun a e2=>?_⟩
   cases e2;exact ⟨o,e,ex.2.1⟩
 |_=>exact False.elim ty
def qX (K:A6) (T:String) (r:V->List V->Hp->VK->Prop) (to:TE) (t:TA):TE:=fun σ H Q=>to σ H fun x H1=>qI K T x H1/\t σ H1 fun xs H2=>r x xs H2 Q
variable {o e:Expr} {es:List Expr} {to:TE} {t:TA} {name:Str} {apos cpos:Pos} {T id:String} {r:V->List V->Hp->VK->Prop}
theorem bN (pa:PlainAttrs T) (slot:Slot T name id) (hty:typeOf (.builtin id)=pure (.type "method_descriptor")) (hm:qV X id r) (ho:PE X o to) (ha:PA X (e::es) t)
  (hbase:attributeBase o name X.env (eval o X.env)=eval o X.env:=by rfl)
  (hfew:((backTo cpos (starEach (e::es) X.env)).all (fun x=> !x.1)&&(backToKw cpos (keywordEach [] X.env)).all (fun x=>x.1.isSome)
   &&decide ((e::es).length+([]:List Keyword).length+(if ([]:List Keyword).isEmpty then 0 else 1)<30))=true:=by rfl)
  (hline:(apos.endLine==cpos.line)=true:=by rfl) (hs:starEach (e::es) X.env=(false,eval e X.env)::starEach es X.env:=by rfl) (hplain:(backTo cpos (starEach es X.env)).any (·.1)=false:=by rfl):
  PE X (.Call (.Attribute o name apos) (e::es) [] cpos) (qX X.K T r to t):=by
 intro pins s σ H Q I h;refine wpAny_Call_method_late hbase hfew hline rfl (bE (ho pins s σ H _ I h) fun v s1 ⟨x,H1,I1,r1,ty,q1⟩=>?_)
 obtain ⟨h1,h2⟩:=nB I1 r1 ty;refine ⟨T,id,pa,slot,hty,h1,h2,?_⟩;have hA:=ha cpos pins s1 σ H1 _ I1 q1;rw[hs] at hA⊢;refine Calls.callWith_builtin (by show (false||(backTo cpos (starEach es X.env)).any (·.1))=false;rw[hplain]<;>rfl) (Calls.evalArgs_plain ?_)
 exact bE hA fun us s2 ⟨vs,H2,I2,r2,q2⟩=>hm pins s2 σ H2 x vs v us Q I2 r1 r2 q2
end
def qJ (X:Cx) (id:String) (r:V->List V->Hp->VK->Prop):Prop:=
 ∀(pins:sG) (s:Shared) (σ:St) (H:Hp) (x:V) (xs:List V) (v:Value) (us:sK) (Q:VK),aD X pins σ H s->RelV x v->aO xs us->r x xs H Q->
  wpAny (model X.prog X.w) X.A (call (.builtin id) (v::us)) (EP X pins σ Q) X.xe s
theorem aO.one:∀{x:V} {us:sK},aO [x] us->∃u,us= [u]/\RelV x u
 |_,_,.cons r .nil=>⟨_,rfl,r⟩
section
variable {X:Cx} {pins:sG} {σ:St} {H:Hp} {s:Shared} {l b:Addr} {xs ys zs:List V}
theorem aD.lset {its its':sK} {n:Nat} {f:Array Value->Array Value} {t':Nat} (I:aD X pins σ H s) (hH:H l=some (.lst xs))
  (e:s.heap.get? l=some {cls:= .type "list",data:= .seq its.toArray n}) (hf:f its.toArray=its'.toArray) (hv:aO ys its') (hz:ys.length<=sizeLine):
  aD X pins σ (aR H l (.lst ys)) {s with heap:=s.heap.update l (Obj.mapSeq f),toks:=t'}:=by
 have q:=PySem.IsL.update e f;rw[hf] at q;refine I.write (x:=l) (e:=l) (by rw[hH];exact trivial) (.inl rfl) (fun b' u hb hu=>(Heap.get?_update_other s.heap (Obj.mapSeq f) (Ne.symm hb)).trans hu) ⟨_,q⟩ ?_
 exact ⟨hz,its',_,hv,q⟩
theorem aD.lstM (I:aD X pins σ H s) (hH:H l=some (.lst xs)):xs.length<=sizeLine/\∃(its:sK) (n:Nat),aO xs its/\xs.length=its.length/\s.heap.get? l=some {cls:= .type "list",data:= .seq its.toArray n}:=by
 obtain ⟨z,its,n,r,e⟩:=I.hok l _ hH;exact ⟨z,its,n,r,r.length,e⟩
theorem kB {n:Nat} (h:n<=sizeLine):Builtin.List.listTooLong n=false:=by
 unfold Builtin.List.listTooLong;exact decide_eq_false (by omega)
end
variable {X:Cx}
def lT:V->List V->Hp->VK->Prop:=fun x vs H Q=>∃l xs y,x= .ref l/\vs= [y]/\H l=some (.lst xs)/\xs.length<sizeLine/\Q .non (aR H l (.lst (xs++ [y])))
theorem aK:qJ X "list.append" lT:=by
 intro pins s σ H x vs v us Q I rx rv h;obtain ⟨l,xs,y,rfl,rfl,hH,hz,q⟩:=h;cases rx;obtain ⟨u,rfl,ru⟩:=rv.one;obtain ⟨z,its,n,r,hl,e⟩:=I.lstM hH;refine call_meets F.slot_list_append ⟨_,e,rfl⟩ F.entry_list_append (F.args_list_append_2 _ _) (PySem.list_append l its.toArray n u (by rw[AV];omega)) ⟨e,?_⟩
 refine ⟨.non,_,I.lset (its':=its++ [u]) hH e (by simp) (r.append (.cons ru .nil)) ?_,rfl,q⟩
 rw[A9,List.length_singleton];omega
def lU:V->List V->Hp->VK->Prop:=fun x vs H Q=>∃l b xs zs,x= .ref l/\vs= [.ref b]/\H l=some (.lst xs)/\H b=some (.lst zs)/\xs.length+zs.length<=sizeLine/\Q .non (aR H l (.lst (xs++zs)))
theorem jA:qJ X "list.extend" lU:=by
 intro pins s σ H x vs v us Q I rx rv h;obtain ⟨l,b,xs,zs,rfl,rfl,hH,hB,hz,q⟩:=h;cases rx;obtain ⟨u,rfl,ru⟩:=rv.one;cases ru;obtain ⟨z,its,n,r,hl,e⟩:=I.lstM hH;obtain ⟨z2,its2,n2,r2,hl2,e2⟩:=I.lstM hB;have hsz:its.toArray.size+its2.toArray.size<=sizeLine:=by rw[AV,AV];omega
 have hlong:¬(!its.toArray.isEmpty&&Builtin.List.listTooLong (its.toArray.size+its2.toArray.size))=true:=by
  rw[kB hsz,Bool.and_false];exact Ac
 refine call_meets F.slot_list_extend ⟨_,e,rfl⟩ F.entry_list_extend (F.args_list_extend_2 _ _)
  (AutoSeq1.list_extend_list_list_0 l its.toArray n b its2.toArray n2 hlong (by rw[AV];omega) (by omega)) ⟨e,e2,?_⟩
 refine ⟨.non,_,I.lset (its':=its++its2) hH e (by simp) (r.append r2) ?_,rfl,q⟩
 rw[A9];omega
theorem oR {P:Program} {w:World} {k:Key} {u:Value} (r:RelV (kV k) u):(ak P w).is k u=true:=by
 cases k with
 |inl i=>obtain ⟨t,e⟩:=(show ∃t,u=Value.int i t from r);subst e;exact gn P w i t
 |inr x=>obtain ⟨t,e⟩:=(show ∃t,u=Value.str x t from r);subst e;exact gp P w x t
end L2
namespace Att
open PySem PySem.W PySem.Calls PyProof.Rows
theorem dU {P:Params} {h:Heap}:∀(ns:List Int) (vs:sK),WellAll P h vs (ns.map WData.int)->IntsAre vs ns:=by
 intro ns
 induction ns with
 |nil=>
  intro vs w;rw[List.map_nil] at w;cases w;exact .nil
 |cons n ns ih=>
  intro vs w;rw[Ag] at w;cases w with
  |cons a b=>
   cases a;exact .cons _ _ (ih _ b)
theorem jB {l:OpenLaw} {n:Nat} (hn:l.most=some n) {P:Params} {h:Heap} {args:List WData} {vals:sK}
  (hpre:l.row.toRowW.claim.pre args=true) (hwl:WellAll P h vals args):
  ∃a vs ns,vals= [Value.ref a]/\args= [WData.list (ns.map WData.int)]/\h.get? a=some {cls:= .type "list",data:= .seq vs.toArray}/\IntsAre vs ns/\ns.length<=n:=by
 have hsh:WShape.hasAll [] args [.list .int]=true:=(pre_splitW hpre).1;have hc:l.pre.holds [] {args:=args}=true:=(pre_splitW hpre).2;obtain ⟨d,r,rfl,h1,h2⟩:=hasAllW_cons hsh;obtain rfl:=hasAllW_nil h2;obtain ⟨xs,rfl,h3⟩:=hasW_list h1;obtain ⟨ns,rfl⟩:=items_int h3;have hlen:ns.length<=n:=by
  unfold OpenLaw.pre at hc;have h4:(WTm.not (.lt (.lit (.int (n:Int))) (.len (.arg 0)))).holds [] {args:= [.list (ns.map .int)]}=true:=by
   have h4:=(holds_andW hc).1;rw[hn] at h4;exact h4
  have h5:=condW_of h4 (w_not (w_lt w_lit (w_len_list (w_arg rfl))));rw[A5] at h5;refine Nat.le_of_not_lt fun q=>?_
  have q':(n:Int)<((ns.length:Nat):Int):=by omega
  first
   |(rw[decide_eq_true q'] at h5;exact absurd h5 (by decide))
   |(simp at h5;omega)
 cases hwl with
 |cons w1 w2=>
  cases w2;cases w1 with
  |list ho hall=>exact ⟨_,_,ns,rfl,rfl,ho,dU ns _ hall,hlen⟩
theorem jC (l:OpenLaw) (args:List WData):l.row.toRowW.claim.post args (.bool true) args=true:=
 postW_of (r:=l.row.toRowW) (X:=(true==true))
  (show WShape.has [] (.bool true) .bool=true by first|rfl|decide|simp[WShape.has,WShape.arms,WShape.armsAll])
  (show (WTm.eq .res (.lit (.bool true))).value [] {args:=args,res:=some (.bool true),after:=args}=some (.bool (true==true)) from w_eq_bool (w_res rfl) w_lit) rfl
theorem gx {l:OpenLaw} {n:Nat} {q:Program} {loose:sI} {XP:sF->Heap->Prop} {YP:World->Heap->Prop} {d:DefRec}
  (hn:l.most=some n) (hdf:d.params.defaults= [])
  (call:∀(w:World) (s₀ s₁:Shared) (mg mb:sF) (fa:Addr) (o:Obj) (pm cd doc:Value) (a:Addr) (vs:sK) (ns:List Int),
   Ground q loose [] XP w s₀ mg mb s₁.heap->YP w s₁.heap->
   s₁.heap.get? fa=some o->o.data= .func (docDef d.name d.params d.body d.scope pm cd doc)->s₁.heap.CodeRec cd d.name->mg d.name=some (.ref fa)->
   s₁.heap.get? a=some {cls:= .type "list",data:= .seq vs.toArray}->IntsAre vs ns->ns.length<=n->s₁.gens= #[]->
   codeAny (model l.prog w) callerA (.call (.ref fa) ⟨[.ref a],[]⟩) (fun r s'=>r= .ok (.ret (.bool true))/\OldK s₁.heap s'.heap/\s'.os=s₁.os/\AllBare s'.gens) s₁):
  WalkO q loose XP YP l.row.toRowW d [] (fun f vs=>PySem.call f vs):=by
 intro w s₀ s₁ mg mb G Y fa o pm cd doc dV kV ho hd hcd hD hmg hg args vals as hpre hlay hrd hwl hlo;obtain rfl:dV= .none:=Dflts.none hD hdf;obtain rfl:kV= .none:=Dflts.noKw hD;obtain ⟨a,vs,ns,rfl,rfl,hobj,hints,hlen⟩:=jB hn hpre hwl;refine enter_call (codeAny_mono (call w s₀ s₁ mg mb fa o pm cd doc a vs ns G Y ho (fd_plain hd) hcd hmg hobj hints hlen hg) fun r s' hq=>?_)
 obtain ⟨rfl,h2,h3,h4⟩:=hq;exact ⟨.inl ⟨.bool true,.bool true,[],rfl,fun _=>rfl,.bool true,jC l _,fun _=>⟨List.Pairwise.nil,fun _ hm=>(nomatch hm)⟩⟩,h2,h3,h4⟩
end Att
namespace L2
open PySem PySem.Spec PyProof.Rows
theorem fv:∀{vs:sK} {ns:List Int},IntsAre vs ns->aO (ns.map V.int) vs
 |_,_,.nil=> .nil
 |_,_,.cons n t h=> .cons ⟨t,rfl⟩ (fv h)
def nC (H:Hp):Prop:=∀b,H b=none∨∃o xs,H b=some (.frz o (.lst xs))
theorem kC {P:Program} {w:World} {K:A6} {mg mb:sF} {CX:iV} {k:Nat} {fa a:Addr} {fd:FuncData} {x:Str} {sp:Sp} {s₁:Shared} {vs:sK} {ns:List Int}
  (KX:K.In s₁.heap) (hns:s₁.heap.Ns mainGlobals mg) (hb:s₁.heap.Ns builtinsNs mb) (hbb:∀x:Str,x≠ "__name__" ->mb x=bootBuiltins x) (hlim:s₁.heap.NoLimit) (hg:s₁.gens= #[])
  (ha:s₁.heap.get? a=some {cls:= .type "list",data:= .seq vs.toArray}) (hi:IntsAre vs ns) (hl:ns.length<=sizeLine) (hr:bF k callerA)
  (F:∀base:Heap,K.In base->base.Ns mainGlobals mg->bu P w K mg base CX k fa fd [x] sp) (hbind:∀(s:Shared) (u:Value),BindsTo s fd ⟨[u],[]⟩ [(x,u)])
  (hsp:∀H:Hp,nC H->aS K H a (ns.map V.int)->sp [.ref a] H (fun v _=>v= .bl true) fun _ _ _=>False)
  (hCX:∀H e s',CX [] H s₁ (fun _ _ _=>False) e s'->False):
  codeAny (model P w) callerA (.call (.ref fa) ⟨[.ref a],[]⟩) (fun r s'=>r= .ok (.ret (.bool true))/\OldK s₁.heap s'.heap/\s'.os=s₁.os/\AllBare s'.gens) s₁:=by
 have rv:=fv hi;have lenV:=hi.length;have core:∀H:Hp,nC H->aS K H a (ns.map V.int)->dR P w H s₁.heap->(∀b,H b≠none->b=a)->(H a≠none->K.lookup a=none)->
   codeAny (model P w) callerA (.call (.ref fa) ⟨[.ref a],[]⟩) (fun r s'=>r= .ok (.ret (.bool true))/\OldK s₁.heap s'.heap/\s'.os=s₁.os/\AllBare s'.gens) s₁:=by
  intro H hO hS hok hA hK;have base_of:∀{b:Addr} {o:Obj},s₁.heap.get? b=some o->H b=none->(fG s₁.heap H).get? b=some o:=fun e n=>kh e n
  have noA:∀{b:Addr} {o:Obj} {es:Array DictEntry} {ep:Nat},s₁.heap.get? b=some o->o.data= .dict es ep->H b=none:=fun {b o es ep} e d=>by
   cases q:H b with
   |none=>rfl
   |some u=>
    have e':b=a:=hA b (by rw[q];simp)
    subst e';rw[ha] at e;cases e;have d':Data.seq vs.toArray _=Data.dict es ep:=d;cases d'
  have nsK:∀{b:Addr} {m:sF},s₁.heap.Ns b m->(fG s₁.heap H).Ns b m:=fun {b m} ⟨o,es,ep,e,d,r⟩=>⟨o,es,ep,base_of e (noA e d),d,r⟩
  have hKb:K.In (fG s₁.heap H):=fun b o e=>base_of (KX b o e) (by
   cases q:H b with
   |none=>rfl
   |some u=>
    have e':b=a:=hA b (by rw[q];simp)
    subst e';rw[hK (by rw[q];simp)] at e;cases e)
  have hM:Mod K mg (fG s₁.heap H):=⟨hKb,nsK hns,⟨mb,nsK hb,hbb⟩,let ⟨mc,h1,h2⟩:=hlim;⟨mc,nsK h1,h2⟩⟩;have e0:io P w K mg (fG s₁.heap H) callerA [] s₁ H:=⟨rfl,hM,fun b o e=>lF e,Nat.le_of_eq (jp _ _),trivial,fun b hb=>absurd (show b∈([]:sJ) from hb) (by simp),hok,.of_eq hg⟩
  refine codeAny_mono ((F _ hKb (nsK hns)).run callerA [] s₁ H ⟨[.ref a],[]⟩ [.ref a] [.ref a] _ _ hr e0 (hbind s₁ (.ref a)) (.cons rfl .nil) (hsp H hO hS)) fun r s' h=>?_
  cases r with
  |error e=>exact (hCX H e s' h).elim
  |ok fl=>
   cases fl with
   |next=>exact False.elim h
   |brk=>exact False.elim h
   |cont=>exact False.elim h
   |ret u=>
    obtain ⟨v,H',os,bare,un,hok',r',q⟩:=h;have q':v= .bl true:=q;subst q';obtain rfl:u=Value.bool true:=r';refine ⟨rfl,OldK.of_keep fun b o e=>?_,os,bare⟩
    cases q:H b with
    |none=>exact un.keep b o e q (by intro z;exact absurd (show b∈([]:sJ) from z) (by simp)) (by simp)
    |some u=>
     rcases hO b with z|⟨ob,xs,z⟩
     ·rw[q] at z;cases z
     ·have z2:=un.frzs b ob _ z;obtain ⟨e1,_⟩:=hok b _ z;obtain ⟨e2,_⟩:=hok' b _ z2;rw[e] at e1;cases e1;exact e2
 cases hk:K.lookup a with
 |some o=>
  have e:=KX a o hk;rw[ha] at e;cases e;refine core (fun _=>none) (fun _=> .inl rfl) (.inr ⟨_,vs.toArray,_,hk,rfl,rfl,rfl,by rw[AV,lenV];exact hl,by simpa using rv⟩) (fun b u z=>by have z':(none:Option HO)=some u:=z;cases z') (fun b z=>absurd rfl z) fun z=>absurd rfl z
 |none=>
  refine core (fun b=>if b=a then some (.frz {cls:= .type "list",data:= .seq vs.toArray} (.lst (ns.map V.int))) else none) (fun b=>?_) (.inl (.inr ⟨{cls:= .type "list",data:= .seq vs.toArray},if_pos rfl⟩)) (fun b u z=>?_) (fun b z=>?_) fun _=>hk
  ·by_cases hb:b=a
   ·exact .inr ⟨_,_,if_pos hb⟩
   ·exact .inl (if_neg hb)
  ·by_cases hb:b=a
   ·have z':=(if_pos hb).symm.trans z;cases z';subst hb;exact ⟨ha,by rw[A5];exact hl,vs,_,rv,ha⟩
   ·have z':=(if_neg hb).symm.trans z;cases z'
  ·by_cases hb:b=a
   ·exact hb
   ·exact absurd (if_neg hb) z
theorem lV {l:PySem.W.OpenLaw} {n k:Nat} {q:Program} {loose:sI} {XP:sF->Heap->Prop} {YP:World->Heap->Prop} {d:DefRec} {K:Params->A6} {CX:World->iV} {sp:World->Sp} {x:Str}
  (hn:l.most=some n) (hn2:n<=sizeLine) (hdf:d.params.defaults= []) (hr:bF k callerA)
  (hY:∀(w:World) (h:Heap),YP w h->(K w.params).In h)
  (F:∀(w:World) (mg:sF) (fa:Addr) (h:Heap),(K w.params).In h->h.Ns mainGlobals mg->mg d.name=some (.ref fa)->
   ∃fd:FuncData,(∀(s:Shared) (u:Value),BindsTo s fd ⟨[u],[]⟩ [(x,u)])/\
    ∀base:Heap,(K w.params).In base->base.Ns mainGlobals mg->bu l.prog w (K w.params) mg base (CX w) k fa fd [x] (sp w))
  (hsp:∀(w:World) (H:Hp) (a:Addr) (ns:List Int),ns.length<=n->nC H->aS (K w.params) H a (ns.map V.int)->sp w [.ref a] H (fun v _=>v= .bl true) fun _ _ _=>False)
  (hCX:∀(w:World) (H:Hp) (s:Shared) (e:Value) (s':Shared),CX w [] H s (fun _ _ _=>False) e s'->False):
  PySem.W.WalkO q loose XP YP l.row.toRowW d [] (fun f vs=>PySem.call f vs):=by
 refine Att.gx hn hdf fun w s₀ s₁ mg mb fa o pm cd doc a vs ns G Y ho hd hcd hmg hobj hints hlen hg=>?_
 have KX:=hY w _ Y;obtain ⟨fd,hb,hF⟩:=F w mg fa _ KX G.T.g hmg;exact kC KX G.T.g G.T.b G.T.builtins G.T.nolimit hg hobj hints (Az hlen hn2) hr hF hb (fun H hO hS=>hsp w H a ns hlen hO hS) fun H e s'=>hCX w H s₁ e s'
def bU (s:Stmt):Arguments:=match s with
 | .FunctionDef _ a _ _ _ _ _ _ _ _=>a
 |_=>{posonlyargs:= [],args:= [],vararg:=none,kwonlyargs:= [],kw_defaults:= [],kwarg:=none,defaults:= []}
def bH (s:Stmt):List Stmt:=match s with
 | .FunctionDef _ _ b _ _ _ _ _ _ _=>b
 |_=> []
def aw (s:Stmt):Scope:=match s with
 | .FunctionDef _ _ _ _ _ _ sc _ _ _=>sc
 |_=>{kind:= .function,names:= [],isGenerator:=false,isCoroutine:=false}
abbrev bP:iV:=fun _ _ _ _ _ _=>False
abbrev E0:XK:=fun _ _ _=>False
theorem iY {X:Cx}:ee bP X E0:=fun _ _ _ _ _ _ _ h=>h.elim
variable {X:Cx}
theorem pv (i:Nat) {x:Str} {pos:Pos} (hN:X.N[i]?=some x:=by rfl) (hv:pU X.env.scope x:=by first|exact Or.inl rfl|exact Or.inr (Or.inl rfl)|exact Or.inr (Or.inr rfl)) (hd:(x==("__debug__" :Str))=false:=by decide)
  (hcd:(x==("__classdict__" :Str))=false:=by decide):PE X (.Name x pos) (oq i):=mY hN hv hd hcd
theorem bj {A B:Prop} (h:B):if false=true then A else B:=by
 rw[if_neg Ac];exact h
theorem b5 {A B:Prop} (h:A):if true=true then A else B:=by
 rw[if_pos rfl];exact h
def aN (H H':Hp):Prop:=∀b o,H b=some o->H' b=some o
theorem aN.refl (H:Hp):aN H H:=fun _ _ h=>h
theorem aN.trans {H H1 H2:Hp} (a:aN H H1) (b:aN H1 H2):aN H H2:=fun c o h=>b c o (a c o h)
theorem aN.free {H H':Hp} (e:aN H H') {l:Addr} (h:H' l=Option.none):H l=Option.none:=by
 cases q:H l with
 |none=>rfl
 |some o=>
  rw[e l o q] at h;cases h
theorem aN.seq {K:A6} {H H':Hp} {a:Addr} {xs:List V} (e:aN H H') (h:aS K H a xs):aS K H' a xs:=by
 rcases h with (h|⟨o,h⟩)|h
 ·exact .inl (.inl (e _ _ h))
 ·exact .inl (.inr ⟨o,e _ _ h⟩)
 ·exact .inr h
theorem bn:fi X (binaryOp .Mult) (rI (fun i j=>IntMulOk i j) fun i j=> .int (i*j)):=pQ fun _ _ _ _ _ _ _ hc q=>mul_int q hc
theorem a8:fi X (binaryOp .FloorDiv) (rI (fun i j=>j≠0/\Builtin.divisionGoesByPylong i j=false) fun i j=> .int (i.fdiv j)):=pQ fun _ _ _ _ _ _ _ hc q=>floordiv_int hc.1 q (.inl hc.2)
theorem iZ:fi X (binaryOp .Pow) (rI (fun i j=>0<=j/\(Builtin.Int.intBits i:Int)*j<=2^27) fun i j=> .int (i^j.toNat)):=pQ fun _ _ _ _ _ _ _ hc q=>pow_int hc.1 hc.2 q
end L2
namespace Sw
open PySem
def Bd (n:Nat) (x:Int):Prop:=x.natAbs<2^n
theorem Bd.mul {m n:Nat} {x y:Int} (h:Bd m x) (g:Bd n y):Bd (m+n) (x*y):=by
 unfold Bd at*;rw[Int.natAbs_mul,Nat.pow_add];exact Nat.mul_lt_mul_of_lt_of_le h (Nat.le_of_lt g) (Nat.lt_of_le_of_lt (B5 _) g)
theorem Bd.add {k:Nat} {x y:Int} (h:Bd k x) (g:Bd k y):Bd (k+1) (x+y):=by
 unfold Bd at*;rw[Bm];generalize 2^k=p at h g⊢;omega
theorem Bd.ok {m n:Nat} {x y:Int} (h:Bd m x) (g:Bd n y) (e:m+n<=134217728:=by decide):IntMulOk x y:=
 IntMulOk.of_le (intBits_le_iff.mpr h) (intBits_le_iff.mpr g) e
end Sw
namespace L2
open PySem
end L2
namespace Sw
open PySem L2
theorem dT {p A B:Prop} [Decidable p] (h:p) (a:A):if decide p=true then A else B:=by rw[if_pos (decide_eq_true h)];exact a
theorem dF {p A B:Prop} [Decidable p] (h:¬p) (b:B):if decide p=true then A else B:=by rw[if_neg (by simp[h])];exact b
theorem d2 {p A B:Prop} [Decidable p] (h1:p->A) (h2:¬p->B):if decide p=true then A else B:=by
 by_cases h:p
 ·exact dT h (h1 h)
 ·exact dF h (h2 h)
theorem nF {p A B:Prop} [Decidable p] (h:p) (b:B):if (!decide p)=true then A else B:=by rw[if_neg (by simp[h])];exact b
theorem vi {a b:Int} (h:a=b):V.int a=V.int b:=by rw[h]
theorem vj {a b:Int} (h:V.int a=V.int b):a=b:=by cases h;rfl
theorem oS {a b:Int} {A B:Prop} (h1:a=b->A) (h2:a≠b->B):if decide (V.int a=V.int b)=true then A else B:=d2 (fun h=>h1 (vj h)) fun h=>h2 fun e=>h (vi e)
def ip (K:A6):Sp:=fun vs H Q _=>∃(a:Addr) (ns:List Int) (k:Int),vs= [.ref a,.int k]/\aS K H a (ns.map V.int)/\0<=k/\∀v:Int,Q (.int v) H
def i3 (K:A6):Sp:=fun vs H Q _=>∃(a:Addr) (ns:List Int),vs= [.ref a]/\aS K H a (ns.map V.int)/\ns.length<=63/\∀H',Q (.bl true) H'
theorem lW {ns:List Int} {k:Int} (h0:0<=k) (h:k<(((ns.map V.int).length:Nat):Int)):∃v:Int,cR (ns.map V.int) k=some (.int v):=by
 rw[A5] at h;have hk:k.toNat<ns.length:=by omega
 have ek:k=((k.toNat:Nat):Int):=by omega
 have q:cR (ns.map V.int) ((k.toNat:Nat):Int)=some (.int ns[k.toNat]):=aT (by rw[AF,A0 hk]<;>rfl)
 rw[<-ek] at q;exact ⟨_,q⟩
theorem cut {t u:TS} {D:Ends} {σ:L2.St} {H:Hp} (I:L2.St->Hp->Prop) (h1:∀N:L2.St->Hp->Prop,(∀σ H,I σ H->N σ H)->t {D with nx:=N} σ H) (h2:∀σ H,I σ H->u D σ H):ki t u D σ H:=h1 _ h2
theorem am {H:Hp} {p:Addr} (h:H p=none) (o:HO):aN H (aR H p o):=fun b u q=>by rw[ar (aV q h)];exact q
structure bC (K:A6) (x qual:Str) (st:Stmt) (dV:Value) (f:Addr) (fd:FuncData):Prop where
 ex:∃(oc:Value) (od:sL) (kV doc pm:Value) (an:sL) (cdv ct:Value) (osl:sH),
  fd=BE x qual (bU st) (bH st) (aw st) dV kV doc pm an cdv ct/\K.lookup f=some ⟨oc,od,.func fd,osl⟩/\PySem.W.codeIn K cdv qual=true
 kp:BH K (.ref f)=true
section
variable {P:Program} {w:World} {K:A6} {mg:sF} {base:Heap}
theorem bC.ok {x qual:Str} {st:Stmt} {dV:Value} {f:Addr} {fd:FuncData} {N ps:sI} {k:Nat} {sp:Sp} (F:bC K x qual st dV f fd) (S:aH N ps (aw st)) (len:∀vs H Q E,sp vs H Q E->vs.length=ps.length)
  (hbody:∀(cdv:Value) (A:Around) (outer:List Env) (s:Shared) (H:Hp) (vs:List V) (Q:VK) (E:XK),bF k (A.deeper (PyProof.Rows.envOfC qual (aw st) s.heap.objs.size f cdv))->sp vs H Q E->
   ∃t,j7 (jy bP P w K mg base N qual (aw st) f cdv A outer s H E).nox (bH st) t/\t {nx:=fun _ H'=>Q .non H',rt:=Q} (start N vs) H):bu P w K mg base bP (k+1) f fd ps sp:=by
 obtain ⟨oc,od,kV,doc,pm,an,cdv,ct,osl,rfl,lk,hcd⟩:=F.ex;refine oO lk hcd S len fun A outer s H vs Q E hr hsp=>?_
 obtain ⟨t,h,q⟩:=hbody cdv A outer s H vs Q E hr hsp;exact ⟨t,h.nox,q⟩
theorem bC.binds {x qual:Str} {st:Stmt} {T:Addr} {f:Addr} {fd:FuncData} {ps:sI} {o:Obj} {items:Array Value} {n:Nat} {ds:sK} (F:bC K x qual st (.ref T) f fd) (ho:K.lookup T=some o) (hs:o.data= .seq items n)
  (h:∀(kV doc pm:Value) (an:sL) (cdv ct:Value) (us:sK),(us++ds).length=ps.length->∃k:Option (Array Value)->Sem (List (Str×Value)),bindArgs (BE x qual (bU st) (bH st) (aw st) (.ref T) kV doc pm an cdv ct) ⟨us,[]⟩=seqItems? (.ref T)>>=k/\k (some items)=pure (ps.zip (us++ds))):Binds K fd ps ds:=by
 obtain ⟨oc,od,kV,doc,pm,an,cdv,ct,osl,rfl,lk,hcd⟩:=F.ex;intro s us KX hl;obtain ⟨k,h1,h2⟩:=h kV doc pm an cdv ct us hl;exact PySem.W.binds_K KX rfl ho hs h1 h2
theorem bC.binds0 {x qual:Str} {st:Stmt} {dV:Value} {f:Addr} {fd:FuncData} {ps:sI} (F:bC K x qual st dV f fd)
  (h:∀(kV doc pm:Value) (an:sL) (cdv ct:Value) (us:sK),us.length=ps.length->bindArgs (BE x qual (bU st) (bH st) (aw st) dV kV doc pm an cdv ct) ⟨us,[]⟩=pure (ps.zip us)):Binds K fd ps []:=by
 obtain ⟨oc,od,kV,doc,pm,an,cdv,ct,osl,rfl,lk,hcd⟩:=F.ex;exact .all (h kV doc pm an cdv ct)
theorem dY {x qual:Str} {st:Stmt} {f:Addr} {oc dV:Value} {od an:sL} {osl:sH} {kV doc pm cdv ct:Value} (l:K.lookup f=some ⟨oc,od,.func (BE x qual (bU st) (bH st) (aw st) dV kV doc pm an cdv ct),osl⟩)
  (c:PySem.W.codeIn K cdv qual=true) (k:BH K (.ref f)=true):bC K x qual st dV f (BE x qual (bU st) (bH st) (aw st) dV kV doc pm an cdv ct):=⟨⟨oc,od,kV,doc,pm,an,cdv,ct,osl,rfl,l,c⟩,k⟩
end
end Sw
namespace XH
open PySem
end XH
namespace L2
open PySem PySem.Spec PyProof.Rows XH
abbrev Cx.block (X:Cx) (scope:Scope) (cl:List (Str×Addr)) (C:Addr) (N:sI) (own:Str) (fp:sJ) (s:Shared) (H:Hp):Cx:=
 {X with env:=compEnvC scope cl C X.env,N:=N,s₀:=s,H₀:=H,outer:=X.stack,stack:=X.stack,ex:=fp,fn:=fun y=>y==own,pn:= [],xe:=fun _ _=>False}
structure iq (X:Cx) (scope:Scope) (cl:List (Str×Addr)) (own:Str) (ys:sI) (js:List Nat):Prop where
 clos:closureFor scope X.env=pure cl
 nocell:(scope.names.all fun p=> !(p.2== .cell))=true
 kind:scope.kind= .function
 loc:(scope.names.all fun p=> !(p.2== .local)||scope.names.lookup p.1==some .local)=true
 ownL:scope.names.lookup own=some .local
 sub:∀p∈cl,X.env.cells.lookup p.1=some p.2
 has:((relabel scope X.env).names.all fun p=> !(p.2== .cell||p.2== .free)||(cl.lookup p.1).isSome)=true
 noown:cl.lookup own=none
 nd:(own::ys).Nodup
 at_:∀(i:Nat) (y:Str),ys[i]?=some y->∃j:Nat,js[i]?=some j/\X.N[j]?=some y/\(X.env.scope.names.lookup y=some .cell∨X.env.scope.names.lookup y=some .free)/\((relabel scope X.env).names.lookup y=some .cell∨(relabel scope X.env).names.lookup y=some .free)
 len:js.length=ys.length
def be (js:List Nat) (σ:St):St:=js.map fun j=>(σ[j]?).getD none
theorem lookup_all {α:Type} {f:Str×α->Bool} {x:Str} {a:α}:∀{l:List (Str×α)},l.all f=true->l.lookup x=some a->f (x,a)=true:=by
 intro l h e;exact List.all_eq_true.mp h _ (B4 e)
section
variable {X:Cx} {scope:Scope} {cl:List (Str×Addr)} {own:Str} {ys:sI} {js:List Nat} {fp:sJ} {pins:sG} {σ:St} {H:Hp} {s s4:Shared}
theorem gy {h1:Heap} (ok:iq X scope cl own ys js) (I:aD X pins σ H s) (hf:∀b∈fp,eU X pins H b) (hlt:∀b∈fp,b<s.heap.objs.size) (hns:h1.Ns s.heap.objs.size (fun _=>none))
  (hk:∀b o,s.heap.get? b=some o->h1.get? b=some o) (tk:Nat):
  aD (X.block scope cl s.heap.objs.size (own::ys) own fp s H) [] (none::be js σ) H {s with heap:=h1,toks:=tk}:=by
 have sub:∀y c,cl.lookup y=some c->X.env.cells.lookup y=some c:=fun y c e=>ok.sub (y,c) (B4 e)
 refine ⟨⟨I.ok.mod,ok.kind,I.ok.glob,I.ok.blt,AB _,fun x y c e1 e2=>I.ok.inj x y c (sub x c e1) (sub y c e2),fun x hx=>?_,fun x c e1 e2=>?_,I.ok.hd,I.ok.frames,.inl rfl,fun b hb=>⟨AS (hlt b hb),fun x c e=>(hf b hb).2.2.2.2.1 x c (sub x c e)⟩,
  I.bs,Az I.ok.bsz I.sz,fun b o e hb=>?_,fun b hb z=>?_,I.stack,I.stkFree⟩,rfl,I.bare,Un.kept hk,⟨_,hns,fun i y v e1 e2 e3=>?_⟩,fun y c e=>?_,I.hok.fresh (AB _),fun y c e=>I.freeC y c (sub y c e),fun p hp=>absurd (show p∈([]:sG) from hp) (by simp),I.hok.kept hk,?_⟩
 ·have hx':(relabel scope X.env).names.lookup x=some .cell∨(relabel scope X.env).names.lookup x=some .free:=hx;rcases hx' with z|z
  ·have q:=lookup_all ok.has z;simp only[beq_self_eq_true,Bool.true_or,BG,Bool.false_or] at q;exact BQ.mp q
  ·have q:=lookup_all ok.has z;simp only[beq_self_eq_true,Bool.or_true,BG,Bool.false_or] at q;exact BQ.mp q
 ·have e1':(x==own)=true:=e1;have e:x=own:=beq_iff_eq.mp e1';have e2':cl.lookup x=some c:=e2;rw[e,ok.noown] at e2';cases e2'
 ·rcases (hf b hb).2.2.2.1 with z|z
  ·exact I.ok.noex b o e z
  ·exact absurd (Ad (Heap.lt_size (I.ok.bs b o e).1) z) (Nat.lt_irrefl _)
 ·rcases AT.mp (I.stkSub b z) with q|q
  ·exact (hf b hb).2.1 q
  ·exact (hf b hb).2.2.1 q
 ·cases i with
  |zero=>cases e2
  |succ i=>
   have e1':ys[i]?=some y:=e1;obtain ⟨j,hj,hN,hX,hc⟩:=ok.at_ i y e1';have e2':(be js σ)[i]?=some (some v):=e2;unfold be at e2';rw[AF,hj] at e2';have hs:σ[j]?=some (some v):=by
    cases q:σ[j]? with
    |none=>rw[Option.map_some,q] at e2';cases e2'
    |some o=>rw[Option.map_some,q] at e2';exact e2'
   obtain ⟨m,hn,hl⟩:=I.loc;obtain ⟨u,r,l⟩:=hl j y v hN hs (hX.elim (fun z=> .inr (.inl z)) fun z=> .inr (.inr z))
   refine ⟨u,r,.inr ⟨hc,?_⟩⟩;rcases l with ⟨k,_⟩|⟨k,c,hcl,hcell⟩
   ·have k':X.env.scope.names.lookup y=some .local:=k;rcases hX with z|z<;>(rw[z] at k';cases k')
   ·have ex:∃c',cl.lookup y=some c':=by
     rcases hc with z|z
     ·have q:=lookup_all ok.has z;simp only[beq_self_eq_true,Bool.true_or,BG,Bool.false_or] at q;exact BQ.mp q
     ·have q:=lookup_all ok.has z;simp only[beq_self_eq_true,Bool.or_true,BG,Bool.false_or] at q;exact BQ.mp q
    obtain ⟨c',hc'⟩:=ex;have e:=sub y c' hc';rw[hcl] at e;cases e;obtain ⟨oc,hoc,hd⟩:=hcell;exact ⟨c,hc',oc,hk _ _ hoc,hd⟩
 ·obtain ⟨v,oc,hoc,hd⟩:=I.cell y c (sub y c e);exact ⟨v,oc,hk _ _ hoc,hd⟩
 ·show (none::be js σ).length=(own::ys).length;simp[be,ok.len]
theorem jD {H':Hp} {h':Heap} {σ':St} (I:aD X pins σ H s) (hf:∀b∈fp,eU X pins H b) (J:aD (X.block scope cl s.heap.objs.size (own::ys) own fp s H) [] σ' H' s4) (hs:Heap.SameBut s.heap.objs.size s4.heap h'):
  aD X pins σ H' {s4 with heap:=h'}:=by
 have low:∀b o,s.heap.get? b=some o->b≠s.heap.objs.size:=fun b o e=>AS (Heap.lt_size e)
 have B:=J.base;have u:Un (j0 X.stack) fp H H' s.heap h':={
  keep:=fun b o q n hb hx=>(hs.2 b (low b o q)).trans (B.keep b o q n hb hx)
  slot:=fun b o q n hb hx=>by
   obtain ⟨sl,e⟩:=B.slot b o q n hb hx;exact ⟨sl,(hs.2 b (low b o q)).trans e⟩
  free:=B.free
  there:=fun b o q hx=>by
   obtain ⟨o',e⟩:=B.there b o q hx;exact ⟨o',(hs.2 b (low b o q)).trans e⟩
  tups:=B.tups
  frzs:=B.frzs
  tbls:=B.tbls}
 have hn:H' s.heap.objs.size=none:=J.free;have hk:dR X.prog X.w H' h':=fun a o e=>(J.hok a o e).stay (fun b v hb q=>(hs.2 b (by
  intro z;rcases hb with z'|z'
  ·rw[<-z',z,hn] at e;cases e
  ·rw[z,hn] at z';cases z')).trans q) (fun _ q=>q) fun _ _ q=>q
 exact I.call' (s':={s4 with heap:=h'}) (ch:=fp) J.os u hk J.bare fun b hb=>⟨(hf b hb).2.2.2.1,(hf b hb).2.1,(hf b hb).2.2.2.2.1,(hf b hb).2.2.2.2.2⟩
end
open PySem.Builtin PySem.Builtin.ObjectAttr
end L2
namespace Sw
open PySem L2 XH
structure Dx (P:Program) (w:World) (K:A6) (mg:sF) (base:Heap) (CX:iV) (k:Nat) (x:Str) (ps:sI) (dvs:List V) (sp:Sp) where
 f:Addr
 fd:FuncData
 ok:bu P w K mg base CX k f fd ps sp
 m:mg x=some (.ref f)
 q:BH K (.ref f)=true
 b:Binds K fd ps []
 bd:∃ds,Binds K fd ps ds/\aO dvs ds
section
variable {X:Cx} {k j:Nat} {x:Str} {ps:sI} {sp:Sp} {p pos:Pos} {e:Expr} {es:List Expr} {t:TA} {dvs:List V} {E:St->XK}
theorem nD (D:Dx X.prog X.w X.K X.mg X.base bP k x ps dvs sp) (hr:bF j X.A) (hk:k<=j) (hg:Gl X x) (ha:PA X (e::es) t) (hdb:(x==("__debug__" :Str))=false:=by decide)
  (he:starEach (e::es) X.env=(false,eval e X.env)::starEach es X.env:=by rfl) (hpl:(backTo pos (starEach es X.env)).any (·.1)=false:=by rfl):
  PE X (.Call (.Name x p) (e::es) [] pos) (iW sp [] E0 t):=
 lN D.ok (hr.mono hk) hg D.m D.q D.b .nil iY ha hdb he hpl
end
end Sw
namespace L2
open PySem PySem.Spec PyProof.Rows XH
theorem aq {X:Cx} {K:A6} (hK:X.K=K):d9 X (.builtin "isinstance") (fun xs H Q=>∃x t T b,xs= [x,.ty T]/\du K H x t/\PySem.W.kitOne K t (.type T)=some b/\Q (.bl b) H):=by
 subst hK;intro pins s σ H xs us Q I r h;obtain ⟨x,t,T,b,rfl,ty,e,q⟩:=h;obtain ⟨u,w',rfl,e1,e2⟩:=vals2 r;cases e2;exact jx I e1 ty e fun tk=>⟨.bl b,H,I.tok tk,rfl,q⟩
end L2
namespace Sw
open PySem L2 XH
end Sw
namespace L2
open PySem PySem.Spec PyProof.Rows XH
def qK:V->Prop
 | .bl _=>True
 | .int _=>True
 | .str _=>True
 | .non=>True
 |_=>False
theorem kD {A:Around} {s:Shared} {v:V} {u w:Value} (h:qK v) (r1:RelV v u) (r2:RelV v w):SeqAt.EqAt A s u w true:=by
 cases v with
 |bl b=>
  cases r1;cases r2;have z:=SeqAt.EqAt.bool_bool (A:=A) (s:=s) b b;rw[beq_self_eq_true] at z;exact z
 |int i=>
  obtain ⟨t,rfl⟩:=r1;obtain ⟨t',rfl⟩:=r2;have z:=SeqAt.EqAt.int_int (A:=A) (s:=s) i t i t';rw[beq_self_eq_true] at z;exact z
 |str i=>
  obtain ⟨t,rfl⟩:=r1;obtain ⟨t',rfl⟩:=r2;have z:=SeqAt.EqAt.str_str (A:=A) (s:=s) i t i t';rw[beq_self_eq_true] at z;exact z
 |non=>
  cases r1;cases r2;exact SeqAt.EqAt.same _
 |_=>exact absurd h (fun z=>z)
end L2
namespace Sw
open PySem L2 XH PyProof.Rows
theorem cV {H H':Hp} {p:Addr} (g:aN H H') (h:H p=none) (o:HO):aN H (aR H' p o):=fun b u q=>by
 rw[ar (aV q h)];exact g b u q
def fP (X:Cx) (scope:Scope) (ys:sI) (js:List Nat):Prop:=∀(i:Nat) (y:Str),ys[i]?=some y->∃j:Nat,js[i]?=some j/\X.N[j]?=some y/\(X.env.scope.names.lookup y=some .cell∨X.env.scope.names.lookup y=some .free)/\((relabel scope X.env).names.lookup y=some .cell∨(relabel scope X.env).names.lookup y=some .free)
theorem nE {X:Cx} {scope:Scope}:fP X scope [] []:=fun i y h=>by simp at h
theorem ol {X:Cx} {scope:Scope} {ys:sI} {js:List Nat} {y:Str} {j:Nat} (t:fP X scope ys js) (h1:X.N[j]?=some y:=by rfl) (h2:X.env.scope.names.lookup y=some .cell∨X.env.scope.names.lookup y=some .free:=by first|exact Or.inl rfl|exact Or.inr rfl)
  (h3:(relabel scope X.env).names.lookup y=some .cell∨(relabel scope X.env).names.lookup y=some .free:=by first|exact Or.inl rfl|exact Or.inr rfl):fP X scope (y::ys) (j::js):=fun i z h=>by
 cases i with
 |zero=>
  cases h;exact ⟨j,rfl,h1,h2,h3⟩
 |succ i=>exact t i z h
inductive jE (X:Cx):List (Str×Addr)->Prop where
 |nil:jE X []
 |cons {y:Str} {c:Addr} {cl:List (Str×Addr)} (h:X.env.cells.lookup y=some c) (t:jE X cl):jE X ((y,c)::cl)
theorem jE.all {X:Cx} {cl:List (Str×Addr)} (h:jE X cl):∀p∈cl,X.env.cells.lookup p.1=some p.2:=by
 induction h with
 |nil=>intro p hp;simp at hp
 |cons h _ ih=>
  intro p hp;rcases AT.mp hp with e|e
  ·rw[e];exact h
  ·exact ih p e
theorem qh {X:Cx} {scope:Scope} {cl:List (Str×Addr)} {own:Str} {ys:sI} {js:List Nat} (a:fP X scope ys js) (s:jE X cl) (nd:(own::ys).Nodup) (len:js.length=ys.length) (clos:closureFor scope X.env=pure cl) (nocell:(scope.names.all fun p=> !(p.2== .cell))=true) (kind:scope.kind= .function)
  (loc:(scope.names.all fun p=> !(p.2== .local)||scope.names.lookup p.1==some .local)=true) (ownL:scope.names.lookup own=some .local) (has:((relabel scope X.env).names.all fun p=> !(p.2== .cell||p.2== .free)||(cl.lookup p.1).isSome)=true) (noown:cl.lookup own=none):iq X scope cl own ys js:=
 ⟨clos,nocell,kind,loc,ownL,s.all,has,noown,nd,a,len⟩
structure lD (P:Program) (w:World) (K:A6) (mg:sF) (base:Heap) (CX:iV) (k:Nat) (f:Addr) (ps:sI) (dvs:List V) (sp:Sp) where
 fd:FuncData
 ok:bu P w K mg base CX k f fd ps sp
 b:Binds K fd ps []
 bd:∃ds,Binds K fd ps ds/\aO dvs ds
structure nG (K:A6) (C:Addr) (m:Str) (f:Addr):Prop where
 sp:PySem.W.specialIn K (.ref C) "__getattribute__" =some (some (.builtin "type.__getattribute__"))
 rd:PySem.W.readsIn K C (.type "type")=true
 fc:PySem.W.findCls K (.ref C) (.type "type") m=some (.val (.ref f))
 kp:BH K (.ref f)=true
section
variable {X:Cx} {k j:Nat} {f C:Addr} {ps:sI} {sp:Sp} {dvs:List V} {x m:Str} {p pos apos:Pos} {e o:Expr} {es:List Expr} {ta tb:TE} {t:TA}
theorem nH (M:Mk X.K C f) (D:lD X.prog X.w X.K X.mg X.base bP k f ps dvs sp) (hr:bF j X.A) (hk:k+1<=j) (hg:Gl X x) (hm:X.mg x=some (.ref C)) (ha:PA X (e::es) t) (hdb:(x==("__debug__" :Str))=false:=by decide)
  (he:starEach (e::es) X.env=(false,eval e X.env)::starEach es X.env:=by rfl) (hpl:(backTo pos (starEach es X.env)).any (·.1)=false:=by rfl):PE X (.Call (.Name x p) (e::es) [] pos) (kv C sp [] E0 t):=
 iX M D.ok (hr.mono hk) hg hm D.b .nil iY ha hdb he hpl
theorem fQ (M:Mk X.K C f) (D:lD X.prog X.w X.K X.mg X.base bP k f ps dvs sp) (hr:bF j X.A) (hk:k+1<=j) (hg:Gl X x) (hm:X.mg x=some (.ref C)) (ha:PA X (e::es) t) (hdb:(x==("__debug__" :Str))=false:=by decide)
  (he:starEach (e::es) X.env=(false,eval e X.env)::starEach es X.env:=by rfl) (hpl:(backTo pos (starEach es X.env)).any (·.1)=false:=by rfl):PE X (.Call (.Name x p) (e::es) [] pos) (kv C sp dvs E0 t):=by
 obtain ⟨ds,hb,hv⟩:=D.bd;exact iX M D.ok (hr.mono hk) hg hm hb hv iY ha hdb he hpl
theorem oT {pl:Sem Bool} (M:nG X.K C m f) (D:lD X.prog X.w X.K X.mg X.base bP k f ps dvs sp) (hr:bF j X.A) (hk:k<=j) (hg:Gl X x) (hm:X.mg x=some (.ref C)) (ha:PA X (e::es) t) (hdb:(x==("__debug__" :Str))=false:=by decide)
  (hst:starEach (e::es) X.env=(false,eval e X.env)::starEach es X.env:=by rfl) (hpl:(backTo pos (starEach es X.env)).any (·.1)=false:=by rfl)
  (ht:eval (.Call (.Attribute (.Name x p) m apos) (e::es) [] pos) X.env=(do
   let ov<-eval (.Name x p) X.env
   standAt apos.atName
   let (f,first)<-holding [ov] (getMethod ov m pl)
   callWith pos f first (backTo pos (starEach (e::es) X.env)) (backToKw pos (keywordEach [] X.env))):=by rfl):
  PE X (.Call (.Attribute (.Name x p) m apos) (e::es) [] pos) (iW sp [] E0 t):=by
 intro pins s σ H Q I h;refine PySem.W.methodCall_KW (pl:=pl) (fH I hg hm ?_ hdb) ht;refine PySem.W.method_cls I.kIn M.sp (PySem.W.cls_value I.kIn M.rd M.fc rfl ?_);have I1:=I.tok (s.toks+1);refine PySem.W.callWith_K (first:= []) (h₀:=X.base) I.ok.mod.kin M.kp (bE (ha pos pins _ σ H _ I1 h) fun us s2 ⟨vs,H2,I2,r,q2⟩=>⟨I2.kIn,?_⟩) hst hpl
 exact ky D.ok (hr.mono hk) D.b .nil iY I2 r q2
end
end Sw
namespace L2
open PySem PySem.Spec PyProof.Rows
open XH
def eh (x:Str) (lo hi:Option Int):Str:=⟨((x.cps.toList.drop (HT.cF x.length 0 lo)).take (HT.cF x.length x.length hi-HT.cF x.length 0 lo)).toArray⟩
theorem oU (lo hi:Option Int) (n:Nat):Builtin.Str.strSliceIndices lo hi 1 n=(Ai (HT.cF n n hi-HT.cF n 0 lo)).map (HT.cF n 0 lo+ ·):=by
 have h1:(match lo with|none=>(0:Int)|some i=>max 0 (min (if i<0 then i+(n:Int) else i) n))=((HT.cF n 0 lo:Nat):Int):=by
  cases lo with
  |none=>simp[HT.cF]
  |some i=>
   simp only[HT.cF]
   by_cases h:i<0
   ·simp only[h,if_true]<;>omega
   ·simp only[h,if_false]<;>omega
 have h2:(match hi with|none=>(n:Int)|some i=>max 0 (min (if i<0 then i+(n:Int) else i) n))=((HT.cF n n hi:Nat):Int):=by
  cases hi with
  |none=>simp[HT.cF]
  |some i=>
   simp only[HT.cF]
   by_cases h:i<0
   ·simp only[h,if_true]<;>omega
   ·simp only[h,if_false]<;>omega
 rw[<-sliceRange_one,<-h1,<-h2];cases lo<;>cases hi<;>rfl
theorem gz (x:Str) (l u:Option (Int×Tok)):(⟨((slicePicked x l u none).filterMap (x.cps[·]?)).toArray⟩:Str)=eh x (l.map (·.1)) (u.map (·.1)):=by
 show (⟨((Builtin.Str.strSliceIndices (l.map (·.1)) (u.map (·.1)) 1 x.length).filterMap (x.cps[·]?)).toArray⟩:Str)=_;rw[oU,pick_run]
 rfl
theorem cf (x:Str) (lo hi:Option Int):(eh x lo hi).length<=x.length:=by
 show ((x.cps.toList.drop _).take _).toArray.size<=x.cps.size;rw[AV,AK,List.length_drop];simp only[AJ];omega
theorem ir (x:Str) (l u:Option (Int×Tok)) (h:(slicePicked x l u none).length=x.length):eh x (l.map (·.1)) (u.map (·.1))=x:=by
 have h':(Builtin.Str.strSliceIndices (l.map (·.1)) (u.map (·.1)) 1 x.length).length=x.length:=h;rw[oU,A5,BB] at h';have hs:HT.cF x.length x.length (u.map (·.1))<=x.length∨x.length<HT.cF x.length x.length (u.map (·.1)):=by omega
 have hu:HT.cF x.length x.length (u.map (·.1))<=x.length:=by
  cases u with
  |none=>exact AB _
  |some p=>
   show (if p.1<0 then (p.1+(x.length:Int)).toNat else min p.1.toNat x.length)<=x.length
   by_cases hp:p.1<0
   ·rw[if_pos hp];omega
   ·rw[if_neg hp];omega
 unfold eh
 by_cases hx:x.length=0
 ·have e:x.cps.toList= []:=by
   have:x.cps.toList.length=0:=by rw[AJ];exact hx
   exact Ax this
  rw[e,List.drop_nil,List.take_nil];obtain ⟨c⟩:=x;have e':c= #[]:=Bk.mp (by simpa using e)
  rw[e']
 ·have h0:HT.cF x.length 0 (l.map (·.1))=0:=by omega
  rw[h0,List.drop_zero,Aa (by rw[AJ];show x.length<=_;omega)]
theorem part_of {v:Value} {o:Option Int} (p:IsPart v o):∃l:Option (Int×Tok),partValue l=v/\l.map (·.1)=o:=by
 cases p with
 |none=>exact ⟨none,rfl,rfl⟩
 |int i t=>exact ⟨some (i,t),rfl,rfl⟩
theorem cW {X:Cx}:qf X (fun x lo hi H Q=>∃z,x= .str z/\z.length<=sizeLine/\Q (.str (eh z lo hi)) H):=by
 intro pins s σ H x v vl vu lo hi sl Q I rx hs pl pu h;obtain ⟨z,rfl,hz,q⟩:=h;obtain ⟨t,rfl⟩:=rx;obtain ⟨l,rfl,rfl⟩:=part_of pl;obtain ⟨u,rfl,rfl⟩:=part_of pu;refine ⟨"str",_,slot_str_getitem.lookup,typeIs_str s z t,?_⟩;refine wpAny_getItem_str_slice (l:=l) (u:=u) (st:=none) hs rfl ?_;unfold sliceMade
 by_cases hw:(slicePicked z l u none).length=z.length
 ·rw[if_pos (by simp[hw])]
  refine ⟨.str (eh z (l.map (·.1)) (u.map (·.1))),H,I,⟨t,by rw[ir z l u hw]⟩,q⟩
 ·rw[if_neg (by simp[hw])]
  rw[gz];exact ⟨Az (cf _ _ _) hz,.str (eh z (l.map (·.1)) (u.map (·.1))),H,I.tok _,⟨_,rfl⟩,q⟩
end L2
namespace Sw
open PySem PySem.NumText
end Sw
namespace L2
open PySem PySem.Spec PyProof.Rows XH
end L2
namespace So
open PySem PyProof.Rows
def c9:Bool->Keyed->Array Keyed->Nat->Nat->Nat->StateT SortSt Sem (Option Nat):=sortPriv% PySem.Builtin.gallop
def gA:Array Keyed->Array Keyed->StateT SortSt Sem (Array Keyed):=sortPriv% PySem.Builtin.mergeLo
def gB:Array Keyed->Array Keyed->StateT SortSt Sem (Array Keyed):=sortPriv% PySem.Builtin.mergeHi
def kk (κ:KeyKind) (p:Keyed):κ.α:=(κ.keyOf p.1).getD κ.dflt
def Kd (κ:KeyKind) (p:Keyed):Prop:=∃a,κ.keyOf p.1=some a
def fR (prog:Program) (w:World) (A:Around) (E:sE) (s:Shared) (κ:KeyKind) (kd:SortKind):Prop:=∀(st:SortSt) (x y:Keyed) (Q:Option Bool->SortSt->Prop),kindOf st=kd->Kd κ x->Kd κ y->Q (some (κ.blt (kk κ x) (kk κ y))) st->wpS (model prog w) A E s (lt' x y) Q st
section
variable {prog:Program} {w:World} {A:Around} {E:sE} {s:Shared} {κ:KeyKind} {kd:SortKind}
theorem b6 {α β:Type} {st:SortSt} {x:StateT SortSt Sem α} {f:α->StateT SortSt Sem β} {Q:β->SortSt->Prop} (h:wpS (model prog w) A E s (x>>=f) Q st):wpS (model prog w) A E s (x>>=f) Q st:=h
theorem dv (hO:fR prog w A E s κ kd) {st:SortSt} {x y:Keyed} {Q:Option Bool->SortSt->Prop} (hk:kindOf st=kd) (hx:Kd κ x) (hy:Kd κ y) (h:Q (some (κ.blt (kk κ x) (kk κ y))) st):wpS (model prog w) A E s (lt' x y) Q st:=hO st x y Q hk hx hy h
theorem au {st:SortSt} {arr:Array Keyed} {i:Nat} {p:Keyed} {Q:Keyed->SortSt->Prop} (e:arr[i]?=some p) (h:Q p st):wpS (model prog w) A E s (elem' arr i) Q st:=by
 rw[elem'_eq,e];exact wpS_pure h
def bq (κ:KeyKind) (left:Bool) (key x:Keyed):Bool:=if left=true then κ.blt (kk κ x) (kk κ key) else !κ.blt (kk κ key) (kk κ x)
theorem iu (hO:fR prog w A E s κ kd) {st:SortSt} {arr:Array Keyed} {i:Nat} {left:Bool} {key x:Keyed} {Q:Option Bool->SortSt->Prop} (hk:kindOf st=kd) (e:arr[i]?=some x) (hx:Kd κ x) (hy:Kd κ key) (h:Q (some (bq κ left key x)) st):
  wpS (model prog w) A E s (elem' arr i>>=fun x=>if left=true then lt' x key else lt' key x>>=fun r=>pure (Option.map (fun x=> !x) r)) Q st:=by
 refine wpS_bind (au e ?_);cases left with
 |true=>
  rw[if_pos rfl];exact dv hO hk hx hy h
 |false=>
  rw[if_neg (by decide)]
  exact wpS_bind (dv hO hk hy hx (wpS_pure h))
theorem cX (hO:fR prog w A E s κ kd) {st:SortSt} {left:Bool} {key:Keyed} {arr:Array Keyed} {base n hint:Nat} {Q:Option Nat->SortSt->Prop} (hk:kindOf st=kd) (hy:Kd κ key) (f:Nat->Bool)
  (seg:∀i,i<n->∃x,arr[base+i]?=some x/\Kd κ x/\bq κ left key x=f i) (anti:∀i j,i<=j->j<n->f j=true->f i=true) (hh:hint<n)
  (h:∀k,k<=n->(∀i,i<k->f i=true)->(∀i,k<=i->i<n->f i=false)->Q (some k) st):wpS (model prog w) A E s (c9 left key arr base n hint) Q st:=by
 have bey:∀{i:Nat} {Q:Option Bool->SortSt->Prop},i<n->Q (some (f i)) st->wpS (model prog w) A E s (elem' arr (base+i)>>=fun x=>if left=true then lt' x key else lt' key x>>=fun r=>pure (Option.map (fun x=> !x) r)) Q st:=fun {i Q} hi hq=>by
  obtain ⟨x,e,hx,hf⟩:=seg i hi;exact iu hO hk e hx hy (by rw[hf];exact hq)
 have anti':∀i j,i<=j->j<n->f i=false->f j=false:=fun i j hij hj hf=>by
  cases hc:f j with
  |false=>rfl
  |true=>rw[anti i j hij hj hc] at hf;cases hf
 unfold c9;refine b6 ?_;dsimp only;refine wpS_bind (bey hh ?_);dsimp only;cases hf:f hint with
 |true=>
  rw[if_pos rfl];refine wpS_bind (wpS_mono (wpS_forRange (I:=fun x c st'=>st'=st/\∃l o,c=(none,l,o)/\hint+l<n/\f (hint+l)=true/\l<o/\x+1<=o)
   (Q:=fun c st'=>st'=st/\∃l o,c=(none,l,o)/\hint+l<n/\f (hint+l)=true/\l<o/\(n-hint<=o∨f (hint+o)=false)) ?s1 ?e1 ⟨rfl,0,1,rfl,hh,hf,by omega,by omega⟩) ?p1)
  case e1=>
   rintro c st' ⟨rfl,l,o,rfl,h1,h2,h3,h4⟩;exact ⟨rfl,l,o,rfl,h1,h2,h3,.inl (by omega)⟩
  case s1=>
   rintro x c st' _ hx ⟨rfl,l,o,rfl,h1,h2,h3,h4⟩;dsimp only
   by_cases c:o≥n-hint
   ·rw[if_pos c];exact wpS_pure ⟨rfl,l,o,rfl,h1,h2,h3,.inl c⟩
   ·rw[if_neg c];refine wpS_bind (bey (by omega) ?_)
    dsimp only;cases hg:f (hint+o) with
    |true=>exact wpS_pure ⟨rfl,o,2*o+1,rfl,by omega,hg,by omega,by omega⟩
    |false=>exact wpS_pure ⟨rfl,l,o,rfl,h1,h2,h3,.inr hg⟩
  case p1=>
   rintro c st' ⟨rfl,l,o,rfl,h1,h2,h3,h4⟩;dsimp only;refine wpS_bind (wpS_mono (wpS_forRange (I:=fun x c st''=>st''=st'/\∃l o,c=(none,l,o)/\l<=o/\o<=n/\(∀i,i<l->f i=true)/\(∀i,o<=i->i<n->f i=false)/\o-l+x<=n)
    (Q:=fun c st''=>st''=st'/\∃k,c=(none,k,k)/\k<=n/\(∀i,i<k->f i=true)/\(∀i,k<=i->i<n->f i=false)) ?s2 ?e2 ⟨rfl,_,_,rfl,by omega,by omega,fun i hi=>anti i (hint+l) (by omega) h1 h2,fun i hi hn=>?q2,by omega⟩) ?p2)
   case q2=>
    rcases h4 with h4|h4
    ·omega
    ·exact anti' (hint+o) i (by omega) hn h4
   case e2=>
    rintro c st'' ⟨rfl,l,o,rfl,g1,g2,g3,g4,g5⟩;have:l=o:=by omega
    subst this;exact ⟨rfl,l,rfl,g2,g3,g4⟩
   case s2=>
    rintro x c st'' _ hx ⟨rfl,l,o,rfl,g1,g2,g3,g4,g5⟩;dsimp only
    by_cases c:l≥o
    ·rw[if_pos c];have:l=o:=by omega
     subst this;exact wpS_pure ⟨rfl,l,rfl,g2,g3,g4⟩
    ·rw[if_neg c];refine wpS_bind (bey (by omega) ?_)
     dsimp only;cases hg:f (l+(o-l)/2) with
     |true=>exact wpS_pure ⟨rfl,_,_,rfl,by omega,g2,fun i hi=>anti i _ (by omega) (by omega) hg,g4,by omega⟩
     |false=>exact wpS_pure ⟨rfl,_,_,rfl,by omega,by omega,g3,fun i hi hn=>anti' _ i (by omega) hn hg,by omega⟩
   case p2=>
    rintro c st'' ⟨rfl,k,rfl,g1,g2,g3⟩;exact wpS_pure (h k g1 g2 g3)
 |false=>
  rw[if_neg (by decide)]
  refine wpS_bind (wpS_mono (wpS_forRange (I:=fun x c st'=>st'=st/\∃l o,c=(none,l,o)/\l<=hint/\f (hint-l)=false/\l<o/\x+1<=o)
   (Q:=fun c st'=>st'=st/\∃l o,c=(none,l,o)/\l<=hint/\f (hint-l)=false/\l<o/\(hint+1<=o∨f (hint-o)=true)) ?us1 ?ue1 ⟨rfl,0,1,rfl,by omega,hf,by omega,by omega⟩) ?up1)
  case ue1=>
   rintro c st' ⟨rfl,l,o,rfl,h1,h2,h3,h4⟩;exact ⟨rfl,l,o,rfl,h1,h2,h3,.inl (by omega)⟩
  case us1=>
   rintro x c st' _ hx ⟨rfl,l,o,rfl,h1,h2,h3,h4⟩;dsimp only
   by_cases c:o≥hint+1
   ·rw[if_pos c];exact wpS_pure ⟨rfl,l,o,rfl,h1,h2,h3,.inl c⟩
   ·rw[if_neg c];refine wpS_bind (bey (by omega) ?_)
    dsimp only;cases hg:f (hint-o) with
    |false=>exact wpS_pure ⟨rfl,o,2*o+1,rfl,by omega,hg,by omega,by omega⟩
    |true=>exact wpS_pure ⟨rfl,l,o,rfl,h1,h2,h3,.inr hg⟩
  case up1=>
   rintro c st' ⟨rfl,l,o,rfl,h1,h2,h3,h4⟩;dsimp only;refine wpS_bind (wpS_mono (wpS_forRange (I:=fun x c st''=>st''=st'/\∃l o,c=(none,l,o)/\l<=o/\o<=n/\(∀i,i<l->f i=true)/\(∀i,o<=i->i<n->f i=false)/\o-l+x<=n)
    (Q:=fun c st''=>st''=st'/\∃k,c=(none,k,k)/\k<=n/\(∀i,i<k->f i=true)/\(∀i,k<=i->i<n->f i=false)) ?us2 ?ue2 ⟨rfl,_,_,rfl,by omega,by omega,fun i hi=>?uq2,fun i hi hn=>anti' _ i hi hn h2,by omega⟩) ?up2)
   case uq2=>
    rcases h4 with h4|h4
    ·omega
    ·exact anti i (hint-o) (by omega) (by omega) h4
   case ue2=>
    rintro c st'' ⟨rfl,l,o,rfl,g1,g2,g3,g4,g5⟩;have:l=o:=by omega
    subst this;exact ⟨rfl,l,rfl,g2,g3,g4⟩
   case us2=>
    rintro x c st'' _ hx ⟨rfl,l,o,rfl,g1,g2,g3,g4,g5⟩;dsimp only
    by_cases c:l≥o
    ·rw[if_pos c];have:l=o:=by omega
     subst this;exact wpS_pure ⟨rfl,l,rfl,g2,g3,g4⟩
    ·rw[if_neg c];refine wpS_bind (bey (by omega) ?_)
     dsimp only;cases hg:f (l+(o-l)/2) with
     |true=>exact wpS_pure ⟨rfl,_,_,rfl,by omega,g2,fun i hi=>anti i _ (by omega) (by omega) hg,g4,by omega⟩
     |false=>exact wpS_pure ⟨rfl,_,_,rfl,by omega,by omega,g3,fun i hi hn=>anti' _ i (by omega) hn hg,by omega⟩
   case up2=>
    rintro c st'' ⟨rfl,k,rfl,g1,g2,g3⟩;exact wpS_pure (h k g1 g2 g3)
end
def setG (st:SortSt) (g:Nat):SortSt:=SortSt.mk' (kindOf st) (arrOf st) (pendingOf st) g (failedOf st)
def eW:Nat->StateT SortSt Sem Unit:=sortPriv% PySem.Builtin.setMinGallop
def iv (st st':SortSt):Prop:=kindOf st'=kindOf st/\arrOf st'=arrOf st/\pendingOf st'=pendingOf st/\failedOf st'=failedOf st
theorem iv.refl (st:SortSt):iv st st:=⟨rfl,rfl,rfl,rfl⟩
theorem iv.set {st st':SortSt} (h:iv st st') (g:Nat):iv st (setG st' g):=⟨h.1,h.2.1,h.2.2.1,h.2.2.2⟩
def Lq (κ:KeyKind) (p q:Keyed):Prop:=κ.kle (kk κ p) (kk κ q)
section
variable {κ:KeyKind} {kd:SortKind} {a b out:Array Keyed} {ia ib:Nat}
structure Mg (κ:KeyKind) (a b out:Array Keyed) (ia ib:Nat):Prop where
 perm:(out.toList++(a.toList.drop ia++b.toList.drop ib)).Perm (a.toList++b.toList)
 srt:out.toList.Pairwise (Lq κ)
 lea:∀x∈out.toList,∀y∈a.toList.drop ia,Lq κ x y
 leb:∀x∈out.toList,∀y∈b.toList.drop ib,Lq κ x y
def dw (κ:KeyKind) (a b r:Array Keyed):Prop:=r.toList.Perm (a.toList++b.toList)/\r.toList.Pairwise (Lq κ)
theorem Mg.pushB (h:Mg κ a b out ia ib) (sb:b.toList.Pairwise (Lq κ)) {y:Keyed} (e:b[ib]?=some y) (hy:∀z∈a.toList.drop ia,Lq κ y z):Mg κ a b (out.push y) ia (ib+1):=by
 have e':b.toList[ib]?=some y:=by simpa using e
 have dr:b.toList.drop ib=y::b.toList.drop (ib+1):=by
  obtain ⟨l,g⟩:=A4.mp e';rw[B6 l,g]
 have sb':(y::b.toList.drop (ib+1)).Pairwise (Lq κ):=by rw[<-dr];exact sb.drop
 have sb2:=B8.mp sb';have lb:=h.leb;have pm:=h.perm;rw[dr] at lb pm;refine ⟨?_,?_,?_,?_⟩
 ·rw[BM,AI];refine Bl.trans (Ah _ ?_) pm;show (y::(List.drop ia a.toList++List.drop (ib+1) b.toList)).Perm _;exact (List.perm_middle).symm
 ·rw[BM,A8];refine ⟨h.srt,by simp,fun x hx z hz=>?_⟩
  simp at hz;rw[hz];exact lb x hx y (by simp)
 ·intro x hx z hz;rw[BM] at hx;rcases AE.mp hx with k|k
  ·exact h.lea x k z hz
  ·simp at k;rw[k];exact hy z hz
 ·intro x hx z hz;rw[BM] at hx;rcases AE.mp hx with k|k
  ·exact lb x k z (by simp[hz])
  ·simp at k;rw[k];exact sb2.1 z hz
theorem Mg.runA (h:Mg κ a b out ia ib) (sa:a.toList.Pairwise (Lq κ)) {k:Nat} (hy:∀x∈(a.toList.drop ia).take k,∀z∈b.toList.drop ib,Lq κ x z):Mg κ a b (out++a.extract ia (ia+k)) (ia+k) ib:=by
 have ex:(a.extract ia (ia+k)).toList=(a.toList.drop ia).take k:=by
  rw[AU,AX,BD]
 have dr:a.toList.drop ia=(a.toList.drop ia).take k++a.toList.drop (ia+k):=by
  rw[<-List.drop_drop,AL]
 have sa':((a.toList.drop ia).take k++a.toList.drop (ia+k)).Pairwise (Lq κ):=by rw[<-dr];exact sa.drop
 have sa2:=A8.mp sa';have la:=h.lea;have pm:=h.perm;rw[dr] at la pm;refine ⟨?_,?_,?_,?_⟩
 ·rw[AD,ex]
  simpa [AI] using pm
 ·rw[AD,ex,A8];exact ⟨h.srt,sa2.1,fun x hx z hz=>la x hx z (by simp[hz])⟩
 ·intro x hx z hz;rw[AD,ex] at hx;rcases AE.mp hx with k|k
  ·exact la x k z (by simp[hz])
  ·exact sa2.2.2 x k z hz
 ·intro x hx z hz;rw[AD,ex] at hx;rcases AE.mp hx with k|k
  ·exact h.leb x k z hz
  ·exact hy x k z hz
theorem Mg.pushA (h:Mg κ a b out ia ib) (sa:a.toList.Pairwise (Lq κ)) {x:Keyed} (e:a[ia]?=some x) (hy:∀z∈b.toList.drop ib,Lq κ x z):Mg κ a b (out.push x) (ia+1) ib:=by
 have e':a.toList[ia]?=some x:=by simpa using e
 have dr:a.toList.drop ia=x::a.toList.drop (ia+1):=by
  obtain ⟨l,g⟩:=A4.mp e';rw[B6 l,g]
 have q:=h.runA sa (k:=1) (by
  rw[dr];intro u hu;simp at hu;rw[hu];exact hy)
 have ex:out++a.extract ia (ia+1)=out.push x:=by
  apply Bk.mp;rw[AD,BM,AU,AX,BD,dr]
  rfl
 rw[ex] at q;exact q
theorem Mg.runB (h:Mg κ a b out ia ib) (sb:b.toList.Pairwise (Lq κ)) {k:Nat} (hy:∀x∈(b.toList.drop ib).take k,∀z∈a.toList.drop ia,Lq κ x z):Mg κ a b (out++b.extract ib (ib+k)) ia (ib+k):=by
 have ex:(b.extract ib (ib+k)).toList=(b.toList.drop ib).take k:=by
  rw[AU,AX,BD]
 have dr:b.toList.drop ib=(b.toList.drop ib).take k++b.toList.drop (ib+k):=by
  rw[<-List.drop_drop,AL]
 have sb':((b.toList.drop ib).take k++b.toList.drop (ib+k)).Pairwise (Lq κ):=by rw[<-dr];exact sb.drop
 have sb2:=A8.mp sb';have lb:=h.leb;have pm:=h.perm;rw[dr] at lb pm;refine ⟨?_,?_,?_,?_⟩
 ·rw[AD,ex];refine Bl.trans ?_ pm;rw[AI];refine Ah _ ?_;rw[<-AI,<-AI];exact Au _ List.perm_append_comm
 ·rw[AD,ex,A8];exact ⟨h.srt,sb2.1,fun x hx z hz=>lb x hx z (by simp[hz])⟩
 ·intro x hx z hz;rw[AD,ex] at hx;rcases AE.mp hx with k|k
  ·exact h.lea x k z hz
  ·exact hy x k z hz
 ·intro x hx z hz;rw[AD,ex] at hx;rcases AE.mp hx with k|k
  ·exact lb x k z (by simp[hz])
  ·exact sb2.2.2 x k z hz
theorem Mg.done (h:Mg κ a b out ia ib) (sa:a.toList.Pairwise (Lq κ)) (sb:b.toList.Pairwise (Lq κ)) (c:a.size<=ia∨b.size<=ib):dw κ a b (out++a.extract ia++b.extract ib):=by
 have xa:(a.extract ia).toList=a.toList.drop ia:=by
  rw[AU,AX,Aa (by simp)]
 have xb:(b.extract ib).toList=b.toList.drop ib:=by
  rw[AU,AX,Aa (by simp)]
 refine ⟨?_,?_⟩
 ·rw[AD,AD,xa,xb,AI];exact h.perm
 ·rw[AD,AD,xa,xb,AI,A8,A8];refine ⟨h.srt,⟨sa.drop,sb.drop,fun x hx z hz=>?_⟩,fun x hx z hz=>?_⟩
  ·rcases c with c|c
   ·rw[List.drop_of_length_le (by simpa using c)] at hx
    simp at hx
   ·rw[List.drop_of_length_le (by simpa using c)] at hz
    simp at hz
  ·rcases AE.mp hz with k|k
   ·exact h.lea x hx z k
   ·exact h.leb x hx z k
theorem Mg.lastA (h:Mg κ a b out ia ib) (sa:a.toList.Pairwise (Lq κ)) (sb:b.toList.Pairwise (Lq κ)) (hl:∀y∈b.toList,∀x∈a.toList.drop (a.size-1),Lq κ y x) (c:ia+1=a.size):dw κ a b (out++b.extract ib++a.extract ia):=by
 have xa:(a.extract ia).toList=a.toList.drop ia:=by
  rw[AU,AX,Aa (by simp)]
 have xb:(b.extract ib).toList=b.toList.drop ib:=by
  rw[AU,AX,Aa (by simp)]
 have ca:a.size-1=ia:=by omega
 rw[ca] at hl;refine ⟨?_,?_⟩
 ·rw[AD,AD,xa,xb,AI];exact Bl.trans (Ah _ List.perm_append_comm) h.perm
 ·rw[AD,AD,xa,xb,AI,A8,A8];refine ⟨h.srt,⟨sb.drop,sa.drop,fun x hx z hz=>hl x (List.mem_of_mem_drop hx) z hz⟩,fun x hx z hz=>?_⟩
  rcases AE.mp hz with k|k
  ·exact h.leb x hx z k
  ·exact h.lea x hx z k
theorem bo {xs:Array Keyed} (sx:xs.toList.Pairwise (Lq κ)) {i:Nat} {x y:Keyed} (e:xs[i]?=some x) (h:Lq κ y x):∀z∈xs.toList.drop i,Lq κ y z:=by
 have e':xs.toList[i]?=some x:=by simpa using e
 have dr:xs.toList.drop i=x::xs.toList.drop (i+1):=by
  obtain ⟨l,g⟩:=A4.mp e';rw[B6 l,g]
 have sx':(x::xs.toList.drop (i+1)).Pairwise (Lq κ):=by rw[<-dr];exact sx.drop
 have sx2:=B8.mp sx';intro z hz;rw[dr] at hz;rcases AT.mp hz with k|k
 ·rw[k];exact h
 ·exact KeyOrd.kle_trans h (sx2.1 z k)
theorem iw {xs:Array Keyed} (sx:xs.toList.Pairwise (Lq κ)) {i j:Nat} {x y:Keyed} (hij:i<=j) (e1:xs[i]?=some x) (e2:xs[j]?=some y):Lq κ x y:=by
 refine bo sx e1 (KeyOrd.kle_refl _) y ?_;have e':xs.toList[j]?=some y:=by simpa using e2
 have:(xs.toList.drop i)[j-i]?=some y:=by
  rw[BJ,<-e']
  congr 1
  omega
 exact AH this
end
section
variable {prog:Program} {w:World} {A:Around} {E:sE} {s:Shared} {κ:KeyKind} {kd:SortKind}
theorem df {st:SortSt} {g:Nat} {Q:Unit->SortSt->Prop} (h:Q () (setG st g)):wpS (model prog w) A E s (eW g) Q st:=wpS_modify (f:=fun st=>setG st g) h
theorem cu {st:SortSt} {r:String} {Q:Unit->SortSt->Prop} (h:Q () st):wpS (model prog w) A E s (liftM (rule r):StateT SortSt Sem Unit) Q st:=wpS_lift (wpAny_rule ⟨rfl,h⟩)
theorem dL (hO:fR prog w A E s κ kd) {st:SortSt} {key:Keyed} {arr:Array Keyed} {base hint n:Nat} {Q:Option Nat->SortSt->Prop} (hk:kindOf st=kd) (hy:Kd κ key) (ka:∀x∈arr.toList,Kd κ x) (sa:arr.toList.Pairwise (Lq κ)) (hn:base+n<=arr.size) (hh:hint<n)
  (h:∀k,k<=n->(∀i x,i<k->arr[base+i]?=some x->Lq κ x key)->(∀i x,k<=i->i<n->arr[base+i]?=some x->Lq κ key x)->Q (some k) st):wpS (model prog w) A E s (c9 false key arr base n hint) Q st:=by
 have get:∀i,i<n->∃x,arr[base+i]?=some x/\Kd κ x:=fun i hi=>by
  have l:base+i<arr.size:=by omega
  exact ⟨arr[base+i],AC l,ka _ (by simp)⟩
 refine cX hO hk hy (fun i=>match arr[base+i]? with|some x=>bq κ false key x|none=>false) (fun i hi=>?_) (fun i j hij hj hf=>?_) hh (fun k hk h1 h2=>h k hk (fun i x hi e=>?_) (fun i x hi hn e=>?_))
 ·obtain ⟨x,e,kx⟩:=get i hi;exact ⟨x,e,kx,by rw[e]⟩
 ·obtain ⟨x,e,_⟩:=get i (by omega)
  obtain ⟨y,e2,_⟩:=get j hj;try dsimp only at hf⊢
  rw[e];rw[e2] at hf;have l:=iw sa (show base+i<=base+j by omega) e e2
  have hf':(!κ.blt (kk κ key) (kk κ y))=true:=hf;show (!κ.blt (kk κ key) (kk κ x))=true;have f1:κ.blt (kk κ key) (kk κ y)=false:=by simpa using hf'
  have f2:κ.blt (kk κ key) (kk κ x)=false:=KeyOrd.kle_trans l f1;rw[f2]
  rfl
 ·have q:=h1 i hi;try dsimp only at q
  rw[e] at q;have q':(!κ.blt (kk κ key) (kk κ x))=true:=q;show κ.blt (kk κ key) (kk κ x)=false
  simpa using q'
 ·have q:=h2 i hi hn;try dsimp only at q
  rw[e] at q;have q':(!κ.blt (kk κ key) (kk κ x))=false:=q;exact KeyOrd.kle_of_klt (show κ.blt (kk κ key) (kk κ x)=true by simpa using q')
theorem ci (hO:fR prog w A E s κ kd) {st:SortSt} {key:Keyed} {arr:Array Keyed} {base hint n:Nat} {Q:Option Nat->SortSt->Prop} (hk:kindOf st=kd) (hy:Kd κ key) (ka:∀x∈arr.toList,Kd κ x) (sa:arr.toList.Pairwise (Lq κ)) (hn:base+n<=arr.size) (hh:hint<n)
  (h:∀k,k<=n->(∀i x,i<k->arr[base+i]?=some x->Lq κ x key)->(∀i x,k<=i->i<n->arr[base+i]?=some x->Lq κ key x)->Q (some k) st):wpS (model prog w) A E s (c9 true key arr base n hint) Q st:=by
 have get:∀i,i<n->∃x,arr[base+i]?=some x/\Kd κ x:=fun i hi=>by
  have l:base+i<arr.size:=by omega
  exact ⟨arr[base+i],AC l,ka _ (by simp)⟩
 refine cX hO hk hy (fun i=>match arr[base+i]? with|some x=>bq κ true key x|none=>false) (fun i hi=>?_) (fun i j hij hj hf=>?_) hh (fun k hk h1 h2=>h k hk (fun i x hi e=>?_) (fun i x hi hn e=>?_))
 ·obtain ⟨x,e,kx⟩:=get i hi;exact ⟨x,e,kx,by rw[e]⟩
 ·obtain ⟨x,e,_⟩:=get i (by omega)
  obtain ⟨y,e2,_⟩:=get j hj;try dsimp only at hf⊢
  rw[e];rw[e2] at hf;have l:=iw sa (show base+i<=base+j by omega) e e2
  exact KeyOrd.klt_of_kle_of_klt l hf
 ·have q:=h1 i hi;try dsimp only at q
  rw[e] at q;exact KeyOrd.kle_of_klt q
 ·have q:=h2 i hi hn;try dsimp only at q
  rw[e] at q;exact q
theorem fS {xs:Array Keyed} {key:Keyed} {base k:Nat} (h:∀i x,i<k->xs[base+i]?=some x->Lq κ x key):∀x∈(xs.toList.drop base).take k,Lq κ x key:=fun x hx=>by
 obtain ⟨i,hi⟩:=Ak.mp hx;have il:i<k:=by
  have:=(A4.mp hi).1;rw[AK] at this;omega
 rw[Ar il,BJ] at hi;exact h i x il (by simpa using hi)
structure Go (κ:KeyKind) (a b:Array Keyed) (m:Nat) (out:Array Keyed) (ia ib:Nat):Prop where
 mg:Mg κ a b out ia ib
 la:ia+1<a.size
 lb:ib<b.size
 far:m<=ia+ib
theorem gC (hO:fR prog w A E s κ kd) {st:SortSt} {a b:Array Keyed} {Q:Array Keyed->SortSt->Prop} (hk:kindOf st=kd) (ka:∀x∈a.toList,Kd κ x) (kb:∀x∈b.toList,Kd κ x)
  (sa:a.toList.Pairwise (Lq κ)) (sb:b.toList.Pairwise (Lq κ)) (na:0<a.size) (nb:0<b.size) (h0:∀x y,a[0]?=some x->b[0]?=some y->Lq κ y x) (hl:∀y∈b.toList,∀x∈a.toList.drop (a.size-1),Lq κ y x)
  (h:∀r st',dw κ a b r->iv st st'->Q r st'):wpS (model prog w) A E s (gA a b) Q st:=by
 have getA:∀{i:Nat},i<a.size->∃x,a[i]?=some x/\Kd κ x:=fun {i} hi=>⟨a[i],AC hi,ka _ (by simp)⟩
 have getB:∀{i:Nat},i<b.size->∃x,b[i]?=some x/\Kd κ x:=fun {i} hi=>⟨b[i],AC hi,kb _ (by simp)⟩
 obtain ⟨x0,ex0,kx0⟩:=getA na;obtain ⟨y0,ey0,ky0⟩:=getB nb;have M0:Mg κ a b #[] 0 0:=⟨by simp,by simp,by simp,by simp⟩
 have M1:Mg κ a b #[y0] 0 1:=M0.pushB sb ey0 (bo sa ex0 (h0 _ _ ex0 ey0));unfold gA;refine b6 ?_;try dsimp only
 refine wpS_bind (cu (wpS_bind (au ey0 ?_)))
 by_cases c1:1=b.size
 ·rw[if_pos (beq_iff_eq.mpr c1)];exact wpS_pure (h _ _ (M1.done sa sb (.inr (by omega))) (.refl _))
 rw[if_neg (fun z=>c1 (beq_iff_eq.mp z))]
 by_cases c2:0+1=a.size
 ·rw[if_pos (beq_iff_eq.mpr c2)];exact wpS_pure (h _ _ (M1.lastA sa sb hl (by omega)) (.refl _))
 rw[if_neg (fun z=>c2 (beq_iff_eq.mp z))]
 refine wpS_bind (wpS_get ?_);try dsimp only
 refine wpS_bind (wpS_mono (wpS_forRange
  (I:=fun x c st'=>iv st st'/\∃out ia ib g,c=(none,out,ia,ib,g)/\Go κ a b (x+1) out ia ib)
  (Q:=fun c st'=>iv st st'/\∃r q,c=(some r,q)/\dw κ a b r) ?s1 ?e1 ⟨.refl _,_,_,_,_,rfl,⟨M1,by omega,by omega,by omega⟩⟩) ?p1)
 case e1=>
  rintro c st' ⟨ge,out,ia,ib,g,rfl,go⟩;have:=go.la;have:=go.lb;have:=go.far;omega
 case p1=>
  rintro c st' ⟨ge,r,q,rfl,f⟩;exact wpS_pure (h _ _ f ge)
 case s1=>
  rintro x c st1 _ hx ⟨ge,out,ia,ib,g,rfl,go⟩;have hk1:kindOf st1=kd:=ge.1.trans hk;try dsimp only
  refine wpS_bind (wpS_mono (wpS_forRange
   (I:=fun x' c st'=>st'=st1/\∃out ia ib ac bc,c=(none,out,ia,ib,ac,bc)/\Go κ a b (x+1+x') out ia ib)
   (Q:=fun c st'=>st'=st1/\((∃r q,c=(some r,q)/\dw κ a b r)∨∃out ia ib ac bc,c=(none,out,ia,ib,ac,bc)/\Go κ a b (x+1+1) out ia ib)) ?s2 ?e2 ⟨rfl,_,_,_,_,_,rfl,go⟩) ?p2)
  case e2=>
   rintro c st' ⟨_,out,ia,ib,ac,bc,rfl,go⟩;have:=go.la;have:=go.lb;have:=go.far;omega
  case s2=>
   rintro x' c st' _ hx' ⟨rfl,out,ia,ib,ac,bc,rfl,go⟩;have l1:=go.la;have l2:=go.lb;have l3:=go.far;obtain ⟨xa,exa,kxa⟩:=getA (show ia<a.size by omega)
   obtain ⟨yb,eyb,kyb⟩:=getB l2;try dsimp only
   refine wpS_bind (au eyb (wpS_bind (au exa (wpS_bind (dv hO hk1 kyb kxa ?_)))));try dsimp only
   cases cc:κ.blt (kk κ yb) (kk κ xa) with
   |true=>
    rw[if_pos rfl];have M2:=go.mg.pushB sb eyb (bo sa exa (KeyOrd.kle_of_klt cc));refine wpS_bind (au eyb ?_)
    by_cases d1:ib+1=b.size
    ·rw[if_pos (beq_iff_eq.mpr d1)];exact wpS_pure ⟨rfl,.inl ⟨_,_,rfl,M2.done sa sb (.inr (by omega))⟩⟩
    rw[if_neg (fun z=>d1 (beq_iff_eq.mp z))]
    by_cases d2:bc+1≥g
    ·rw[if_pos d2];exact wpS_pure ⟨rfl,.inr ⟨_,_,_,_,_,rfl,⟨M2,l1,by omega,by omega⟩⟩⟩
    ·rw[if_neg d2];exact wpS_pure ⟨rfl,_,_,_,_,_,rfl,⟨M2,l1,by omega,by omega⟩⟩
   |false=>
    rw[if_neg (by decide)]
    have M2:=go.mg.pushA sa exa (bo sb eyb cc);refine wpS_bind (au exa ?_)
    by_cases d1:ia+1+1=a.size
    ·rw[if_pos (beq_iff_eq.mpr d1)];exact wpS_pure ⟨rfl,.inl ⟨_,_,rfl,M2.lastA sa sb hl d1⟩⟩
    rw[if_neg (fun z=>d1 (beq_iff_eq.mp z))]
    by_cases d2:ac+1≥g
    ·rw[if_pos d2];exact wpS_pure ⟨rfl,.inr ⟨_,_,_,_,_,rfl,⟨M2,by omega,l2,by omega⟩⟩⟩
    ·rw[if_neg d2];exact wpS_pure ⟨rfl,_,_,_,_,_,rfl,⟨M2,by omega,l2,by omega⟩⟩
  case p2=>
   rintro c st' ⟨rfl,⟨r,q,rfl,f⟩|⟨out,ia,ib,ac,bc,rfl,go⟩⟩
   ·exact wpS_pure ⟨ge,_,_,rfl,f⟩
   try dsimp only
   refine wpS_bind (cu ?_);refine wpS_bind (wpS_mono (wpS_forRange
    (I:=fun x' c st'=>iv st st'/\∃out ia ib g ac bc,c=(none,out,ia,ib,g,ac,bc)/\Go κ a b (x+1+1+x') out ia ib)
    (Q:=fun c st'=>iv st st'/\((∃r q,c=(some r,q)/\dw κ a b r)∨∃out ia ib g ac bc,c=(none,out,ia,ib,g,ac,bc)/\Go κ a b (x+1+1) out ia ib)) ?s3 ?e3 ⟨ge,_,_,_,_,_,_,rfl,go⟩) ?p3)
   case e3=>
    rintro c st' ⟨_,out,ia,ib,g,ac,bc,rfl,go⟩;have:=go.la;have:=go.lb;have:=go.far;omega
   case p3=>
    rintro c st' ⟨ge,⟨r,q,rfl,f⟩|⟨out,ia,ib,g,ac,bc,rfl,go⟩⟩
    ·exact wpS_pure ⟨ge,_,_,rfl,f⟩
    ·exact wpS_bind (df (wpS_pure ⟨ge.set _,_,_,_,_,rfl,go⟩))
   case s3=>
    rintro x' c st2 _ hx' ⟨ge2,out,ia,ib,g,ac,bc,rfl,go⟩;have l1:=go.la;have l2:=go.lb;have l3:=go.far;try dsimp only
    obtain ⟨yb,eyb,kyb⟩:=getB l2
    by_cases cg:g>1
    all_goals
     first
      |rw[if_pos cg]
      |rw[if_neg cg]
     refine wpS_bind (df (wpS_bind (au eyb (wpS_bind (dL hO (ge2.1.trans hk) kyb ka sa (by omega) (by omega) fun k hkn p1 p2=>?_)))))
     try dsimp only
     have ge3:=ge2.set (st':=st2)
     by_cases ck:k>0
     ·rw[if_pos ck];have M1:=go.mg.runA sa (k:=k) (fun u hu z hz=>bo sb eyb (fS p1 u hu) z hz)
      by_cases d1:ia+k+1=a.size
      ·rw[if_pos (beq_iff_eq.mpr d1)];exact wpS_pure ⟨ge3 _,.inl ⟨_,_,rfl,M1.lastA sa sb hl d1⟩⟩
      rw[if_neg (fun z=>d1 (beq_iff_eq.mp z))]
      by_cases d2:ia+k=a.size
      ·rw[if_pos (beq_iff_eq.mpr d2)];exact wpS_pure ⟨ge3 _,.inl ⟨_,_,rfl,M1.done sa sb (.inl (by omega))⟩⟩
      rw[if_neg (fun z=>d2 (beq_iff_eq.mp z))]
      obtain ⟨xa,exa,kxa⟩:=getA (show ia+k<a.size by omega)
      have M2:=M1.pushB sb eyb (bo sa exa (p2 k xa (by omega) (by omega) exa))
      refine wpS_bind (au eyb ?_)
      by_cases d3:ib+1=b.size
      ·rw[if_pos (beq_iff_eq.mpr d3)];exact wpS_pure ⟨ge3 _,.inl ⟨_,_,rfl,M2.done sa sb (.inr (by omega))⟩⟩
      rw[if_neg (fun z=>d3 (beq_iff_eq.mp z))]
      refine wpS_bind (au exa (wpS_bind (ci hO (ge2.1.trans hk) kxa kb sb (by omega) (by omega) fun k1 hk1n r1 r2=>?_)))
      try dsimp only
      by_cases ck1:k1>0
      ·rw[if_pos ck1];have M3:=M2.runB sb (k:=k1) (fun u hu z hz=>bo sa exa (fS r1 u hu) z hz)
       by_cases d4:ib+1+k1=b.size
       ·rw[if_pos (beq_iff_eq.mpr d4)];exact wpS_pure ⟨ge3 _,.inl ⟨_,_,rfl,M3.done sa sb (.inr (by omega))⟩⟩
       rw[if_neg (fun z=>d4 (beq_iff_eq.mp z))]
       obtain ⟨y2,ey2,ky2⟩:=getB (show ib+1+k1<b.size by omega)
       have M4:=M3.pushA sa exa (bo sb ey2 (r2 k1 y2 (by omega) (by omega) ey2))
       refine wpS_bind (au exa ?_)
       by_cases d5:ia+k+1+1=a.size
       ·rw[if_pos (beq_iff_eq.mpr d5)];exact wpS_pure ⟨ge3 _,.inl ⟨_,_,rfl,M4.lastA sa sb hl d5⟩⟩
       rw[if_neg (fun z=>d5 (beq_iff_eq.mp z))]
       split
       ·exact wpS_pure ⟨ge3 _,.inr ⟨_,_,_,_,_,_,rfl,⟨M4,by omega,by omega,by omega⟩⟩⟩
       ·exact wpS_pure ⟨ge3 _,_,_,_,_,_,_,rfl,⟨M4,by omega,by omega,by omega⟩⟩
      ·rw[if_neg ck1];obtain ⟨y2,ey2,ky2⟩:=getB (show ib+1<b.size by omega)
       have M4:=M2.pushA sa exa (bo sb ey2 (r2 0 y2 (by omega) (by omega) ey2))
       refine wpS_bind (au exa ?_)
       by_cases d5:ia+k+1+1=a.size
       ·rw[if_pos (beq_iff_eq.mpr d5)];exact wpS_pure ⟨ge3 _,.inl ⟨_,_,rfl,M4.lastA sa sb hl d5⟩⟩
       rw[if_neg (fun z=>d5 (beq_iff_eq.mp z))]
       split
       ·exact wpS_pure ⟨ge3 _,.inr ⟨_,_,_,_,_,_,rfl,⟨M4,by omega,by omega,by omega⟩⟩⟩
       ·exact wpS_pure ⟨ge3 _,_,_,_,_,_,_,rfl,⟨M4,by omega,by omega,by omega⟩⟩
     ·rw[if_neg ck];obtain ⟨xa,exa,kxa⟩:=getA (show ia<a.size by omega)
      have M2:=go.mg.pushB sb eyb (bo sa exa (p2 0 xa (by omega) (by omega) exa))
      refine wpS_bind (au eyb ?_)
      by_cases d3:ib+1=b.size
      ·rw[if_pos (beq_iff_eq.mpr d3)];exact wpS_pure ⟨ge3 _,.inl ⟨_,_,rfl,M2.done sa sb (.inr (by omega))⟩⟩
      rw[if_neg (fun z=>d3 (beq_iff_eq.mp z))]
      refine wpS_bind (au exa (wpS_bind (ci hO (ge2.1.trans hk) kxa kb sb (by omega) (by omega) fun k1 hk1n r1 r2=>?_)))
      try dsimp only
      by_cases ck1:k1>0
      ·rw[if_pos ck1];have M3:=M2.runB sb (k:=k1) (fun u hu z hz=>bo sa exa (fS r1 u hu) z hz)
       by_cases d4:ib+1+k1=b.size
       ·rw[if_pos (beq_iff_eq.mpr d4)];exact wpS_pure ⟨ge3 _,.inl ⟨_,_,rfl,M3.done sa sb (.inr (by omega))⟩⟩
       rw[if_neg (fun z=>d4 (beq_iff_eq.mp z))]
       obtain ⟨y2,ey2,ky2⟩:=getB (show ib+1+k1<b.size by omega)
       have M4:=M3.pushA sa exa (bo sb ey2 (r2 k1 y2 (by omega) (by omega) ey2))
       refine wpS_bind (au exa ?_)
       by_cases d5:ia+1+1=a.size
       ·rw[if_pos (beq_iff_eq.mpr d5)];exact wpS_pure ⟨ge3 _,.inl ⟨_,_,rfl,M4.lastA sa sb hl d5⟩⟩
       rw[if_neg (fun z=>d5 (beq_iff_eq.mp z))]
       split
       ·exact wpS_pure ⟨ge3 _,.inr ⟨_,_,_,_,_,_,rfl,⟨M4,by omega,by omega,by omega⟩⟩⟩
       ·exact wpS_pure ⟨ge3 _,_,_,_,_,_,_,rfl,⟨M4,by omega,by omega,by omega⟩⟩
      ·rw[if_neg ck1];obtain ⟨y2,ey2,ky2⟩:=getB (show ib+1<b.size by omega)
       have M4:=M2.pushA sa exa (bo sb ey2 (r2 0 y2 (by omega) (by omega) ey2))
       refine wpS_bind (au exa ?_)
       by_cases d5:ia+1+1=a.size
       ·rw[if_pos (beq_iff_eq.mpr d5)];exact wpS_pure ⟨ge3 _,.inl ⟨_,_,rfl,M4.lastA sa sb hl d5⟩⟩
       rw[if_neg (fun z=>d5 (beq_iff_eq.mp z))]
       split
       ·exact wpS_pure ⟨ge3 _,.inr ⟨_,_,_,_,_,_,rfl,⟨M4,by omega,by omega,by omega⟩⟩⟩
       ·exact wpS_pure ⟨ge3 _,_,_,_,_,_,_,rfl,⟨M4,by omega,by omega,by omega⟩⟩
end
section
variable {κ:KeyKind} {kd:SortKind} {a b out:Array Keyed} {na nb:Nat}
structure Mh (κ:KeyKind) (a b out:Array Keyed) (na nb:Nat):Prop where
 perm:(a.toList.take na++(b.toList.take nb++out.toList.reverse)).Perm (a.toList++b.toList)
 srt:out.toList.reverse.Pairwise (Lq κ)
 gea:∀x∈out.toList,∀y∈a.toList.take na,Lq κ y x
 geb:∀x∈out.toList,∀y∈b.toList.take nb,Lq κ y x
theorem Mh.runA (h:Mh κ a b out na nb) (sa:a.toList.Pairwise (Lq κ)) {k:Nat} (hk:k<=na) (hy:∀x∈(a.toList.take na).drop k,∀z∈b.toList.take nb,Lq κ z x):Mh κ a b (out++(a.extract k na).reverse) k nb:=by
 have ex:(a.extract k na).toList=(a.toList.take na).drop k:=by
  rw[AU,AX,List.drop_take]
 have dr:a.toList.take na=a.toList.take k++(a.toList.take na).drop k:=by
  have e:=(AL k (a.toList.take na)).symm;rw[List.take_take,BZ hk] at e;exact e
 have sa':(a.toList.take k++(a.toList.take na).drop k).Pairwise (Lq κ):=by rw[<-dr];exact sa.take
 have sa2:=A8.mp sa';have to:(out++(a.extract k na).reverse).toList=out.toList++((a.toList.take na).drop k).reverse:=by rw[AD,BN,ex]
 have tr:(out++(a.extract k na).reverse).toList.reverse=(a.toList.take na).drop k++out.toList.reverse:=by rw[to,List.reverse_append,List.reverse_reverse]
 have ga:=h.gea;have pm:=h.perm;rw[dr] at pm;have ga':∀x∈out.toList,∀y∈(a.toList.take k++(a.toList.take na).drop k),Lq κ y x:=by rw[<-dr];exact ga
 refine ⟨?_,?_,?_,?_⟩
 ·rw[tr];refine Bl.trans ?_ pm;rw[AI];refine Ah _ ?_;rw[<-AI,<-AI];exact Au _ List.perm_append_comm
 ·rw[tr,A8];exact ⟨sa2.2.1,h.srt,fun x hx z hz=>ga' z (by simpa using hz) x (AW _ hx)⟩
 ·intro x hx z hz;rw[to] at hx;rcases AE.mp hx with c|c
  ·exact ga' x c z (BP _ hz)
  ·exact sa2.2.2 z hz x (B7.mp c)
 ·intro x hx z hz;rw[to] at hx;rcases AE.mp hx with c|c
  ·exact h.geb x c z hz
  ·exact hy x (B7.mp c) z hz
theorem Mh.runB (h:Mh κ a b out na nb) (sb:b.toList.Pairwise (Lq κ)) {k:Nat} (hk:k<=nb) (hy:∀x∈(b.toList.take nb).drop k,∀z∈a.toList.take na,Lq κ z x):Mh κ a b (out++(b.extract k nb).reverse) na k:=by
 have ex:(b.extract k nb).toList=(b.toList.take nb).drop k:=by
  rw[AU,AX,List.drop_take]
 have dr:b.toList.take nb=b.toList.take k++(b.toList.take nb).drop k:=by
  have e:=(AL k (b.toList.take nb)).symm;rw[List.take_take,BZ hk] at e;exact e
 have sb':(b.toList.take k++(b.toList.take nb).drop k).Pairwise (Lq κ):=by rw[<-dr];exact sb.take
 have sb2:=A8.mp sb';have to:(out++(b.extract k nb).reverse).toList=out.toList++((b.toList.take nb).drop k).reverse:=by rw[AD,BN,ex]
 have tr:(out++(b.extract k nb).reverse).toList.reverse=(b.toList.take nb).drop k++out.toList.reverse:=by rw[to,List.reverse_append,List.reverse_reverse]
 have pm:=h.perm;rw[dr] at pm;have gb':∀x∈out.toList,∀y∈(b.toList.take k++(b.toList.take nb).drop k),Lq κ y x:=by rw[<-dr];exact h.geb
 refine ⟨?_,?_,?_,?_⟩
 ·rw[tr];refine Bl.trans ?_ pm;rw[AI]
 ·rw[tr,A8];exact ⟨sb2.2.1,h.srt,fun x hx z hz=>gb' z (by simpa using hz) x (AW _ hx)⟩
 ·intro x hx z hz;rw[to] at hx;rcases AE.mp hx with c|c
  ·exact h.gea x c z hz
  ·exact hy x (B7.mp c) z hz
 ·intro x hx z hz;rw[to] at hx;rcases AE.mp hx with c|c
  ·exact gb' x c z (BP _ hz)
  ·exact sb2.2.2 z hz x (B7.mp c)
theorem fT {xs:Array Keyed} {n:Nat} {x:Keyed} (e:xs[n]?=some x):xs.extract n (n+1)= #[x]/\(xs.toList.take (n+1)).drop n= [x]:=by
 have e':xs.toList[n]?=some x:=by simpa using e
 obtain ⟨l,g⟩:=A4.mp e';have q:(xs.toList.take (n+1)).drop n= [x]:=by
  rw[List.drop_take,BD,B6 l,g]
  rfl
 refine ⟨?_,q⟩;apply Bk.mp;rw[AU,AX,<-List.drop_take,q]
theorem Mh.pushA (h:Mh κ a b out (na+1) nb) (sa:a.toList.Pairwise (Lq κ)) {x:Keyed} (e:a[na]?=some x) (hy:∀z∈b.toList.take nb,Lq κ z x):Mh κ a b (out.push x) na nb:=by
 have q:=h.runA sa (k:=na) (by omega) (by
  rw[(fT e).2];intro u hu;simp at hu;rw[hu];exact hy)
 rw[(fT e).1] at q;have ex:out++(#[x]:Array Keyed).reverse=out.push x:=by
  apply Bk.mp;simp
 rw[ex] at q;exact q
theorem Mh.pushB (h:Mh κ a b out na (nb+1)) (sb:b.toList.Pairwise (Lq κ)) {x:Keyed} (e:b[nb]?=some x) (hy:∀z∈a.toList.take na,Lq κ z x):Mh κ a b (out.push x) na nb:=by
 have q:=h.runB sb (k:=nb) (by omega) (by
  rw[(fT e).2];intro u hu;simp at hu;rw[hu];exact hy)
 rw[(fT e).1] at q;have ex:out++(#[x]:Array Keyed).reverse=out.push x:=by
  apply Bk.mp;simp
 rw[ex] at q;exact q
theorem Mh.popA (h:Mh κ a b out na nb) (sa:a.toList.Pairwise (Lq κ)) (hn:0<na) {x:Keyed} (e:a[na-1]?=some x) (hy:∀z∈b.toList.take nb,Lq κ z x):Mh κ a b (out.push x) (na-1) nb:=by
 have en:na=na-1+1:=by omega
 rw[en] at h;exact h.pushA sa e hy
theorem Mh.popB (h:Mh κ a b out na nb) (sb:b.toList.Pairwise (Lq κ)) (hn:0<nb) {x:Keyed} (e:b[nb-1]?=some x) (hy:∀z∈a.toList.take na,Lq κ z x):Mh κ a b (out.push x) na (nb-1):=by
 have en:nb=nb-1+1:=by omega
 rw[en] at h;exact h.pushB sb e hy
theorem gD (xs:Array Keyed) (n:Nat):(xs.extract 0 n).toList=xs.toList.take n:=by
 rw[AU,AX];simp
theorem Mh.done (h:Mh κ a b out na nb) (sa:a.toList.Pairwise (Lq κ)) (sb:b.toList.Pairwise (Lq κ)) (c:na=0∨nb=0):dw κ a b (a.extract 0 na++b.extract 0 nb++out.reverse):=by
 refine ⟨?_,?_⟩
 ·rw[AD,AD,gD,gD,BN,AI];exact h.perm
 ·rw[AD,AD,gD,gD,BN,AI,A8,A8];refine ⟨sa.take,⟨sb.take,h.srt,fun x hx z hz=>h.geb z (B7.mp hz) x hx⟩,fun x hx z hz=>?_⟩
  rcases AE.mp hz with k|k
  ·rcases c with c|c
   ·rw[c] at hx;simp at hx
   ·rw[c] at k;simp at k
  ·exact h.gea z (B7.mp k) x hx
theorem Mh.firstB (h:Mh κ a b out na nb) (sa:a.toList.Pairwise (Lq κ)) (sb:b.toList.Pairwise (Lq κ)) (hf:∀x∈b.toList.take 1,∀z∈a.toList,Lq κ x z) (c:nb=1):dw κ a b (b.extract 0 nb++a.extract 0 na++out.reverse):=by
 subst c;refine ⟨?_,?_⟩
 ·rw[AD,AD,gD,gD,BN];have pm:=h.perm;rw[<-AI] at pm;exact Bl.trans (Au _ List.perm_append_comm) pm
 ·rw[AD,AD,gD,gD,BN,AI,A8,A8];refine ⟨sb.take,⟨sa.take,h.srt,fun x hx z hz=>h.gea z (B7.mp hz) x hx⟩,fun x hx z hz=>?_⟩
  rcases AE.mp hz with k|k
  ·exact hf x hx z (Bh k)
  ·exact h.geb z (B7.mp k) x hx
theorem dZ {xs:Array Keyed} {n:Nat} {z:Keyed} (h:z∈xs.toList.take n):∃i,i<n/\xs[i]?=some z:=by
 obtain ⟨i,hi⟩:=Ak.mp h;have il:=(A4.mp hi).1;rw[AK] at il;rw[Ar (by omega)] at hi
 exact ⟨i,by omega,by simpa using hi⟩
theorem iy {xs:Array Keyed} {n k:Nat} {z:Keyed} (h:z∈(xs.toList.take n).drop k):∃i,k<=i/\i<n/\xs[i]?=some z:=by
 obtain ⟨i,hi⟩:=Ak.mp h;rw[BJ] at hi;obtain ⟨j,hj,e⟩:∃j,j=k+i/\(xs.toList.take n)[j]?=some z:=⟨_,rfl,hi⟩;have il:=(A4.mp e).1;rw[AK] at il;rw[Ar (by omega)] at e
 exact ⟨j,by omega,by omega,by simpa using e⟩
theorem cH {xs:Array Keyed} (sx:xs.toList.Pairwise (Lq κ)) {n:Nat} {x y:Keyed} (hn:0<n) (e:xs[n-1]?=some x) (h:Lq κ x y):∀z∈xs.toList.take n,Lq κ z y:=fun z hz=>by
 obtain ⟨i,hi,ez⟩:=dZ hz;exact KeyOrd.kle_trans (iw sx (by omega) ez e) h
end
structure Gh (κ:KeyKind) (a b:Array Keyed) (m:Nat) (out:Array Keyed) (na nb:Nat):Prop where
 mh:Mh κ a b out na nb
 la:0<na
 lb:1<nb
 ha:na<=a.size
 hb:nb<=b.size
 far:na+nb+m<=a.size+b.size
section
variable {prog:Program} {w:World} {A:Around} {E:sE} {s:Shared} {κ:KeyKind} {kd:SortKind}
theorem gE (hO:fR prog w A E s κ kd) {st:SortSt} {a b:Array Keyed} {Q:Array Keyed->SortSt->Prop} (hk:kindOf st=kd) (ka:∀x∈a.toList,Kd κ x) (kb:∀x∈b.toList,Kd κ x)
  (sa:a.toList.Pairwise (Lq κ)) (sb:b.toList.Pairwise (Lq κ)) (pa:0<a.size) (pb:0<b.size) (h0:∀x∈b.toList.take 1,∀z∈a.toList,Lq κ x z) (hl:∀y∈b.toList,∀x,a[a.size-1]?=some x->Lq κ y x)
  (h:∀r st',dw κ a b r->iv st st'->Q r st'):wpS (model prog w) A E s (gB a b) Q st:=by
 have getA:∀{i:Nat},i<a.size->∃x,a[i]?=some x/\Kd κ x:=fun {i} hi=>⟨a[i],AC hi,ka _ (by simp)⟩
 have getB:∀{i:Nat},i<b.size->∃x,b[i]?=some x/\Kd κ x:=fun {i} hi=>⟨b[i],AC hi,kb _ (by simp)⟩
 obtain ⟨x0,ex0,kx0⟩:=getA (show a.size-1<a.size by omega)
 have M0:Mh κ a b #[] (a.size-1+1) b.size:=⟨by
  rw[Aa (by simp;omega),Aa (by simp)]
  simp,by simp,by simp,by simp⟩
 have M1:Mh κ a b #[x0] (a.size-1) b.size:=M0.pushA sa ex0 (fun z hz=>hl z (Bh hz) x0 ex0)
 unfold gB;refine b6 ?_;try dsimp only
 refine wpS_bind (cu (wpS_bind (au ex0 ?_)))
 by_cases c1:a.size-1=0
 ·rw[if_pos (beq_iff_eq.mpr c1)];exact wpS_pure (h _ _ (M1.done sa sb (.inl c1)) (.refl _))
 rw[if_neg (fun z=>c1 (beq_iff_eq.mp z))]
 by_cases c2:b.size=1
 ·rw[if_pos (beq_iff_eq.mpr c2)];exact wpS_pure (h _ _ (M1.firstB sa sb h0 c2) (.refl _))
 rw[if_neg (fun z=>c2 (beq_iff_eq.mp z))]
 refine wpS_bind (wpS_get ?_);try dsimp only
 refine wpS_bind (wpS_mono (wpS_forRange
  (I:=fun x c st'=>iv st st'/\∃out na nb g,c=(none,na,nb,out,g)/\Gh κ a b (x+1) out na nb)
  (Q:=fun c st'=>iv st st'/\∃r q,c=(some r,q)/\dw κ a b r) ?s1 ?e1 ⟨.refl _,_,_,_,_,rfl,⟨M1,by omega,by omega,by omega,by omega,by omega⟩⟩) ?p1)
 case e1=>
  rintro c st' ⟨ge,out,na,nb,g,rfl,go⟩;have:=go.la;have:=go.lb;have:=go.far;omega
 case p1=>
  rintro c st' ⟨ge,r,q,rfl,f⟩;exact wpS_pure (h _ _ f ge)
 case s1=>
  rintro x c st1 _ hx ⟨ge,out,na,nb,g,rfl,go⟩;have hk1:kindOf st1=kd:=ge.1.trans hk;try dsimp only
  refine wpS_bind (wpS_mono (wpS_forRange
   (I:=fun x' c st'=>st'=st1/\∃out na nb ac bc,c=(none,na,nb,out,ac,bc)/\Gh κ a b (x+1+x') out na nb)
   (Q:=fun c st'=>st'=st1/\((∃r q,c=(some r,q)/\dw κ a b r)∨∃out na nb ac bc,c=(none,na,nb,out,ac,bc)/\Gh κ a b (x+1+1) out na nb)) ?s2 ?e2 ⟨rfl,_,_,_,_,_,rfl,go⟩) ?p2)
  case e2=>
   rintro c st' ⟨_,out,na,nb,ac,bc,rfl,go⟩;have:=go.la;have:=go.lb;have:=go.far;omega
  case s2=>
   rintro x' c st' _ hx' ⟨rfl,out,na,nb,ac,bc,rfl,go⟩;have l1:=go.la;have l2:=go.lb;have l3:=go.far;have l4:=go.ha;have l5:=go.hb;obtain ⟨xa,exa,kxa⟩:=getA (show na-1<a.size by omega)
   obtain ⟨yb,eyb,kyb⟩:=getB (show nb-1<b.size by omega)
   try dsimp only
   refine wpS_bind (au eyb (wpS_bind (au exa (wpS_bind (dv hO hk1 kyb kxa ?_)))));try dsimp only
   cases cc:κ.blt (kk κ yb) (kk κ xa) with
   |true=>
    rw[if_pos rfl];have M2:=go.mh.popA sa l1 exa (cH sb (by omega) eyb (KeyOrd.kle_of_klt cc))
    refine wpS_bind (au exa ?_)
    by_cases d1:na-1=0
    ·rw[if_pos (beq_iff_eq.mpr d1)];exact wpS_pure ⟨rfl,.inl ⟨_,_,rfl,M2.done sa sb (.inl d1)⟩⟩
    rw[if_neg (fun z=>d1 (beq_iff_eq.mp z))]
    by_cases d2:ac+1≥g
    ·rw[if_pos d2];exact wpS_pure ⟨rfl,.inr ⟨_,_,_,_,_,rfl,⟨M2,by omega,l2,by omega,l5,by omega⟩⟩⟩
    ·rw[if_neg d2];exact wpS_pure ⟨rfl,_,_,_,_,_,rfl,⟨M2,by omega,l2,by omega,l5,by omega⟩⟩
   |false=>
    rw[if_neg (by decide)]
    have M2:=go.mh.popB sb (by omega) eyb (cH sa l1 exa cc)
    refine wpS_bind (au eyb ?_)
    by_cases d1:nb-1=1
    ·rw[if_pos (beq_iff_eq.mpr d1)];exact wpS_pure ⟨rfl,.inl ⟨_,_,rfl,M2.firstB sa sb h0 d1⟩⟩
    rw[if_neg (fun z=>d1 (beq_iff_eq.mp z))]
    by_cases d2:bc+1≥g
    ·rw[if_pos d2];exact wpS_pure ⟨rfl,.inr ⟨_,_,_,_,_,rfl,⟨M2,l1,by omega,l4,by omega,by omega⟩⟩⟩
    ·rw[if_neg d2];exact wpS_pure ⟨rfl,_,_,_,_,_,rfl,⟨M2,l1,by omega,l4,by omega,by omega⟩⟩
  case p2=>
   rintro c st' ⟨rfl,⟨r,q,rfl,f⟩|⟨out,na,nb,ac,bc,rfl,go⟩⟩
   ·exact wpS_pure ⟨ge,_,_,rfl,f⟩
   try dsimp only
   refine wpS_bind (cu ?_);refine wpS_bind (wpS_mono (wpS_forRange
    (I:=fun x' c st'=>iv st st'/\∃out na nb g ac bc,c=(none,na,nb,out,g,ac,bc)/\Gh κ a b (x+1+1+x') out na nb)
    (Q:=fun c st'=>iv st st'/\((∃r q,c=(some r,q)/\dw κ a b r)∨∃out na nb g ac bc,c=(none,na,nb,out,g,ac,bc)/\Gh κ a b (x+1+1) out na nb)) ?s3 ?e3 ⟨ge,_,_,_,_,_,_,rfl,go⟩) ?p3)
   case e3=>
    rintro c st' ⟨_,out,na,nb,g,ac,bc,rfl,go⟩;have:=go.la;have:=go.lb;have:=go.far;omega
   case p3=>
    rintro c st' ⟨ge,⟨r,q,rfl,f⟩|⟨out,na,nb,g,ac,bc,rfl,go⟩⟩
    ·exact wpS_pure ⟨ge,_,_,rfl,f⟩
    ·exact wpS_bind (df (wpS_pure ⟨ge.set _,_,_,_,_,rfl,go⟩))
   case s3=>
    rintro x' c st2 _ hx' ⟨ge2,out,na,nb,g,ac,bc,rfl,go⟩;have l1:=go.la;have l2:=go.lb;have l3:=go.far;have l4:=go.ha;have l5:=go.hb;try dsimp only
    obtain ⟨yb,eyb,kyb⟩:=getB (show nb-1<b.size by omega)
    have z0:∀i:Nat,0+i=i:=fun i=>Nat.zero_add i
    by_cases cg:g>1
    all_goals
     first
      |rw[if_pos cg]
      |rw[if_neg cg]
     refine wpS_bind (df (wpS_bind (au eyb (wpS_bind (dL hO (ge2.1.trans hk) kyb ka sa (by omega) (by omega) fun k hkn p1 p2=>?_)))))
     simp only[z0] at p1 p2;try dsimp only
     have ge3:=ge2.set (st':=st2);have pA:∀z∈a.toList.take k,Lq κ z yb:=fun z hz=>by
      obtain ⟨i,hi,ez⟩:=dZ hz;exact p1 i z hi ez
     by_cases ck:na-k>0
     ·rw[if_pos ck];have M1:=go.mh.runA sa (k:=k) hkn (fun u hu z hz=>by
       obtain ⟨i,h1,h2,e⟩:=iy hu;exact cH sb (by omega) eyb (p2 i u h1 h2 e) z hz)
      by_cases d1:k=0
      ·rw[if_pos (beq_iff_eq.mpr d1)];exact wpS_pure ⟨ge3 _,.inl ⟨_,_,rfl,M1.done sa sb (.inl d1)⟩⟩
      rw[if_neg (fun z=>d1 (beq_iff_eq.mp z))]
      have M2:=M1.popB sb (by omega) eyb pA
      refine wpS_bind (au eyb ?_)
      by_cases d3:nb-1=1
      ·rw[if_pos (beq_iff_eq.mpr d3)];exact wpS_pure ⟨ge3 _,.inl ⟨_,_,rfl,M2.firstB sa sb h0 d3⟩⟩
      rw[if_neg (fun z=>d3 (beq_iff_eq.mp z))]
      obtain ⟨xa,exa,kxa⟩:=getA (show k-1<a.size by omega)
      refine wpS_bind (au exa (wpS_bind (ci hO (ge2.1.trans hk) kxa kb sb (by omega) (by omega) fun k1 hk1n r1 r2=>?_)))
      simp only[z0] at r1 r2;try dsimp only
      have pB:∀z∈b.toList.take k1,Lq κ z xa:=fun z hz=>by
       obtain ⟨i,hi,ez⟩:=dZ hz;exact r1 i z hi ez
      by_cases ck1:nb-1-k1>0
      ·rw[if_pos ck1];have M3:=M2.runB sb (k:=k1) hk1n (fun u hu z hz=>by
        obtain ⟨i,h1,h2,e⟩:=iy hu;exact cH sa (by omega) exa (r2 i u h1 h2 e) z hz)
       by_cases d4:k1=1
       ·rw[if_pos (beq_iff_eq.mpr d4)];exact wpS_pure ⟨ge3 _,.inl ⟨_,_,rfl,M3.firstB sa sb h0 d4⟩⟩
       rw[if_neg (fun z=>d4 (beq_iff_eq.mp z))]
       by_cases d6:k1=0
       ·rw[if_pos (beq_iff_eq.mpr d6)];exact wpS_pure ⟨ge3 _,.inl ⟨_,_,rfl,M3.done sa sb (.inr d6)⟩⟩
       rw[if_neg (fun z=>d6 (beq_iff_eq.mp z))]
       have M4:=M3.popA sa (by omega) exa pB
       refine wpS_bind (au exa ?_)
       by_cases d5:k-1=0
       ·rw[if_pos (beq_iff_eq.mpr d5)];exact wpS_pure ⟨ge3 _,.inl ⟨_,_,rfl,M4.done sa sb (.inl d5)⟩⟩
       rw[if_neg (fun z=>d5 (beq_iff_eq.mp z))]
       split
       ·exact wpS_pure ⟨ge3 _,.inr ⟨_,_,_,_,_,_,rfl,⟨M4,by omega,by omega,by omega,by omega,by omega⟩⟩⟩
       ·exact wpS_pure ⟨ge3 _,_,_,_,_,_,_,rfl,⟨M4,by omega,by omega,by omega,by omega,by omega⟩⟩
      ·rw[if_neg ck1];have ek:k1=nb-1:=by omega
       have M4:=M2.popA sa (by omega) exa (by rw[<-ek];exact pB)
       refine wpS_bind (au exa ?_)
       by_cases d5:k-1=0
       ·rw[if_pos (beq_iff_eq.mpr d5)];exact wpS_pure ⟨ge3 _,.inl ⟨_,_,rfl,M4.done sa sb (.inl d5)⟩⟩
       rw[if_neg (fun z=>d5 (beq_iff_eq.mp z))]
       split
       ·exact wpS_pure ⟨ge3 _,.inr ⟨_,_,_,_,_,_,rfl,⟨M4,by omega,by omega,by omega,by omega,by omega⟩⟩⟩
       ·exact wpS_pure ⟨ge3 _,_,_,_,_,_,_,rfl,⟨M4,by omega,by omega,by omega,by omega,by omega⟩⟩
     ·rw[if_neg ck];have ekn:k=na:=by omega
      have M2:=go.mh.popB sb (by omega) eyb (by rw[<-ekn];exact pA)
      refine wpS_bind (au eyb ?_)
      by_cases d3:nb-1=1
      ·rw[if_pos (beq_iff_eq.mpr d3)];exact wpS_pure ⟨ge3 _,.inl ⟨_,_,rfl,M2.firstB sa sb h0 d3⟩⟩
      rw[if_neg (fun z=>d3 (beq_iff_eq.mp z))]
      obtain ⟨xa,exa,kxa⟩:=getA (show na-1<a.size by omega)
      refine wpS_bind (au exa (wpS_bind (ci hO (ge2.1.trans hk) kxa kb sb (by omega) (by omega) fun k1 hk1n r1 r2=>?_)))
      simp only[z0] at r1 r2;try dsimp only
      have pB:∀z∈b.toList.take k1,Lq κ z xa:=fun z hz=>by
       obtain ⟨i,hi,ez⟩:=dZ hz;exact r1 i z hi ez
      by_cases ck1:nb-1-k1>0
      ·rw[if_pos ck1];have M3:=M2.runB sb (k:=k1) hk1n (fun u hu z hz=>by
        obtain ⟨i,h1,h2,e⟩:=iy hu;exact cH sa (by omega) exa (r2 i u h1 h2 e) z hz)
       by_cases d4:k1=1
       ·rw[if_pos (beq_iff_eq.mpr d4)];exact wpS_pure ⟨ge3 _,.inl ⟨_,_,rfl,M3.firstB sa sb h0 d4⟩⟩
       rw[if_neg (fun z=>d4 (beq_iff_eq.mp z))]
       by_cases d6:k1=0
       ·rw[if_pos (beq_iff_eq.mpr d6)];exact wpS_pure ⟨ge3 _,.inl ⟨_,_,rfl,M3.done sa sb (.inr d6)⟩⟩
       rw[if_neg (fun z=>d6 (beq_iff_eq.mp z))]
       have M4:=M3.popA sa (by omega) exa pB
       refine wpS_bind (au exa ?_)
       by_cases d5:na-1=0
       ·rw[if_pos (beq_iff_eq.mpr d5)];exact wpS_pure ⟨ge3 _,.inl ⟨_,_,rfl,M4.done sa sb (.inl d5)⟩⟩
       rw[if_neg (fun z=>d5 (beq_iff_eq.mp z))]
       split
       ·exact wpS_pure ⟨ge3 _,.inr ⟨_,_,_,_,_,_,rfl,⟨M4,by omega,by omega,by omega,by omega,by omega⟩⟩⟩
       ·exact wpS_pure ⟨ge3 _,_,_,_,_,_,_,rfl,⟨M4,by omega,by omega,by omega,by omega,by omega⟩⟩
      ·rw[if_neg ck1];have ek:k1=nb-1:=by omega
       have M4:=M2.popA sa (by omega) exa (by rw[<-ek];exact pB)
       refine wpS_bind (au exa ?_)
       by_cases d5:na-1=0
       ·rw[if_pos (beq_iff_eq.mpr d5)];exact wpS_pure ⟨ge3 _,.inl ⟨_,_,rfl,M4.done sa sb (.inl d5)⟩⟩
       rw[if_neg (fun z=>d5 (beq_iff_eq.mp z))]
       split
       ·exact wpS_pure ⟨ge3 _,.inr ⟨_,_,_,_,_,_,rfl,⟨M4,by omega,by omega,by omega,by omega,by omega⟩⟩⟩
       ·exact wpS_pure ⟨ge3 _,_,_,_,_,_,_,rfl,⟨M4,by omega,by omega,by omega,by omega,by omega⟩⟩
end
section
variable {prog:Program} {w:World} {A:Around} {E:sE} {s:Shared} {κ:KeyKind} {kd:SortKind}
theorem dM (hO:fR prog w A E s κ kd) {st:SortSt} {left:Bool} {key:Keyed} {arr:Array Keyed} {P X S:List Keyed} {hint:Nat} {Q:Option Nat->SortSt->Prop} (hk:kindOf st=kd) (hy:Kd κ key) (ka:∀x∈arr.toList,Kd κ x) (e:arr.toList=P++(X++S)) (sx:X.Pairwise (Lq κ)) (hh:hint<X.length)
  (h:∀X1 X2,X=X1++X2->(∀x∈X1,Lq κ x key)->(∀x∈X2,Lq κ key x)->Q (some X1.length) st):wpS (model prog w) A E s (c9 left key arr P.length X.length hint) Q st:=by
 have at_:∀i,i<X.length->arr[P.length+i]?=X[i]?:=fun i hi=>by
  have:arr.toList[P.length+i]?=X[i]?:=by
   rw[e,A7 (by omega),BD,AA hi]
  simpa using this
 have get:∀i,i<X.length->∃x,X[i]?=some x/\Kd κ x:=fun i hi=>⟨X[i],A0 hi,ka _ (by rw[e];simp)⟩
 have mono:∀{i j:Nat} {x y:Keyed},i<=j->X[i]?=some x->X[j]?=some y->Lq κ x y:=fun {i j x y} hij h1 h2=>by
  rcases Nat.lt_or_ge i j with c|c
  ·obtain ⟨l1,g1⟩:=A4.mp h1;obtain ⟨l2,g2⟩:=A4.mp h2;have:=Bp.mp sx i j l1 l2 c;rw[g1,g2] at this;exact this
  ·have:i=j:=by omega
   subst this;rw[h1] at h2;cases h2;exact KeyOrd.kle_refl _
 refine cX hO hk hy (fun i=>match X[i]? with|some x=>bq κ left key x|none=>false) (fun i hi=>?_) (fun i j hij hj hf=>?_) hh (fun k hkn h1 h2=>?_)
 ·obtain ⟨x,ex,kx⟩:=get i hi;exact ⟨x,(at_ i hi).trans ex,kx,by rw[ex]⟩
 ·obtain ⟨x,ex,_⟩:=get i (by omega)
  obtain ⟨y,ey,_⟩:=get j hj;try dsimp only at hf⊢
  rw[ex];rw[ey] at hf;have l:=mono hij ex ey;cases left with
  |true=>exact KeyOrd.klt_of_kle_of_klt l hf
  |false=>
   have hf':(!κ.blt (kk κ key) (kk κ y))=true:=hf;have f1:κ.blt (kk κ key) (kk κ y)=false:=by simpa using hf'
   have f2:κ.blt (kk κ key) (kk κ x)=false:=KeyOrd.kle_trans l f1;show (!κ.blt (kk κ key) (kk κ x))=true;rw[f2]
   rfl
 ·have tl:(X.take k).length=k:=by rw[AK];omega
  have q:=h (X.take k) (X.drop k) (AL k X).symm (fun x hx=>?_) (fun x hx=>?_)
  ·rw[tl] at q;exact q
  ·obtain ⟨i,hi⟩:=Ak.mp hx;have il:=(A4.mp hi).1;rw[tl] at il;rw[Ar il] at hi;have q:=h1 i il;try dsimp only at q
   rw[hi] at q;cases left with
   |true=>exact KeyOrd.kle_of_klt q
   |false=>
    have q':(!κ.blt (kk κ key) (kk κ x))=true:=q;show κ.blt (kk κ key) (kk κ x)=false
    simpa using q'
  ·obtain ⟨i,hi⟩:=Ak.mp hx;rw[BJ] at hi;have il:=(A4.mp hi).1;have q:=h2 (k+i) (by omega) il
   try dsimp only at q
   rw[hi] at q;cases left with
   |true=>exact q
   |false=>
    have q':(!κ.blt (kk κ key) (kk κ x))=false:=q;exact KeyOrd.kle_of_klt (show κ.blt (kk κ key) (kk κ x)=true by simpa using q')
end
theorem writes (P:Nat):∀(l:List Keyed) (c:Nat) (arr:Array Keyed),P+c+l.length<=arr.size->
  ((l.zipIdx c).foldl (fun (a:Array Keyed) (q:Keyed×Nat)=>a.setIfInBounds (P+q.2) q.1) arr).toList=arr.toList.take (P+c)++l++arr.toList.drop (P+c+l.length)
 | [],c,arr,h=>by simp
 |x::l,c,arr,h=>by
  have hl:P+c<arr.size:=by simp at h;omega
  rw[List.zipIdx_cons,List.foldl_cons,writes P l (c+1) _ (by rw[Array.size_setIfInBounds];simp at h⊢;omega)]
  have e:(arr.setIfInBounds (P+c) x).toList=arr.toList.set (P+c) x:=by simp
  dsimp only;rw[e];have e1:P+(c+1)=P+c+1:=by omega
  rw[e1];have hl':P+c<arr.toList.length:=by simpa using hl
  have t1:(arr.toList.set (P+c) x).take (P+c+1)=arr.toList.take (P+c)++ [x]:=by
   rw[List.take_succ,List.take_set_of_le (AB _),List.getElem?_set_self hl']
   rfl
  have t2:(arr.toList.set (P+c) x).drop (P+c+1+l.length)=arr.toList.drop (P+c+(x::l).length):=by
   rw[List.drop_set_of_lt (by omega)]
   congr 1
   simp;omega
  rw[t1,t2];simp
theorem nJ {κ:KeyKind} {X1 X2 Y1 Y2 r:List Keyed} (sx:(X1++X2).Pairwise (Lq κ)) (sy:(Y1++Y2).Pairwise (Lq κ)) (h1:∀x∈X1,∀y∈Y1++Y2,Lq κ x y) (h2:∀x∈X1++X2,∀y∈Y2,Lq κ x y) (pr:r.Perm (X2++Y1)) (sr:r.Pairwise (Lq κ)):(X1++(r++Y2)).Pairwise (Lq κ):=by
 have x:=A8.mp sx;have y:=A8.mp sy;rw[A8,A8];refine ⟨x.1,⟨sr,y.2.1,fun u hu v hv=>?_⟩,fun u hu v hv=>?_⟩
 ·rcases AE.mp (pr.mem_iff.mp hu) with k|k
  ·exact h2 u (AW _ k) v hv
  ·exact y.2.2 u k v hv
 ·rcases AE.mp hv with k|k
  ·rcases AE.mp (pr.mem_iff.mp k) with k|k
   ·exact x.2.2 u hu v k
   ·exact h1 u hu v (BP _ k)
  ·exact h1 u hu v (AW _ k)
theorem nL {X1 X2 Y1 Y2 r:List Keyed} (pr:r.Perm (X2++Y1)):(X1++(r++Y2)).Perm ((X1++X2)++(Y1++Y2)):=by
 have:(X1++X2)++(Y1++Y2)=X1++((X2++Y1)++Y2):=by simp
 rw[this];exact Ah _ (Au _ pr)
theorem lY {M:Model} {A:Around} {E:sE} {s:Shared} {σ:Type} {st st':σ} {Q:PUnit->σ->Prop} (h:Q ⟨⟩ st'):wpS M A E s (set st':StateT σ Sem PUnit) Q st:=by
 unfold wpS;rw[StateT.run_set];exact wpAny_pure ⟨rfl,h⟩
section
variable {prog:Program} {w:World} {A:Around} {E:sE} {s:Shared} {κ:KeyKind} {kd:SortKind}
theorem gF (hO:fR prog w A E s κ kd) {st:SortSt} {i:Nat} {P X Y S:List Keyed} {pa pb:Nat} {Q:Bool->SortSt->Prop} (hk:kindOf st=kd) (hf:failedOf st=none) (ka:∀x∈(arrOf st).toList,Kd κ x)
  (e:(arrOf st).toList=P++(X++(Y++S))) (sx:X.Pairwise (Lq κ)) (sy:Y.Pairwise (Lq κ)) (nx:0<X.length) (ny:0<Y.length)
  (p1:(pendingOf st)[i]?=some (P.length,X.length,pa)) (p2:(pendingOf st)[i+1]?=some (P.length+X.length,Y.length,pb))
  (h:∀st' Z,Z.Perm (X++Y)->Z.Pairwise (Lq κ)->kindOf st'=kd->failedOf st'=none->(arrOf st').toList=P++(Z++S)->pendingOf st'=((pendingOf st).setIfInBounds i (P.length,X.length+Y.length,pa)).eraseIdxIfInBounds (i+1)->Q true st'):
  wpS (model prog w) A E s (mergeAt' i) Q st:=by
 unfold mergeAt';refine b6 ?_;try dsimp only
 have ix:∀{U V:List Keyed} {v:Keyed},(arrOf st).toList=U++v::V->(arrOf st)[U.length]?=some v:=fun {U V v} q=>by
  have:(arrOf st).toList[U.length]?=some v:=by rw[q];simp
  simpa using this
 have sub:∀{U V W:List Keyed},(arrOf st).toList=U++(V++W)->((arrOf st).extract U.length (U.length+V.length)).toList=V:=fun {U V W} q=>by
  rw[AU,AX,q];simp
 obtain ⟨y0,Y',rfl⟩:∃y0 Y',Y=y0::Y':=by
  cases Y with
  |nil=>simp at ny
  |cons y Y=>exact ⟨y,Y,rfl⟩
 have sy':=B8.mp sy;have ey:(arrOf st)[P.length+X.length]?=some y0:=by
  have:=ix (U:=P++X) (V:=Y'++S) (v:=y0) (by rw[e];simp)
  rwa [A9] at this
 have mem:∀x∈X++(y0::Y'),x∈(arrOf st).toList:=fun x hx=>by
  rw[e];rcases AE.mp hx with k|k
  ·simp[k]
  ·simp at k⊢;rcases k with k|k
   ·simp[k]
   ·simp[k]
 refine wpS_bind (wpS_get ?_);rw[p1,p2];try dsimp only
 refine wpS_bind (lY (wpS_bind (au ey (wpS_bind (dM (P:=P) (X:=X) (S:=(y0::Y')++S) hO hk (ka _ (mem y0 (by simp))) ka e sx nx fun X1 X2 eX q1 q2=>?_)))))
 try dsimp only
 subst eX;have lx:(X1++X2).length=X1.length+X2.length:=A9;have leY:∀{x:Keyed},Lq κ x y0->∀y∈y0::Y',Lq κ x y:=fun {x} l y hy=>by
  rcases AT.mp hy with k|k
  ·rw[k];exact l
  ·exact KeyOrd.kle_trans l (sy'.1 y k)
 by_cases c1:(X1++X2).length-X1.length=0
 ·rw[if_pos (beq_iff_eq.mpr c1)];have x2:X2= []:=Ax (by omega)
  subst x2;refine wpS_pure (h _ ((X1++ [])++(y0::Y')) (List.Perm.refl _) ?_ hk hf (by rw[show arrOf _=arrOf st from rfl,e];simp) rfl)
  rw[A8];exact ⟨sx,sy,fun x hx y hy=>leY (q1 x (by simpa using hx)) y hy⟩
 rw[if_neg (fun z=>c1 (beq_iff_eq.mp z))]
 obtain ⟨X3,xl,rfl⟩:∃X3 xl,X2=X3++ [xl]:=by
  rcases List.eq_nil_or_concat X2 with z|⟨a,b,z⟩
  ·subst z;simp at c1
  ·exact ⟨a,b,by rw[z,List.concat_eq_append]⟩
 have lx3:(X3++ [xl]).length=X3.length+1:=by simp
 have exl:(arrOf st)[P.length+X1.length+((X1++(X3++ [xl])).length-X1.length)-1]?=some xl:=by
  have:=ix (U:=P++(X1++X3)) (V:=(y0::Y')++S) (v:=xl) (by rw[e];simp)
  rw[A9,A9] at this;rw[<-this]
  congr 1
  omega
 have lexl:∀x∈X1++(X3++ [xl]),Lq κ x xl:=fun x hx=>by
  have q:((X1++X3)++ [xl]).Pairwise (Lq κ):=by rw[AI];exact sx
  have q':=A8.mp q;rw[<-AI] at hx;rcases AE.mp hx with k|k
  ·exact q'.2.2 x k xl (by simp)
  ·simp at k;rw[k];exact KeyOrd.kle_refl _
 have g2:=fun (st2:SortSt) (hk2:kindOf st2=kd) (Q2:Option Nat->SortSt->Prop) hh=>dM (prog:=prog) (w:=w) (A:=A) (E:=E) (s:=s) (st:=st2) (left:=true) (key:=xl) (arr:=arrOf st) (P:=P++(X1++(X3++ [xl]))) (X:=y0::Y') (S:=S) (hint:=(y0::Y').length-1) (Q:=Q2) hO hk2 (ka _ (mem xl (by simp))) ka (by rw[e];simp) sy (by simp) hh
 rw[show (P++(X1++(X3++ [xl]))).length=P.length+(X1++(X3++ [xl])).length from A9] at g2
 refine wpS_bind (au exl (wpS_bind (g2 _ (by exact hk) _ fun Y1 Y2 eY r1 r2=>?_)))
 try dsimp only
 have l2:∀x∈X1++(X3++ [xl]),∀y∈Y2,Lq κ x y:=fun x hx y hy=>KeyOrd.kle_trans (lexl x hx) (r2 y hy)
 by_cases c2:Y1.length=0
 ·rw[if_pos (beq_iff_eq.mpr c2)];have y1:Y1= []:=Ax c2;subst y1;have eY':Y2=y0::Y':=by simpa using eY.symm
  refine wpS_pure (h _ ((X1++(X3++ [xl]))++(y0::Y')) (List.Perm.refl _) ?_ hk hf (by rw[show arrOf _=arrOf st from rfl,e];simp) rfl)
  rw[A8];exact ⟨sx,sy,fun x hx y hy=>l2 x hx y (by rw[eY'];exact hy)⟩
 rw[if_neg (fun z=>c2 (beq_iff_eq.mp z))]
 have xx:((arrOf st).extract (P.length+X1.length) (P.length+(X1++(X3++ [xl])).length)).toList=X3++ [xl]:=by
  have:=sub (U:=P++X1) (V:=X3++ [xl]) (W:=(y0::Y')++S) (by rw[e];simp)
  rw[A9] at this;have l:P.length+(X1++(X3++ [xl])).length=P.length+X1.length+(X3++ [xl]).length:=by rw[A9];omega
  rw[l];exact this
 have yy:((arrOf st).extract (P.length+(X1++(X3++ [xl])).length) (P.length+(X1++(X3++ [xl])).length+Y1.length)).toList=Y1:=by
  have:=sub (U:=P++(X1++(X3++ [xl]))) (V:=Y1) (W:=Y2++S) (by rw[e,eY];simp)
  rw[A9] at this;exact this
 generalize (arrOf st).extract (P.length+X1.length) (P.length+(X1++(X3++ [xl])).length)=ax at xx⊢;generalize (arrOf st).extract (P.length+(X1++(X3++ [xl])).length) (P.length+(X1++(X3++ [xl])).length+Y1.length)=ay at yy⊢;have sX:=A8.mp sx;have sY:(Y1++Y2).Pairwise (Lq κ):=by rw[<-eY];exact sy
 have sY1:=(A8.mp sY).1;have kX:∀x∈ax.toList,Kd κ x:=fun x hx=>by
  rw[xx] at hx;exact ka x (mem x (BP _ (AW _ hx)))
 have kY:∀x∈ay.toList,Kd κ x:=fun x hx=>by
  rw[yy] at hx;exact ka x (mem x (by rw[eY];simp[hx]))
 have zx:ax.size=X3.length+1:=by
  have:=congrArg BW xx
  simpa using this
 have zy:ay.size=Y1.length:=by
  have:=congrArg BW yy
  simpa using this
 have y1c:∃Y3,Y1=y0::Y3:=by
  cases Y1 with
  |nil=>simp at c2
  |cons y Y3=>
   have:y0=y:=by
    have:=congrArg List.head? eY
    simpa using this
   exact ⟨Y3,by rw[this]⟩
 obtain ⟨Y3,eY3⟩:=y1c;have last:∀y∈ay.toList,Lq κ y xl:=fun y hy=>r1 y (by rw[<-yy];exact hy)
 have axl:∀x,ax[ax.size-1]?=some x->x=xl:=fun x hx=>by
  have hx':ax.toList[ax.size-1]?=some x:=by simpa using hx
  rw[xx,zx,Nat.add_sub_cancel,A7 (AB _)] at hx'
  simpa using hx'.symm
 have fin:∀(r:Array Keyed) (st2:SortSt),dw κ ax ay r->kindOf st2=kd->failedOf st2=none->arrOf st2=arrOf st->pendingOf st2=((pendingOf st).setIfInBounds i (P.length,(X1++(X3++ [xl])).length+(y0::Y').length,pa)).eraseIdxIfInBounds (i+1)->
   Q true (SortSt.mk' (kindOf st2) (List.foldl (fun (a:Array Keyed) (x:Keyed×Nat)=>a.setIfInBounds (P.length+X1.length+x.snd) x.fst) (arrOf st2) r.toList.zipIdx) (pendingOf st2) (gallopOf st2) (failedOf st2)):=by
  rintro r st2 ⟨pr,sr⟩ h1 h2 h3 h4;rw[xx,yy] at pr;have rl:r.toList.length=X3.length+1+Y1.length:=by
   rw[pr.length_eq];simp;omega
  refine h _ (X1++(r.toList++Y2)) ?_ (nJ sx sY (fun x hx y hy=>leY (q1 x hx) y (by rw[eY];exact hy)) l2 pr sr) h1 h2 ?_ h4
  ·rw[eY];exact nL pr
  ·show (List.foldl (fun (a:Array Keyed) (x:Keyed×Nat)=>a.setIfInBounds (P.length+X1.length+x.snd) x.fst) (arrOf st2) r.toList.zipIdx).toList=_
   rw[h3];have sz:(arrOf st).size=P.length+X1.length+(X3.length+1)+(Y1.length+Y2.length)+S.length:=by
    have:=congrArg BW e;rw[eY] at this;simp at this;omega
   have w:=writes (P.length+X1.length) r.toList 0 (arrOf st) (by rw[rl];omega)
   rw[w,rl,e,eY];have t:P++(X1++(X3++ [xl])++(Y1++Y2++S))=(P++X1)++((X3++ [xl]++Y1)++(Y2++S)):=by simp
   rw[t];have l1:P.length+X1.length+0=(P++X1).length:=by simp
   have l3:P.length+X1.length+0+(X3.length+1+Y1.length)=(P++X1).length+(X3++ [xl]++Y1).length:=by simp;omega
   have d:∀(A B C:List Keyed),(A++(B++C)).drop (A.length+B.length)=C:=fun A B C=>by rw[<-AI,<-A9,List.drop_left]
   rw[l3,l1,d,List.take_left];simp
 by_cases c3:(X1++(X3++ [xl])).length-X1.length<=Y1.length
 ·rw[if_pos c3];refine wpS_bind (gC hO (by exact hk) kX kY (by rw[xx];exact sX.2.1) (by rw[yy];exact sY1) (by omega) (by omega) (fun x y hx hy=>?_) (fun y hy x hx=>?_) fun r st2 mf ge=>?_)
  ·have hx':ax.toList[0]?=some x:=by simpa using hx
   have hy':ay.toList[0]?=some y:=by simpa using hy
   rw[yy,eY3] at hy';simp at hy';rw[<-hy'];rw[xx] at hx';exact q2 x (AH hx')
  ·rw[xx,zx,Nat.add_sub_cancel,List.drop_left'] at hx
   ·simp at hx;rw[hx];exact last y hy
   ·rfl
  ·refine wpS_bind (wpS_modify (wpS_bind (wpS_get (wpS_pure ?_))));have f:=fin r st2 mf (ge.1.trans hk) (ge.2.2.2.trans hf) ge.2.1 ge.2.2.1;have fl:failedOf st2=none:=ge.2.2.2.trans hf;show Q ((failedOf st2).isNone) _;rw[fl];exact f
 ·rw[if_neg c3];refine wpS_bind (gE hO (by exact hk) kX kY (by rw[xx];exact sX.2.1) (by rw[yy];exact sY1) (by omega) (by omega) (fun x hx z hz=>?_) (fun y hy x hx=>?_) fun r st2 mf ge=>?_)
  ·rw[yy,eY3] at hx;simp at hx;rw[hx];rw[xx] at hz;exact q2 z hz
  ·rw[axl x hx];exact last y hy
  ·refine wpS_bind (wpS_modify (wpS_bind (wpS_get (wpS_pure ?_))));have f:=fin r st2 mf (ge.1.trans hk) (ge.2.2.2.trans hf) ge.2.1 ge.2.2.1;have fl:failedOf st2=none:=ge.2.2.2.trans hf;show Q ((failedOf st2).isNone) _;rw[fl];exact f
end
section
variable {prog:Program} {w:World} {A:Around} {E:sE} {s:Shared} {κ:KeyKind} {kd:SortKind}
theorem lZ {arr:Array Keyed} {P R:List Keyed} (e:arr.toList=P++R) {i:Nat} {x:Keyed} (h:R[i]?=some x):arr[P.length+i]?=some x:=by
 have:arr.toList[P.length+i]?=some x:=by rw[e,A7 (by omega),BD];exact h
 simpa using this
theorem dg (hO:fR prog w A E s κ kd) {st:SortSt} {P R:List Keyed} {i j i' j':Nat} {x y:Keyed} {Q:Option Bool->SortSt->Prop} (hk:kindOf st=kd) (ka:∀x∈R,Kd κ x) (e:(arrOf st).toList=P++R)
  (hi:R[i]?=some x) (hj:R[j]?=some y) (ei:i'=P.length+i) (ej:j'=P.length+j) (h:Q (some (κ.blt (kk κ x) (kk κ y))) st):wpS (model prog w) A E s (ltAt' i' j') Q st:=by
 subst ei ej;rw[ltAt'_eq];refine wpS_bind (wpS_get ?_);exact wpS_bind (au (lZ e hi) (wpS_bind (au (lZ e hj) (dv hO hk (ka x (AH hi)) (ka y (AH hj)) h))))
theorem take_snoc {R:List Keyed} {n:Nat} {x:Keyed} (h:R[n]?=some x):R.take (n+1)=R.take n++ [x]:=by
 rw[List.take_succ,h]
 rfl
theorem qi {R:List Keyed} {n:Nat} {x y:Keyed} (h1:1<=n) (hs:(R.take n).Pairwise (Lq κ)) (hy:R[n-1]?=some y) (hx:R[n]?=some x) (l:Lq κ y x):(R.take (n+1)).Pairwise (Lq κ):=by
 have e1:R.take n=R.take (n-1)++ [y]:=by
  have:=take_snoc hy
  rwa [show n-1+1=n by omega] at this
 rw[take_snoc hx,A8];refine ⟨hs,by simp,fun u hu v hv=>?_⟩
 simp at hv;rw[hv];rw[e1] at hu hs;rcases AE.mp hu with k|k
 ·exact KeyOrd.kle_trans ((A8.mp hs).2.2 u k y (by simp)) l
 ·simp at k;rw[k];exact l
theorem i5 {st:SortSt} {R:List Keyed} {n0 N:Nat} (hN:N=R.length) {body:Nat->Option (Option Nat)×Nat->StateT SortSt Sem (ForInStep (Option (Option Nat)×Nat))} {Q:Option (Option Nat)×Nat->SortSt->Prop} (h1:1<=n0) (hn:n0<=R.length) (hs:(R.take n0).Pairwise (Lq κ))
  (hb:∀n x y (i:Nat) (Q':ForInStep (Option (Option Nat)×Nat)->SortSt->Prop),1<=n->R[n]?=some x->R[n-1]?=some y->(κ.blt (kk κ x) (kk κ y)=true->Q' (.done (none,n)) st)->(κ.blt (kk κ x) (kk κ y)=false->Q' (.yield (none,n+1)) st)->wpS (model prog w) A E s (body i (none,n)) Q' st)
  (h:∀n,n0<=n->n<=R.length->(R.take n).Pairwise (Lq κ)->(n=R.length∨∃x y,R[n]?=some x/\R[n-1]?=some y/\κ.blt (kk κ x) (kk κ y)=true)->Q (none,n) st):wpS (model prog w) A E s (forIn [n0:N] (none,n0) body) Q st:=by
 subst hN;refine wpS_forRange (I:=fun i c st'=>st'=st/\c=(none,i)/\n0<=i/\(R.take i).Pairwise (Lq κ)) ?_ ?_ ⟨rfl,rfl,AB _,hs⟩
 ·rintro i c st' hi1 hi2 ⟨rfl,rfl,h3,h4⟩;have ex:=A0 hi2;have ey:=A0 (show i-1<R.length by omega)
  refine hb i _ _ i _ (by omega) ex ey (fun c=>h i h3 (by omega) h4 (.inr ⟨_,_,ex,ey,c⟩)) (fun c=>⟨rfl,rfl,by omega,qi (by omega) h4 ey ex c⟩)
 ·rintro c st' ⟨rfl,rfl,h3,h4⟩;rw[Nat.max_eq_right hn] at h3 h4⊢;exact h _ h3 (AB _) h4 (.inl rfl)
theorem dN {arr:Array Keyed} {P D S:List Keyed} (e:arr.toList=P++(D++S)):(mirror arr P.length (P.length+D.length) ((P.length+D.length-P.length)/2)).toList=P++(D.reverse++S):=by
 have sz:arr.size=P.length+(D.length+S.length):=by
  have:=congrArg BW e
  simpa using this
 apply List.ext_getElem?;intro k;have q:=getElem?_mirror_all (xs:=arr) (i:=P.length) (j:=P.length+D.length) (by omega) k
 have q':(mirror arr P.length (P.length+D.length) ((P.length+D.length-P.length)/2)).toList[k]?=(mirror arr P.length (P.length+D.length) ((P.length+D.length-P.length)/2))[k]?:=by simp
 have ga:∀i,arr[i]?=(P++(D++S))[i]?:=fun i=>by rw[<-e,AM]
 rw[q',q,ga,ga]
 by_cases c:P.length<=k/\k<P.length+D.length
 ·rw[if_pos c,A7 (by omega),AA (by omega),A7 (by omega),AA (by rw[BU];omega),List.getElem?_reverse (by omega)]
  congr 1
  omega
 ·rw[if_neg c]
  by_cases c2:k<P.length
  ·rw[AA c2,AA c2]
  ·rw[A7 (by omega),A7 (by omega),A7 (by omega),A7 (by rw[BU];omega),BU]
structure Kp (st st':SortSt):Prop where
 kind:kindOf st'=kindOf st
 failed:failedOf st'=failedOf st
 pend:pendingOf st'=pendingOf st
def NI (κ:KeyKind) (L:List Keyed) (n:Nat):Prop:=((L.map (kk κ)).take n).Pairwise fun a b=>κ.blt a b=false
theorem NI.snoc {L:List Keyed} {n:Nat} {x y:Keyed} (h1:1<=n) (h:NI κ L n) (hy:L[n-1]?=some y) (hx:L[n]?=some x) (l:κ.blt (kk κ y) (kk κ x)=false):NI κ L (n+1):=by
 have ey:(L.map (kk κ))[n-1]?=some (kk κ y):=by rw[AF,hy];rfl
 have ex:(L.map (kk κ))[n]?=some (kk κ x):=by rw[AF,hx];rfl
 unfold NI at h⊢;have e1:(L.map (kk κ)).take n=(L.map (kk κ)).take (n-1)++ [kk κ y]:=by
  have:=List.take_succ (l:=L.map (kk κ)) (i:=n-1);rw[show n-1+1=n by omega,ey] at this
  exact this
 have e2:(L.map (kk κ)).take (n+1)=(L.map (kk κ)).take n++ [kk κ x]:=by
  rw[List.take_succ,ex]
  rfl
 rw[e2,A8];refine ⟨h,by simp,fun u hu v hv=>?_⟩
 simp at hv;rw[hv];rw[e1] at hu h;rcases AE.mp hu with k|k
 ·have q:=(A8.mp h).2.2 u k (kk κ y) (by simp)
  exact KeyOrd.kle_trans (O:=κ.toKeyOrd) l q
 ·simp at k;rw[k];exact l
theorem NI.falls {L:List Keyed} {n:Nat} (h:NI κ L n):(L.take n).Pairwise (fun p q=>Lq κ q p):=by
 unfold NI at h;rw[<-List.map_take,BA] at h;exact h
def mL (κ:KeyKind) (L:List Keyed) (n m:Nat):Prop:=∃(D1 D2 S:List Keyed) (a:κ.α),L=D1++(D2++S)/\D1.length+D2.length=n/\D2.length=m+1/\∀x∈D2,kk κ x=a
theorem jF {D:List Keyed} {a:κ.α} (h:∀x∈D,kk κ x=a):D.reverse.map (kk κ)=D.map (kk κ):=by
 have e1:D.map (kk κ)=List.replicate D.length a:=List.eq_replicate_iff.mpr ⟨by simp,fun b hb=>by
  obtain ⟨x,hx,rfl⟩:=Ab.mp hb;exact h x hx⟩
 have e2:D.reverse.map (kk κ)=List.replicate D.length a:=List.eq_replicate_iff.mpr ⟨by simp,fun b hb=>by
  obtain ⟨x,hx,rfl⟩:=Ab.mp hb;exact h x (B7.mp hx)⟩
 rw[e1,e2]
theorem eC {st:SortSt} {P L:List Keyed} {n m i j:Nat} {Q:Unit->SortSt->Prop} (e:(arrOf st).toList=P++L) (q:mL κ L n m) (ei:i=P.length+n-(m+1)) (ej:j=P.length+n)
  (h:∀st' L',Kp st st'->(arrOf st').toList=P++L'->L'.Perm L->L'.map (kk κ)=L.map (kk κ)->(∀k,n<=k->L'[k]?=L[k]?)->Q () st'):wpS (model prog w) A E s (reverseSlice' i j) Q st:=by
 obtain ⟨D1,D2,S,a,rfl,l1,l2,al⟩:=q;refine wpS_reverse ?_;have er:(arrOf st).toList=(P++D1)++(D2++S):=by rw[e];simp
 have em:=dN er;have i1:i=(P++D1).length:=by rw[A9];omega
 have j1:j=(P++D1).length+D2.length:=by rw[A9];omega
 rw[i1,j1];refine h (setArr st (mirror (arrOf st) (P++D1).length ((P++D1).length+D2.length) (((P++D1).length+D2.length-(P++D1).length)/2))) (D1++(D2.reverse++S)) ⟨rfl,rfl,rfl⟩ ?_ ?_ ?_ fun k hk=>?_
 ·rw[<-AI];exact em
 ·exact Ah _ (Au _ (List.reverse_perm _))
 ·simp only[Aq];rw[jF al]
 ·rw[A7 (by omega),A7 (by rw[BU];omega),A7 (by omega),A7 (by omega),BU]
theorem Kp.trans {a b c:SortSt} (h1:Kp a b) (h2:Kp b c):Kp a c:=⟨h2.kind.trans h1.kind,h2.failed.trans h1.failed,h2.pend.trans h1.pend⟩
theorem fU {L:List Keyed} {n:Nat} (h:n<L.length):mL κ L (n+1) 0:=by
 refine ⟨L.take n,[L[n]],L.drop (n+1),kk κ L[n],?_,by rw[AK];simp;omega,rfl,fun x hx=>by simp at hx;rw[hx]⟩
 have:=B6 h;rw[List.singleton_append,<-this,AL]
theorem mL.more {L:List Keyed} {n m:Nat} {x y:Keyed} (h:mL κ L n m) (hy:L[n-1]?=some y) (hx:L[n]?=some x) (e:kk κ x=kk κ y):mL κ L (n+1) (m+1):=by
 obtain ⟨D1,D2,S,a,rfl,l1,l2,al⟩:=h;have my:y∈D2:=by
  rw[A7 (by omega),AA (by omega)] at hy
  exact AH hy
 rw[A7 (by omega),A7 (by omega)] at hx
 have z:n-D1.length-D2.length=0:=by omega
 rw[z] at hx;cases S with
 |nil=>simp at hx
 |cons s S=>
  simp at hx;subst hx;refine ⟨D1,D2++ [s],S,a,by simp,by simp;omega,by simp;omega,fun u hu=>?_⟩
  rcases AE.mp hu with k|k
  ·exact al u k
  ·simp at k;rw[k,e];exact al y my
theorem kE {st st6:SortSt} {P L R:List Keyed} {n:Nat} {f:Unit->StateT SortSt Sem (Option Nat)} {Q:Option Nat->SortSt->Prop} (kp:Kp st st6) (e:(arrOf st6).toList=P++L) (pr:L.Perm R) (hn:n<=R.length) (ni:NI κ L n)
  (h:∀st7 M,Kp st st7->(arrOf st7).toList=P++M->M.Perm R->(M.take n).Pairwise (Lq κ)->wpS (model prog w) A E s (f ()) Q st7):wpS (model prog w) A E s (reverseSlice' P.length (P.length+n)>>=f) Q st6:=by
 have tl:(L.take n).length=n:=by rw[AK,pr.length_eq];omega
 have er:(arrOf st6).toList=P++(L.take n++L.drop n):=by rw[AL];exact e
 have em:=dN er;rw[tl] at em;refine wpS_bind (wpS_reverse (h _ ((L.take n).reverse++L.drop n) ⟨kp.kind,kp.failed,kp.pend⟩ em ?_ ?_))
 ·refine Bl.trans (Au _ (List.reverse_perm _)) ?_;rw[AL];exact pr
 ·rw[List.take_left' (by rw[BU,tl]),List.pairwise_reverse]
  exact ni.falls
theorem gG (hO:fR prog w A E s κ kd) {st:SortSt} {P R:List Keyed} {Q:Option Nat->SortSt->Prop} (hk:kindOf st=kd) (ka:∀x∈R,Kd κ x) (e:(arrOf st).toList=P++R) (hR:1<=R.length)
  (h:∀st' X S,Kp st st'->(arrOf st').toList=P++(X++S)->X.Pairwise (Lq κ)->(X++S).Perm R->1<=X.length->Q (some X.length) st'):wpS (model prog w) A E s (countRun' P.length R.length) Q st:=by
 have got:∀n,1<=n->n<=R.length->(R.take n).Pairwise (Lq κ)->Q (some n) st:=fun n h1 h2 h3=>by
  have q:=h st (R.take n) (R.drop n) ⟨rfl,rfl,rfl⟩ (by rw[AL];exact e) h3 (by rw[AL]) (by rw[AK];omega)
  rwa [AK,BZ h2] at q
 unfold countRun';refine b6 ?_;try dsimp only
 refine wpS_bind (i5 (κ:=κ) (R:=R) rfl (AB 1) hR ?_ (fun n x y i Q' h1 hx hy ht hf=>?_) fun n h1 h2 h3 h4=>?_)
 ·cases R with
  |nil=>simp
  |cons=>simp
 ·refine wpS_bind (dg hO hk ka e hx hy rfl (by omega) ?_)
  cases c:κ.blt (kk κ x) (kk κ y) with
  |true=>exact wpS_pure (ht c)
  |false=>exact wpS_pure (hf c)
 try dsimp only
 by_cases c1:n=R.length
 ·rw[if_pos (beq_iff_eq.mpr c1)];exact wpS_pure (got n h1 h2 h3)
 rw[if_neg (fun z=>c1 (beq_iff_eq.mp z))]
 rcases h4 with h4|⟨x,y,hx,hy,lt⟩
 ·exact absurd h4 c1
 have nl:n<R.length:=by omega
 have all:∀(i j:Nat) (u v:Keyed),i<=j->j<n->R[i]?=some u->R[j]?=some v->Lq κ u v:=fun i j u v hij hj hu hv=>by
  rcases Nat.lt_or_ge i j with c|c
  ·obtain ⟨l1,g1⟩:=A4.mp hu;obtain ⟨l2,g2⟩:=A4.mp hv;have q:=Bp.mp h3 i j (by rw[AK];omega) (by rw[AK];omega) c
   rw[List.getElem_take,List.getElem_take,g1,g2] at q;exact q
  ·have:i=j:=by omega
   subst this;rw[hu] at hv;cases hv;exact KeyOrd.kle_refl _
 by_cases c2:n>1
 case' pos=>
  rw[if_pos c2];obtain ⟨x0,hx0⟩:∃x,R[0]?=some x:=⟨_,A0 (by omega)⟩
  refine wpS_bind (dg hO hk ka e hx0 hy rfl (by omega) ?_)
  try dsimp only
  cases rose:κ.blt (kk κ x0) (kk κ y) with
  |true=>exact wpS_pure (got n h1 h2 h3)
  |false=>?_
  try dsimp only
  rw[if_neg (by decide)]
  have al:∀z∈R.take n,kk κ z=kk κ x0:=fun z hz=>by
   obtain ⟨k,hk'⟩:=Ak.mp hz;have kn:k<n:=by
    have:=(A4.mp hk').1;rw[AK] at this;omega
   rw[Ar kn] at hk';have a1:=all 0 k x0 z (by omega) kn hx0 hk'
   have a2:=all k (n-1) z y (by omega) (by omega) hk' hy
   exact KeyOrd.kle_antisymm (O:=κ.toKeyOrd) (KeyOrd.kle_trans (O:=κ.toKeyOrd) a2 rose) a1
  have eq0:mL κ R n (n-1):=⟨[],R.take n,R.drop n,kk κ x0,by simp,by rw[AK];simp;omega,by rw[AK];omega,al⟩
  have ni0:NI κ R n:=by
   unfold NI;rw[<-List.map_take];refine BA.mpr (List.Pairwise.imp_of_mem (R:=fun _ _=>True) (fun {u v} hu hv _=>?_) (List.pairwise_of_forall fun _ _=>trivial))
   rw[al u hu,al v hv];exact κ.irrefl _
  have ni1:NI κ R (n+1):=ni0.snoc h1 hy hx (KeyOrd.kle_of_klt lt);refine wpS_bind (eC (κ:=κ) e eq0 (by omega) rfl fun st1 L0 kp1 e1 p1 m1 _=>?_)
  have niL:NI κ L0 (n+1):=by
   unfold NI at ni1⊢;rw[m1];exact ni1
 case' neg=>
  rw[if_neg c2];have n1:n=1:=by omega
  have ni1:NI κ R (n+1):=by
   refine NI.snoc h1 ?_ hy hx (KeyOrd.kle_of_klt lt);rw[n1];unfold NI;cases R with
   |nil=>simp
   |cons=>simp
  have kp1:Kp st st:=⟨rfl,rfl,rfl⟩;have e1:=e;have p1:=List.Perm.refl R;have niL:=ni1
 all_goals
  refine wpS_bind (cu ?_);have n2:2<=n+1:=by omega
  refine wpS_bind (wpS_mono (wpS_forRange (I:=fun i c st'=>∃L m,c=(none,i,m)/\Kp st st'/\(arrOf st').toList=P++L/\L.Perm R/\NI κ L i/\mL κ L i m/\2<=i)
   (Q:=fun c st'=>∃n' L m,c=(none,n',m)/\Kp st st'/\(arrOf st').toList=P++L/\L.Perm R/\NI κ L n'/\mL κ L n' m/\2<=n'/\n'<=R.length) ?ds ?de ⟨_,0,rfl,kp1,e1,p1,niL,?i0,n2⟩) ?dp)
  case i0=>
   exact fU (by rw[p1.length_eq];omega)
  case de=>
   rintro c st' ⟨L,m,rfl,kp,eL,pL,ni,eq,g1⟩;have:max (n+1) R.length=R.length:=by omega
   rw[this] at ni eq g1⊢;exact ⟨_,L,m,rfl,kp,eL,pL,ni,eq,g1,AB _⟩
  case ds=>
   rintro i c st' hi1 hi2 ⟨L,m,rfl,kp,eL,pL,ni,eq,g1⟩;have hi3:i<L.length:=by rw[pL.length_eq];exact hi2
   have ex:=A0 hi3;have ey:=A0 (show i-1<L.length by omega)
   have kL:∀x∈L,Kd κ x:=fun x hx=>ka x (pL.mem_iff.mp hx)
   have hk':=kp.kind.trans hk;try dsimp only
   refine wpS_bind (dg hO hk' kL eL ex ey rfl (by omega) ?_)
   try dsimp only
   cases c:κ.blt (kk κ L[i]) (kk κ L[i-1]) with
   |true=>
    rw[if_pos rfl]
    by_cases hm:m>0
    ·rw[if_pos hm];refine wpS_bind (eC (κ:=κ) eL eq rfl rfl fun st6 L6 kp6 e6 p6 m6 g6=>wpS_pure ⟨L6,0,rfl,kp.trans kp6,e6,p6.trans pL,?_,fU (by rw[p6.length_eq];omega),by omega⟩)
     have:=ni.snoc (by omega) ey ex (KeyOrd.kle_of_klt c)
     unfold NI at this⊢;rw[m6];exact this
    ·rw[if_neg hm];exact wpS_pure ⟨L,0,rfl,kp,eL,pL,ni.snoc (by omega) ey ex (KeyOrd.kle_of_klt c),fU (by omega),by omega⟩
   |false=>
    rw[if_neg (by decide)]
    refine wpS_bind (dg hO hk' kL eL ey ex (by omega) rfl ?_)
    try dsimp only
    cases c':κ.blt (kk κ L[i-1]) (kk κ L[i]) with
    |true=>exact wpS_pure ⟨i,L,m,rfl,kp,eL,pL,ni,eq,g1,by omega⟩
    |false=>exact wpS_pure ⟨L,m+1,rfl,kp,eL,pL,ni.snoc (by omega) ey ex c',eq.more ey ex (κ.total _ _ c c'),by omega⟩
  case dp=>
   rintro c st' ⟨n',L,m,rfl,kp,eL,pL,ni,eq,g1,g2⟩;try dsimp only
   by_cases hm:m>0
   case' pos=>
    rw[if_pos hm];refine wpS_bind (eC (κ:=κ) eL eq rfl rfl fun st6 L6 kp6' e6 p6' m6 g6=>?_)
    have kp6:=kp.trans kp6';have p6:=p6'.trans pL;have ni6:NI κ L6 n':=by
     unfold NI at ni⊢;rw[m6];exact ni
   case' neg=>
    rw[if_neg hm];have kp6:=kp;have e6:=eL;have p6:=pL;have ni6:=ni
   all_goals
    refine kE (κ:=κ) kp6 e6 p6 g2 ni6 fun st7 M kp7 e7 p7 s7=>?_
    have rl:=p7.length_eq;have kM:∀x∈M,Kd κ x:=fun x hx=>ka x (p7.mem_iff.mp hx)
    refine wpS_bind (i5 (κ:=κ) (R:=M) rl.symm (by omega) (by omega) s7 (fun m x y i Q' h1 hx hy ht hf=>?_) fun m h1 h2 h3 _=>?_)
    ·try dsimp only
     refine wpS_bind (dg hO (kp7.kind.trans hk) kM e7 hx hy rfl (by omega) ?_)
     cases c:κ.blt (kk κ x) (kk κ y) with
     |true=>exact wpS_pure (ht c)
     |false=>exact wpS_pure (hf c)
    ·have q:=h st7 (M.take m) (M.drop m) kp7 (by rw[AL];exact e7) h3 (by rw[AL];exact p7) (by rw[AK];omega)
     rw[AK,BZ h2] at q;exact wpS_pure q
end
theorem gH {arr:Array Keyed} {B V W:List Keyed} {x:Keyed} (e:arr.toList=B++(V++x::W)):(bubble arr (B.length+V.length) V.length).toList=B++(x::(V++W)):=by
 have sz:arr.size=B.length+(V.length+(W.length+1)):=by
  have:=congrArg BW e
  simpa using this
 apply List.ext_getElem?;intro k;have q:=getElem?_bubble (xs:=arr) (src:=B.length+V.length) (by omega) V.length (by omega) k
 rw[Nat.add_sub_cancel] at q;have ga:∀i,arr[i]?=(B++(V++x::W))[i]?:=fun i=>by rw[<-e,AM]
 rw[AM,q,ga,ga,ga]
 by_cases c1:k=B.length
 ·rw[if_pos c1];subst c1;simp
 rw[if_neg c1]
 by_cases c2:B.length<k/\k<=B.length+V.length
 ·rw[if_pos c2,A7 (by omega),AA (by omega),A7 (by omega)]
  have:k-B.length=(k-1-B.length)+1:=by omega
  rw[this,BV,AA (by omega)]
 rw[if_neg c2]
 by_cases c3:k<B.length
 ·rw[AA c3,AA c3]
 ·rw[A7 (by omega),A7 (by omega),A7 (by omega)]
  have e1:k-B.length-V.length=(k-B.length-V.length-1)+1:=by omega
  have e2:k-B.length=(k-B.length-1)+1:=by omega
  rw[e1,BV,e2,BV,A7 (by omega)]
  congr 1
  omega
section
variable {prog:Program} {w:World} {A:Around} {E:sE} {s:Shared} {κ:KeyKind} {kd:SortKind}
theorem jG (hO:fR prog w A E s κ kd) {st:SortSt} {P D S:List Keyed} {ok n:Nat} {Q:Bool->SortSt->Prop} (hn:n=D.length) (hk:kindOf st=kd) (ka:∀x∈D,Kd κ x) (e:(arrOf st).toList=P++(D++S)) (h1:1<=ok) (h2:ok<=D.length) (hs:(D.take ok).Pairwise (Lq κ))
  (h:∀st' X,Kp st st'->(arrOf st').toList=P++(X++S)->X.Pairwise (Lq κ)->X.Perm D->Q true st'):wpS (model prog w) A E s (binarySort' P.length n ok) Q st:=by
 subst hn;unfold binarySort';refine b6 ?_;try dsimp only
 have mx:max ok 1=ok:=by omega
 rw[mx];refine wpS_bind (wpS_mono (wpS_forRange (I:=fun k c st'=>c=(none,())/\Kp st st'/\∃X,(arrOf st').toList=P++(X++S)/\X.Perm D/\(X.take k).Pairwise (Lq κ))
  (Q:=fun c st'=>c=(none,())/\Kp st st'/\∃X,(arrOf st').toList=P++(X++S)/\X.Perm D/\X.Pairwise (Lq κ)) ?s1 ?e1 ⟨rfl,⟨rfl,rfl,rfl⟩,D,e,List.Perm.refl _,hs⟩) ?p1)
 case e1=>
  rintro c st' ⟨rfl,kp,X,eX,pX,sX⟩;rw[Nat.max_eq_right h2,Aa (by rw[pX.length_eq];exact AB _)] at sX
  exact ⟨rfl,kp,X,eX,pX,sX⟩
 case p1=>
  rintro c st' ⟨rfl,kp,X,eX,pX,sX⟩;exact wpS_pure (h st' X kp eX sX pX)
 case s1=>
  rintro k c st' hk1 hk2 ⟨rfl,kp,X,eX,pX,sX⟩;have xl:=pX.length_eq;have kaX:∀x∈X++S,x∈X->Kd κ x:=fun x _ hx=>ka x (pX.mem_iff.mp hx)
  have hkx:k<X.length:=by omega
  have ex:=A0 hkx;generalize X[k]=x at ex;have eX':(arrOf st').toList=P++X++S:=by rw[eX,AI]
  have lt:∀{i:Nat} {y:Keyed} {Q':Option Bool->SortSt->Prop},X[i]?=some y->Q' (some (κ.blt (kk κ x) (kk κ y))) st'->wpS (model prog w) A E s (ltAt' (P.length+k) (P.length+i)) Q' st':=fun {i y Q'} hy hq=>by
   have il:=(A4.mp hy).1;rw[ltAt'_eq];refine wpS_bind (wpS_get ?_);exact wpS_bind (au (lZ eX (by rw[AA hkx];exact ex)) (wpS_bind (au (lZ eX (by rw[AA il];exact hy)) (dv hO (kp.kind.trans hk) (ka x (pX.mem_iff.mp (AH ex))) (ka y (pX.mem_iff.mp (AH hy))) hq))))
  have mono:∀{i j:Nat} {u v:Keyed},i<=j->j<k->X[i]?=some u->X[j]?=some v->Lq κ u v:=fun {i j u v} hij hj hu hv=>by
   rcases Nat.lt_or_ge i j with c|c
   ·obtain ⟨l1,g1⟩:=A4.mp hu;obtain ⟨l2,g2⟩:=A4.mp hv;have q:=Bp.mp sX i j (by rw[AK];omega) (by rw[AK];omega) c
    rw[List.getElem_take,List.getElem_take,g1,g2] at q;exact q
   ·have:i=j:=by omega
    subst this;rw[hu] at hv;cases hv;exact KeyOrd.kle_refl _
  try dsimp only
  refine wpS_bind (wpS_mono (wpS_forRange (I:=fun i c st''=>st''=st'/\∃l r,c=(none,l,r)/\l<=r/\r<=k/\(∀j u,j<l->X[j]?=some u->Lq κ u x)/\(∀j u,r<=j->j<k->X[j]?=some u->Lq κ x u)/\r-l+i<=k)
   (Q:=fun c st''=>st''=st'/\∃l,c=(none,l,l)/\l<=k/\(∀j u,j<l->X[j]?=some u->Lq κ u x)/\(∀j u,l<=j->j<k->X[j]?=some u->Lq κ x u)) ?s2 ?e2 ⟨rfl,0,k,rfl,by omega,by omega,fun j u z=>absurd z (by omega),fun j u z z'=>absurd z' (by omega),by omega⟩) ?p2)
  case e2=>
   rintro c st'' ⟨rfl,l,r,rfl,a1,a2,a3,a4,a5⟩;have:l=r:=by omega
   subst this;exact ⟨rfl,l,rfl,a2,a3,a4⟩
  case s2=>
   rintro i c st'' _ hi ⟨rfl,l,r,rfl,a1,a2,a3,a4,a5⟩;try dsimp only
   by_cases c:l≥r
   ·rw[if_pos c];have:l=r:=by omega
    subst this;exact wpS_pure ⟨rfl,l,rfl,a2,a3,a4⟩
   ·rw[if_neg c];have ml:(l+r)/2<X.length:=by omega
    have em:=A0 ml;refine wpS_bind (lt em ?_);try dsimp only
    cases cc:κ.blt (kk κ x) (kk κ X[(l+r)/2]) with
    |true=>exact wpS_pure ⟨rfl,_,_,rfl,by omega,by omega,a3,fun j u hj hj2 hu=>KeyOrd.kle_trans (KeyOrd.kle_of_klt cc) (mono hj hj2 em hu),by omega⟩
    |false=>exact wpS_pure ⟨rfl,_,_,rfl,by omega,by omega,fun j u hj hu=>KeyOrd.kle_trans (mono (show j<=(l+r)/2 by omega) (by omega) hu em) cc,a4,by omega⟩
  case p2=>
   rintro c st'' ⟨rfl,l,rfl,a2,a3,a4⟩;try dsimp only
   have eX2:X=X.take l++((X.take k).drop l++x::X.drop (k+1)):=by
    obtain ⟨l1,g1⟩:=A4.mp ex;have d1:X.drop k=x::X.drop (k+1):=by rw[B6 l1,g1]
    have t1:X.take k=X.take l++(X.take k).drop l:=by
     have q:=(AL l (X.take k)).symm;rw[List.take_take,BZ a2] at q;exact q
    rw[<-d1,<-AI,<-t1,AL]
   have lv:((X.take k).drop l).length=k-l:=by rw[List.length_drop,AK];omega
   have lu:(X.take l).length=l:=by rw[AK];omega
   have mU:∀u∈X.take l,Lq κ u x:=fun u hu=>by
    obtain ⟨j,hj⟩:=Ak.mp hu;have jl:=(A4.mp hj).1;rw[lu] at jl;rw[Ar jl] at hj;exact a3 j u jl hj
   have mV:∀u∈(X.take k).drop l,Lq κ x u:=fun u hu=>by
    obtain ⟨j,hj⟩:=Ak.mp hu;have jl:=(A4.mp hj).1;rw[lv] at jl;rw[BJ,Ar (by omega)] at hj
    exact a4 (l+j) u (by omega) (by omega) hj
   have sUV:(X.take l++(X.take k).drop l).Pairwise (Lq κ):=by
    have q:=(AL l (X.take k)).symm;rw[List.take_take,BZ a2] at q;rw[<-q];exact sX
   generalize X.take l=U at*;generalize (X.take k).drop l=V at*;generalize X.drop (k+1)=W at*;subst eX2;have eb:(arrOf st'').toList=(P++U)++(V++x::(W++S)):=by rw[eX];simp
   have bl:=gH eb;have l1:(P++U).length+V.length=P.length+k:=by rw[A9];omega
   rw[l1] at bl;have l2:P.length+k-(P.length+l)=V.length:=by omega
   have sp:=A8.mp sUV;refine wpS_bind ?_;show wpS _ _ _ _ (moveDown' (P.length+k) (P.length+l)) _ _;rw[moveDown'_eq];refine wpS_modify (wpS_pure ⟨rfl,⟨kp.kind,kp.failed,kp.pend⟩,U++(x::(V++W)),?_,?_,?_⟩)
   ·show (bubble (arrOf st'') (P.length+k) (P.length+k-(P.length+l))).toList=_;rw[l2,bl];simp
   ·refine Bl.trans (Ah _ ?_) pX;exact (List.perm_middle).symm
   ·have t:U++(x::(V++W))=(U++x::V)++W:=by simp
    rw[t,List.take_left' (by simp;omega),A8,B8]
    refine ⟨sp.1,⟨mV,sp.2.1⟩,fun u hu v hv=>?_⟩
    rcases AT.mp hv with c|c
    ·rw[c];exact mU u hu
    ·exact sp.2.2 u hu v c
end
def Pd (κ:KeyKind):Nat->List (Nat×Nat×Nat)->List (List Keyed)->Prop
 |_,[],[]=>True
 |a,p::ps,r::rs=>p.1=a/\p.2.1=r.length/\1<=r.length/\r.Pairwise (Lq κ)/\Pd κ (a+r.length) ps rs
 |_,_,_=>False
variable {κ:KeyKind} {kd:SortKind}
theorem Pd.len:∀{a:Nat} {ps:List (Nat×Nat×Nat)} {rs:List (List Keyed)},Pd κ a ps rs->ps.length=rs.length
 |_,[],[],_=>rfl
 |_,_::_,_::_,h=>by simp[Pd.len h.2.2.2.2]
 |_,[],_::_,h=>h.elim
 |_,_::_,[],h=>h.elim
theorem Pd.snoc:∀{a:Nat} {ps:List (Nat×Nat×Nat)} {rs:List (List Keyed)} {p:Nat×Nat×Nat} {r:List Keyed},Pd κ a ps rs->p.1=a+rs.flatten.length->p.2.1=r.length->1<=r.length->r.Pairwise (Lq κ)->Pd κ a (ps++ [p]) (rs++ [r])
 |_,[],[],p,r,_,h1,h2,h3,h4=>⟨by simpa using h1,h2,h3,h4,trivial⟩
 |a,q::ps,u::rs,p,r,h,h1,h2,h3,h4=>⟨h.1,h.2.1,h.2.2.1,h.2.2.2.1,Pd.snoc h.2.2.2.2 (by rw[h1];simp;omega) h2 h3 h4⟩
 |_,[],_::_,_,_,h,_,_,_,_=>h.elim
 |_,_::_,[],_,_,h,_,_,_,_=>h.elim
theorem Pd.big:∀{a:Nat} {ps:List (Nat×Nat×Nat)} {rs:List (List Keyed)},Pd κ a ps rs->rs.length<=rs.flatten.length
 |_,[],[],_=>by simp
 |_,_::_,r::rs,h=>by
  have:=Pd.big h.2.2.2.2;have:=h.2.2.1;rw[List.flatten_cons,A9,Ap];omega
 |_,[],_::_,h=>h.elim
 |_,_::_,[],h=>h.elim
theorem Pd.modify (f:Nat×Nat×Nat->Nat×Nat×Nat) (hf:∀x,(f x).1=x.1/\(f x).2.1=x.2.1):∀{a:Nat} {ps:List (Nat×Nat×Nat)} {rs:List (List Keyed)} (i:Nat),Pd κ a ps rs->Pd κ a (ps.modify i f) rs
 |_,[],[],i,h=>by cases i<;>exact h
 |_,p::ps,r::rs,0,h=>by
  rw[List.modify_zero_cons];exact ⟨(hf p).1.trans h.1,(hf p).2.trans h.2.1,h.2.2⟩
 |_,p::ps,r::rs,i+1,h=>by
  rw[List.modify_succ_cons];exact ⟨h.1,h.2.1,h.2.2.1,h.2.2.2.1,Pd.modify f hf i h.2.2.2.2⟩
 |_,[],_::_,_,h=>h.elim
 |_,_::_,[],_,h=>h.elim
theorem Pd.two:∀{a:Nat} {ps:List (Nat×Nat×Nat)} {rs:List (List Keyed)} {i:Nat},Pd κ a ps rs->i+1<rs.length->
  ∃RL X Y RT pa pb,rs=RL++X::Y::RT/\RL.length=i/\ps[i]?=some (a+RL.flatten.length,X.length,pa)/\ps[i+1]?=some (a+RL.flatten.length+X.length,Y.length,pb)/\1<=X.length/\1<=Y.length/\X.Pairwise (Lq κ)/\Y.Pairwise (Lq κ)/\
   ∀Z:List Keyed,Z.length=X.length+Y.length->Z.Pairwise (Lq κ)->Pd κ a ((ps.set i (a+RL.flatten.length,X.length+Y.length,pa)).eraseIdx (i+1)) (RL++Z::RT)
 |_,[],[],i,_,hi=>by simp at hi
 |a,p::q::ps,X::Y::rs,0,h,_=>by
  obtain ⟨h1,h2,h3,h4,h5,h6,h7,h8,h9⟩:=h;refine ⟨[],X,Y,rs,p.2.2,q.2.2,rfl,rfl,?_,?_,h3,h7,h4,h8,fun Z hz sz=>?_⟩
  ·simp;rw[<-h1,<-h2]
  ·simp;rw[<-h5,<-h6]
  ·refine ⟨by simp,hz.symm,by omega,sz,?_⟩
   have:a+Z.length=a+X.length+Y.length:=by omega
   rw[this]
   simpa using h9
 |a,[p],X::Y::rs,_,h,_=>h.2.2.2.2.elim
 |a,p::ps,r::rs,i+1,h,hi=>by
  obtain ⟨RL,X,Y,RT,pa,pb,e1,e2,e3,e4,e5,e6,e7,e8,e9⟩:=Pd.two (i:=i) h.2.2.2.2 (by simpa using hi)
  refine ⟨r::RL,X,Y,RT,pa,pb,by rw[e1];rfl,by simp[e2],?_,?_,e5,e6,e7,e8,fun Z hz sz=>?_⟩
  ·simpa [Nat.add_assoc] using e3
  ·simpa [Nat.add_assoc] using e4
  ·have q:=e9 Z hz sz;refine ⟨h.1,h.2.1,h.2.2.1,h.2.2.2.1,?_⟩
   simpa [Nat.add_assoc] using q
 |_,_::_,[_],0,_,hi=>by simp at hi
 |_,[],_::_,_,h,_=>h.elim
 |_,_::_,[],_,h,_=>h.elim
structure Sv (kd:SortKind) (κ:KeyKind) (a0:List Keyed) (st:SortSt) (rs:List (List Keyed)) (rest:List Keyed):Prop where
 kind:kindOf st=kd
 failed:failedOf st=none
 arr:(arrOf st).toList=rs.flatten++rest
 pd:Pd κ 0 (pendingOf st).toList rs
 perm:(rs.flatten++rest).Perm a0
section
variable {prog:Program} {w:World} {A:Around} {E:sE} {s:Shared}
theorem Sv.size {a0:List Keyed} {st:SortSt} {rs:List (List Keyed)} {rest:List Keyed} (h:Sv kd κ a0 st rs rest):(pendingOf st).size=rs.length:=by
 have:=h.pd.len
 simpa using this
theorem gI (hO:fR prog w A E s κ kd) {a0:List Keyed} {st:SortSt} {rs:List (List Keyed)} {rest:List Keyed} {i:Nat} {Q:Bool->SortSt->Prop} (k0:∀x∈a0,Kd κ x) (h:Sv kd κ a0 st rs rest) (hi:i+1<rs.length)
  (q:∀st' rs',Sv kd κ a0 st' rs' rest->rs'.length+1=rs.length->rs'.flatten.length=rs.flatten.length->Q true st'):wpS (model prog w) A E s (mergeAt' i) Q st:=by
 obtain ⟨RL,X,Y,RT,pa,pb,e1,e2,e3,e4,e5,e6,e7,e8,e9⟩:=h.pd.two hi;simp only[Nat.zero_add] at e3 e4 e9;have ea:(arrOf st).toList=RL.flatten++(X++(Y++(RT.flatten++rest))):=by rw[h.arr,e1];simp
 refine gF hO h.kind h.failed (fun x hx=>k0 x (h.perm.mem_iff.mp (by rw[<-h.arr];exact hx))) ea e7 e8 e5 e6 (by simpa using e3) (by simpa using e4) fun st' Z pz sz hk hf ha hp=>?_
 have zl:Z.length=X.length+Y.length:=by rw[pz.length_eq,A9]
 refine q st' (RL++Z::RT) ⟨hk,hf,by rw[ha];simp,?_,?_⟩ (by rw[e1];simp;omega) (by rw[e1];simp;omega)
 ·rw[hp];have:=e9 Z zl sz
  simpa using this
 ·refine Bl.trans ?_ h.perm;rw[e1];have t1:(RL++Z::RT).flatten++rest=RL.flatten++(Z++(RT.flatten++rest)):=by simp
  have t2:(RL++X::Y::RT).flatten++rest=RL.flatten++((X++Y)++(RT.flatten++rest)):=by simp
  rw[t1,t2];exact Ah _ (Au _ pz)
end
section
variable {prog:Program} {w:World} {A:Around} {E:sE} {s:Shared}
theorem kF (hO:fR prog w A E s κ kd) {a0:List Keyed} {st:SortSt} {Q:Unit->SortSt->Prop} (hk:kindOf st=kd) (hf:failedOf st=none) (hp:pendingOf st= #[]) (ha:(arrOf st).toList=a0) (k0:∀x∈a0,Kd κ x)
  (h:∀st',(arrOf st').toList.Perm a0->failedOf st'=none->(arrOf st').toList.Pairwise (Lq κ)->Q () st'):wpS (model prog w) A E s sortRuns' Q st:=by
 have S0:Sv kd κ a0 st [] a0:=⟨hk,hf,by simpa using ha,by rw[hp];trivial,by simp⟩
 have sz:(arrOf st).size=a0.length:=by rw[<-ha];simp
 unfold sortRuns';refine b6 ?_;refine wpS_bind (wpS_get ?_);dsimp only;rw[sz];generalize (sortPriv% PySem.Builtin.minRun) a0.length a0.length 0=mr;refine wpS_bind (wpS_mono (wpS_forRange (I:=fun x c st'=>∃rs rest,c=(none,rs.flatten.length)/\Sv kd κ a0 st' rs rest/\x<=rs.flatten.length)
  (Q:=fun c st'=>∃rs lo,c=(none,lo)/\Sv kd κ a0 st' rs []) ?s1 ?e1 ⟨[],a0,rfl,S0,by simp⟩) ?p1)
 case e1=>
  rintro c st' ⟨rs,rest,rfl,sv,hx⟩;have l:=sv.perm.length_eq;rw[A9] at l;have:rest= []:=Ax (by omega)
  subst this;exact ⟨rs,_,rfl,sv⟩
 case p1=>
  rintro c st' ⟨rs,lo,rfl,sv⟩;try dsimp only
  refine wpS_bind (wpS_mono (wpS_forRange (I:=fun x c st'=>c=(none,())/\∃rs,Sv kd κ a0 st' rs []/\rs.length+x<=a0.length)
   (Q:=fun c st'=>c=(none,())/\∃rs,Sv kd κ a0 st' rs []/\rs.length<=1) ?s4 ?e4 ⟨rfl,rs,sv,?i4⟩) ?p4)
  case i4=>
   have b:=sv.pd.big;have l:=sv.perm.length_eq;rw[A9] at l;simp only[List.length_nil,Nat.add_zero] at l⊢;omega
  case e4=>
   rintro c st'' ⟨rfl,rs,sv,hx⟩;exact ⟨rfl,rs,sv,by omega⟩
  case p4=>
   rintro c st'' ⟨rfl,rs,sv,hl⟩;refine wpS_pure (h st'' ?_ sv.failed ?_)
   ·rw[sv.arr];exact sv.perm
   ·rw[sv.arr];have pd:=sv.pd;cases rs with
    |nil=>simp
    |cons r rs=>
     have:rs= []:=Ax (by rw[Ap] at hl;omega)
     subst this;cases hq:(pendingOf st'').toList with
     |nil=>rw[hq] at pd;exact pd.elim
     |cons p ps=>
      rw[hq] at pd
      simpa using pd.2.2.2.1
  case s4=>
   rintro x c st'' _ hx ⟨rfl,rs,sv,hl⟩;refine wpS_bind (wpS_get ?_);have ps:=sv.size
   by_cases c1:(pendingOf st'').size<=1
   ·rw[if_pos c1];exact wpS_pure ⟨rfl,rs,sv,by omega⟩
   ·rw[if_neg c1];refine wpS_bind (gI hO k0 sv ?_ fun st3 rs3 sv3 l3 _=>?_)
    ·have gen:∀b:Bool,(if b=true then (pendingOf st'').size-2-1 else (pendingOf st'').size-2)+1<rs.length:=fun b=>by
      cases b with
      |true=>rw[if_pos rfl];omega
      |false=>rw[if_neg (by decide)];omega
     exact gen _
    ·exact wpS_pure ⟨rfl,rs3,sv3,by omega⟩
 case s1=>
  rintro x c st1 _ hx ⟨rs,rest,rfl,sv,hxl⟩;have l:=sv.perm.length_eq;rw[A9] at l;try dsimp only
  by_cases c1:rs.flatten.length≥a0.length
  ·rw[if_pos c1];have:rest= []:=Ax (by omega)
   subst this;exact wpS_pure ⟨rs,_,rfl,sv⟩
  rw[if_neg c1];have kR:∀x∈rest,Kd κ x:=fun x hx=>k0 x (sv.perm.mem_iff.mp (by simp[hx]))
  have rl:a0.length-rs.flatten.length=rest.length:=by omega
  rw[rl];refine wpS_bind (gG hO sv.kind kR sv.arr (by omega) fun st3 X3 S3 kp3 e3 s3 p3 l3=>?_)
  try dsimp only
  have fin:∀(n:Nat) (st4:SortSt) (rs4:List (List Keyed)) (X S:List Keyed),1<=X.length->n=X.length->X.Pairwise (Lq κ)->kindOf st4=kd->failedOf st4=none->(arrOf st4).toList=rs4.flatten++(X++S)->Pd κ 0 (pendingOf st4).toList rs4->rs4.flatten.length=rs.flatten.length->(rs4.flatten++(X++S)).Perm a0->
    ∃rs' rest',((none:Option Unit),rs.flatten.length+n)=(none,rs'.flatten.length)/\Sv kd κ a0 (setPending st4 ((pendingOf st4).push (rs.flatten.length,n,0))) rs' rest'/\x+1<=rs'.flatten.length:=by
   intro n st4 rs4 X S lX hn sX hk4 hf4 e4 pd4 fl pr;subst hn;have fl2:(rs4++ [X]).flatten.length=rs.flatten.length+X.length:=by
    rw[List.flatten_append,A9,fl];simp
   refine ⟨rs4++ [X],S,by rw[fl2],⟨hk4,hf4,by show (arrOf st4).toList=_;rw[e4];simp,?_,by simpa using pr⟩,by omega⟩
   show Pd κ 0 ((pendingOf st4).push (rs.flatten.length,X.length,0)).toList (rs4++ [X]);rw[BM];exact pd4.snoc (by simp only[Nat.zero_add];exact fl.symm) rfl lX sX
  have sv3:Sv kd κ a0 st3 rs (X3++S3):=⟨kp3.kind.trans sv.kind,kp3.failed.trans sv.failed,e3,by rw[kp3.pend];exact sv.pd,Bl.trans (Ah _ p3) sv.perm⟩
  by_cases cm:X3.length<mr
  case' pos=>
   rw[if_pos cm];have fl:min rest.length mr<=(X3++S3).length:=by rw[p3.length_eq];omega
   have lx:X3.length<=min rest.length mr:=by
    have:=p3.length_eq;rw[A9] at this;omega
   refine wpS_bind (cu (wpS_bind (jG hO (P:=rs.flatten) (D:=(X3++S3).take (min rest.length mr)) (S:=(X3++S3).drop (min rest.length mr)) (by rw[AK];omega) sv3.kind (fun x hx=>kR x (p3.mem_iff.mp (Bh hx))) (by rw[AL];exact e3) l3 (by rw[AK];omega) (by rw[List.take_take,BZ lx,List.take_left];exact s3) fun st4 X4 kp4 e4 s4 p4=>?_)))
   have l4:min rest.length mr=X4.length:=by rw[p4.length_eq,AK];omega
   have sv4:Sv kd κ a0 st4 rs (X4++(X3++S3).drop (min rest.length mr)):=⟨kp4.kind.trans sv3.kind,kp4.failed.trans sv3.failed,e4,by rw[kp4.pend];exact sv3.pd,by
    refine Bl.trans (Ah _ (Au _ p4)) ?_;rw[AL];exact sv3.perm⟩
   have l5:1<=X4.length:=by omega
   simp only[BG,AG,if_false];generalize min rest.length mr=n at l4 sv4⊢;generalize (X3++S3).drop n=S4 at sv4⊢
  case' neg=>
   rw[if_neg cm];have l4:X3.length=X3.length:=rfl;have sv4:=sv3;have s4:=s3;have l5:=l3
  all_goals
   refine wpS_bind (wpS_get ?_)
   split
   ·refine wpS_bind (wpS_mono (wpS_forRange (I:=fun _ c st'=>c=(none,())/\∃rs',Sv kd κ a0 st' rs' _/\rs'.flatten.length=rs.flatten.length) (Q:=fun c st'=>c=(none,())/\∃rs',Sv kd κ a0 st' rs' _/\rs'.flatten.length=rs.flatten.length) ?_ (fun _ _ z=>z) ⟨rfl,rs,sv4,rfl⟩) ?_)
    ·rintro y c st5 _ _ ⟨rfl,rs5,sv5,f5⟩;refine wpS_bind (wpS_get ?_);have ps:=sv5.size
     by_cases cp:(pendingOf st5).size>1
     ·rw[if_pos cp]
      split
      ·split
       ·exact wpS_pure ⟨rfl,rs5,sv5,f5⟩
       ·refine wpS_bind (gI hO k0 sv5 (by show (pendingOf st5).size-2+1<rs5.length;omega) fun st6 rs6 sv6 _ f6=>?_)
        exact wpS_pure ⟨rfl,rs6,sv6,f6.trans f5⟩
      ·exact wpS_pure ⟨rfl,rs5,sv5,f5⟩
     ·rw[if_neg cp];exact wpS_pure ⟨rfl,rs5,sv5,f5⟩
    ·rintro c st5 ⟨rfl,rs5,sv5,f5⟩;try dsimp only
     refine wpS_bind (wpS_modify (wpS_bind (wpS_modify (wpS_pure ?_))));exact fin _ (setPending st5 ((pendingOf st5).modify ((pendingOf st5).size-1) fun x=>(x.fst,x.2.fst,_))) rs5 _ _ l5 l4 s4 sv5.kind sv5.failed sv5.arr (by
      show Pd κ 0 ((pendingOf st5).modify _ _).toList rs5;rw[Array.toList_modify];refine Pd.modify _ ?_ _ sv5.pd;exact fun x=>⟨rfl,rfl⟩) f5 sv5.perm
   ·exact wpS_bind (wpS_modify (wpS_pure (fin _ _ rs _ _ l5 l4 s4 sv4.kind sv4.failed sv4.arr sv4.pd rfl sv4.perm)))
end
section
variable {prog:Program} {w:World} {A:Around} {E:sE} {s:Shared}
theorem fR.of_one (hO:κ.OneLt):fR prog w A E s κ oneType':=by
 intro st x y Q hk hx hy h;obtain ⟨a,ha⟩:=hx;obtain ⟨b,hb⟩:=hy;have e1:kk κ x=a:=by unfold kk;rw[ha];rfl
 have e2:kk κ y=b:=by unfold kk;rw[hb];rfl
 rw[e1,e2] at h;rw[lt'_eq];refine wpS_bind (wpS_get ?_);rw[hk,keyLt'_oneType];refine wpS_bind (wpS_lift (wpAny_attempt (hO prog w A _ s x.1 y.1 a b ha hb ⟨rfl,?_⟩)));exact wpS_pure h
end
end So
namespace Sw
open PySem L2 XH PySem.NumText
theorem fV {xs:List V} {i:Int} (h0:0<=i) (h:i<(xs.length:Int)):∃v∈xs,cR xs i=some v:=by
 have hk:i.toNat<xs.length:=by omega
 have ek:i=((i.toNat:Nat):Int):=by omega
 refine ⟨xs[i.toNat],List.getElem_mem hk,?_⟩;have q:cR xs ((i.toNat:Nat):Int)=some xs[i.toNat]:=aT (A0 hk);rw[<-ek] at q;exact q
theorem l6 {xs:List Nat} {i:Int} (h0:0<=i) (h:i<(xs.length:Int)):∃v,cR xs i=some v:=by
 have hk:i.toNat<xs.length:=by omega
 have ek:i=((i.toNat:Nat):Int):=by omega
 refine ⟨xs[i.toNat],?_⟩;have q:cR xs ((i.toNat:Nat):Int)=some xs[i.toNat]:=aT (A0 hk);rw[<-ek] at q;exact q
end Sw
namespace L2
open PySem PySem.Spec PyProof.Rows XH
def iz (js:List Nat) (tc:TT) (te:TE) (σ:St) (Q:VK):It->Hp->Prop:=fun J H1=>∀p,H1 p=none->∃W:Nat->Nat->List V->Hp->Prop,(∃m,W 0 m [] (aR H1 p (.lst [])))/\
 ∀i m ys H2,W i m ys H2->H2 p=some (.lst ys)/\((J.stop i H2/\Q (.ref p) H2)∨(J.go i H2/\ys.length<sizeLine/\∀x H3,J.yld i H2 x H3->tc (some x::be js σ) H3 fun b H4=>
  if b=true then te (some x::be js σ) H4 fun y H5=>H5 p=some (.lst ys)/\∃m',m'<m/\W (i+1) m' (ys++ [y]) (aR H5 p (.lst (ys++ [y]))) else ∃m',m'<m/\W (i+1) m' ys H4))
def l7 (wi:TI) (js:List Nat) (tc:TT) (te:TE):TE:=fun σ H Q=>wi σ H (iz js tc te σ Q)
section
variable {prog:Program} {w:World} {A:Around} {R:Result->Shared->Prop} {s:Shared}
theorem gJ {elt target iter cond:Expr} {scope:Scope} {pos:Pos} {it acc:Value} {env:Env} (I:Nat->Shared->Prop)
  (turn:∀n s,I n s->wpAny (model prog w) A (pyNext it) (fun r s1=>match r with
   |none=>R (.ok .next) s1
   |some v=>wpAny (model prog w) A (letOwnedTupleGo target it v) (fun _ s2=>wpAny (model prog w) A (assign target env v) (fun _ s3=>wpAny (model prog w) A (isTrue cond env (eval cond env)) (fun ok s4=>
     if ok=true then wpAny (model prog w) A (eval elt env) (fun x s5=>wpAny (model prog w) A (call (.builtin "list.append") [acc,x]) (fun _ s6=>∃m,m<n/\I m s6) (fun _ _=>False) s5) (fun _ _=>False) s4
     else ∃m,m<n/\I m s4) (fun _ _=>False) s3) (fun _ _=>False) s2) (fun _ _=>False) s1) (fun _ _=>False) s)
  (n:Nat) (h:I n s):codeAny (model prog w) A (.compLoop (.ListComp elt [⟨target,iter,[cond],0⟩] scope pos) 0 it acc env) R s:=by
 apply codeAny_loop rfl I ?_ n h;intro n s hI;show wpAny _ _ ((compTurn (.ListComp elt [⟨target,iter,[cond],0⟩] scope pos) 0 it acc env).onRaise _) _ _ s;apply wpAny_noted;rw[compTurn_list];apply wpAny_bind;apply wpAny_standAt;apply wpAny_bind;refine wpAny_mono (turn n s hI) (fun r s1 h1=>?_) fun _ _ z=>z.elim
 cases r with
 |none=>exact wpAny_pure h1
 |some v=>
  apply wpAny_bind;refine wpAny_mono h1 (fun _ s2 h2=>?_) fun _ _ z=>z.elim
  apply wpAny_bind;refine wpAny_mono h2 (fun _ s3 h3=>?_) fun _ _ z=>z.elim
  apply wpAny_bind;refine wpAny_mono (wpAny_tests_one h3) (fun ok s4 h4=>?_) fun _ _ z=>z.elim
  cases ok with
  |true=>
   apply wpAny_bind;apply wpAny_bind;refine wpAny_mono h4 (fun x s5 h5=>?_) fun _ _ z=>z.elim
   apply wpAny_bind;refine wpAny_mono h5 (fun _ s6 h6=>?_) fun _ _ z=>z.elim
   exact wpAny_pure (wpAny_pure ⟨rfl,h6⟩)
  |false=>
   have h4':∃m,m<n/\I m s4:=h4;exact wpAny_pure ⟨rfl,h4'⟩
end
section
variable {X:Cx} {scope:Scope} {cl:List (Str×Addr)} {own:Str} {ys:sI} {js:List Nat} {elt iter cond:Expr} {px pos:Pos} {wi:TI} {te:TE} {tc:TT}
theorem dy (hc:X.calm=true) (ok:iq X scope cl own ys js) (hi:PI X (.Name own px) iter wi)
  (hq:∀(C:Addr) (fp:sJ) (s:Shared) (H:Hp),PT (X.block scope cl C (own::ys) own fp s H) cond tc)
  (he:∀(C:Addr) (fp:sJ) (s:Shared) (H:Hp),PE (X.block scope cl C (own::ys) own fp s H) elt te)
  (hs:∀x,foldedSetIterable iter X.env x=pure x:=by intro _;rfl):PE X (.ListComp elt [⟨.Name own px,iter,[cond],0⟩] scope pos) (l7 wi js tc te):=by
 intro pins s σ H Q I h;rw[eval_ListComp];have ncell:∀y∈scope.names,y.2≠ .cell:=fun y hy z=>by
  have q:=List.all_eq_true.mp ok.nocell y hy;rw[z] at q;simp at q
 have nloc:∀y∈scope.names,y.2= .local->scope.names.lookup y.1=some .local:=fun y hy z=>by
  have q:=List.all_eq_true.mp ok.loc y hy;rw[z] at q
  simpa using q
 refine wpAny_comprehension_free (use:=none) rfl hs ok.clos ok.kind nloc (bE (hi pins s σ H _ I h) fun v s1 h1=>bE h1 fun itv s2 h2=>?_)
 obtain ⟨it,fp,tn,J,H2,rfl,I2,T,st2,f2,q2⟩:=h2;obtain ⟨W,⟨m0,w0⟩,turn⟩:=q2 s2.heap.objs.size (I2.hok.fresh (AB _));refine wpAny_newObj_type (wpAny_newFunctionEnv ncell (by intro y hy;simp at hy) (fun h1 hns hsb=>?_) ok.kind)
 have I3:=I2.laid (a:=s2.heap.objs.size) (o:= .lst []) (h':=s2.heap.push {cls:= .type "list",dict:=none,data:= .seq ([]:sK).toArray}) (t':=s2.toks) (fun b u q=>Heap.get?_push_of_some _ q) (AB _)
  ⟨B5 _,[],0,.nil,Heap.get?_push_size _ rfl⟩
 have fpo:∀b∈fp,b<s2.heap.objs.size:=fun b hb=>by
  obtain ⟨o,e,_⟩:=T.obj 0 _ st2 b hb;exact Heap.lt_size e
 have f3:∀b∈fp,eU X pins (aR H2 s2.heap.objs.size (.lst [])) b:=fun b hb=>⟨by rw[ar (AS (fpo b hb))];exact (f2 b hb).1,(f2 b hb).2⟩
 generalize hs3:({s2 with heap:=s2.heap.push {cls:= .type "list",dict:=none,data:= .seq ([]:sK).toArray},toks:=s2.toks}:Shared)=s3 at I3
 have e3:s3.heap=s2.heap.push {cls:= .type "list",dict:=none,data:= .seq ([]:sK).toArray}:=by rw[<-hs3]
 have lt3:∀b∈fp,b<s3.heap.objs.size:=fun b hb=>by rw[e3,Heap.size_push];exact BC (fpo b hb)
 dsimp only at hns hsb⊢;rw[<-e3] at hns hsb;have hk:∀b o,s3.heap.get? b=some o->h1.get? b=some o:=fun b o e=>hsb.extBut b o (AS (Heap.lt_size e)) (Heap.get?_push_of_some _ e)
 have J0:=gy (h1:=h1) ok I3 f3 lt3 hns hk (s2.toks+0);have t0:tn 0 h1:=T.keep 0 _ _ st2 fun b hb o e=>hk b o (by rw[e3];exact Heap.get?_push_of_some _ e)
 have fpB:∀{H':Hp},(∀b∈fp,H' b=none)->∀b∈fp,eU (X.block scope cl s3.heap.objs.size (own::ys) own fp s3 (aR H2 s2.heap.objs.size (.lst []))) [] H' b:=fun {H'} hn b hb=>
  ⟨hn b hb,AS (lt3 b hb),fun z=>(AT.mp (I3.stkSub b z)).elim (f3 b hb).2.1 (f3 b hb).2.2.1,.inl hb,fun x c e=>(f3 b hb).2.2.2.2.1 x c (ok.sub (x,c) (B4 e)),fun p hp=>absurd (show p∈([]:sG) from hp) (by simp)⟩
 have loop:codeAny (model X.prog X.w) X.A (.compLoop (.ListComp elt [⟨.Name own px,iter,[cond],0⟩] scope pos) 0 (.ref it) (.ref s2.heap.objs.size) (compEnvC scope cl s3.heap.objs.size X.env))
   (compPost (model X.prog X.w) X.A X.xe none (EP X pins σ Q) (.ref s2.heap.objs.size) s3.heap.objs.size) {s3 with heap:=h1,toks:=s2.toks+0}:=by
  refine gJ (fun n s'=>∃i zs o0 H',aD (X.block scope cl s3.heap.objs.size (own::ys) own fp s3 (aR H2 s2.heap.objs.size (.lst []))) [] (o0::be js σ) H' s'/\tn i s'.heap/\(∀b∈fp,H' b=none)/\W i n zs H') ?_ m0
   ⟨0,[],none,_,J0,t0,fun b hb=>(f3 b hb).1,w0⟩
  rintro n s5 ⟨i,zs,o0,H5,I5,t5,n5,w5⟩;obtain ⟨hD,hw⟩:=turn i n zs H5 w5;rcases hw with ⟨stop,qn⟩|⟨go,hz,step⟩
  ·refine bE (T.done (X.block scope cl s3.heap.objs.size (own::ys) own fp s3 (aR H2 s2.heap.objs.size (.lst []))) rfl rfl rfl hc i [] s5 _ H5 (fun _ _=>False) I5 (fpB n5) t5 stop) fun r s6 ⟨hr,I6⟩=>?_
   subst hr;obtain ⟨m,hn,_⟩:=id I6.loc;exact ⟨m,hn,fun h' hs'=>⟨V.ref s2.heap.objs.size,H5,jD I3 f3 I6 hs',rfl,qn⟩⟩
  ·refine bE (T.item (X.block scope cl s3.heap.objs.size (own::ys) own fp s3 (aR H2 s2.heap.objs.size (.lst []))) rfl rfl rfl hc i [] s5 _ H5 (fun _ _=>False) I5 (fpB n5) t5 go) fun r s6 ⟨u,hr,h6⟩=>?_
   subst hr;refine bE h6 fun _ s7 ⟨x,H7,I7,r7,y7,t7,n7⟩=>?_
   have I7':=I7.pinned (fpB n7) (T.obj _ _ t7);have hst:=step x H7 y7;have own':(relabel scope X.env).names.lookup own=some .local:=lookup_relabel_local ok.ownL;refine bE (dX (X:=X.block scope cl s3.heap.objs.size (own::ys) own fp s3 (aR H2 s2.heap.objs.size (.lst []))) (i:=0) (x:=own) (pos:=px) ok.nd rfl (.inl own') (.inr own') _ s7 _ H7 x u (fun σ' H'=>σ'=some x::be js σ/\H'=H7) I7' r7 ⟨rfl,rfl⟩) fun _ s8 ⟨σ8,H8,I8,e8,eH8⟩=>?_
   subst e8 eH8;refine bE (hq _ _ _ _ _ s8 _ H8 _ I8 hst) fun ok s9 ⟨H9,I9,h9⟩=>?_
   have frame:∀{s':Shared} {H':Hp},aD (X.block scope cl s3.heap.objs.size (own::ys) own fp s3 (aR H2 s2.heap.objs.size (.lst []))) ([]++d8 fp s7.heap) (some x::be js σ) H' s'->tn (i+1) s'.heap/\∀b∈fp,H' b=none:=fun {s' H'} I'=>
    ⟨T.keep _ _ _ t7 fun b hb o e=>(I'.pin (b,o) (AW _ (AW _ (cx hb e)))).1,fun b hb=>by
     obtain ⟨o,e,d⟩:=T.obj _ _ t7 b hb;exact (I'.pin (b,o) (AW _ (AW _ (cx hb e)))).2.1⟩
   cases ok with
   |true=>
    refine bE (he _ _ _ _ _ s9 _ H9 _ I9 h9) fun yv s10 ⟨y,H10,I10,r10,hD10,m',hm,w10⟩=>?_
    refine bE (aK _ s10 _ H10 (.ref s2.heap.objs.size) [y] (.ref s2.heap.objs.size) [yv] (fun _ H'=>H'=aR H10 s2.heap.objs.size (.lst (zs++ [y]))) I10 rfl (.cons r10 .nil) ⟨_,zs,y,rfl,rfl,hD10,hz,rfl⟩) fun _ s11 ⟨_,H11,I11,_,e11⟩=>?_
    subst e11;exact ⟨m',hm,i+1,zs++ [y],some x,_,I11.unpinned,(frame I11).1,(frame I11).2,w10⟩
   |false=>
    obtain ⟨m',hm,w10⟩:=h9;exact ⟨m',hm,i+1,zs,some x,_,I9.unpinned,(frame I9).1,(frame I9).2,w10⟩
 subst hs3;exact codeAny_compStart_list loop (T.self _ 0 _ _ _ t0 loop)
end
end L2
namespace Sw
open PySem L2
def cI:Str:= "abcdefghijklmnopqrstuvwxyz"
theorem fW {i:Int} (h0:0<=i) (h:i<26):∃c,cR cI.cps.toList i=some c:=by
 refine l6 h0 ?_;have e:cI.cps.toList.length=26:=by decide
 rw[e];exact h
def gK:Sp:=fun vs H Q _=>∃n m:Int,vs= [.int n,.int m]/\0<=m/\m<=90/\∀(l:Addr) (H':Hp) (zs:sI),aN H H'->H' l=some (.lst (zs.map V.str))->(zs.length:Int)=m->Q (.ref l) H'
end Sw
namespace L2
open PySem PySem.Spec PyProof.Rows XH
end L2
namespace Sw
open PySem L2 PyProof.Rows
end Sw
namespace L2
open PySem PySem.Spec PyProof.Rows XH Sw So
end L2
namespace So
open PySem PySem.Spec PyProof.Rows
end So
namespace L2
open PySem PySem.Spec PyProof.Rows XH Sw So
end L2
namespace Hm
abbrev Ky:=List Int
def cY:Ky->Ky->Bool
 | [],[]=>false
 | [],_::_=>true
 |_::_,[]=>false
 |a::as,b::bs=>if a=b then cY as bs else decide (a<b)
theorem cZ:∀a:Ky,cY a a=false
 | []=>rfl
 |a::as=>by unfold cY;rw[if_pos rfl];exact cZ as
theorem dA:∀{a b c:Ky},cY a b=true->cY b c=true->cY a c=true
 | [],[],_,h,_=>by cases h
 | [],_::_,[],_,h=>by cases h
 | [],_::_,_::_,_,_=>rfl
 |_::_,[],_,h,_=>by cases h
 |_::_,_::_,[],_,h=>by cases h
 |a::as,b::bs,c::cs,h1,h2=>by
  unfold cY at h1 h2⊢
  by_cases ab:a=b
  ·subst ab;rw[if_pos rfl] at h1
   by_cases ac:a=c
   ·rw[if_pos ac] at h2⊢;exact dA h1 h2
   ·rw[if_neg ac] at h2⊢;exact h2
  ·rw[if_neg ab] at h1;have l1:=of_decide_eq_true h1
   by_cases bc:b=c
   ·subst bc;rw[if_neg ab];exact h1
   ·rw[if_neg bc] at h2;have l2:=of_decide_eq_true h2;rw[if_neg (by omega)]
    exact decide_eq_true (by omega)
theorem cN:∀{a b:Ky},cY a b=false->cY b a=false->a=b
 | [],[],_,_=>rfl
 | [],_::_,h,_=>by cases h
 |_::_,[],_,h=>by cases h
 |a::as,b::bs,h1,h2=>by
  unfold cY at h1 h2
  by_cases ab:a=b
  ·subst ab;rw[if_pos rfl] at h1 h2;rw[cN h1 h2]
  ·rw[if_neg ab] at h1;rw[if_neg (Ne.symm ab)] at h2;have l1:=of_decide_eq_false h1;have l2:=of_decide_eq_false h2;omega
theorem jH {a b c:Ky} (h1:cY a b=false) (h2:cY b c=false):cY a c=false:=by
 cases k:cY a c with
 |false=>rfl
 |true=>
  cases m:cY b a with
  |true=>rw[dA m k] at h2;cases h2
  |false=>rw[cN h1 m] at k;rw[k] at h2;cases h2
def Rs (l:List Ky):Prop:=l.Pairwise fun a b=>cY b a=false
theorem Rs.head {a:Ky} {l:List Ky} (h:Rs (a::l)):∀b∈a::l,cY b a=false:=fun b hb=>by
 rcases AT.mp hb with rfl|hb
 ·exact cZ _
 ·exact (B8.mp h).1 b hb
open PySem PySem.SeqAt PySem.MeetsSeq
def Nums:List Int->sK->Prop
 | [],[]=>True
 |k::ks,u::us=>(∃t,u= .int k t)/\Nums ks us
 |_,_=>False
theorem Nums.len:∀{ks:List Int} {us:sK},Nums ks us->ks.length=us.length
 | [],[],_=>rfl
 |_::_,_::_,h=>by rw[Ap,Ap,Nums.len h.2]
 | [],_::_,h=>h.elim
 |_::_,[],h=>h.elim
end Hm
namespace L2
open PySem PySem.Spec PyProof.Rows XH Sw So Hm
theorem i6:∀{ks:List Int} {us:sK},aO (ks.map V.int) us->Nums ks us
 | [],_,h=>by cases h;trivial
 |k::ks,_,h=>by
  cases h with
  |cons r t=>exact ⟨r,i6 t⟩
theorem l8 {i j:Int}:cY [i] [j]=decide (i<j):=by
 unfold cY
 by_cases c:i=j
 ·rw[if_pos c];exact (decide_eq_false (by omega)).symm
 ·rw[if_neg c]
def bb (b:Bool) (nm:Addr->Option Ky):PyProof.Rows.KeyKind where
 α:=Ky
 blt:=cY
 irrefl:=cZ
 trans _ _ _:=dA
 negTrans a c d h:=by
  cases k:cY a c with
  |true=>exact .inl rfl
  |false=>
   cases m:cY c d with
   |true=>exact .inr rfl
   |false=>rw[jH k m] at h;cases h
 total _ _:=cN
 keyOf v:=match b,v with|false,.int i _=>some [i]|true,.ref a=>nm a|_,_=>none
 dflt:= []
theorem kG {nm:Addr->Option Ky} {v:Value} {k:Ky} (h:(bb false nm).keyOf v=some k):∃i t,v= .int i t/\k= [i]:=by
 cases v with
 |int i t=>cases h;exact ⟨i,t,rfl,rfl⟩
 |_=>cases h
theorem kH {nm:Addr->Option Ky} {v:Value} {k:Ky} (h:(bb true nm).keyOf v=some k):∃a,v= .ref a/\nm a=some k:=by
 cases v with
 |ref a=>exact ⟨a,rfl,h⟩
 |_=>cases h
def jI (h:Heap) (a:Addr) (k:Ky):Prop:=∃(o:Obj) (us:sK) (n:Nat),h.get? a=some o/\o.cls= .type "tuple" /\o.data= .seq us.toArray n/\Nums k us
section
variable {prog:Program} {w:World} {A:Around} {E:sE} {s:Shared}
theorem kI {nm:Addr->Option Ky}:(bb false nm).OneLt:=by
 intro prog w A E s x y a b Q ha hb h;obtain ⟨i,t,rfl,rfl⟩:=kG ha;obtain ⟨j,u,rfl,rfl⟩:=kG hb;have h':Q (cY [i] [j]) s:=h;rw[l8] at h';exact oneLt_int h'
theorem jJ {b:Bool} {i j:Int} {t u:Tok} {Q:Bool->Shared->Prop} (h:Q (decide (i<j)) s):wpAny (model prog w) A (oneLt' b (.int i t) (.int j u)) Q E s:=by
 cases b with
 |true=>exact oneLt_int h
 |false=>
  rw[oneLt'_eq,if_neg (by decide)]
  exact wpAny_bind (wpAny_lt_int (wpAny_truthy_bool h))
theorem gL {fin:Bool} {Q:Bool->Shared->Prop}:∀{ks ls:List Int} {us ws:sK} {i:Nat},Nums ks us->Nums ls ws->fin=decide (ks.length<ls.length)->Q (cY ks ls) s->PySem.W.KatLex prog w A true fin Q (us.zip ws) i s
 | [],[],[],[],i,_,n2,hf,q=>by
  have e:fin=cY [] []:=hf;rw[<-e] at q;exact PySem.W.kat_nil q
 | [],l::ls,[],v::ws,i,_,n2,hf,q=>by
  have e:fin=cY [] (l::ls):=by rw[hf];simp[cY]
  rw[<-e] at q;exact PySem.W.kat_nil q
 |k::ks,[],u::us,[],i,n1,n2,hf,q=>by
  have e:fin=cY (k::ks) []:=by rw[hf];simp[cY]
  rw[<-e] at q;exact PySem.W.kat_nil q
 |k::ks,l::ls,u::us,v::ws,i,⟨⟨t,hu⟩,n1⟩,⟨⟨t',hv⟩,n2⟩,hf,q=>by
  subst hu hv;rw[List.zip_cons_cons];refine PySem.W.kat_cons (SeqAt.EqAt.int_int k t l t' _ _ _ _ ?_);unfold cY at q
  by_cases c:k=l
  ·rw[if_pos c] at q;rw[show (k==l)=true from beq_iff_eq.mpr c]
   exact PySem.W.kat_yes (gL n1 n2 (by rw[hf];simp) q)
  ·rw[if_neg c] at q;rw[show (k==l)=false from beq_eq_false_iff_ne.mpr c]
   exact PySem.W.kat_no (jJ q)
 |_::_,_,[],_,_,n1,_,_,_=>n1.elim
 | [],_,_::_,_,_,n1,_,_,_=>n1.elim
 |_,_::_,_,[],_,_,n2,_,_=>n2.elim
 |_,[],_,_::_,_,_,n2,_,_=>n2.elim
theorem kJ {nm:Addr->Option Ky} (tup:∀a k,nm a=some k->jI s.heap a k):fR prog w A E s (bb true nm) (tuples' true):=by
 intro st x y Q hk hx hy h;obtain ⟨ka,ha⟩:=hx;obtain ⟨kb,hb⟩:=hy;have e1:kk (bb true nm) x=ka:=by unfold kk;rw[ha];rfl
 have e2:kk (bb true nm) y=kb:=by unfold kk;rw[hb];rfl
 rw[e1,e2] at h;obtain ⟨a,xa,ea⟩:=kH ha;obtain ⟨b,xb,eb⟩:=kH hb;obtain ⟨o1,us,n1,g1,c1,d1,m1⟩:=tup a ka ea;obtain ⟨o2,ws,n2,g2,c2,d2,m2⟩:=tup b kb eb;rw[lt'_eq];refine wpS_bind (wpS_get ?_);rw[hk,xa,xb];refine wpS_bind (wpS_lift (wpAny_attempt (PySem.W.kat_lt (b:=true) g1 d1 g2 d2 ?_)));exact gL m1 m2 (by rw[m1.len,m2.len];simp) ⟨rfl,wpS_pure h⟩
theorem kat_firsts {h:Heap} {nm:Addr->Option Ky} (tup:∀a k,nm a=some k->jI h a k/\k≠ []):∀{vs:sK},(∀v∈vs,∃x k,v= .ref x/\nm x=some k)->∃fs:sK,PySem.W.KatTups h vs fs/\fs.length=vs.length/\∀f∈fs,∃i t,f= .int i t
 | [],_=>⟨[],trivial,rfl,by simp⟩
 |v::vs,hv=>by
  obtain ⟨fs,k1,k2,k3⟩:=kat_firsts tup (vs:=vs) fun u hu=>hv u (AY _ hu)
  obtain ⟨x,k,rfl,e⟩:=hv v (by simp)
  obtain ⟨⟨o,us,n,g,c,d,m⟩,ne⟩:=tup x k e
  match k,us,m,ne with
  | [],_,_,ne=>exact absurd rfl ne
  |i::k,u::us,⟨⟨t,hu⟩,m⟩,_=>
   subst hu;refine ⟨.int i t::fs,⟨⟨x,o,_,n,rfl,g,c,d,by simp⟩,k1⟩,by simp[k2],fun f hf=>?_⟩
   rcases AT.mp hf with e|e
   ·exact ⟨i,t,e⟩
   ·exact k3 f e
theorem jK (M:Model) (h:Heap) (i:Int) (t:Tok):PySem.W.Looks M h (typeOf (.int i t)) (.type "int"):=PySem.W.Looks.of_pure rfl
theorem gM {nm:Addr->Option Ky}:∀{vs:sK},(∀v∈vs,∃k,(bb false nm).keyOf v=some k)->∃ns:List Int,IntsAre vs ns
 | [],_=>⟨[],.nil⟩
 |v::vs,h=>by
  obtain ⟨ns,hn⟩:=gM (vs:=vs) fun u hu=>h u (AY _ hu)
  obtain ⟨k,hk⟩:=h v (by simp)
  obtain ⟨i,t,rfl,_⟩:=kG hk;exact ⟨i::ns,.cons _ _ hn⟩
def sk (b:Bool):SortKind:=match b with|false=>oneType'|true=>tuples' true
theorem ma {b:Bool} {a:Addr} {vs:sK} {n:Nat} {P:PySem.Fin->Shared->Prop} {nm:Addr->Option Ky} (ho:s.heap.get? a=some (seqObj "list" vs.toArray n)) (keys:∀v∈vs,∃k,(bb b nm).keyOf v=some k)
  (tup:b=true->∀x k,nm x=some k->jI s.heap x k/\k≠ []) (hz:vs.length<=sizeLine)
  (h:∀st':SortSt,(arrOf st').toList.Perm (pairsOf vs).toList->(arrOf st').toList.Pairwise (Lq (bb b nm))->P (.done (.ret .none)) {s with heap:=sortedHeap s.heap a vs ((arrOf st').map (·.2))}):
  wpAny (model prog w) A (Builtin.«list.sort» ⟨[.ref a],[]⟩) P E s:=by
 rw[list_sort_plain];have ha:a<s.heap.objs.size:=Heap.lt_size ho;refine wpAny_bind (listItems_at ho rfl ?_);refine wpAny_bind (listUpdate_at ho rfl ?_);obtain ⟨e1,ho1⟩:∃e1,(s.heap.update a (Obj.mapSeq fun _=> #[])).get? a=some (seqObj "list" #[] e1):=⟨_,get?_update_seq ho (fun _=> #[])⟩
 refine wpAny_bind (seqEpoch_at ho1 rfl (wpAny_bind (wpAny_newTuple (wpAny_bind (wpAny_newList (wpAny_holding ?_))))));have ho6:(((s.heap.update a (Obj.mapSeq fun _=> #[])).push (seqObj "tuple" vs.toArray 0)).push (seqObj "list" #[] 0)).get? a=some (seqObj "list" #[] e1):=by
  rw[Heap.get?_push_ne _ _ _ (by rw[size_push',Heap.size_update];exact AS (BC ha)),Heap.get?_push_ne _ _ _ (by rw[Heap.size_update];exact AS ha)]
  exact ho1
 have old:∀{b:Addr} {o:Obj},b≠a->s.heap.get? b=some o->(((s.heap.update a (Obj.mapSeq fun _=> #[])).push (seqObj "tuple" vs.toArray 0)).push (seqObj "list" #[] 0)).get? b=some o:=fun {b o} hb e=>by
  have bl:=Heap.lt_size e;rw[Heap.get?_push_ne _ _ _ (by rw[size_push',Heap.size_update];exact AS (BC bl)),Heap.get?_push_ne _ _ _ (by rw[Heap.size_update];exact AS bl),Heap.get?_update_other _ _ (Ne.symm hb)]
  exact e
 show wpAny (model prog w) A _ P E {s with heap:=((s.heap.update a (Obj.mapSeq fun _=> #[])).push (seqObj "tuple" vs.toArray 0)).push (seqObj "list" #[] 0)}
 dsimp only;have tna:∀{x:Addr} {k:Ky},jI s.heap x k->x≠a:=fun {x k} t z=>by
  obtain ⟨o,us,n',g,c,d,_⟩:=t;rw[z,ho] at g;cases g;have c':("list" :String)= "tuple" :=by injection c
  exact absurd c' (by decide)
 have fin:∀st':SortSt,(arrOf st').toList.Perm (pairsOf vs).toList->failedOf st'=none->(arrOf st').toList.Pairwise (Lq (bb b nm))->P (.done (.ret .none)) {s with heap:=sortedHeap s.heap a vs ((arrOf st').map (·.2))}/\((arrOf st').map (·.2)).size<=sizeLine+1:=fun st' hp hf hs=>by
  refine ⟨h st' hp hs,?_⟩;have:=hp.length_eq;rw[As];have e:(pairsOf vs).toList.length=vs.length:=by rw[pairsOf_toList];simp
  rw[e,AJ] at this;omega
 by_cases h2:vs.toArray.size<2
 ·rw[if_pos h2,if_pos h2];refine wpAny_bind (wpAny_pure ?_);have st0:=fin (SortSt.mk' general' (vs.toArray.zip vs.toArray) #[] 7 none) (List.Perm.refl _) rfl (by
   have:(pairsOf vs).toList.length<2:=by rw[pairsOf_toList];simp at h2⊢;exact h2
   match e:(pairsOf vs).toList,this with
   | [],_=>exact List.Pairwise.nil
   | [x],_=>exact List.pairwise_singleton _ _
   |_::_::_,l=>simp at l;omega)
  refine wpAny_bind (wpAny_pure ?_);dsimp only;refine wpAny_bind (seqEpoch_at ho6 rfl ?_);refine wpAny_bind (listUpdate_at ho6 rfl ?_ (hsz2:=st0.2));simp only[bne_self_eq_false,AG,if_false];exact wpAny_pure st0.1
 ·rw[if_neg h2,if_neg h2];have l2:2<=vs.length:=by simpa using h2
  have go:fR prog w A E {s with heap:=((s.heap.update a (Obj.mapSeq fun _=> #[])).push (seqObj "tuple" vs.toArray 0)).push (seqObj "list" #[] 0)} (bb b nm) (sk b)/\∀{R:SortKind->Shared->Prop},R (sk b) {s with heap:=((s.heap.update a (Obj.mapSeq fun _=> #[])).push (seqObj "tuple" vs.toArray 0)).push (seqObj "list" #[] 0)}->wpAny (model prog w) A (keyKind' vs.toArray) R E {s with heap:=((s.heap.update a (Obj.mapSeq fun _=> #[])).push (seqObj "tuple" vs.toArray 0)).push (seqObj "list" #[] 0)}:=by
   cases b with
   |false=>
    refine ⟨fR.of_one kI,fun {R} q=>?_⟩
    obtain ⟨ns,hn⟩:=gM keys;have ek:keyKind' vs.toArray=pure oneType':=by
     match vs,l2,hn with
     |v₁::v₂::rest,_,hn=>exact keyKind_ints hn
    rw[ek];exact wpAny_pure q
   |true=>
    have tup6:∀x k,nm x=some k->jI (((s.heap.update a (Obj.mapSeq fun _=> #[])).push (seqObj "tuple" vs.toArray 0)).push (seqObj "list" #[] 0)) x k/\k≠ []:=fun x k hx=>by
     obtain ⟨t,ne⟩:=tup rfl x k hx;have na:=tna t;obtain ⟨o,us,n',g,c,d,m⟩:=t;exact ⟨⟨o,us,n',old na g,c,d,m⟩,ne⟩
    refine ⟨kJ fun x k hx=>(tup6 x k hx).1,fun {R} q=>?_⟩
    obtain ⟨fs,kt,kl,kf⟩:=kat_firsts tup6 (vs:=vs) fun v hv=>by
     obtain ⟨k,e⟩:=keys v hv;obtain ⟨x,rfl,e⟩:=kH e;exact ⟨x,k,rfl,e⟩
    exact PySem.W.kat_kind (T:= .type "int") kt (by omega) (fun v hv=>by obtain ⟨i,t,rfl⟩:=kf v hv;exact jK _ _ _ _) rfl q
  refine wpAny_bind (go.2 ?_);refine wpAny_bind (wpAny_mono (kF (κ:=bb b nm) (kd:=sk b) go.1 (a0:=(pairsOf vs).toList) (st:=SortSt.mk' (sk b) (vs.toArray.zip vs.toArray) #[] 7 none)
   (Q:=fun _ st'=>(arrOf st').toList.Perm (pairsOf vs).toList/\failedOf st'=none/\(arrOf st').toList.Pairwise (Lq (bb b nm)))
   rfl rfl rfl rfl (fun x hx=>?_) fun st' pr fl sr=>⟨pr,fl,sr⟩) ?_ fun _ _ e=>e)
  ·rw[pairsOf_toList] at hx;exact keys _ (List.of_mem_zip hx).1
  rintro ⟨⟨⟩,st'⟩ s' ⟨rfl,hp,hf,hs⟩;have f:=fin st' hp hf hs;dsimp only;refine wpAny_bind (seqEpoch_at ho6 rfl ?_);refine wpAny_bind (listUpdate_at ho6 rfl ?_ (hsz2:=f.2));rw[hf];simp only[bne_self_eq_false,AG,if_false];exact wpAny_pure f.1
theorem kK:∀us:sK,us.zip us=us.map fun u=>(u,u)
 | []=>rfl
 |u::us=>by rw[List.zip_cons_cons,kK us];rfl
end
end L2
namespace Sw
open PySem L2 XH PySem.NumText
theorem nM {X:Cx} {K:A6} (h:X.K=K):kA X (nr K):=by
 subst h;exact bg
theorem mN {v:V} {Q:V->Prop} (q:Q (.bl true)):Q (.bl (decide (v=v))):=by rw[decide_eq_true rfl];exact q
end Sw
namespace L2
open PySem PySem.Spec PyProof.Rows XH Sw So Hm
end L2
namespace Sw
open PySem L2 XH Hm
end Sw
namespace L2
open PySem PySem.Spec PyProof.Rows XH Sw Hm
end L2
namespace Sw
open PySem L2 XH Hm
def dB {α:Type} (R:Addr->α->Prop) (as:sJ) (xs:List α):Prop:=as.length=xs.length/\∀(i:Nat) (a:Addr) (x:α),as[i]?=some a->xs[i]?=some x->R a x
theorem dB.imp {α:Type} {R S:Addr->α->Prop} {as:sJ} {xs:List α} (h:dB R as xs) (f:∀a x,R a x->S a x):dB S as xs:=⟨h.1,fun i a x e1 e2=>f a x (h.2 i a x e1 e2)⟩
theorem dB.nil {α:Type} {R:Addr->α->Prop}:dB R [] ([]:List α):=⟨rfl,fun i a x e=>by simp at e⟩
theorem dB.snoc {α:Type} {R:Addr->α->Prop} {as:sJ} {xs:List α} (h:dB R as xs) {a:Addr} {x:α} (r:R a x):dB R (as++ [a]) (xs++ [x]):=by
 refine ⟨by simp[h.1],fun i b y e1 e2=>?_⟩
 have il:=(A4.mp e1).1
 by_cases c:i<as.length
 ·rw[AA c] at e1;rw[AA (by rw[<-h.1];exact c)] at e2
  exact h.2 i b y e1 e2
 ·have ei:i=as.length:=by simp at il;omega
  subst ei;rw[A7 (AB _)] at e1;rw[A7 (by rw[h.1];exact AB _),h.1] at e2
  simp at e1 e2;subst e1 e2;exact r
def aF (H:Hp) (l:Addr) (ks:List Ky):Prop:=∃as:sJ,H l=some (.lst (as.map V.ref))/\dB (fun t k=>H t=some (.tup (k.map V.int))) as ks
theorem aF.same {H H':Hp} {l:Addr} {ks:List Ky} (h:aF H l ks) (g:aN H H'):aF H' l ks:=by
 obtain ⟨as,e,r⟩:=h;exact ⟨as,g _ _ e,r.imp fun a k q=>g _ _ q⟩
end Sw
namespace L2
open PySem PySem.Spec PyProof.Rows XH
end L2
namespace Sw
open PySem L2 XH Hm
end Sw
namespace L2
open PySem PySem.Spec PyProof.Rows XH
end L2
namespace Sw
open PySem L2 XH
end Sw
namespace L2
open PySem PySem.Spec PyProof.Rows XH
end L2
namespace Sw
open PySem L2 XH
end Sw
namespace L2
open PySem PySem.Spec PyProof.Rows
end L2
namespace Sw
open PySem L2 XH
end Sw
namespace L2
open PySem PySem.Spec PyProof.Rows
end L2
namespace Sw
open PySem L2 XH
def i7 (nm l m u s:V):List (Str×V):=az "second" s (az "uses" u (az "most" m (az "least" l (az "name" nm []))))
def warmF (nm l m u s f:V):List (Str×V):=az "fill" f (i7 nm l m u s)
theorem jL {nm l m u s:V}:(i7 nm l m u s).length<=5:=by
 unfold i7;have h1:=aA "name" nm [];have h2:=aA "least" l (az "name" nm []);have h3:=aA "most" m (az "least" l (az "name" nm []));have h4:=aA "uses" u (az "most" m (az "least" l (az "name" nm [])));have h5:=aA "second" s (az "uses" u (az "most" m (az "least" l (az "name" nm []))));simp at h1;omega
def Kept (H H':Hp) (a:Addr):Prop:=∀b o,H b=some o->b≠a->H' b=some o
theorem Kept.refl (H:Hp) (a:Addr):Kept H H a:=fun _ _ h _=>h
theorem Kept.put {H H':Hp} {a:Addr} (k:Kept H H' a) (o:HO):Kept H (aR H' a o) a:=fun b u h n=>by rw[ar n];exact k b u h n
theorem Kept.new {H H':Hp} {a p:Addr} (k:Kept H H' a) (hp:H' p=none) (o:HO):Kept H (aR H' p o) a:=fun b u h n=>by
 have e:=k b u h n;rw[ar (aV e hp)];exact e
theorem cO {H H':Hp} {x dx C:Addr} (nx:H x=none) (nd:H dx=none) (k:Kept (aR (aR H dx (.own x)) x (.ins C dx [])) H' x):aN H H':=fun b o h=>by
 have n1:=aV h nx;exact k b o (by rw[ar n1,ar (aV h nd)];exact h) n1
structure mO (K:A6) (C:Addr):Prop where
 cl:fm K C
 name:ai K C "name"
 least:ai K C "least"
 most:ai K C "most"
 uses:ai K C "uses"
 second:ai K C "second"
def cA (K:A6):Sp:=fun vs H Q _=>∃(a C dx:Addr) (nm l m:V),vs= [.ref a,nm,l,m,.non,.non]/\H a=some (.ins C dx [])/\mO K C/\
 ∀(u:Addr) (H':Hp),u≠a->Kept H H' a->H' u=some (.lst [])->H' a=some (.ins C dx (i7 nm l m (.ref u) .non))->Q .non H'
def c4 (K:A6):Sp:=fun vs H Q _=>∃(a C dx:Addr) (nm l m fl:V),vs= [.ref a,nm,l,m,fl,.non,.non]/\H a=some (.ins C dx [])/\mO K C/\ai K C "fill" /\
 ∀(u:Addr) (H':Hp),u≠a->Kept H H' a->H' u=some (.lst [])->H' a=some (.ins C dx (warmF nm l m (.ref u) .non fl))->Q .non H'
end Sw
namespace L2
open PySem PySem.Spec PyProof.Rows XH
variable {X:Cx}
theorem fX {K:A6} (h:X.K=K):kA X (nA K):=by
 subst h;exact bR
def cS (n:Nat) (pr:Nat->Bool) (f:Nat->V):List V:=((Ai n).filter pr).map f
theorem iA (n:Nat) (pr:Nat->Bool) (f:Nat->V):cS (n+1) pr f=cS n pr f++(if pr n=true then [f n] else []):=by
 unfold cS;rw[List.range_succ,List.filter_append,Aq]
 congr 1
 cases h:pr n<;>simp[List.filter_cons,h]
theorem jM (n:Nat) (pr:Nat->Bool) (f:Nat->V):(cS n pr f).length<=n:=by
 unfold cS;rw[A5];have:=List.length_filter_le pr (Ai n)
 rwa [BB] at this
theorem iB {J:It} {n:Nat} {js:List Nat} {tc:TT} {te:TE} {σ:L2.St} {H1:Hp} {Q:VK} (pr:Nat->Bool) (f:Nat->V) (hz:n<=sizeLine)
  (hgo:∀i H2,aN H1 H2->i<n->J.go i H2) (hst:∀H2,aN H1 H2->J.stop n H2)
  (step:∀i,i<n->∀H2 x H3,aN H1 H2->J.yld i H2 x H3->H3=H2/\(∀R:Bool->Hp->Prop,R (pr i) H2->tc (some x::be js σ) H2 R)/\(pr i=true->∀Q':VK,Q' (f i) H2->te (some x::be js σ) H2 Q'))
  (fin:∀p H',H1 p=none->aN H1 H'->H' p=some (.lst (cS n pr f))->Q (.ref p) H'):iz js tc te σ Q J H1:=by
 intro p hp;refine ⟨fun i m ys H2=>i<=n/\m=n-i/\ys=cS i pr f/\aN H1 H2/\H2 p=some (.lst ys),⟨n,B5 _,rfl,rfl,Sw.am hp _,ah⟩,?_⟩
 rintro i m ys H2 ⟨hi,rfl,rfl,g,e⟩;refine ⟨e,?_⟩
 by_cases hin:i<n
 ·refine .inr ⟨hgo i H2 g hin,?_,fun x H3 hy=>?_⟩
  ·have:=jM i pr f;omega
  obtain ⟨rfl,h1,h2⟩:=step i hin H2 x H3 g hy;refine h1 _ ?_;have tk:=iA i pr f;cases hpr:pr i with
  |true=>
   rw[hpr,if_pos rfl] at tk;rw[if_pos rfl];exact h2 hpr _ ⟨e,n-(i+1),by omega,hin,rfl,tk.symm,Sw.cV g hp _,ah⟩
  |false=>
   rw[hpr,if_neg (by decide),List.append_nil] at tk
   rw[if_neg (by decide)]
   exact ⟨n-(i+1),by omega,hin,rfl,tk.symm,g,e⟩
 ·have e2:i=n:=by omega
  subst e2;exact .inl ⟨hst H2 g,fin p H2 hp g e⟩
theorem c5 {n:Nat} {js:List Nat} {tc:TT} {te:TE} {σ:L2.St} {H1:Hp} {Q:VK} (pr:Nat->Bool) (f:Nat->V) (hz:n<=sizeLine)
  (s1:∀i:Nat,i<n->∀H2,aN H1 H2->∀R:Bool->Hp->Prop,R (pr i) H2->tc (some (.int (0+(i:Int)))::be js σ) H2 R)
  (s2:∀i:Nat,i<n->∀H2,aN H1 H2->∀Q':VK,Q' (f i) H2->te (some (.int (0+(i:Int)))::be js σ) H2 Q')
  (fin:∀p H',H1 p=none->aN H1 H'->H' p=some (.lst (cS n pr f))->Q (.ref p) H'):iz js tc te σ Q (ng 0 n) H1:=by
 refine iB pr f hz (fun i H2 g hi=>hi) (fun H2 g=>AB n) (fun i hi H2 x H3 g hy=>?_) fin
 obtain ⟨rfl,rfl⟩:=hy;exact ⟨rfl,s1 i hi _ g,fun _=>s2 i hi _ g⟩
def gN (R:V->V->Prop):List V->List V->Prop
 | [],[]=>True
 |x::xs,y::ys=>R x y/\gN R xs ys
 |_,_=>False
theorem gN.len {R:V->V->Prop}:∀{xs ys:List V},gN R xs ys->xs.length=ys.length
 | [],[],_=>rfl
 |_::_,_::_,h=>by simp[gN.len h.2]
 | [],_::_,h=>h.elim
 |_::_,[],h=>h.elim
def om (K:A6) (H:Hp):Nat->V->V->Prop
 |0,x,y=>x=y/\qK x
 |n+1,x,y=>om K H n x y∨∃a b xs ys,x= .ref a/\y= .ref b/\((cr K H a xs/\cr K H b ys)∨(aS K H a xs/\aS K H b ys))/\gN (om K H n) xs ys
theorem d0 {A:Around} {s:Shared} {R:V->V->Prop} (hR:∀x y u w,R x y->RelV x u->RelV y w->SeqAt.EqAt A s u w true):∀{xs ys:List V} {us ws:sK},gN R xs ys->aO xs us->aO ys ws->∀j (h1:j<us.length) (h2:j<ws.length),SeqAt.EqAt A s us[j] ws[j] true
 | [],[],_,_,_,.nil,.nil,j,h1,_=>absurd h1 (by simp)
 |_::_,_::_,_,_,h,.cons r1 _,.cons r2 _,0,_,_=>hR _ _ _ _ h.1 r1 r2
 |_::_,_::_,_,_,h,.cons _ t1,.cons _ t2,j+1,h1,h2=>d0 hR h.2 t1 t2 j (by simpa using h1) (by simpa using h2)
theorem iC {X:Cx} {pins:sG} {σ:St} {H:Hp} {s:Shared} (I:aD X pins σ H s):∀(n:Nat) (A:Around) (x y:V) (u w:Value),A.units+n<cLine->om X.K H n x y->RelV x u->RelV y w->SeqAt.EqAt A s u w true
 |0,A,x,y,u,w,_,h,r1,r2=>by
  obtain ⟨rfl,hs⟩:=h;exact kD hs r1 r2
 |n+1,A,x,y,u,w,hu,h,r1,r2=>by
  rcases h with h|⟨a,b,xs,ys,rfl,rfl,hq,hA⟩
  ·exact iC I n A x y u w (by omega) h r1 r2
  cases r1;cases r2
  by_cases e:a=b
  ·subst e;exact SeqAt.EqAt.same _
  refine SeqAt.EqAt.of_refs e ?_;have ih:=fun x y u w=>iC I n A.in1 x y u w (by show A.units+1+n<_;omega)
  rcases hq with ⟨h1,h2⟩|⟨h1,h2⟩
  ·obtain ⟨i1,v1,p1,_⟩:=I.tuple h1;obtain ⟨i2,v2,p2,_⟩:=I.tuple h2;have k:=SeqAt.RcAt.tuples (A:=A) (e:=fun _=>true) p1 p2 (by omega) fun j g1 g2=>d0 (A:=A.in1) (s:=s) ih hA v1 v2 j (by simpa using g1) (by simpa using g2)
   have e1:∀m,((Ai m).all fun _=>true)=true:=fun m=>by simp
   rw[e1] at k
   simpa [<-v1.length,<-v2.length,hA.len] using k
  ·obtain ⟨i1,v1,p1,_⟩:=I.list h1;obtain ⟨i2,v2,p2,_⟩:=I.list h2;have k:=SeqAt.RcAt.lists (A:=A) (e:=fun _=>true) p1.isList p2.isList (by simp[<-v1.length,<-v2.length,hA.len]) (by omega) fun j g1 g2=>d0 (A:=A.in1) (s:=s) ih hA v1 v2 j (by simpa using g1) (by simpa using g2)
   have e1:∀m,((Ai m).all fun _=>true)=true:=fun m=>by simp
   rw[e1] at k;exact k
end L2
namespace Sw
open PySem L2 XH
abbrev cC:=Str×Int×Int×Int
structure LK (H:Hp) (l:Addr) (ks:List cC):Prop where
 ex:∃as:sJ,as.length=ks.length/\H l=some (.lst (as.map V.ref))/\∀(i:Nat) (a:Addr) (k:cC),as[i]?=some a->ks[i]?=some k->H a=some (.tup [.str k.1,.int k.2.1,.int k.2.2.1,.int k.2.2.2])
theorem LK.same {H H':Hp} {l:Addr} {ks:List cC} (h:LK H l ks) (g:aN H H'):LK H' l ks:=by
 obtain ⟨as,h1,h2,h3⟩:=h.ex;exact ⟨as,h1,g _ _ h2,fun i a k e1 e2=>g _ _ (h3 i a k e1 e2)⟩
theorem LK.copy {H H':Hp} {l l':Addr} {ks:List cC} (h:LK H l ks) (g:aN H H') {xs:List V} (e:H l=some (.lst xs)) (e':H' l'=some (.lst xs)):LK H' l' ks:=by
 obtain ⟨as,h1,h2,h3⟩:=h.ex;rw[e] at h2;cases h2;exact ⟨as,h1,e',fun i a k e1 e2=>g _ _ (h3 i a k e1 e2)⟩
theorem LK.snoc {H:Hp} {l a:Addr} {ks:List cC} {k:cC} (h:LK H l ks) (ha:H a=some (.tup [.str k.1,.int k.2.1,.int k.2.2.1,.int k.2.2.2])):
  ∃xs,H l=some (.lst xs)/\xs.length=ks.length/\LK (aR H l (.lst (xs++ [.ref a]))) l (ks++ [k]):=by
 obtain ⟨as,h1,h2,h3⟩:=h.ex;have keep:∀{b:Addr} {zs:List V} {o:HO},H b=some (.tup zs)->(aR H l o) b=some (.tup zs):=fun {b zs o} hb=>by
  rw[ar (fun z=>by subst z;rw[h2] at hb;cases hb)]
  exact hb
 refine ⟨_,h2,by simp[h1],as++ [a],by simp[h1],by rw[ah,Aq];rfl,fun i b p e1 e2=>?_⟩
 by_cases hi:i<as.length
 ·rw[AA hi] at e1;rw[AA (by omega)] at e2
  exact keep (h3 i b p e1 e2)
 ·have e3:i=as.length:=by
   have:=(A4.mp e1).1;simp at this;omega
  subst e3;rw[A7 (by omega)] at e1
  rw[A7 (by omega),h1] at e2
  simp at e1 e2;subst e1;subst e2;exact keep ha
abbrev md:=Int×Int
structure TK (H:Hp) (l:Addr) (ts:List md):Prop where
 ex:∃as:sJ,as.length=ts.length/\H l=some (.lst (as.map V.ref))/\∀(i:Nat) (a:Addr) (t:md),as[i]?=some a->ts[i]?=some t->∃w v e,H a=some (.tup [.int t.1,.int t.2,.ref w])/\H w=some (.lst [.ref v])/\H v=some (.tup [.int 1,.int 2,.ref e])/\H e=some (.lst [])/\w≠l/\e≠l
theorem TK.same {H H':Hp} {l:Addr} {ts:List md} (h:TK H l ts) (g:aN H H'):TK H' l ts:=by
 obtain ⟨as,h1,h2,h3⟩:=h.ex;refine ⟨as,h1,g _ _ h2,fun i a t e1 e2=>?_⟩
 obtain ⟨w,v,e,k1,k2,k3,k4,k5⟩:=h3 i a t e1 e2;exact ⟨w,v,e,g _ _ k1,g _ _ k2,g _ _ k3,g _ _ k4,k5⟩
theorem TK.alk {K:A6} {H:Hp} {l m:Addr} {ts:List md} (h:TK H l ts) (h':TK H m ts):∃xs ys,H l=some (.lst xs)/\H m=some (.lst ys)/\gN (om K H 4) xs ys:=by
 obtain ⟨as,a1,a2,a3⟩:=h.ex;obtain ⟨bs,b1,b2,b3⟩:=h'.ex;refine ⟨_,_,a2,b2,?_⟩;clear a2 b2 h h'
 induction ts generalizing as bs with
 |nil=>
  cases as with
  |nil=>
   cases bs with
   |nil=>trivial
   |cons=>simp at b1
  |cons=>simp at a1
 |cons t ts ih=>
  cases as with
  |nil=>simp at a1
  |cons a as=>
   cases bs with
   |nil=>simp at b1
   |cons b bs=>
    refine ⟨?_,ih as (by simpa using a1) (fun i c u e1 e2=>a3 (i+1) c u e1 e2) bs (by simpa using b1) (fun i c u e1 e2=>b3 (i+1) c u e1 e2)⟩
    obtain ⟨w,v,e,k1,k2,k3,k4,_⟩:=a3 0 a t rfl rfl;obtain ⟨w',v',e',k1',k2',k3',k4',_⟩:=b3 0 b t rfl rfl;have sm:∀(n:Nat) (i:Int),om K H n (.int i) (.int i):=fun n i=>by
     induction n with
     |zero=>exact ⟨rfl,trivial⟩
     |succ n ih=>exact .inl ih
    exact .inr ⟨a,b,_,_,rfl,rfl,.inl ⟨cr.of k1,cr.of k1'⟩,sm _ _,sm _ _,.inr ⟨w,w',_,_,rfl,rfl,.inr ⟨aS.of k2,aS.of k2'⟩,.inr ⟨v,v',_,_,rfl,rfl,.inl ⟨cr.of k3,cr.of k3'⟩,sm _ _,sm _ _,.inr ⟨e,e',_,_,rfl,rfl,.inr ⟨aS.of k4,aS.of k4'⟩,trivial⟩,trivial⟩,trivial⟩,trivial⟩
theorem TK.snoc {H:Hp} {l a w v e:Addr} {ts:List md} {t:md} (h:TK H l ts) (k1:H a=some (.tup [.int t.1,.int t.2,.ref w])) (k2:H w=some (.lst [.ref v])) (k3:H v=some (.tup [.int 1,.int 2,.ref e])) (k4:H e=some (.lst [])) (wl:w≠l) (el:e≠l):
  ∃xs,H l=some (.lst xs)/\xs.length=ts.length/\TK (aR H l (.lst (xs++ [.ref a]))) l (ts++ [t]):=by
 obtain ⟨as,h1,h2,h3⟩:=h.ex;have keep:∀{b:Addr} {zs:List V} {o:HO},H b=some (.tup zs)->(aR H l o) b=some (.tup zs):=fun {b zs o} hb=>by
  rw[ar (fun z=>by subst z;rw[h2] at hb;cases hb)]
  exact hb
 have keepL:∀{b:Addr} {o q:HO},b≠l->H b=some q->(aR H l o) b=some q:=fun {b o q} hn hb=>by
  rw[ar hn];exact hb
 refine ⟨_,h2,by simp[h1],as++ [a],by simp[h1],by rw[ah,Aq];rfl,fun i b p e1 e2=>?_⟩
 by_cases hi:i<as.length
 ·rw[AA hi] at e1;rw[AA (by omega)] at e2
  obtain ⟨w,v,e,j1,j2,j3,j4,j5,j6⟩:=h3 i b p e1 e2;exact ⟨w,v,e,keep j1,keepL j5 j2,keep j3,keepL j6 j4,j5,j6⟩
 ·have e3:i=as.length:=by
   have:=(A4.mp e1).1;simp at this;omega
  subst e3;rw[A7 (by omega)] at e1
  rw[A7 (by omega),h1] at e2
  simp at e1 e2;subst e1;subst e2;exact ⟨w,v,e,keep k1,keepL wl k2,keep k3,keepL el k4,wl,el⟩
def qL:cC:=(Str.empty,0,0,0)
def i9:Sp:=fun _ _ _ _=>False
def me (nm p t s l:V):List (Str×V):=az "links" l (az "steps" s (az "takes" t (az "plates" p (az "name" nm []))))
theorem c6 {nm p t s l:V}:(me nm p t s l).lookup ("links" :Str)=some l:=by
 unfold me;rw[cE,if_pos rfl]
structure qj (K:A6) (C:Addr):Prop where
 cl:fm K C
 name:ai K C "name"
 plates:ai K C "plates"
 takes:ai K C "takes"
 steps:ai K C "steps"
 links:ai K C "links"
def fx (K:A6):Sp:=fun vs H Q _=>∃(a C dx lt ls lk:Addr) (nm p:V) (xt xs xk:List V),vs= [.ref a,nm,p,.ref lt,.ref ls,.ref lk]/\H a=some (.ins C dx [])/\qj K C/\H lt=some (.lst xt)/\H ls=some (.lst xs)/\H lk=some (.lst xk)/\
 ∀(u:Addr) (t s:V) (H':Hp),u≠a->Kept H H' a->H' u=some (.lst xk)->H' a=some (.ins C dx (me nm p t s (.ref u)))->Q .non H'
def gO:Sp:=fun vs H Q _=>∃(lc ln:Addr) (cs:List Int) (zs:sI),vs= [.ref lc,.ref ln]/\H lc=some (.lst (cs.map V.int))/\H ln=some (.lst (zs.map V.str))/\cs.length=zs.length/\cs.length<=8/\(∀c∈cs,1<=c/\c<=3)/\
 ∀(l:Addr) (H':Hp) (xs:List V),aN H H'->H' l=some (.lst xs)->Q (.ref l) H'
def a9 (cs:List Int):Nat->List md
 |0=> []
 |i+1=>a9 cs i++(Ai (cs.getD i 0).toNat).map fun t:Nat=>((0+(i:Int):Int),(0+(t:Int):Int))
def gP:Sp:=fun vs H Q _=>∃(lc:Addr) (cs:List Int),vs= [.ref lc]/\H lc=some (.lst (cs.map V.int))/\cs.length<=8/\(∀c∈cs,1<=c/\c<=3)/\∀(l:Addr) (H':Hp),aN H H'->TK H' l (a9 cs cs.length)->(a9 cs cs.length).length<=24->Q (.ref l) H'
theorem eD {cs:List Int} (h:∀c∈cs,1<=c/\c<=3):∀i,(a9 cs i).length<=3*i
 |0=>by simp[a9]
 |i+1=>by
  have ih:=eD h i;have:(cs.getD i 0).toNat<=3:=by
   rw[BK];cases e:cs[i]? with
   |none=>simp
   |some c=>
    have:=h c (AH e);simp;omega
  simp only[a9,A9,A5,BB];omega
theorem dC {as:sJ} {i:Nat} {x:V} (h:(as.map V.ref)[i]?=some x):∃a,as[i]?=some a/\x= .ref a:=by
 rw[AF] at h;cases e:as[i]? with
 |none=>rw[e] at h;cases h
 |some a=>rw[e] at h;cases h;exact ⟨a,rfl,rfl⟩
theorem dh {α:Type} {as:sJ} {ks:List α} {d:α} {i:Nat} {a:Addr} (h:as.length=ks.length) (ha:as[i]?=some a):∃k,ks[i]?=some k/\ks.getD i d=k:=by
 have il:=(A4.mp ha).1;exact ⟨ks[i]'(by omega),A0 (by omega),by rw[BK,A0 (by omega)];rfl⟩
theorem dD {H:Hp} {x dx b:Addr} {o o1 o2:HO} (nx:H x=none) (nd:H dx=none) (h:H b=some o):(aR (aR H dx o1) x o2) b=some o:=by
 rw[ar (aV h nx),ar (aV h nd)];exact h
end Sw
namespace L2
open PySem PySem.Spec PyProof.Rows XH Sw So
end L2
namespace Sw
open PySem L2 XH Hm
end Sw
namespace L2
open PySem PySem.Spec PyProof.Rows XH Sw Hm
end L2
namespace Sw
open PySem L2 XH Hm
end Sw
namespace L2
open PySem PySem.Spec PyProof.Rows XH Sw Hm
end L2
namespace Sw
open PySem L2 XH Hm
end Sw
namespace L2
open PySem PySem.Spec PyProof.Rows XH Sw Hm
end L2
namespace Sw
open PySem L2 XH Hm
end Sw
namespace L2
open PySem PySem.Spec PyProof.Rows XH Sw Hm
end L2
namespace Sw
open PySem L2 XH Hm
theorem kN {α:Type} {P:List α->Prop} (h:∀a,P [a]):∀us:List α,us.length=1->P us
 | [a],_=>h a
theorem bS {α:Type} {P:List α->Prop} (h:∀a b,P [a,b]):∀us:List α,us.length=2->P us
 | [a,b],_=>h a b
theorem nO {α:Type} {P:List α->Prop} (h:∀a b c,P [a,b,c]):∀us:List α,us.length=3->P us
 | [a,b,c],_=>h a b c
theorem nP {α:Type} {P:List α->Prop} (h:∀a b c d e f,P [a,b,c,d,e,f]):∀us:List α,us.length=6->P us
 | [a,b,c,d,e,f],_=>h a b c d e f
abbrev FnAt (K:A6) (f:Addr) (n q:Str) (st:Stmt) (dV:Value):Prop:=∃(oc:Value) (od:sL) (kV dc pm:Value) (an:sL) (cd ct:Value) (sl:sH),K.lookup f=some ⟨oc,od,.func (BE n q (bU st) (bH st) (aw st) dV kV dc pm an cd ct),sl⟩/\PySem.W.codeIn K cd q=true/\BH K (.ref f)=true
abbrev dW (K:A6) (f:Addr) (x:Str) (st:Stmt) (dV:Value):Prop:=Al K mainGlobals x=some (some (.ref f))/\FnAt K f x x st dV
abbrev oV (K:A6) (c f:Addr) (m q:Str) (st:Stmt) (dV:Value):Prop:=B2 K (.ref c) m=some (some (.ref f))/\FnAt K f m q st dV
abbrev oW (n q:Str) (st:Stmt) (dV:Value) (ps:sI):Prop:=∀(kV doc pm:Value) (an:sL) (cdv ct:Value) (us:sK),us.length=ps.length->bindArgs (BE n q (bU st) (bH st) (aw st) dV kV doc pm an cdv ct) ⟨us,[]⟩=pure (ps.zip us)
theorem fY {N P:sI} {sc:Scope} (h:N.Nodup/\(∀x∈P,sc.names.lookup x=some .local∨sc.names.lookup x=some .cell)/\∀y∈sc.names,y.2≠ .free) (h1:sc.kind= .function:=by rfl) (h2:sc.isCoroutine=false:=by rfl) (h3:sc.isGenerator=false:=by rfl) (h4:N.take P.length=P:=by rfl):aH N P sc:=⟨h1,h2,h3,h.1,h4,h.2.1,h.2.2⟩
section
variable {P:Program} {w:World} {K:A6} {mg:sF} {base h:Heap} {CX:iV} {k:Nat} {f c:Addr} {x m q:Str} {st:Stmt} {ps:sI} {sp:Sp}
theorem FnAt.ex {n q:Str} {dV:Value} (a:FnAt K f n q st dV):∃fd,bC K n q st dV f fd/\BH K (.ref f)=true:=by
 obtain ⟨_,_,_,_,_,_,_,_,_,l,c,k⟩:=a;exact ⟨_,dY (st:=st) l c k,k⟩
structure Bx (P:Program) (w:World) (base:Heap):Prop
noncomputable def iD (_:Bx P w base) (X:K.In h) (G:h.Ns mainGlobals mg) (a:dW K f x st .none) (b:oW x x st .none ps) (ok:∀{fd:FuncData},bC K x x st .none f fd->bu P w K mg base CX k f fd ps sp):Dx P w K mg base CX k x ps [] sp:=
 have e:=a.2.ex
 ⟨f,e.choose,ok e.choose_spec.1,Bo X G a.1,e.choose_spec.2,e.choose_spec.1.binds0 b,[],e.choose_spec.1.binds0 b,.nil⟩
noncomputable def qY (_:Bx P w base) (a:oV K c f m q st .none) (b:oW m q st .none ps) (ok:∀{fd:FuncData},bC K m q st .none f fd->bu P w K mg base CX k f fd ps sp):lD P w K mg base CX k f ps [] sp:=
 have e:=a.2.ex
 ⟨e.choose,ok e.choose_spec.1,e.choose_spec.1.binds0 b,[],e.choose_spec.1.binds0 b,.nil⟩
end
end Sw
namespace L2
open PySem PySem.Spec PyProof.Rows XH
section
variable {prog:Program} {w:World} {A:Around} {E:sE} {s:Shared}
theorem eZ (a:Value) {Q₁:sE}
  (h:∀led:Bool,(w.params.followText "set-order" =false->led=true)->Q₁ (.ref s.heap.objs.size) {s with heap:=s.heap.push {cls:= .type "set",dict:=none,data:= .set #[] 0 (.fresh 0 0 led)}}):
  codeAny (model prog w) A (.call (.builtin "set.__new__") ⟨[.type "set",a],[]⟩) (wants Q₁ E) s:=by
 refine codeAny_of_tree ?_;show wpAny _ A.in1 (do checkBuiltinCall "set.__new__" ⟨[.type "set",a],[]⟩;again (.builtin "set.__new__" ⟨[.type "set",a],[]⟩)) _ _ s
 refine wpAny_bind (wpAny_of_eq (F.newCall_set_1 a) (wpAny_pure ⟨plainId_quiet F.plain_set_new _,codeAny_builtin F.entry_set_new ?_⟩));rw[Around.under_plainId F.plain_set_new _];unfold Builtin.«set.__new__» Builtin.Frozenset.newClass;have hsub:=sub_set_self;obtain ⟨hp,g,d,tk,os⟩:=s;dsimp only
 wp_walk
 refine wpAny_askSetting (wpAny_pure ?_);dsimp only;simp only[newObj];refine wpAny_bind (wpAny_alloc (wpAny_pure ?_));refine wpAny_pure (h _ fun e=>?_)
 show (!(model prog w).w.params.followText "set-order")=true;rw[show (model prog w).w=w from rfl,e]
 rfl
end
theorem gQ:Manifest.owners.lookup (String.ofList ['r','o','t','a','r','e','t','i','_','t','e','s'].reverse)=some Manifest.sig_set_iterator:=by kernel_rfl
theorem aG:Slot "set_iterator" "__next__" "set_iterator.__next__" :=
 .of (owner:= "set_iterator") (n:= "__next__") (by rw[typeLookup_type,builtinLookup_eq_fast];kernel_rfl) (by decide+kernel) (by decide+kernel) (by decide+kernel)
  (by first|exact .inl (by decide+kernel)|exact .inr (by decide+kernel)) (by rw[isSubtype_type];kernel_rfl)
theorem bI:entryFor table "set_iterator.__next__" =some Builtin.«set_iterator.__next__» :=entryFor_of_tree (by kernel_rfl)
theorem bV (a:Value):argsOk "set_iterator.__next__" ⟨[a],[]⟩:=by
 unfold argsOk;rw[signature?_of (id:= "set_iterator.__next__") (n:= ['_','_','t','x','e','n','_','_']) (o:= ['r','o','t','a','r','e','t','i','_','t','e','s']) (by kernel_rfl) gQ];kernel_rfl
theorem a6:Slot "set_iterator" "__iter__" "set_iterator.__iter__" :=
 .of (owner:= "set_iterator") (n:= "__iter__") (by rw[typeLookup_type,builtinLookup_eq_fast];kernel_rfl) (by decide+kernel) (by decide+kernel) (by decide+kernel)
  (by first|exact .inl (by decide+kernel)|exact .inr (by decide+kernel)) (by rw[isSubtype_type];kernel_rfl)
theorem bW (a:Value):argsOk "set_iterator.__iter__" ⟨[a],[]⟩:=by
 unfold argsOk;rw[signature?_of (id:= "set_iterator.__iter__") (n:= ['_','_','r','e','t','i','_','_']) (o:= ['r','o','t','a','r','e','t','i','_','t','e','s']) (by kernel_rfl) gQ];kernel_rfl
theorem eE:entryFor table "set.__iter__" =some Builtin.«frozenset.__iter__» :=
 entryFor_alias (id':= "frozenset.__iter__") (by kernel_rfl) rfl (by decide+kernel) (by kernel_rfl)
theorem bJ:entryFor table "set_iterator.__iter__" =some Builtin.«dict_keyiterator.__iter__» :=
 entryFor_alias (id':= "dict_keyiterator.__iter__") (by kernel_rfl) rfl (by decide+kernel) (by kernel_rfl)
section
variable {prog:Program} {w:World} {A:Around} {E:sE} {s:Shared}
theorem ff {M:Model} {src:Source} {n:Nat} {Q:Nat->Shared->Prop} (hn:n≠0) (h:∀i d,i<n->Q i {s with drawn:=d}):wpAny M A (choose src n) Q E s:=fun _ _ _=>by
 unfold choose;rw[Sem.wp_choose];exact ⟨hn,by simpa using h _ _ (Nat.mod_lt _ (Nat.pos_of_ne_zero hn))⟩
theorem dE {α:Type}:∀(l:List α) (i:Nat) (h:i<l.length),(l[i]::l.eraseIdx i).Perm l
 | [],i,h=>by simp at h
 |x::xs,0,_=> .refl _
 |x::xs,i+1,h=>by
  have h':i<xs.length:=by simpa using h
  show (xs[i]::x::xs.eraseIdx i).Perm (x::xs);exact (List.Perm.swap _ _ _).trans ((dE xs i h').cons x)
theorem cJ {M:Model} {α:Type}:∀(n:Nat) (xs:List α) (s:Shared) (Q:List α->Shared->Prop),xs.length=n->(∀ys d,ys.Perm xs->Q ys {s with drawn:=d})->wpAny M A (drawOrder n xs) Q E s
 |0,xs,s,Q,hl,h=>by
  have:xs= []:=List.length_eq_zero_iff.mp hl;subst this;unfold drawOrder;exact wpAny_pure (h [] s.drawn .nil)
 |n+1,[],s,Q,hl,h=>by cases hl
 |n+1,x::xs,s,Q,hl,h=>by
  unfold drawOrder;refine wpAny_bind (ff (by simp) fun i d hi=>?_)
  have e:(x::xs)[i]?=some ((x::xs)[i]):=A0 hi;rw[e];dsimp only;refine wpAny_bind (cJ n ((x::xs).eraseIdx i) {s with drawn:=d} _ (by rw[List.length_eraseIdx_of_lt hi,hl];rfl) fun ys d' hp=>wpAny_pure (h _ d' ?_))
  exact (hp.cons _).trans (dE _ i hi)
def bD (h:Heap) (a:Addr) (es:Array (Int×Value)) (ep:Nat) (t:SetTable):Prop:=∃o,h.get? a=some o/\o.ExactSet/\o.data= .set es ep t/\t.fits es.size=true
def hJ (first:Value) (i:Nat) (S:Addr) (n ep:Nat):Obj:={cls:= .type "set_iterator",data:= .fields #[first,.int i 0,.ref S,.int n 0,.int ep 0]}
theorem fZ {a:Addr} {es:Array (Int×Value)} {ep:Nat} {t:SetTable} (h:bD s.heap a es ep t):s.TypeIs (.ref a) "set" :=let ⟨o,ho,hx,_⟩:=h;⟨o,ho,hx.1⟩
theorem kO {a:Addr} {es:Array (Int×Value)} {ep:Nat} {t:SetTable} {Q:sE} (hS:bD s.heap a es ep t) (hz:es.size<=sizeLine)
  (h1:(!w.params.followText "set-order" &&(!t.plain&&decide (es.size>1)))=false->Q (.ref s.heap.objs.size) {s with heap:=s.heap.push (hJ (.int 0 0) 0 a es.size ep)})
  (h2:(!w.params.followText "set-order" &&(!t.plain&&decide (es.size>1)))=true->∀(ys:List Nat) d,ys.Perm (Ai es.size)->
   Q (.ref (s.heap.objs.size+1)) {s with heap:=(s.heap.push {cls:= .type "tuple",data:= .seq (ys.map fun (i:Nat)=>rawInt i).toArray}).push (hJ (.ref s.heap.objs.size) 0 a es.size ep),drawn:=d}):
  wpAny (model prog w) A (pyIter (.ref a)) Q E s:=by
 have hT:=fZ hS;obtain ⟨o,ho,hx,hd,hf⟩:=hS;refine wpAny_pyIter_slot hT F.slot_set_iter (wpAny_call_entry F.slot_set_iter hT eE ?_ (F.args_set_iter_1 _));unfold Builtin.«frozenset.__iter__»;refine wpAny_bind (m:=Builtin.Frozenset.slot0 _ _) ?_;show wpAny _ _ (pure a) _ _ s;refine wpAny_pure ?_;unfold Builtin.Frozenset.sizeOf setEntries;refine wpAny_bind (wpAny_bind (wpAny_bind (wpAny_setState_of ho hd hf (wpAny_pure ?_))));refine wpAny_pure ?_;unfold setDrawn setsByText;refine wpAny_bind (wpAny_bind (wpAny_setState_of ho hd hf ?_));dsimp only;refine wpAny_bind (wpAny_bind (wpAny_askSetting (wpAny_pure ?_)));show wpAny _ _ (pure (!w.params.followText "set-order" &&(!t.plain&&decide (es.size>1)))) _ _ s;refine wpAny_pure ?_;cases c:(!w.params.followText "set-order" &&(!t.plain&&decide (es.size>1))) with
 |false=>
  simp only[AG,if_false];refine wpAny_bind (wpAny_pure ?_);unfold setEpoch;refine wpAny_bind (wpAny_bind (wpAny_setState_of ho hd hf (wpAny_pure ?_)));refine wpAny_bind (wpAny_newObj_type (wpAny_pure ⟨_,rfl,"set_iterator",_,⟨_,Heap.get?_push_size _ rfl,rfl⟩,aG.lookup,?_⟩));exact h1 c
 |true=>
  simp only[if_true];refine wpAny_bind (cJ es.size (Ai es.size) s _ (by simp) fun ys d hp=>?_)
  refine wpAny_bind (wpAny_newTuple ?_ (by rw[A5,hp.length_eq,BB];exact hz))
  unfold setEpoch;have ho':(s.heap.push {cls:= .type "tuple",data:= .seq (ys.map fun (i:Nat)=>rawInt i).toArray}).get? a=some o:=Heap.get?_push_of_some _ ho
  refine wpAny_bind (wpAny_bind (wpAny_setState_of (s:={s with heap:=_,drawn:=d}) ho' hd hf (wpAny_pure ?_)))
  refine wpAny_bind (wpAny_newObj_type (wpAny_pure ⟨_,rfl,"set_iterator",_,⟨_,Heap.get?_push_size _ rfl,rfl⟩,aG.lookup,?_⟩));have:=h2 c ys d hp;rw[<-Heap.size_push s.heap {cls:= .type "tuple",data:= .seq (ys.map fun (i:Nat)=>rawInt i).toArray}] at this
  exact this
end
section
variable {prog:Program} {w:World} {A:Around} {E:sE} {s:Shared}
theorem bD.at {h h':Heap} {a:Addr} {es:Array (Int×Value)} {ep:Nat} {t:SetTable} (x:bD h a es ep t) (k:∀o,h.get? a=some o->h'.get? a=some o):bD h' a es ep t:=let ⟨o,ho,r⟩:=x;⟨o,k o ho,r⟩
theorem bK {a:Addr} {es:Array (Int×Value)} {ep:Nat} {t:SetTable} {Q:Array (Int×Value)->Shared->Prop} (hS:bD s.heap a es ep t) (h:Q es s):wpAny (model prog w) A (setEntries a) Q E s:=by
 obtain ⟨o,ho,_,hd,hf⟩:=hS;unfold setEntries;exact wpAny_bind (wpAny_setState_of ho hd hf (wpAny_pure h))
theorem bO {a:Addr} {es:Array (Int×Value)} {ep:Nat} {t:SetTable} {Q:(Array (Int×Value)×Nat×SetTable)->Shared->Prop} (hS:bD s.heap a es ep t) (h:Q (es,ep,t) s):wpAny (model prog w) A (setState a) Q E s:=by
 obtain ⟨o,ho,_,hd,hf⟩:=hS;exact wpAny_setState_of ho hd hf h
theorem dG {I S:Addr} {es:Array (Int×Value)} {ep i slot nx:Nat} {t:SetTable} {x:Value} {Q:sM->Shared->Prop} (hI:s.heap.get? I=some (hJ (.int slot 0) i S es.size ep)) (hS:bD s.heap S es ep t)
  (hn:∀(A:Around) (E:sE) (Q:Option (Value×Nat)->Shared->Prop),Q (some (x,nx)) s->wpAny (model prog w) A (setNext S slot i ep) Q E s)
  (h:∀h',h'.get? I=some (hJ (.int nx 0) (i+1) S es.size ep)->Heap.SameBut I s.heap h'->Q (some x) {s with heap:=h'}):wpAny (model prog w) A (pyNext (.ref I)) Q E s:=by
 have hT:s.TypeIs (.ref I) "set_iterator" :=⟨_,hI,rfl⟩;unfold pyNext;refine wpAny_bind (wpAny_attempt (wpAny_callSpecial?_slot (name:=Str.ofString "__next__") hT aG (wpAny_call_entry aG hT bI ?_ (bV _))));unfold Builtin.«set_iterator.__next__»;refine wpAny_bind (m:=slotArgs _ _ _) ?_;show wpAny _ _ (pure (Value.ref I,[])) _ _ s;refine wpAny_pure ?_;refine wpAny_bind (wpAny_fieldsOf hI rfl ?_);show wpAny _ _ (setEntries S>>=_) _ _ s;refine wpAny_bind (bK hS ?_);rw[if_neg (by simp)]
 show wpAny _ _ (setNext S (Int.toNat slot) (Int.toNat i) (Int.toNat ep)>>=_) _ _ s;simp only[BR];refine wpAny_bind (hn _ _ _ ?_);dsimp only;refine wpAny_bind (wpAny_setField_rec (vs:= #[.int slot 0,.int i 0,.ref S,.int es.size 0,.int ep 0]) hI (by simp) fun h1 e1 s1=>?_)
 refine wpAny_bind (wpAny_setField_rec (s:={s with heap:=h1}) e1 (by simp) fun h2 e2 s2=>?_)
 exact wpAny_pure ⟨_,rfl,wpAny_pure (h h2 (by simpa [hJ,rawInt] using e2) (s1.trans s2))⟩
theorem dH {I S:Addr} {es:Array (Int×Value)} {ep i slot:Nat} {t:SetTable} {Q:sM->Shared->Prop} (hh:A.handled=none) (hI:s.heap.get? I=some (hJ (.int slot 0) i S es.size ep)) (hS:bD s.heap S es ep t)
  (hn:∀(A:Around) (E:sE) (Q:Option (Value×Nat)->Shared->Prop),Q none s->wpAny (model prog w) A (setNext S slot i ep) Q E s)
  (h:∀h',Heap.ExtBut I s.heap h'->Q none {s with heap:=h'}):wpAny (model prog w) A (pyNext (.ref I)) Q E s:=by
 have hT:s.TypeIs (.ref I) "set_iterator" :=⟨_,hI,rfl⟩;unfold pyNext;refine wpAny_bind (wpAny_attempt (wpAny_callSpecial?_slot (name:=Str.ofString "__next__") hT aG (wpAny_call_entry aG hT bI ?_ (bV _))));unfold Builtin.«set_iterator.__next__»;refine wpAny_bind (m:=slotArgs _ _ _) ?_;show wpAny _ _ (pure (Value.ref I,[])) _ _ s;refine wpAny_pure ?_;refine wpAny_bind (wpAny_fieldsOf hI rfl ?_);show wpAny _ _ (setEntries S>>=_) _ _ s;refine wpAny_bind (bK hS ?_);rw[if_neg (by simp)]
 show wpAny _ _ (setNext S (Int.toNat slot) (Int.toNat i) (Int.toNat ep)>>=_) _ _ s;simp only[BR];refine wpAny_bind (hn _ _ _ ?_);dsimp only;refine wpAny_bind (wpAny_setField_rec (vs:= #[.int slot 0,.int i 0,.ref S,.int es.size 0,.int ep 0]) hI (by simp) fun h1 e1 s1=>?_)
 show wpAny _ _ (newExc (.type "StopIteration") []>>=_) _ _ _;refine wpAny_bind ?_;simp only[newExc,newTuple];refine wpAny_bind (wpAny_newObj_type ?_ (by size_fits))
 refine wpAny_bind (m:=firstArgMember _ _) (wpAny_of_eq (a:=Value.none) (by first|rfl|(simp only[firstArgMember];rfl)) ?_)
 refine wpAny_newObj_type ?_ (by size_fits)
 simp only[raiseNew];refine wpAny_bind (wpAny_handled ?_);rw[show A.in1.handled=none from hh]
 refine wpAny_bind (wpAny_pure (wpAny_throw ?_));refine wpAny_bind (wpAny_isInstance (T:= "StopIteration") (b:=true) ⟨_,Heap.get?_push_size _ rfl,rfl⟩ isSubtype_stop ?_);exact wpAny_pure (h _ ((s1.extBut.push _).push _))
end
theorem dO {α:Type} (nx:Nat->Nat):∀(f k:Nat) (l:List α) (out:Array α),l.length=f->(pickOrder.go nx f k l out).toList.Perm (out.toList++l)
 |0,k,l,out,h=>by
  have:l= []:=List.length_eq_zero_iff.mp h;subst this;simp[pickOrder.go]
 |f+1,k,l,out,h=>by
  have hp:0<l.length:=by omega
  have hi:nx k % l.length<l.length:=Nat.mod_lt _ hp;have e:l[nx k % l.length]?=some (l[nx k % l.length]):=A0 hi;rw[pickOrder.go,e];dsimp only;refine (dO nx f (k+1) _ _ (by rw[List.length_eraseIdx_of_lt hi,h];rfl)).trans ?_
  rw[BM,AI];exact Ah _ (dE l _ hi)
theorem eF {α:Type} (nx:Nat->Nat) (xs:Array α):(pickOrder nx xs).toList.Perm xs.toList:=by
 unfold pickOrder
 simpa using dO nx xs.size 0 xs.toList #[] (by simp)
section
variable {prog:Program} {w:World} {A:Around} {E:sE} {s:Shared}
theorem di {S:Addr} {es:Array (Int×Value)} {ep i slot:Nat} {t:SetTable} {Q:Option (Value×Nat)->Shared->Prop} (hS:bD s.heap S es ep t) (hb:w.params.followText "set-order" =true)
  (h:Q (((pickOrder (w.params.setOrder S ep) es)[i]?).map fun e=>(e.2,slot)) s):wpAny (model prog w) A (setNext S slot i ep) Q E s:=by
 unfold setNext setsByText;refine wpAny_bind (bO hS ?_);dsimp only;refine wpAny_bind (wpAny_bind (wpAny_askSetting (wpAny_pure ?_)));rw[show ((model prog w).w.params.followText "set-order")=true from hb]
 simp only[if_true];rw[if_neg (by simp)]
 unfold setWalk setsByText;refine wpAny_bind (wpAny_bind (bO hS ?_));dsimp only;refine wpAny_bind (wpAny_bind (wpAny_askSetting (wpAny_pure ?_)));rw[show ((model prog w).w.params.followText "set-order")=true from hb]
 simp only[if_true];refine wpAny_bind (wpAny_askSetting (wpAny_pure ?_));exact wpAny_pure h
theorem dP {S:Addr} {es:Array (Int×Value)} {ep i slot:Nat} {t:SetTable} {Q:Option (Value×Nat)->Shared->Prop} (hS:bD s.heap S es ep t) (hb:w.params.followText "set-order" =false) (few:es.size<=1) (ld:t.led=true)
  (h:Q (match es[SetTable.below t.place slot]?,t.place[SetTable.below t.place slot]? with|some (_,x),some j=>some (x,j+1)|_,_=>none) s):wpAny (model prog w) A (setNext S slot i ep) Q E s:=by
 unfold setNext setsByText;refine wpAny_bind (bO hS ?_);dsimp only;refine wpAny_bind (wpAny_bind (wpAny_askSetting (wpAny_pure ?_)));rw[show ((model prog w).w.params.followText "set-order")=false from hb]
 simp only[AG,if_false];have d1:(!t.plain&&decide (es.size>1))=false:=by
  rw[decide_eq_false (by omega),Bool.and_false]
 have d2:(!t.led&& !es.isEmpty)=false:=by rw[ld];rfl
 show wpAny _ _ (if (!t.plain&&decide (es.size>1))=true then _ else _) _ _ s
 rw[d1];simp only[AG,if_false];refine wpAny_bind ?_;show wpAny _ _ (if (!t.led&& !es.isEmpty)=true then _ else _) _ _ s
 rw[d2];simp only[AG,if_false];refine wpAny_pure ?_;exact wpAny_pure h
theorem jN (hh:A.handled=none) (hb:w.params.followText "set-order" =true) (I S:Addr) (ne:S≠I) (es:Array (Int×Value)) (ep:Nat) (t:SetTable):
  Walks prog w A I [I,S] [I] es.size (fun i v=>∃e,(pickOrder (w.params.setOrder S ep) es).toList[i]?=some e/\v=e.2) (fun i h=>h.get? I=some (hJ (.int 0 0) i S es.size ep)/\bD h S es ep t) where
 sub:=fun b hb=>by simp at hb;simp[hb]
 frame:=fun _ _ _ st hk=>⟨hk I (by simp) _ st.1,st.2.at fun o e=>hk S (by simp) o e⟩
 item:=fun i s Q E hi st hQ=>by
  have hz:(pickOrder (w.params.setOrder S ep) es).size=es.size:=by rw[<-AJ,(eF _ es).length_eq,AJ]
  obtain ⟨x,hx⟩:∃x,(pickOrder (w.params.setOrder S ep) es)[i]?=some x:=⟨_,AC (by rw[hz];exact hi)⟩
  refine dG (slot:=0) (nx:=0) (x:=x.2) st.1 st.2 (fun A E Q q=>di st.2 hb ?_) fun h' e' sb=>?_
  ·rw[hx];exact q
  ·refine hQ _ h' s.toks ⟨_,by rw[AM];exact hx,rfl⟩ ⟨e',st.2.at fun o e=>(sb.2 S ne).trans e⟩ fun b o hb e=>(sb.2 b fun z=>hb (by simp[z])).trans e
 done:=fun s Q E st hQ=>by
  have hz:(pickOrder (w.params.setOrder S ep) es).size=es.size:=by rw[<-AJ,(eF _ es).length_eq,AJ]
  have hx:(pickOrder (w.params.setOrder S ep) es)[es.size]?=none:=BY (by omega)
  refine dH (slot:=0) hh st.1 st.2 (fun A E Q q=>di st.2 hb ?_) fun h' xb=>hQ h' s.toks fun b o hb e=>xb b o (fun z=>hb (by simp[z])) e
  rw[hx];exact q
 self:=fun i s Q E st hQ=>by
  have hT:s.TypeIs (.ref I) "set_iterator" :=⟨_,st.1,rfl⟩;refine wpAny_pyIter_slot hT a6 (wpAny_call_entry a6 hT bJ ?_ (bW _));show wpAny _ _ (ret (.ref I)) _ _ s;exact wpAny_pure ⟨_,rfl,"set_iterator",_,hT,aG.lookup,hQ⟩
theorem ja {α:Type}:∀{a:Array α},a.size=1->∃j,a= #[j]
 |⟨[j]⟩,_=>⟨j,rfl⟩
 |⟨[]⟩,h=>by simp at h
 |⟨_::_::_⟩,h=>by simp at h
theorem fy (j k:Nat):SetTable.below #[j] k=if j<k then 1 else 0:=by
 unfold SetTable.below;simp only[AV,Ap,List.length_nil,SetTable.below.go]
 by_cases h:j<k<;>simp[h,SetTable.below.go]
theorem kP (hh:A.handled=none) (hb:w.params.followText "set-order" =false) (I S:Addr) (ne:S≠I) (es:Array (Int×Value)) (ep:Nat) (t:SetTable) (few:es.size<=1) (ld:t.led=true) (ft:t.fits es.size=true):
  Walks prog w A I [I,S] [I] es.size (fun i v=>∃e,es.toList[i]?=some e/\v=e.2) (fun i h=>(∃slot:Nat,(i=0->slot=0)/\(i≠0->∃j,t.place[0]?=some j/\slot=j+1)/\h.get? I=some (hJ (.int slot 0) i S es.size ep))/\bD h S es ep t) where
 sub:=fun b hb=>by simp at hb;simp[hb]
 frame:=fun _ _ _ st hk=>⟨let ⟨sl,a,b,c⟩:=st.1;⟨sl,a,b,hk I (by simp) _ c⟩,st.2.at fun o e=>hk S (by simp) o e⟩
 item:=fun i s Q E hi st hQ=>by
  obtain ⟨⟨slot,z1,z2,hI⟩,hS⟩:=st;have i0:i=0:=by omega
  subst i0;cases z1 rfl;have pz:t.place.size=1:=by
   simp only[SetTable.fits,Bool.and_eq_true,beq_iff_eq] at ft;omega
  obtain ⟨j,ej⟩:=ja pz;obtain ⟨x,hx⟩:∃x,es[0]?=some x:=⟨_,AC hi⟩;refine dG (slot:=0) (nx:=j+1) (x:=x.2) hI hS (fun A E Q q=>dP hS hb few ld ?_) fun h' e' sb=>?_
  ·rw[ej,fy];simp only[Nat.not_lt_zero,if_false,hx];exact q
  ·exact hQ _ h' s.toks ⟨_,by rw[AM];exact hx,rfl⟩ ⟨⟨j+1,fun z=>(by omega),fun _=>⟨j,by rw[ej];rfl,rfl⟩,e'⟩,hS.at fun o e=>(sb.2 S ne).trans e⟩ fun b o hb e=>(sb.2 b fun z=>hb (by simp[z])).trans e
 done:=fun s Q E st hQ=>by
  obtain ⟨⟨slot,z1,z2,hI⟩,hS⟩:=st;refine dH (slot:=slot) hh hI hS (fun A E Q q=>dP hS hb few ld ?_) fun h' xb=>hQ h' s.toks fun b o hb e=>xb b o (fun z=>hb (by simp[z])) e
  have hn:es[SetTable.below t.place slot]?=none:=by
   by_cases e0:es.size=0
   ·exact BY (by omega)
   ·obtain ⟨j,e1,e2⟩:=z2 e0;have pz:t.place.size=1:=by
     simp only[SetTable.fits,Bool.and_eq_true,beq_iff_eq] at ft;omega
    have ej:t.place= #[j]:=by
     obtain ⟨j',ej'⟩:=ja pz;rw[ej'] at e1;simp at e1;rw[ej',e1]
    rw[ej,fy,e2,if_pos (by omega)]
    exact BY (by omega)
  rw[hn];exact q
 self:=fun i s Q E st hQ=>by
  obtain ⟨⟨slot,z1,z2,hI⟩,hS⟩:=st;have hT:s.TypeIs (.ref I) "set_iterator" :=⟨_,hI,rfl⟩;refine wpAny_pyIter_slot hT a6 (wpAny_call_entry a6 hT bJ ?_ (bW _));show wpAny _ _ (ret (.ref I)) _ _ s;exact wpAny_pure ⟨_,rfl,"set_iterator",_,hT,aG.lookup,hQ⟩
end
section
variable {prog:Program} {w:World} {A:Around} {E:sE} {s:Shared}
theorem iE {I S T:Addr} {es:Array (Int×Value)} {ep i j:Nat} {t:SetTable} {e:Int×Value} {ys:List Nat} {Q:sM->Shared->Prop} (hI:s.heap.get? I=some (hJ (.ref T) i S es.size ep)) (hS:bD s.heap S es ep t)
  (hT:s.heap.get? T=some {cls:= .type "tuple",data:= .seq (ys.map fun (i:Nat)=>rawInt i).toArray}) (hj:ys[i]?=some j) (he:es[j]?=some e)
  (h:∀h',h'.get? I=some (hJ (.ref T) (i+1) S es.size ep)->Heap.SameBut I s.heap h'->Q (some e.2) {s with heap:=h'}):wpAny (model prog w) A (pyNext (.ref I)) Q E s:=by
 have hT':s.TypeIs (.ref I) "set_iterator" :=⟨_,hI,rfl⟩;unfold pyNext;refine wpAny_bind (wpAny_attempt (wpAny_callSpecial?_slot (name:=Str.ofString "__next__") hT' aG (wpAny_call_entry aG hT' bI ?_ (bV _))));unfold Builtin.«set_iterator.__next__»;refine wpAny_bind (m:=slotArgs _ _ _) ?_;show wpAny _ _ (pure (Value.ref I,[])) _ _ s;refine wpAny_pure ?_;refine wpAny_bind (wpAny_fieldsOf hI rfl ?_);show wpAny _ _ (setEntries S>>=_) _ _ s;refine wpAny_bind (bK hS ?_);rw[if_neg (by simp)]
 show wpAny _ _ (seqItems? (.ref T)>>=_) _ _ s;refine wpAny_bind (wpAny_seqItems hT rfl ?_);have hp:((ys.map fun (i:Nat)=>rawInt i).toArray)[(i:Int).toNat]?=some (.int (j:Int) 0):=by
  simp[hj,rawInt]
 dsimp only;rw[hp];dsimp only;unfold setNextDrawn;refine wpAny_bind (wpAny_bind (bO hS ?_));dsimp only;rw[if_neg (by simp)]
 simp only[BR,he];refine wpAny_pure ?_;refine wpAny_bind (wpAny_setField_rec (vs:= #[.ref T,.int i 0,.ref S,.int es.size 0,.int ep 0]) hI (by simp) fun h1 e1 s1=>?_)
 exact wpAny_pure ⟨_,rfl,wpAny_pure (h h1 (by simpa [hJ,rawInt] using e1) s1)⟩
theorem iF {I S T:Addr} {es:Array (Int×Value)} {ep i:Nat} {t:SetTable} {ys:List Nat} {Q:sM->Shared->Prop} (hh:A.handled=none) (hI:s.heap.get? I=some (hJ (.ref T) i S es.size ep)) (hS:bD s.heap S es ep t)
  (hT:s.heap.get? T=some {cls:= .type "tuple",data:= .seq (ys.map fun (i:Nat)=>rawInt i).toArray}) (hj:ys[i]?=none)
  (h:∀h',Heap.ExtBut I s.heap h'->Q none {s with heap:=h'}):wpAny (model prog w) A (pyNext (.ref I)) Q E s:=by
 have hT':s.TypeIs (.ref I) "set_iterator" :=⟨_,hI,rfl⟩;unfold pyNext;refine wpAny_bind (wpAny_attempt (wpAny_callSpecial?_slot (name:=Str.ofString "__next__") hT' aG (wpAny_call_entry aG hT' bI ?_ (bV _))));unfold Builtin.«set_iterator.__next__»;refine wpAny_bind (m:=slotArgs _ _ _) ?_;show wpAny _ _ (pure (Value.ref I,[])) _ _ s;refine wpAny_pure ?_;refine wpAny_bind (wpAny_fieldsOf hI rfl ?_);show wpAny _ _ (setEntries S>>=_) _ _ s;refine wpAny_bind (bK hS ?_);rw[if_neg (by simp)]
 show wpAny _ _ (seqItems? (.ref T)>>=_) _ _ s;refine wpAny_bind (wpAny_seqItems hT rfl ?_);have hp:((ys.map fun (i:Nat)=>rawInt i).toArray)[(i:Int).toNat]?=none:=by
  have:=List.getElem?_eq_none_iff.mp hj
  simpa using this
 dsimp only;rw[hp];dsimp only;refine wpAny_bind (wpAny_setField_rec (vs:= #[.ref T,.int i 0,.ref S,.int es.size 0,.int ep 0]) hI (by simp) fun h1 e1 s1=>?_)
 refine wpAny_bind (wpAny_setField_rec (s:={s with heap:=h1}) e1 (by simp) fun h2 e2 s2=>?_)
 show wpAny _ _ (newExc (.type "StopIteration") []>>=_) _ _ _;refine wpAny_bind ?_;simp only[newExc,newTuple];refine wpAny_bind (wpAny_newObj_type ?_ (by size_fits))
 refine wpAny_bind (m:=firstArgMember _ _) (wpAny_of_eq (a:=Value.none) (by first|rfl|(simp only[firstArgMember];rfl)) ?_)
 refine wpAny_newObj_type ?_ (by size_fits)
 simp only[raiseNew];refine wpAny_bind (wpAny_handled ?_);rw[show A.in1.handled=none from hh]
 refine wpAny_bind (wpAny_pure (wpAny_throw ?_));refine wpAny_bind (wpAny_isInstance (T:= "StopIteration") (b:=true) ⟨_,Heap.get?_push_size _ rfl,rfl⟩ isSubtype_stop ?_);exact wpAny_pure (h _ (((s1.trans s2).extBut.push _).push _))
theorem jO (hh:A.handled=none) (I S T:Addr) (ne:S≠I) (nT:T≠I) (es:Array (Int×Value)) (ep:Nat) (t:SetTable) (ys:List Nat) (hy:ys.Perm (Ai es.size)):
  Walks prog w A I [I,S,T] [I] es.size (fun i v=>∃j e,ys[i]?=some j/\es[j]?=some e/\v=e.2)
   (fun i h=>h.get? I=some (hJ (.ref T) i S es.size ep)/\bD h S es ep t/\h.get? T=some {cls:= .type "tuple",data:= .seq (ys.map fun (i:Nat)=>rawInt i).toArray}) where
 sub:=fun b hb=>by simp at hb;simp[hb]
 frame:=fun _ _ _ st hk=>⟨hk I (by simp) _ st.1,st.2.1.at fun o e=>hk S (by simp) o e,hk T (by simp) _ st.2.2⟩
 item:=fun i s Q E hi st hQ=>by
  have hl:ys.length=es.size:=by rw[hy.length_eq,BB]
  obtain ⟨j,hj⟩:∃j,ys[i]?=some j:=⟨_,A0 (by rw[hl];exact hi)⟩
  have jl:j<es.size:=Av.mp (hy.mem_iff.mp (AH hj));obtain ⟨e,he⟩:∃e,es[j]?=some e:=⟨_,AC jl⟩;refine iE st.1 st.2.1 st.2.2 hj he fun h' e' sb=>?_
  exact hQ _ h' s.toks ⟨j,e,hj,he,rfl⟩ ⟨e',st.2.1.at fun o e=>(sb.2 S ne).trans e,(sb.2 T nT).trans st.2.2⟩ fun b o hb e=>(sb.2 b fun z=>hb (by simp[z])).trans e
 done:=fun s Q E st hQ=>by
  have hl:ys.length=es.size:=by rw[hy.length_eq,BB]
  exact iF hh st.1 st.2.1 st.2.2 (List.getElem?_eq_none (by omega)) fun h' xb=>hQ h' s.toks fun b o hb e=>xb b o (fun z=>hb (by simp[z])) e
 self:=fun i s Q E st hQ=>by
  have hT:s.TypeIs (.ref I) "set_iterator" :=⟨_,st.1,rfl⟩;refine wpAny_pyIter_slot hT a6 (wpAny_call_entry a6 hT bJ ?_ (bW _));show wpAny _ _ (ret (.ref I)) _ _ s;exact wpAny_pure ⟨_,rfl,"set_iterator",_,hT,aG.lookup,hQ⟩
end
open Sw So
theorem aD.drew {X:Cx} {pins:sG} {σ:List (Option V)} {H:Hp} {s:Shared} {d:Drawn} (I:aD X pins σ H s):aD X pins σ H {s with drawn:=d}:=
 ⟨I.ok,I.os,I.bare,I.base,I.loc,I.cell,I.free,I.freeC,I.pin,I.hok,I.len⟩
section
variable {prog:Program} {w:World} {A:Around} {E:sE} {s:Shared}
theorem kQ {r:Addr} {Q:Bool->Shared->Prop} (hT:s.TypeIs (.ref r) "set") (h:Q false s):wpAny (model prog w) A (Builtin.List.listLengthHint (.ref r)) Q E s:=by
 unfold Builtin.List.listLengthHint;refine wpAny_bind (wpAny_specialOf hT PySem.F.slot_set_len.lookup ?_);generalize hid:("set.__len__" :String)=id0
 wp_delta
 rw[show splitId id0=some ("set","__len__") from by subst hid;decide+kernel]
 subst hid;refine wpAny_bind (wpAny_isInstance (T:= "set") (b:=true) hT (by rw[isSubtype_type];kernel_rfl) ?_)
 refine wpAny_ite_split (fun hab=>absurd hab (by decide)) (fun _=>?_)
 refine wpAny_ite_split (fun _=>?_) (fun hab=>absurd (by decide+kernel) hab)
 refine wpAny_bind (wpAny_typeOf hT ?_);exact wpAny_pure h
end
def Ri (xs:Array Nat):Prop:=xs.toList.Pairwise (· < ·)
theorem Ri.lt {xs:Array Nat} (h:Ri xs) {i k:Nat} (ik:i<k) (hk:k<xs.size):xs[i]'(Nat.lt_trans ik hk)<xs[k]:=by
 have:=Bp.mp h i k (by simpa using Nat.lt_trans ik hk) (by simpa using hk) ik
 simpa using this
theorem Ri.le {xs:Array Nat} (h:Ri xs) {i k:Nat} (ik:i<=k) (hk:k<xs.size):xs[i]'(Nat.lt_of_le_of_lt ik hk)<=xs[k]:=by
 rcases Nat.lt_or_eq_of_le ik with q|q
 ·exact Nat.le_of_lt (h.lt q hk)
 ·subst q;exact AB _
theorem eG {xs:Array Nat} (hr:Ri xs) (j:Nat):∀(f lo hi:Nat),hi<=xs.size->lo<=hi->hi-lo<=f->(∀i (h:i<xs.size),i<lo->xs[i]<j)->(∀i (h:i<xs.size),hi<=i->j<=xs[i])->
  SetTable.below.go xs j f lo hi<=xs.size/\(∀i (h:i<xs.size),i<SetTable.below.go xs j f lo hi->xs[i]<j)/\(∀i (h:i<xs.size),SetTable.below.go xs j f lo hi<=i->j<=xs[i])
 |0,lo,hi,h1,h2,h3,h4,h5=>by
  have e:lo=hi:=by omega
  subst e;exact ⟨h1,h4,h5⟩
 |f+1,lo,hi,h1,h2,h3,h4,h5=>by
  unfold SetTable.below.go
  by_cases c:lo<hi
  ·rw[if_pos c];have hm:(lo+hi)/2<xs.size:=by omega
   have eg:xs.getD ((lo+hi)/2) j=xs[(lo+hi)/2]:=by simp[Array.getD,hm]
   dsimp only;rw[eg]
   by_cases c2:xs[(lo+hi)/2]<j
   ·rw[if_pos c2];exact eG hr j f _ _ h1 (by omega) (by omega) (fun i h q=>Nat.lt_of_le_of_lt (hr.le (Ba q) hm) c2) h5
   ·rw[if_neg c2];exact eG hr j f _ _ (by omega) (by omega) (by omega) h4 fun i h q=>Az (Nat.not_lt.mp c2) (hr.le q h)
  ·rw[if_neg c];have e:lo=hi:=by omega
   subst e;exact ⟨h1,h4,h5⟩
theorem dj {xs:Array Nat} (hr:Ri xs) (j:Nat):SetTable.below xs j<=xs.size/\(∀i (h:i<xs.size),i<SetTable.below xs j->xs[i]<j)/\(∀i (h:i<xs.size),SetTable.below xs j<=i->j<=xs[i]):=
 eG hr j xs.size 0 xs.size (AB _) (B5 _) (by omega) (fun i h q=>absurd q (Nat.not_lt_zero _)) fun i h q=>absurd h (Nat.not_lt.mpr q)
theorem jP {t:SetTable} {j:Nat} (hr:Ri t.place) (nl:t.place[SetTable.below t.place j]?≠some j):Ri (t.put j).1.place:=by
 obtain ⟨b1,b2,b3⟩:=dj hr j;show (SetTable.insertAt t.place (SetTable.below t.place j) j).toList.Pairwise (· < ·);generalize SetTable.below t.place j=p at*;have tl:(SetTable.insertAt t.place p j).toList=t.place.toList.take p++j::t.place.toList.drop p:=by
  simp[SetTable.insertAt,AU,Bq];rw[Aa (by simp)]
 rw[tl,A8];have hp:(t.place.toList.take p++t.place.toList.drop p).Pairwise (· < ·):=by rw[AL];exact hr
 rw[A8] at hp;have up:∀y∈t.place.toList.drop p,j<y:=fun y hy=>by
  obtain ⟨i,hi⟩:=Ak.mp hy;rw[BJ,AM] at hi;obtain ⟨hl,rfl⟩:=Ao.mp hi;have:=b3 _ hl (Nat.le_add_right _ _);rcases Nat.lt_or_eq_of_le this with q|q
  ·exact q
  ·rcases Nat.eq_zero_or_pos i with z|z
   ·subst z;exact absurd (show t.place[p]?=some j from hi.trans (congrArg some q.symm)) nl
   ·have hpl:p<t.place.size:=by omega
    have l1:=b3 p hpl (AB _);have l2:=hr.lt (i:=p) (k:=p+i) (by omega) hl
    omega
 refine ⟨hp.1,B8.mpr ⟨up,hp.2.1⟩,fun x hx y hy=>?_⟩
 have xl:x<j:=by
  obtain ⟨i,hi⟩:=Ak.mp hx;rw[List.getElem?_take] at hi
  split at hi
  ·rename_i q;rw[AM] at hi;obtain ⟨hl,rfl⟩:=Ao.mp hi;exact b2 _ hl q
  ·cases hi
 rcases AT.mp hy with q|q
 ·rw[q];exact xl
 ·exact Nat.lt_trans xl (up y q)
theorem iG {mask finger moves:Nat} {led plain:Bool} {hs:Array Int} {t:SetTable} {o:Array Nat} (e:SetTable.laid mask finger moves led plain hs=some (t,o)):Ri t.place:=by
 unfold SetTable.laid at e;obtain ⟨ow,_,e2⟩:=Aj.mp e;simp only[pure,Option.some.injEq,Prod.mk.injEq] at e2;rw[<-e2.1];show List.Pairwise (· < ·) _;dsimp only;rw[BA,List.pairwise_filterMap];refine List.pairwise_lt_range.imp fun {a b} ab x hx y hy=>?_
 obtain ⟨k,_,rfl⟩:=AR.mp hx;obtain ⟨k',_,rfl⟩:=AR.mp hy;exact ab
theorem oX {prog:Program} {w:World} {y:Int} {t:Tok}:(ak prog w).is (.inl y) (.int y t)=true:=oR (k:= .inl y) ⟨t,rfl⟩
section
variable {prog:Program} {w:World} {A:Around} {E:sE} {s:Shared}
theorem cT {S:Addr} {es:Array (Int×Value)} {ep i slot:Nat} {t:SetTable} {Q:Option (Value×Nat)->Shared->Prop} (hS:bD s.heap S es ep t) (hb:w.params.followText "set-order" =false) (pl:t.plain=true) (ld:t.led=true)
  (h:Q (match es[SetTable.below t.place slot]?,t.place[SetTable.below t.place slot]? with|some (_,x),some j=>some (x,j+1)|_,_=>none) s):wpAny (model prog w) A (setNext S slot i ep) Q E s:=by
 unfold setNext setsByText;refine wpAny_bind (bO hS ?_);dsimp only;refine wpAny_bind (wpAny_bind (wpAny_askSetting (wpAny_pure ?_)));rw[show ((model prog w).w.params.followText "set-order")=false from hb]
 simp only[AG,if_false];have d1:(!t.plain&&decide (es.size>1))=false:=by rw[pl];rfl
 have d2:(!t.led&& !es.isEmpty)=false:=by rw[ld];rfl
 show wpAny _ _ (if (!t.plain&&decide (es.size>1))=true then _ else _) _ _ s
 rw[d1];simp only[AG,if_false];refine wpAny_bind ?_;show wpAny _ _ (if (!t.led&& !es.isEmpty)=true then _ else _) _ _ s
 rw[d2];simp only[AG,if_false];refine wpAny_pure ?_;exact wpAny_pure h
theorem below_at {xs:Array Nat} (hr:Ri xs) {i slot:Nat} (hi:i<=xs.size) (z1:i=0->slot=0) (z2:∀k,i=k+1->∃j,xs[k]?=some j/\slot=j+1):SetTable.below xs slot=i:=by
 obtain ⟨b1,b2,b3⟩:=dj hr slot;rcases Nat.eq_zero_or_pos i with e|e
 ·cases z1 e;subst e;rcases Nat.eq_zero_or_pos (SetTable.below xs 0) with q|q
  ·exact q
  ·exact absurd (b2 0 (by omega) q) (Nat.not_lt_zero _)
 ·obtain ⟨k,rfl⟩:∃k,i=k+1:=⟨i-1,by omega⟩
  obtain ⟨j,hj,rfl⟩:=z2 k rfl;obtain ⟨hk,rfl⟩:=Ao.mp hj;have l1:¬SetTable.below xs (xs[k]+1)<=k:=fun q=>by
   have:=b3 k hk q;omega
  rcases Nat.lt_or_ge (k+1) (SetTable.below xs (xs[k]+1)) with q|q
  ·have h1:k+1<xs.size:=by omega
   have h2:=b2 (k+1) h1 q;have h3:=hr.lt (i:=k) (k:=k+1) (by omega) h1
   omega
  ·omega
theorem iH (hh:A.handled=none) (hb:w.params.followText "set-order" =false) (I S:Addr) (ne:S≠I) (es:Array (Int×Value)) (ep:Nat) (t:SetTable) (pl:t.plain=true) (ld:t.led=true) (ft:t.fits es.size=true) (hr:Ri t.place):
  Walks prog w A I [I,S] [I] es.size (fun i v=>∃e,es.toList[i]?=some e/\v=e.2) (fun i h=>(∃slot:Nat,(i=0->slot=0)/\(i≠0->∃j,t.place[i-1]?=some j/\slot=j+1)/\h.get? I=some (hJ (.int slot 0) i S es.size ep))/\bD h S es ep t) where
 sub:=fun b hb=>by simp at hb;simp[hb]
 frame:=fun _ _ _ st hk=>⟨let ⟨sl,a,b,c⟩:=st.1;⟨sl,a,b,hk I (by simp) _ c⟩,st.2.at fun o e=>hk S (by simp) o e⟩
 item:=fun i s Q E hi st hQ=>by
  obtain ⟨⟨slot,z1,z2,hI⟩,hS⟩:=st;have pz:t.place.size=es.size:=by
   simp only[SetTable.fits,Bool.and_eq_true,beq_iff_eq] at ft;exact ft.1
  have bi:SetTable.below t.place slot=i:=below_at hr (by omega) z1 fun k hk=>by
   have:=z2 (by omega)
   rwa [show i-1=k by omega] at this
  obtain ⟨x,hx⟩:∃x,es[i]?=some x:=⟨_,AC hi⟩;obtain ⟨j,hj⟩:∃j,t.place[i]?=some j:=⟨_,AC (by omega)⟩
  refine dG (slot:=slot) (nx:=j+1) (x:=x.2) hI hS (fun A E Q q=>cT hS hb pl ld ?_) fun h' e' sb=>?_
  ·rw[bi,hx,hj];exact q
  ·exact hQ _ h' s.toks ⟨_,by rw[AM];exact hx,rfl⟩ ⟨⟨j+1,fun z=>(by omega),fun _=>⟨j,hj,rfl⟩,e'⟩,hS.at fun o e=>(sb.2 S ne).trans e⟩ fun b o hb e=>(sb.2 b fun z=>hb (by simp[z])).trans e
 done:=fun s Q E st hQ=>by
  obtain ⟨⟨slot,z1,z2,hI⟩,hS⟩:=st;have pz:t.place.size=es.size:=by
   simp only[SetTable.fits,Bool.and_eq_true,beq_iff_eq] at ft;exact ft.1
  have bi:SetTable.below t.place slot=es.size:=below_at hr (by omega) z1 fun k hk=>by
   have:=z2 (by omega)
   rwa [show es.size-1=k by omega] at this
  refine dH (slot:=slot) hh hI hS (fun A E Q q=>cT hS hb pl ld ?_) fun h' xb=>hQ h' s.toks fun b o hb e=>xb b o (fun z=>hb (by simp[z])) e
  rw[bi,BY (AB _)];exact q
 self:=fun i s Q E st hQ=>by
  obtain ⟨⟨slot,z1,z2,hI⟩,hS⟩:=st;have hT:s.TypeIs (.ref I) "set_iterator" :=⟨_,hI,rfl⟩;refine wpAny_pyIter_slot hT a6 (wpAny_call_entry a6 hT bJ ?_ (bW _));show wpAny _ _ (ret (.ref I)) _ _ s;exact wpAny_pure ⟨_,rfl,"set_iterator",_,hT,aG.lookup,hQ⟩
end
end L2
namespace Sw
open PySem L2 XH Hm
end Sw
namespace L2
open PySem PySem.Spec PyProof.Rows XH Sw Hm
end L2
namespace Sw
open PySem L2 XH Hm
open PySem.NumText
end Sw
namespace L2
open PySem PySem.Spec PyProof.Rows XH Sw
end L2
namespace Sw
open PySem L2 XH Hm
open PyProof.Rows So
end Sw
namespace L2
open PySem PySem.Spec PyProof.Rows XH Sw
end L2
namespace Sw
open PySem L2 XH PyProof.Rows
end Sw
namespace L2
open PySem PySem.Spec PyProof.Rows XH Sw
end L2
namespace Sw
open PySem L2 XH PyProof.Rows
end Sw
namespace L2
open PySem PySem.Spec PyProof.Rows XH Sw
end L2
namespace Sw
open PySem L2 XH Hm PySem.NumText
end Sw
namespace L2
open PySem PySem.Spec PyProof.Rows XH Sw
end L2
namespace Sw
open PySem L2 XH Hm
end Sw
namespace L2
open PySem PySem.Spec PyProof.Rows XH Sw Hm
end L2
namespace Sw
open PySem L2 XH Hm
end Sw
namespace Su
open PySem L2
def hU:Nat->Nat->Nat
 |0,y=>y
 |n+1,y=>5*hU n y+1
theorem mi (m:Nat):∀n y,hU (m+n) y=hU m (hU n y):=by
 induction m with
 |zero=>intro n y;rw[Nat.zero_add];rfl
 |succ m ih=>intro n y;rw[show m+1+n=(m+n)+1 by omega];show 5*hU (m+n) y+1=5*hU m (hU n y)+1;rw[ih]
theorem kS (n y:Nat):4*hU n y+1=5^n*(4*y+1):=by
 induction n with
 |zero=>simp[hU]
 |succ n ih=>
  show 4*(5*hU n y+1)+1=5^n*5*(4*y+1);have:5^n*5*(4*y+1)=5*(5^n*(4*y+1)):=by rw[Nat.mul_comm (5^n) 5,BS]
  rw[this,<-ih];omega
theorem qk (k:Nat):∃c,5^(2^k)=1+2^(k+2)*(2*c+1):=by
 induction k with
 |zero=>exact ⟨0,rfl⟩
 |succ k ih=>
  obtain ⟨c,e⟩:=ih;refine ⟨c+2^k*(2*c+1)*(2*c+1),?_⟩;rw[Bm,Nat.pow_mul,e,Nat.pow_two];have p3:2^(k+1+2)=8*2^k:=by rw[Nat.pow_add,Bm];omega
  have p2:2^(k+2)=4*2^k:=by rw[Nat.pow_add];omega
  rw[p3,p2];generalize 2^k=a;generalize hm:2*c+1=m;have e2:2*(c+a*m*m)+1=m+2*(a*m*m):=by omega
  rw[e2];simp only[Nat.mul_add,Nat.add_mul,Nat.one_mul,Nat.mul_one];have h1:4*a*m*(4*a*m)=16*(a*(a*m*m)):=by
   simp only[BS,Nat.mul_left_comm,Nat.mul_comm]
  have h2:8*a*(2*(a*m*m))=16*(a*(a*m*m)):=by
   rw[BS,Nat.mul_left_comm a 2];omega
  rw[h1,h2];have h3:8*a*m=2*(4*a*m):=by
   rw[BS,BS];omega
  omega
theorem nQ (k y:Nat):∃c,hU (2^k) y=y+2^k*(2*c+1):=by
 obtain ⟨c,e⟩:=qk k;have h:=kS (2^k) y;rw[e] at h;have p2:2^(k+2)=4*2^k:=by rw[Nat.pow_add];omega
 rw[p2] at h;refine ⟨c*(4*y+1)+2*y,?_⟩;have e3:2*(c*(4*y+1)+2*y)+1=(2*c+1)*(4*y+1):=by
  rw[Nat.add_mul,BS];omega
 rw[e3];have h2:(1+4*2^k*(2*c+1))*(4*y+1)=(4*y+1)+4*(2^k*((2*c+1)*(4*y+1))):=by
  rw[Nat.add_mul,Nat.one_mul,BS,BS]
 rw[h2] at h;omega
theorem kT:∀(k x j:Nat),j<2^k->∃d,d<2^k/\hU d x % 2^k=j
 |0,x,j,h=>⟨0,by decide,by rw[Nat.pow_zero] at h⊢;rw[Nat.mod_one];omega⟩
 |k+1,x,j,h=>by
  have pk:0<2^k:=Nat.pow_pos (by decide)
  have ps:2^(k+1)=2^k+2^k:=by rw[Bm];omega
  obtain ⟨d,hd,e⟩:=kT k x (j % 2^k) (Nat.mod_lt _ pk);obtain ⟨c,hc⟩:=nQ k (hU d x);have e2:=mi (2^k) d x;rw[hc] at e2;generalize hI:hU d x=I at*;generalize hp:2^k=p at*;rw[ps] at h⊢;have two:p+p=p*2:=by omega
  have m1:I % (p*2)=I % p+p*(I/p % 2):=Nat.mod_mul;have m2:j % (p*2)=j % p+p*(j/p % 2):=Nat.mod_mul;have jl:j % (p*2)=j:=Nat.mod_eq_of_lt (by omega)
  by_cases q:I/p % 2=j/p % 2
  ·refine ⟨d,by omega,?_⟩
   rw[hI,two,m1,q,e,<-m2,jl]
  ·refine ⟨p+d,by omega,?_⟩
   rw[e2,two];have m3:(I+p*(2*c+1)) % (p*2)=(I+p*(2*c+1)) % p+p*((I+p*(2*c+1))/p % 2):=Nat.mod_mul;rw[m3,Nat.add_mul_mod_self_left,Nat.add_mul_div_left _ _ pk,e];have:(I/p+(2*c+1)) % 2=j/p % 2:=by omega
   rw[this,<-m2,jl]
def lp (mask:Nat) (h:Int):Nat->Nat×Nat
 |0=>(SetTable.bits h % (mask+1),SetTable.bits h)
 |m+1=>SetTable.leap mask (lp mask h m).1 (lp mask h m).2
theorem kU (mask:Nat) (h:Int):∀m,(lp mask h m).2=SetTable.bits h/32^m
 |0=>by simp[lp]
 |m+1=>by
  show (lp mask h m).2/32=_;rw[kU mask h m,Nat.div_div_eq_div_mul,Bm]
theorem mj (h:Int):SetTable.bits h<2^64:=by
 unfold SetTable.bits;have h1:=Int.emod_nonneg h (show (2^64:Int)≠0 by decide)
 have h2:=Int.emod_lt_of_pos h (show (0:Int)<2^64 by decide)
 omega
theorem mo (mask:Nat) (h:Int) (d:Nat):(lp mask h (13+d)).2=0:=by
 rw[kU];refine Nat.div_eq_of_lt ?_;have b:=mj h;have p:32^13<=32^(13+d):=Nat.pow_le_pow_right (by decide) (by omega)
 have q:(2:Nat)^64<=32^13:=by decide
 omega
theorem kW (mask:Nat) (h:Int):∀m,(lp mask h m).1<=mask
 |0=>Ba (Nat.mod_lt _ (Nat.succ_pos _))
 |m+1=>Ba (Nat.mod_lt _ (Nat.succ_pos _))
theorem mP (mask:Nat) (h:Int):∀d,(lp mask h (13+d)).1=hU d (lp mask h 13).1 % (mask+1)
 |0=>(Nat.mod_eq_of_lt (Nat.lt_succ_of_le (kW mask h 13))).symm
 |d+1=>by
  show ((lp mask h (13+d)).1*5+1+(lp mask h (13+d)).2/32) % (mask+1)=(5*hU d (lp mask h 13).1+1) % (mask+1);rw[mo,mP mask h d,Nat.zero_div,Nat.add_zero,Nat.mul_comm _ 5];rw[Nat.add_mod,Nat.mul_mod,Nat.mod_mod,<-Nat.mul_mod,<-Nat.add_mod]
theorem kZ {mask k:Nat} (hk:mask+1=2^k) (h:Int) {j:Nat} (hj:j<=mask):∃m,m<=13+mask/\(lp mask h m).1=j:=by
 obtain ⟨d,hd,e⟩:=kT k (lp mask h 13).1 j (by omega)
 exact ⟨13+d,by omega,by rw[mP,hk];exact e⟩
def jb (mask:Nat) (p:SetTable.Probe):SetTable.Probe:=
 if p.more>0 then {p with j:=p.j+1,more:=p.more-1} else
 {p with j:=(SetTable.leap mask p.i p.perturb).1,more:=SetTable.runEnd mask (SetTable.leap mask p.i p.perturb).1-(SetTable.leap mask p.i p.perturb).1,i:=(SetTable.leap mask p.i p.perturb).1,perturb:=(SetTable.leap mask p.i p.perturb).2}
theorem iI (t:SetTable) (p:SetTable.Probe):t.advance p=jb t.mask p:=rfl
def cK (mask:Nat) (h:Int):SetTable.Probe:={j:=SetTable.bits h % (mask+1),more:=SetTable.runEnd mask (SetTable.bits h % (mask+1))-SetTable.bits h % (mask+1),i:=SetTable.bits h % (mask+1),perturb:=SetTable.bits h,dummy:=none}
def a7 (mask:Nat) (h:Int):Nat->SetTable.Probe
 |0=>cK mask h
 |n+1=>jb mask (a7 mask h n)
theorem fz (mask:Nat) (h:Int):∀n,(a7 mask h n).dummy=none
 |0=>rfl
 |n+1=>by
  show (jb mask (a7 mask h n)).dummy=none;unfold jb
  split<;>exact fz mask h n
def run (mask i:Nat):Nat:=SetTable.runEnd mask i-i
theorem nR (mask i:Nat):run mask i<=9:=by unfold run SetTable.runEnd;split<;>omega
theorem f8 {mask i q:Nat} (hi:i<=mask) (hq:q<=run mask i):i+q<=mask:=by
 unfold run SetTable.runEnd at hq
 split at hq<;>omega
def at_ (mask:Nat) (l:Nat×Nat) (q:Nat):SetTable.Probe:={j:=l.1+q,more:=run mask l.1-q,i:=l.1,perturb:=l.2,dummy:=none}
theorem cP {mask:Nat} {h:Int} {n m:Nat} (e:a7 mask h n=at_ mask (lp mask h m) 0):∀q,q<=run mask (lp mask h m).1->a7 mask h (n+q)=at_ mask (lp mask h m) q
 |0,_=>e
 |q+1,hq=>by
  show jb mask (a7 mask h (n+q))=_;rw[cP e q (by omega)]
  unfold jb;rw[if_pos (by show run mask (lp mask h m).1-q>0;omega)]
  rfl
theorem k7 (mask:Nat) (h:Int):∀m,∃n,n<=10*m/\a7 mask h n=at_ mask (lp mask h m) 0
 |0=>⟨0,AB _,rfl⟩
 |m+1=>by
  obtain ⟨n,hn,e⟩:=k7 mask h m;have r:=nR mask (lp mask h m).1;refine ⟨n+run mask (lp mask h m).1+1,by omega,?_⟩
  show jb mask (a7 mask h (n+run mask (lp mask h m).1))=_;rw[cP e _ (AB _)];unfold jb;rw[if_neg (by show ¬run mask (lp mask h m).1-run mask (lp mask h m).1>0;omega)]
  rfl
theorem mq {mask k:Nat} (hk:mask+1=2^k) (h:Int) {j:Nat} (hj:j<=mask):∃n,n<=10*(13+mask)/\(a7 mask h n).j=j:=by
 obtain ⟨m,hm,e⟩:=kZ hk h hj;obtain ⟨n,hn,e2⟩:=k7 mask h m;exact ⟨n,by omega,by rw[e2];show (lp mask h m).1+0=j;rw[e];rfl⟩
theorem nS (mask:Nat) (h:Int) (n:Nat):(a7 mask h n).j<=mask/\∃m q,q<=run mask (lp mask h m).1/\a7 mask h n=at_ mask (lp mask h m) q:=by
 have:∃m q,q<=run mask (lp mask h m).1/\a7 mask h n=at_ mask (lp mask h m) q:=by
  induction n with
  |zero=>exact ⟨0,0,B5 _,rfl⟩
  |succ n ih=>
   obtain ⟨m,q,hq,e⟩:=ih
   by_cases c:q<run mask (lp mask h m).1
   ·refine ⟨m,q+1,c,?_⟩;show jb mask (a7 mask h n)=_;rw[e];unfold jb;rw[if_pos (by show run mask (lp mask h m).1-q>0;omega)]
    rfl
   ·refine ⟨m+1,0,B5 _,?_⟩;show jb mask (a7 mask h n)=_;rw[e];unfold jb;rw[if_neg (by show ¬run mask (lp mask h m).1-q>0;omega)]
    rfl
 obtain ⟨m,q,hq,e⟩:=this;exact ⟨by rw[e];exact f8 (kW mask h m) hq,m,q,hq,e⟩
theorem least {P:Nat->Prop} (d:∀n,Decidable (P n)):∀n,P n->∃m,m<=n/\P m/\∀k,k<m->¬P k:=by
 intro n
 induction n using Nat.strongRecOn with
 |_ n ih=>
  intro h
  by_cases c:∃k,k<n/\P k
  ·obtain ⟨k,hk,pk⟩:=c;obtain ⟨m,h1,h2,h3⟩:=ih k hk pk;exact ⟨m,by omega,h2,h3⟩
  ·exact ⟨n,AB _,h,fun k hk pk=>c ⟨k,hk,pk⟩⟩
structure Tab (hs:Array Int) (t:SetTable):Prop where
 size:t.place.size=hs.size
 dum:t.dummies= #[]
 ri:Ri t.place
 le:∀j∈t.place,j<=t.mask
 pow:∃k,t.mask+1=2^k
 few:t.place.size<=t.mask
 reach:∀(i j:Nat) (h:Int),t.place[i]?=some j->hs[i]?=some h->∃n,(a7 t.mask h n).j=j/\∀m,m<n->(a7 t.mask h m).j∈t.place
theorem cL {xs:Array Nat} (hr:Ri xs) {i j:Nat} (h:xs[i]?=some j):SetTable.below xs j=i:=by
 obtain ⟨b1,b2,b3⟩:=dj hr j;obtain ⟨hi,rfl⟩:=Ao.mp h;rcases Nat.lt_trichotomy (SetTable.below xs xs[i]) i with q|q|q
 ·have:=b3 _ (by omega) (AB _)
  have:=hr.lt q hi;omega
 ·exact q
 ·have:=b2 i hi q;omega
theorem jc (j:Nat):SetTable.has #[] j=false:=by
 unfold SetTable.has
 rfl
variable {hs:Array Int} {t:SetTable}
theorem Tab.live (T:Tab hs t) {i j:Nat} (h:t.place[i]?=some j):t.slot j= .live i:=by
 unfold SetTable.slot;dsimp only;rw[cL T.ri h,h];simp
theorem Tab.empty (T:Tab hs t) {j:Nat} (h:j∉t.place):t.slot j= .empty:=by
 unfold SetTable.slot;dsimp only;rw[if_neg,T.dum,jc]
 ·rfl
 ·intro e;exact h (Array.mem_of_getElem? (eq_of_beq e))
theorem Tab.free (T:Tab hs t):∃j,j<=t.mask/\j∉t.place:=by
 by_cases c:∃j,j<=t.mask/\j∉t.place
 ·exact c
 ·exfalso;have sub:Ai (t.mask+1) ⊆ t.place.toList:=fun j hj=>by
   have jl:=Av.mp hj
   by_cases q:j∈t.place
   ·exact BO.mpr q
   ·exact absurd ⟨j,by omega,q⟩ c
  have:=List.nodup_range.length_le_of_subset sub;have:=T.few;simp at*;omega
theorem Tab.first (T:Tab hs t) (h:Int):∃n,n<=10*(13+t.mask)/\(a7 t.mask h n).j∉t.place/\∀m,m<n->(a7 t.mask h m).j∈t.place:=by
 obtain ⟨j,jl,jn⟩:=T.free;obtain ⟨k,hk⟩:=T.pow;obtain ⟨n,hn,e⟩:=mq hk h jl;obtain ⟨m,h1,h2,h3⟩:=least (P:=fun n=>(a7 t.mask h n).j∉t.place) (fun n=>inferInstance) n (by rw[e];exact jn)
 exact ⟨m,by omega,h2,fun k hk=>Decidable.not_not.mp (h3 k hk)⟩
theorem gR (T:Tab hs t) {hashAt:Nat->Int} {h:Int}:∀(f n K:Nat),n<=K->K<n+f->(∀q,n<=q->q<K->∃i,t.place[i]?=some (a7 t.mask h q).j/\hashAt i≠h)->(a7 t.mask h K).j∉t.place->SetTable.probe.go t hashAt h f (a7 t.mask h n)=some (.empty (a7 t.mask h K).j none)
 |0,n,K,h1,h2,_,_=>by omega
 |f+1,n,K,h1,h2,h3,h4=>by
  unfold SetTable.probe.go
  by_cases c:n=K
  ·subst c;rw[T.empty h4,fz]
  ·obtain ⟨i,e,ne⟩:=h3 n (AB _) (by omega)
   rw[T.live e];dsimp only;rw[if_neg (by simpa using ne),iI]
   exact gR T f (n+1) K (by omega) (by omega) (fun q hq=>h3 q (by omega)) h4
theorem jd (T:Tab hs t) {hashAt:Nat->Int} {h:Int}:∀(f n K i:Nat),n<=K->K<n+f->(∀q,n<=q->q<K->∃i,t.place[i]?=some (a7 t.mask h q).j/\hashAt i≠h)->t.place[i]?=some (a7 t.mask h K).j->hashAt i=h->SetTable.probe.go t hashAt h f (a7 t.mask h n)=some (.candidate (a7 t.mask h K).j i (a7 t.mask h (K+1)))
 |0,n,K,i,h1,h2,_,_,_=>by omega
 |f+1,n,K,i,h1,h2,h3,h4,h5=>by
  unfold SetTable.probe.go
  by_cases c:n=K
  ·subst c;rw[T.live h4];dsimp only;rw[if_pos (by simpa using h5),iI]
   rfl
  ·obtain ⟨i',e,ne⟩:=h3 n (AB _) (by omega)
   rw[T.live e];dsimp only;rw[if_neg (by simpa using ne),iI]
   exact jd T f (n+1) K i (by omega) (by omega) (fun q hq=>h3 q (by omega)) h4 h5
theorem Tab.probe (T:Tab hs t) {hashAt:Nat->Int} {h:Int} {n N:Nat} (hN:N<=10*(13+t.mask)) (nN:n<=N) (he:(a7 t.mask h N).j∉t.place) (hl:∀m,m<N->(a7 t.mask h m).j∈t.place):
  ((∀q i,n<=q->q<N->t.place[i]?=some (a7 t.mask h q).j->hashAt i≠h)/\t.probe hashAt h (a7 t.mask h n)=some (.empty (a7 t.mask h N).j none))∨
  ∃K i,n<=K/\K<N/\t.place[i]?=some (a7 t.mask h K).j/\hashAt i=h/\(∀q i,n<=q->q<K->t.place[i]?=some (a7 t.mask h q).j->hashAt i≠h)/\t.probe hashAt h (a7 t.mask h n)=some (.candidate (a7 t.mask h K).j i (a7 t.mask h (K+1))):=by
 have at_:∀q,q<N->∃i,t.place[i]?=some (a7 t.mask h q).j:=fun q hq=>Array.mem_iff_getElem?.mp (hl q hq)
 have fuel:N<n+10*SetTable.turns t.mask:=by unfold SetTable.turns;omega
 by_cases c:∃q,n<=q/\q<N/\∃i,t.place[i]?=some (a7 t.mask h q).j/\hashAt i=h
 ·obtain ⟨q,q1,q2,q3⟩:=c;obtain ⟨K,k1,⟨k2,k3,i,k4,k5⟩,k6⟩:=least (P:=fun q=>n<=q/\q<N/\∃i,t.place[i]?=some (a7 t.mask h q).j/\hashAt i=h) (fun _=>Classical.propDecidable _) q ⟨q1,q2,q3⟩
  have no:∀q i,n<=q->q<K->t.place[i]?=some (a7 t.mask h q).j->hashAt i≠h:=fun q i h1 h2 h3 h4=>k6 q h2 ⟨h1,by omega,i,h3,h4⟩
  refine .inr ⟨K,i,k2,k3,k4,k5,no,?_⟩;exact jd T _ n K i k2 (by omega) (fun q h1 h2=>let ⟨i,e⟩:=at_ q (by omega);⟨i,e,no q i h1 h2 e⟩) k4 k5
 ·have no:∀q i,n<=q->q<N->t.place[i]?=some (a7 t.mask h q).j->hashAt i≠h:=fun q i h1 h2 h3 h4=>c ⟨q,h1,h2,i,h3,h4⟩
  exact .inl ⟨no,gR T _ n N nN fuel (fun q h1 h2=>let ⟨i,e⟩:=at_ q h2;⟨i,e,no q i h1 h2 e⟩) he⟩
theorem f9 {α:Type} {xs:Array α} {p:Nat} {x:α} (hp:p<=xs.size) (i:Nat):(SetTable.insertAt xs p x)[i]?=if i<p then xs[i]? else if i=p then some x else xs[i-1]?:=by
 have tl:(SetTable.insertAt xs p x).toList=xs.toList.take p++x::xs.toList.drop p:=by
  simp[SetTable.insertAt,AU,Bq];rw[Aa (by simp)]
 rw[<-AM,tl];have lt:(xs.toList.take p).length=p:=by rw[AK,AJ];omega
 by_cases c:i<p
 ·rw[if_pos c,AA (by omega),List.getElem?_take,if_pos c,AM]
 ·rw[if_neg c,A7 (by omega),lt]
  by_cases d:i=p
  ·rw[if_pos d,d,Nat.sub_self]
   rfl
  ·rw[if_neg d,show i-p=(i-p-1)+1 by omega,BV,BJ,AM,show p+(i-p-1)=i-1 by omega]
theorem dk {α:Type} {xs:Array α} {p:Nat} {x:α} (hp:p<=xs.size):(SetTable.insertAt xs p x).size=xs.size+1:=by
 simp[SetTable.insertAt];omega
theorem gc {α:Type} {xs:Array α} {p:Nat} {x y:α} (hp:p<=xs.size):y∈SetTable.insertAt xs p x↔y=x∨y∈xs:=by
 have tl:(SetTable.insertAt xs p x).toList=xs.toList.take p++x::xs.toList.drop p:=by
  simp[SetTable.insertAt,AU,Bq];rw[Aa (by simp)]
 rw[<-BO,tl,AE,AT,<-BO];have e:=AL p xs.toList;constructor
 ·rintro (h|h|h)
  ·exact .inr (Bh h)
  ·exact .inl h
  ·exact .inr (List.mem_of_mem_drop h)
 ·rintro (h|h)
  ·exact .inr (.inl h)
  ·rw[<-e,AE] at h;rcases h with h|h
   ·exact .inl h
   ·exact .inr (.inr h)
theorem Tab.put {hs:Array Int} {t:SetTable} (T:Tab hs t) {h:Int} {n:Nat} (he:(a7 t.mask h n).j∉t.place) (hl:∀m,m<n->(a7 t.mask h m).j∈t.place) (room:t.place.size+1<=t.mask):
  Tab (SetTable.insertAt hs (t.put (a7 t.mask h n).j).2 h) (t.put (a7 t.mask h n).j).1/\(t.put (a7 t.mask h n).j).2<=t.place.size:=by
 generalize hj:(a7 t.mask h n).j=j at he;obtain ⟨b1,b2,b3⟩:=dj T.ri j;have nl:t.place[SetTable.below t.place j]?≠some j:=fun e=>he (Array.mem_of_getElem? e)
 have ps:(t.put j).1.place=SetTable.insertAt t.place (SetTable.below t.place j) j:=rfl;have p2:(t.put j).2=SetTable.below t.place j:=rfl;have pm:(t.put j).1.mask=t.mask:=rfl;have pd:(t.put j).1.dummies= #[]:=by
  show (if SetTable.has t.dummies j=true then _ else t.dummies)= #[]
  rw[T.dum,jc]
  rfl
 have ri:=jP T.ri nl;rw[p2];generalize hp:SetTable.below t.place j=p at b1 b2 b3 nl ps;have b1':p<=hs.size:=by rw[<-T.size];exact b1
 refine ⟨⟨?_,pd,ri,?_,by rw[pm];exact T.pow,?_,?_⟩,b1⟩
 ·rw[ps,dk b1,dk b1',T.size]
 ·intro y hy;rw[ps,gc b1] at hy;rw[pm];rcases hy with rfl|hy
  ·rw[<-hj];exact (nS t.mask h n).1
  ·exact T.le y hy
 ·rw[ps,pm,dk b1];exact room
 ·intro i k g hi hg;rw[pm,ps];rw[ps,f9 b1] at hi;rw[f9 b1'] at hg;have old:∀i,t.place[i]?=some k->hs[i]?=some g->∃n,(a7 t.mask g n).j=k/\∀m,m<n->(a7 t.mask g m).j∈SetTable.insertAt t.place p j:=fun i h1 h2=>by
   obtain ⟨n,e1,e2⟩:=T.reach i k g h1 h2;exact ⟨n,e1,fun m hm=>(gc b1).mpr (.inr (e2 m hm))⟩
  by_cases c:i<p
  ·rw[if_pos c] at hi hg;exact old i hi hg
  ·rw[if_neg c] at hi hg
   by_cases d:i=p
   ·rw[if_pos d] at hi hg;cases hi;cases hg;exact ⟨n,hj,fun m hm=>(gc b1).mpr (.inr (hl m hm))⟩
   ·rw[if_neg d] at hi hg;exact old _ hi hg
def j8 (ow:Array (Option Nat)) (j:Nat):Prop:=∃q:Nat,ow[j]?=some (some q)
structure Ow (mask:Nat) (hs:List Int) (k:Nat) (ow:Array (Option Nat)):Prop where
 size:ow.size=mask+1
 dom:∀(j q:Nat),ow[j]?=some (some q)->q<k
 inj:∀(i j q:Nat),ow[i]?=some (some q)->ow[j]?=some (some q)->i=j
 sur:∀q,q<k->∃j:Nat,ow[j]?=some (some q)
 reach:∀(j q:Nat) (h:Int),ow[j]?=some (some q)->hs[q]?=some h->∃n,(a7 mask h n).j=j/\∀m,m<n->j8 ow (a7 mask h m).j
theorem iJ {mask:Nat} {ow:Array (Option Nat)} (hz:ow.size=mask+1) {j:Nat} (hj:j<=mask):ow[j]?=some none∨j8 ow j:=by
 have e:=AC (xs:=ow) (i:=j) (by omega)
 cases c:ow[j]'(by omega) with
 |none=>rw[c] at e;exact .inl e
 |some q=>rw[c] at e;exact .inr ⟨q,e⟩
theorem Ow.room {mask k:Nat} {hs:List Int} {ow:Array (Option Nat)} (O:Ow mask hs k ow) (hk:k<=mask):∃j,j<=mask/\ow[j]?=some none:=by
 by_cases c:∃j,j<=mask/\ow[j]?=some none
 ·exact c
 ·exfalso;have all:∀j,j<=mask->j8 ow j:=fun j hj=>(iJ O.size hj).resolve_left fun e=>c ⟨j,hj,e⟩
  let f:Nat->Nat:=fun j=>((ow[j]?).getD none).getD 0
  have fe:∀j,j<=mask->ow[j]?=some (some (f j)):=fun j hj=>by
   obtain ⟨q,e⟩:=all j hj;show ow[j]?=some (some (((ow[j]?).getD none).getD 0));rw[e]
   rfl
  have nd:((Ai (mask+1)).map f).Nodup:=by
   rw[Bi,BA];refine List.Pairwise.imp_of_mem ?_ (Bi.mp (List.nodup_range (n:=mask+1)));intro a b ha hb ne e;have h1:=fe a (Ba (Av.mp ha));have h2:=fe b (Ba (Av.mp hb));rw[e] at h1;exact ne (O.inj _ _ _ h1 h2)
  have sub:((Ai (mask+1)).map f) ⊆ Ai k:=fun y hy=>by
   obtain ⟨j,hj,rfl⟩:=Ab.mp hy;exact Av.mpr (O.dom _ _ (fe j (Ba (Av.mp hj))))
  have:=nd.length_le_of_subset sub;simp at this;omega
theorem dI {ow:Array (Option Nat)} {j:Nat} (h:j<ow.size):(ow.getD j (some 0)).isNone=true↔ow[j]?=some none:=by
 rw[B1,AC h];simp
theorem je {mask:Nat} {ow:Array (Option Nat)} {h:Int} (hz:ow.size=mask+1) {M:Nat} (hM:ow[(lp mask h M).1]?=some none):∀(f m n:Nat),m<=M->M<m+f->a7 mask h n=at_ mask (lp mask h m) 0->(∀q,q<n->j8 ow (a7 mask h q).j)->
  ∃N,SetTable.layClean.free mask ow f (lp mask h m).1 (lp mask h m).2=some (a7 mask h N).j/\ow[(a7 mask h N).j]?=some none/\∀q,q<N->j8 ow (a7 mask h q).j
 |0,m,n,h1,h2,_,_=>by omega
 |f+1,m,n,h1,h2,e,tk=>by
  unfold SetTable.layClean.free;have il:=kW mask h m;have re:SetTable.runEnd mask (lp mask h m).1+1-(lp mask h m).1=run mask (lp mask h m).1+1:=by
   unfold run SetTable.runEnd
   split<;>omega
  rw[re];cases c:(Ai (run mask (lp mask h m).1+1)).find? fun k=>(ow.getD ((lp mask h m).1+k) (some 0)).isNone with
  |some q=>
   dsimp only;have hq:=List.find?_eq_some_iff_getElem.mp c;obtain ⟨p1,i,hi,ei,lt⟩:=hq;rw[List.getElem_range] at ei;subst ei;have ql:i<=run mask (lp mask h m).1:=by
    have:i<run mask (lp mask h m).1+1:=by simpa using hi
    omega
   have pj:(a7 mask h (n+i)).j=(lp mask h m).1+i:=by rw[cP e i ql];rfl
   refine ⟨n+i,by rw[pj],?_,fun k hk=>?_⟩
   ·rw[pj];exact (dI (by have:=f8 il ql;omega)).mp p1
   ·by_cases kn:k<n
    ·exact tk k kn
    ·obtain ⟨d,rfl⟩:∃d,k=n+d:=⟨k-n,by omega⟩
     have dl:d<=run mask (lp mask h m).1:=by omega
     have nf:=lt d (by omega)
     rw[List.getElem_range] at nf;rw[cP e d dl];have le:(lp mask h m).1+d<=mask:=f8 il dl;refine (iJ hz le).resolve_left fun z=>?_
     rw[(dI (by omega)).mpr z] at nf
     cases nf
  |none=>
   dsimp only;have none_:=List.find?_eq_none.mp c;have taken:∀d,d<=run mask (lp mask h m).1->j8 ow ((lp mask h m).1+d):=fun d dl=>by
    have le:(lp mask h m).1+d<=mask:=f8 il dl;refine (iJ hz le).resolve_left fun z=>?_
    exact none_ d (Av.mpr (by omega)) ((dI (by omega)).mpr z)
   have mM:m≠M:=fun z=>by
    subst z;obtain ⟨q,e0⟩:=taken 0 (B5 _);rw[Nat.add_zero,hM] at e0;cases e0
   refine je hz hM f (m+1) (n+run mask (lp mask h m).1+1) (by omega) (by omega) ?_ fun q hq=>?_
   ·show jb mask (a7 mask h (n+run mask (lp mask h m).1))=_;rw[cP e _ (AB _)];unfold jb;rw[if_neg (by show ¬run mask (lp mask h m).1-run mask (lp mask h m).1>0;omega)]
    rfl
   ·by_cases kn:q<n
    ·exact tk q kn
    ·obtain ⟨d,rfl⟩:∃d,q=n+d:=⟨q-n,by omega⟩
     rw[cP e d (by omega)]
     exact taken d (by omega)
theorem ms {mask k:Nat} {ow:Array (Option Nat)} {h:Int} (hk:mask+1=2^k) (hz:ow.size=mask+1) {j:Nat} (hj:j<=mask) (hf:ow[j]?=some none):
  ∃N,SetTable.layClean.free mask ow (SetTable.turns mask) (SetTable.bits h % (mask+1)) (SetTable.bits h)=some (a7 mask h N).j/\ow[(a7 mask h N).j]?=some none/\∀q,q<N->j8 ow (a7 mask h q).j:=by
 obtain ⟨M,hM,e⟩:=kZ hk h hj;exact je (M:=M) hz (by rw[e];exact hf) (SetTable.turns mask) 0 0 (B5 _) (by unfold SetTable.turns;omega) rfl fun q hq=>absurd hq (Nat.not_lt_zero _)
theorem Ow.step {mask k:Nat} {hs:List Int} {ow:Array (Option Nat)} {h:Int} {N:Nat} (O:Ow mask hs k ow) (hk:hs[k]?=some h) (hf:ow[(a7 mask h N).j]?=some none) (tk:∀q,q<N->j8 ow (a7 mask h q).j):Ow mask hs (k+1) (ow.setIfInBounds (a7 mask h N).j (some k)):=by
 have jl:=(Ao.mp hf).1;have at_:∀i:Nat,(ow.setIfInBounds (a7 mask h N).j (some k))[i]?=if (a7 mask h N).j=i then some (some k) else ow[i]?:=fun i=>by
  rw[Array.getElem?_setIfInBounds]
  by_cases c:(a7 mask h N).j=i
  ·rw[if_pos c,if_pos c,if_pos (c▸jl)]
  ·rw[if_neg c,if_neg c]
 have up:∀j,j8 ow j->j8 (ow.setIfInBounds (a7 mask h N).j (some k)) j:=fun j ⟨q,e⟩=>by
  unfold j8;rw[at_]
  by_cases c:(a7 mask h N).j=j
  ·exact ⟨k,if_pos c⟩
  ·exact ⟨q,(if_neg c).trans e⟩
 refine ⟨by rw[Array.size_setIfInBounds];exact O.size,fun j q e=>?_,fun i j q e1 e2=>?_,fun q hq=>?_,fun j q g e hg=>?_⟩
 ·rw[at_] at e
  split at e
  ·cases e;omega
  ·have:=O.dom j q e;omega
 ·rw[at_] at e1 e2
  split at e1
  ·rename_i c1
   split at e2
   ·rename_i c2;exact c1.symm.trans c2
   ·cases e1;have:=O.dom j _ e2;omega
  ·split at e2
   ·cases e2;have:=O.dom i _ e1;omega
   ·exact O.inj i j q e1 e2
 ·by_cases c:q=k
  ·exact ⟨(a7 mask h N).j,by rw[at_,if_pos rfl,c]⟩
  ·obtain ⟨j,e⟩:=O.sur q (by omega)
   refine ⟨j,?_⟩;rw[at_,if_neg (fun z=>by rw[z] at hf;rw[hf] at e;cases e)]
   exact e
 ·rw[at_] at e
  split at e
  ·rename_i c;cases e;rw[hk] at hg;cases hg;exact ⟨N,c,fun m hm=>up _ (tk m hm)⟩
  ·obtain ⟨n,e1,e2⟩:=O.reach j q g e hg;exact ⟨n,e1,fun m hm=>up _ (e2 m hm)⟩
theorem gS {mask k:Nat} {hs:List Int} (hk:mask+1=2^k) (few:hs.length<=mask):∀(rest:List Int) (q:Nat) (ow:Array (Option Nat)),(∀i,rest[i]?=hs[q+i]?)->Ow mask hs q ow->q+rest.length=hs.length->
  ∃ow',rest.foldl (fun acc h=>acc.bind fun (a:Array (Option Nat)×Nat)=>(SetTable.layClean.free mask a.1 (SetTable.turns mask) (SetTable.bits h % (mask+1)) (SetTable.bits h)).bind fun j=>some (a.1.setIfInBounds j (some a.2),a.2+1)) (some (ow,q))=some (ow',hs.length)/\Ow mask hs hs.length ow'
 | [],q,ow,_,O,hl=>by
  have:q=hs.length:=by simpa using hl
  subst this;exact ⟨ow,rfl,O⟩
 |h::rest,q,ow,hr,O,hl=>by
  have hl':q+(rest.length+1)=hs.length:=by simpa using hl
  obtain ⟨j,jl,jf⟩:=O.room (by omega)
  obtain ⟨N,e1,e2,e3⟩:=ms hk O.size jl jf (h:=h);have hq:hs[q]?=some h:=by have:=hr 0;simpa using this.symm
  rw[List.foldl_cons];simp only[Option.bind_some,e1];exact gS hk few rest (q+1) _ (fun i=>by have:=hr (i+1);rw[BV] at this;rw[this];congr 1;omega) (O.step hq e2 e3) (by omega)
theorem nU {mask k:Nat} {hs:Array Int} (hk:mask+1=2^k) (few:hs.size<=mask):∃ow,SetTable.layClean mask hs=some ow/\Ow mask hs.toList hs.size ow:=by
 have O0:Ow mask hs.toList 0 (Array.replicate (mask+1) none):=by
  have rep:∀(j q:Nat),(Array.replicate (mask+1) (none:Option Nat))[j]?≠some (some q):=fun j q e=>by
   rw[Array.getElem?_replicate] at e
   split at e<;>cases e
  exact ⟨by simp,fun j q e=>absurd e (rep j q),fun i j q e=>absurd e (rep i q),fun q hq=>absurd hq (Nat.not_lt_zero _),fun j q h e=>absurd e (rep j q)⟩
 obtain ⟨ow,e,O⟩:=gS hk (hs:=hs.toList) (by simpa using few) hs.toList 0 _ (fun i=>by rw[Nat.zero_add]) O0 (by simp)
 rw[AJ] at O e;refine ⟨ow,?_,O⟩;unfold SetTable.layClean;rw[<-Array.foldl_toList];show Option.map _ (List.foldl (fun acc h=>acc.bind fun (a:Array (Option Nat)×Nat)=>(SetTable.layClean.free mask a.1 (SetTable.turns mask) (SetTable.bits h % (mask+1)) (SetTable.bits h)).bind fun j=>some (a.1.setIfInBounds j (some a.2),a.2+1)) (some (Array.replicate (mask+1) none,0)) hs.toList)=_
 rw[e]
 rfl
def cB (mask:Nat) (ow:Array (Option Nat)):List (Nat×Nat):=(Ai (mask+1)).filterMap fun j=>(ow.getD j none).map (j,·)
theorem b7 {mask k:Nat} {hs:List Int} {ow:Array (Option Nat)} (O:Ow mask hs k ow) {x:Nat×Nat}:x∈cB mask ow↔ow[x.1]?=some (some x.2):=by
 unfold cB;rw[List.mem_filterMap];constructor
 ·rintro ⟨j,hj,e⟩;obtain ⟨q,e1,rfl⟩:=AR.mp e;have jl:j<ow.size:=by rw[O.size];exact Av.mp hj
  rw[B1,AC jl] at e1;show ow[j]?=some (some q);rw[AC jl];exact congrArg some e1
 ·intro e;have jl:=(Ao.mp e).1;refine ⟨x.1,Av.mpr (by rw[<-O.size];exact jl),?_⟩
  rw[B1,e]
  rfl
theorem iK {mask k:Nat} {hs:List Int} {ow:Array (Option Nat)} (O:Ow mask hs k ow):((cB mask ow).map (·.2)).Nodup:=by
 rw[Bi,BA];have pw:(cB mask ow).Pairwise fun a b=>a.1<b.1:=by
  unfold cB;rw[List.pairwise_filterMap];refine List.pairwise_lt_range.imp fun {a b} ab x hx y hy=>?_
  obtain ⟨k,_,rfl⟩:=AR.mp hx;obtain ⟨k',_,rfl⟩:=AR.mp hy;exact ab
 refine List.Pairwise.imp_of_mem ?_ pw;intro a b ha hb lt e;have h1:=(b7 O).mp ha;have h2:=(b7 O).mp hb;rw[e] at h1;have:=O.inj _ _ _ h1 h2;omega
theorem jQ {mask k:Nat} {hs:List Int} {ow:Array (Option Nat)} (O:Ow mask hs k ow):((cB mask ow).map (·.2)).Perm (Ai k):=by
 refine (List.perm_ext_iff_of_nodup (iK O) List.nodup_range).mpr fun q=>?_
 rw[Av,Ab];constructor
 ·rintro ⟨x,hx,rfl⟩;exact O.dom _ _ ((b7 O).mp hx)
 ·intro hq;obtain ⟨j,e⟩:=O.sur q hq;exact ⟨(j,q),(b7 O).mpr e,rfl⟩
theorem mw {mask k finger moves:Nat} {led plain:Bool} {hs:Array Int} (hk:mask+1=2^k) (few:hs.size<=mask):
  ∃t order,SetTable.laid mask finger moves led plain hs=some (t,order)/\order.toList.Perm (Ai hs.size)/\Tab (order.map fun q=>hs.getD q 0) t/\t.mask=mask/\t.led=led/\t.plain=plain:=by
 obtain ⟨ow,e,O⟩:=nU hk few;have el:SetTable.laid mask finger moves led plain hs=some ({mask,place:=((cB mask ow).map (·.1)).toArray,dummies:= #[],finger,led,moves,plain},((cB mask ow).map (·.2)).toArray):=by
  unfold SetTable.laid;rw[e]
  rfl
 have pm:=jQ O;have lenL:(cB mask ow).length=hs.size:=by have:=pm.length_eq;simpa using this
 have mp:∀j,j∈((cB mask ow).map (·.1)).toArray↔j8 ow j:=fun j=>by
  rw[List.mem_toArray,Ab];constructor
  ·rintro ⟨x,hx,rfl⟩;exact ⟨x.2,(b7 O).mp hx⟩
  ·rintro ⟨q,e⟩;exact ⟨(j,q),(b7 O).mpr e,rfl⟩
 refine ⟨_,_,el,by simpa using pm,⟨?_,rfl,iG el,?_,⟨k,hk⟩,?_,?_⟩,rfl,rfl,rfl⟩
 ·simp
 ·intro j hj;obtain ⟨q,e⟩:=(mp j).mp hj;have:=(Ao.mp e).1;have:=O.size;show j<=mask;omega
 ·show ((cB mask ow).map (·.1)).toArray.size<=mask;simp;omega
 ·intro i j h hi hh;change ((cB mask ow).map (·.1)).toArray[i]?=some j at hi;rw[List.getElem?_toArray,AF] at hi;obtain ⟨x,hx,rfl⟩:=AR.mp hi;rw[BX,List.getElem?_toArray,AF,hx] at hh;have hq:=(b7 O).mp (AH hx);have ql:=O.dom _ _ hq;have hs':hs.toList[x.2]?=some h:=by
   rw[AM,AC ql];have:some (hs.getD x.2 0)=some h:=hh;rw[B1,AC ql] at this;exact this
  obtain ⟨n,e1,e2⟩:=O.reach _ _ _ hq hs';exact ⟨n,e1,fun m hm=>(mp _).mpr (e2 m hm)⟩
theorem gT (w:Nat):∀(f k size:Nat),size=2^k->w<size*2^f->∃k',SetTable.sizeAbove.go w f size=2^k'/\w<SetTable.sizeAbove.go w f size/\SetTable.sizeAbove.go w f size<=max size (2*w)
 |0,k,size,e,h=>⟨k,e,by simpa [SetTable.sizeAbove.go] using h,by unfold SetTable.sizeAbove.go;omega⟩
 |f+1,k,size,e,h=>by
  unfold SetTable.sizeAbove.go
  by_cases c:size<=w
  ·rw[if_pos c];obtain ⟨k',h1,h2,h3⟩:=gT w f (k+1) (size*2) (by rw[e,Bm]) (by rw[Bm] at h;rw[BS,Nat.mul_comm 2];exact h)
   exact ⟨k',h1,h2,by omega⟩
  ·rw[if_neg c];exact ⟨k,e,by omega,by omega⟩
theorem gU {w:Nat} (h:w<2^60):∃k,SetTable.sizeAbove w=2^k/\w<SetTable.sizeAbove w/\SetTable.sizeAbove w<=max 8 (2*w):=by
 refine gT w 64 3 8 rfl ?_;have:(2:Nat)^60<=8*2^64:=by decide
 omega
theorem eH (w:Nat):∀(f size:Nat),size<=SetTable.sizeAbove.go w f size
 |0,size=>AB _
 |f+1,size=>by
  unfold SetTable.sizeAbove.go
  split
  ·have:=eH w f (size*2);omega
  ·exact AB _
theorem jR {t:SetTable} {hs:Array Int} {w:Nat} (h:w<2^60) (few:hs.size<w):
  ∃t' order,t.relaid hs w=some (t',order)/\order.toList.Perm (Ai hs.size)/\Tab (order.map fun q=>hs.getD q 0) t'/\w<=t'.mask/\7<=t'.mask/\t'.led=t.led/\t'.plain=t.plain:=by
 obtain ⟨k,e,l,_⟩:=gU h;have g:=eH w 64 8;obtain ⟨t',order,h1,h2,h3,h4,h5,h6⟩:=mw (mask:=SetTable.sizeAbove w-1) (k:=k) (finger:=t.finger) (moves:=t.movedTo (SetTable.sizeAbove w-1)) (led:=t.led) (plain:=t.plain) (hs:=hs) (by omega) (by omega)
 exact ⟨t',order,h1,h2,h3,by omega,by rw[h4];unfold SetTable.sizeAbove;omega,h5,h6⟩
open PySem.Spec PyProof.Rows XH
abbrev Kx:=List Key×Addr
def nV (prog:Program) (w:World) (x:Kx):Int×Value:=(tupleKeyHash (ak prog w) x.1,.ref x.2)
def gf (m:Nat):Prop:=m=7∨m=31∨m=127∨m=511∨m=2047∨m=8191
structure gg (prog:Program) (w:World) (h:Heap) (S:Addr) (xs:List Kx) (o:Obj) (es:Array (Int×Value)) (ep:Nat) (t:SetTable):Prop where
 ho:h.get? S=some o
 hex:o.ExactSet
 hd:o.data= .set es ep t
 el:es.toList=xs.map (nV prog w)
 key:∀x∈xs,IsTupleKey (ak prog w) h x.1 x.2
 nd:(xs.map fun x=>x.1).Nodup
 tab:Tab (es.map fun e=>e.1) t
 few:t.place.size*5<t.mask*3
 big:7<=t.mask
 cap:t.mask<=8191
 msk:gf t.mask
 ld:w.params.followText "set-order" =false->t.led=true
section
variable {prog:Program} {w:World} {A:Around} {E:sE} {s:Shared} {S:Addr} {xs:List Kx} {o:Obj} {es:Array (Int×Value)} {ep:Nat}
theorem gg.size (T:gg prog w s.heap S xs o es ep t):es.size=xs.length:=by rw[<-AJ,T.el,A5]
theorem gg.fits (T:gg prog w s.heap S xs o es ep t):t.fits es.size=true:=by
 have h1:=T.tab.size;have h2:=T.tab.few;have h3:=T.tab.dum;rw[As] at h1;simp[SetTable.fits,SetTable.fill,h3,h1];omega
theorem gg.odd (T:gg prog w s.heap S xs o es ep t):t.gaveWay=false:=by
 obtain ⟨k,hk⟩:=T.tab.pow;have b:=T.big;unfold SetTable.gaveWay;cases k with
 |zero=>rw[Nat.pow_zero] at hk;omega
 |succ k=>
  rw[Bm] at hk;have:t.mask % 2=1:=by omega
  rw[this]
  rfl
theorem gg.at_ (T:gg prog w s.heap S xs o es ep t) {i:Nat} {x:Kx} (h:xs[i]?=some x):es[i]?=some (nV prog w x):=by
 rw[<-AM,T.el,AF,h]
 rfl
theorem gg.of (T:gg prog w s.heap S xs o es ep t) {i j:Nat} (h:t.place[i]?=some j):∃x,xs[i]?=some x:=by
 have il:=(Ao.mp h).1;have h1:=T.tab.size;rw[As,T.size] at h1;exact ⟨_,A0 (by omega)⟩
theorem jS (T:gg prog w s.heap S xs o es ep t) {i i' j:Nat} (h:t.place[i]?=some j) (h':t.place[i']?=some j):i=i':=(cL T.tab.ri h).symm.trans (cL T.tab.ri h')
theorem gW {a:Addr} {ks:List Key} {Q:Bool->Shared->Prop} (hk:IsTupleKey (ak prog w) s.heap ks a) (h:Q false s):wpAny (model prog w) A (ofAClassStatement 8 (.ref a)) Q E s:=by
 have hT:=hk.typeIs;obtain ⟨ob,items,n,ho,_,hd,hi⟩:=hk;unfold ofAClassStatement;refine wpAny_bind (wpAny_typeOf (T:= "tuple") hT ?_);dsimp only;simp only[show (("tuple" :String)== "tuple")=true from rfl,if_true]
 refine wpAny_bind (wpAny_pure ?_);simp only[BG,AG,if_false];refine wpAny_bind (wpAny_seqItems ho hd ?_);dsimp only;refine wpAny_bind ?_;show wpAny _ _ (forIn items _ _) _ _ s;rw[<-Array.forIn_toList];refine wpAny_forIn_list _ (fun rest r s'=>r.1=none/\s'=s/\∀v∈rest,carriedByValue v=true) _ ?_ ?_ _ _ ⟨rfl,rfl,hi.byValue⟩
 ·rintro v rest r s' ⟨hr,rfl,hall⟩;have cv:=hall v Ae;have e:ofAClassStatement 7 v=pure false:=by
   cases v with
   |ref a=>simp[carriedByValue] at cv
   |_=>first|rfl|(unfold ofAClassStatement;rfl)
  rw[e];refine wpAny_bind (wpAny_pure ?_);simp only[AG,if_false];exact wpAny_pure ⟨rfl,rfl,fun u hu'=>hall u (AY _ hu')⟩
 ·rintro ⟨r1,r2⟩ s' ⟨hr,rfl,_⟩;simp only at hr;subst hr;exact wpAny_pure h
theorem k9 {a:Addr} {ks:List Key} {Q:Bool->Shared->Prop} (hk:IsTupleKey (ak prog w) s.heap ks a) (h:Q false s):∀(l:sK),(∀v∈l,∃b kb,v= .ref b/\IsTupleKey (ak prog w) s.heap kb b)->wpAny (model prog w) A (searchCouldBeSeen (.ref a) l) Q E s:=by
 intro l hl;unfold searchCouldBeSeen;refine wpAny_bind ?_;refine wpAny_forIn_list _ (fun rest r s'=>r.1=none/\s'=s/\∀v∈rest,∃b kb,v= .ref b/\IsTupleKey (ak prog w) s.heap kb b) _ ?_ ?_ _ _ ⟨rfl,rfl,hl⟩
 ·rintro v rest r s' ⟨hr,rfl,hall⟩;obtain ⟨b,kb,rfl,hb⟩:=hall v Ae;have nx:(none:Option Bool)=none/\s'=s'/\∀v∈rest,∃b kb,v= .ref b/\IsTupleKey (ak prog w) s'.heap kb b:=⟨rfl,rfl,fun u hu'=>hall u (AY _ hu')⟩
  dsimp only
  split
  ·exact wpAny_pure nx
  ·refine wpAny_bind (wpAny_eqIsQuiet_tuple hk ?_);simp only[BG,AG,if_false];refine wpAny_bind (wpAny_eqIsQuiet_tuple hb ?_);simp only[BG,AG,if_false];refine wpAny_bind (gW hk ?_);simp only[AG,if_false];refine wpAny_bind (gW hb ?_);simp only[AG,if_false];exact wpAny_pure nx
 ·rintro ⟨r1,r2⟩ s' ⟨hr,rfl,_⟩;simp only at hr;subst hr;exact wpAny_pure h
theorem fA (hu:A.units<cLine) (T:gg prog w s.heap S xs o es ep t) {a:Addr} {ks:List Key} (hk:IsTupleKey (ak prog w) s.heap ks a) {N:Nat} (hN:N<=10*(13+t.mask)) (he:(a7 t.mask (tupleKeyHash (ak prog w) ks) N).j∉t.place)
  (hl:∀m,m<N->(a7 t.mask (tupleKeyHash (ak prog w) ks) m).j∈t.place) {Q:SetFound->Shared->Prop} (q1:ks∈xs.map (fun x=>x.1)->Q (.there none) s) (q2:ks∉xs.map (fun x=>x.1)->Q (.free (a7 t.mask (tupleKeyHash (ak prog w) ks) N).j false) s):
  ∀(f n:Nat) (stand:Option SetTable.Probe),stand.getD (t.probeStart (tupleKeyHash (ak prog w) ks))=a7 t.mask (tupleKeyHash (ak prog w) ks) n->n<=N->N-n<f->
   (∀(q i:Nat) (x:Kx),q<n->t.place[i]?=some (a7 t.mask (tupleKeyHash (ak prog w) ks) q).j->xs[i]?=some x->x.1≠ks)->wpAny (model prog w) A (setSearchFrom S (.ref a) (tupleKeyHash (ak prog w) ks) true f stand) Q E s
 |0,n,stand,_,_,h,_=>by omega
 |f+1,n,stand,hs,nN,hf,past=>by
  unfold setSearchFrom;refine wpAny_bind (wpAny_setState_of T.ho T.hd T.fits ?_);dsimp only;rw[T.odd];simp only[AG,if_false];rw[hs];have hash_at:∀(i:Nat) (x:Kx),xs[i]?=some x->(es[i]?.map fun e=>e.1).getD 0=tupleKeyHash (ak prog w) x.1:=fun i x hx=>by rw[T.at_ hx];rfl
  generalize hg:t.probe _ (tupleKeyHash (ak prog w) ks) (a7 t.mask (tupleKeyHash (ak prog w) ks) n)=r;rcases T.tab.probe (hashAt:=fun i:Nat=>(es[i]?.map fun e=>e.1).getD 0) hN nN he hl with ⟨no,e⟩|⟨K,i,nK,KN,pK,hK,no,e⟩
  ·have er:=hg.symm.trans e;subst er;dsimp only;refine wpAny_pure (q2 fun m=>?_)
   obtain ⟨x,hx,rfl⟩:=Ab.mp m;obtain ⟨i,hi⟩:=Ak.mp hx;have il:i<t.place.size:=by
    have h1:=T.tab.size;rw[As,T.size] at h1;have:=(A4.mp hi).1;omega
   have pi:=AC il;obtain ⟨n0,e1,e2⟩:=T.tab.reach i _ (tupleKeyHash (ak prog w) x.1) pi (by rw[BX,T.at_ hi];rfl)
   have n0N:n0<N:=by
    rcases Nat.lt_trichotomy n0 N with z|z|z
    ·exact z
    ·subst z;rw[e1] at he;exact absurd (Array.mem_of_getElem? pi) he
    ·exact absurd (e2 N z) he
   have pn:t.place[i]?=some (a7 t.mask (tupleKeyHash (ak prog w) x.1) n0).j:=by rw[e1];exact pi
   by_cases c:n0<n
   ·exact past n0 i x c pn hi rfl
   ·exact no n0 i (by omega) n0N pn (hash_at i x hi)
  ·have er:=hg.symm.trans e;subst er;dsimp only;obtain ⟨x,hx⟩:=T.of pK;have kx:=T.key x (AH hx);have rest:wpAny (model prog w) A (do
     let some (_,y):=es[i]?|unsupported "internal:set-entry"
     let equal<-holding [y] (eqBool y (.ref a))
     let (es',_,t')<-setState S
     if true&&equal then return .there none
     let some same:=t'.sameMemory t.moves t.mask|unsupported "set.changed-during-lookup:is-the-new-block-at-the-old-address"
     let still<-match (if same then t'.slot (a7 t.mask (tupleKeyHash (ak prog w) ks) K).j else .empty) with
      | .live i'=>match es'[i']? with
       |some (_,y')=>do pure (if<-isSame y' y then some i' else none)
       |none=>pure none
      |_=>pure none
     match still with
     |none=>rule "set.search.anew";setSearchFrom S (.ref a) (tupleKeyHash (ak prog w) ks) true f none
     |some i'=>if equal then return .there (some i') else setSearchFrom S (.ref a) (tupleKeyHash (ak prog w) ks) true f (some (a7 t.mask (tupleKeyHash (ak prog w) ks) (K+1)))) Q E s:=by
    rw[T.at_ hx];dsimp only[nV];refine wpAny_bind (wpAny_holding (wpAny_eqBool_tuple hu kx hk ?_));refine wpAny_bind (wpAny_setState_of T.ho T.hd T.fits ?_);dsimp only
    by_cases c:x.1=ks
    ·rw[decide_eq_true c];simp only[Bool.and_self,if_true];exact wpAny_pure (q1 (Ab.mpr ⟨x,AH hx,c⟩))
    ·rw[decide_eq_false c];simp only[Bool.and_false,AG,if_false];have sm:t.sameMemory t.moves t.mask=some true:=by unfold SetTable.sameMemory;simp
     rw[sm];dsimp only;simp only[if_true];rw[T.tab.live pK];dsimp only;rw[T.at_ hx];dsimp only[nV];refine wpAny_bind ?_;show wpAny _ _ (if (x.2==x.2)=true then _ else _) _ _ s
     rw[if_pos (beq_self_eq_true _)];refine wpAny_pure ?_;simp only[if_true];refine wpAny_bind (wpAny_pure ?_);dsimp only;refine fA hu T hk hN he hl q1 q2 f (K+1) _ rfl (by omega) (by omega) fun q i' x' hq hp hx'=>?_
     by_cases c1:q<n
     ·exact past q i' x' c1 hp hx'
     ·by_cases c2:q<K
      ·intro z;refine no q i' (by omega) c2 hp ?_
       show (es[i']?.map fun e=>e.1).getD 0=_
       rw[hash_at i' x' hx',z]
      ·have:q=K:=by omega
       subst this;have:=jS T hp pK;subst this;rw[hx] at hx';cases hx';exact c
   cases ld:t.led with
   |true=>
    simp only[BG,AG,if_false];exact rest
   |false=>
    simp only[Bool.not_false,if_true];refine wpAny_bind (k9 hk ?_ _ fun v hv=>?_)
    ·simp only[AG,if_false];exact rest
    ·obtain ⟨e1,he1,rfl⟩:=Ab.mp hv;have:=Array.mem_filter.mp (BO.mp he1);have:=BO.mpr this.1;rw[T.el] at this;obtain ⟨x',hx',rfl⟩:=Ab.mp this;exact ⟨x'.2,x'.1,rfl,T.key x' hx'⟩
end
open Classical in
noncomputable def cQ (xs:List Kx) (x:Kx):List Kx:=if x.1∈xs.map (fun y=>y.1) then xs else xs++ [x]
theorem iL {α:Type} (xs:List α):(Ai xs.length).filterMap (fun q=>xs[q]?)=xs:=by
 induction xs with
 |nil=>rfl
 |cons x xs ih=>
  rw[Ap,List.range_succ_eq_map,Br,List.filterMap_map];show x::List.filterMap (fun q=>xs[q]?) _=_
  rw[ih]
theorem gX {α β:Type} {f:α->β} {d:β} {xs:Array α}:∀{l:List Nat},(∀q∈l,q<xs.size)->(l.filterMap fun q=>xs[q]?).map f=l.map fun q=>(xs.map f).getD q d
 | [],_=>rfl
 |q::l,h=>by
  have ql:=h q Ae;rw[Br,AC ql];show f xs[q]::_=_;rw[gX fun k hk=>h k (AY _ hk),Ag,B1,BX,AC ql]
  rfl
section
variable {prog:Program} {w:World} {A:Around} {E:sE} {s:Shared} {S:Addr} {xs:List Kx} {o:Obj} {es:Array (Int×Value)} {ep:Nat}
theorem qZ {a:Addr} {ks:List Key} {Q:Bool->Shared->Prop} (hk:IsTupleKey (ak prog w) s.heap ks a) (h:∀b,Q b s):wpAny (model prog w) A (hashByValue 8 (.ref a)) Q E s:=by
 have hT:=hk.typeIs;obtain ⟨ob,items,n,ho,_,hd,hi⟩:=hk;unfold hashByValue;refine wpAny_bind (wpAny_specialOf hT F.slot_tuple_hash.lookup ?_);show wpAny _ _ (seqItems? (.ref a)>>=_) _ _ s;refine wpAny_bind (wpAny_seqItems ho hd ?_);dsimp only;refine wpAny_bind ?_;show wpAny _ _ (forIn items _ _) _ _ s;rw[<-Array.forIn_toList];refine wpAny_forIn_list _ (fun rest r s'=>r.1=none/\s'=s/\∀v∈rest,carriedByValue v=true) _ ?_ ?_ _ _ ⟨rfl,rfl,hi.byValue⟩
 ·rintro v rest r s' ⟨hr,rfl,hall⟩;have cv:=hall v Ae;have e:∃b,hashByValue 7 v=pure b:=by
   cases v with
   |ref a=>simp[carriedByValue] at cv
   |_=>exact ⟨_,by first|rfl|(unfold hashByValue;rfl)⟩
  obtain ⟨b,e⟩:=e;rw[e];refine wpAny_bind (wpAny_pure ?_);cases b with
  |true=>
   simp only[BG,AG,if_false];exact wpAny_pure ⟨rfl,rfl,fun u hu'=>hall u (AY _ hu')⟩
  |false=>
   simp only[Bool.not_false,if_true];exact wpAny_pure (wpAny_pure (h false))
 ·rintro ⟨r1,r2⟩ s' ⟨hr,rfl,_⟩;simp only at hr;subst hr;exact wpAny_pure (h true)
theorem eI {h h':Heap} {ks:List Key} {a:Addr} (hk:IsTupleKey (ak prog w) h ks a) (ho:h.get? S=some o) (hd:o.data= .set es ep t) (sb:Heap.SameBut S h h'):IsTupleKey (ak prog w) h' ks a:=by
 obtain ⟨o',items,n,ho',hc,hd',hi⟩:=hk;have hne:a≠S:=by
  rintro rfl;obtain rfl:o'=o:=B9 (ho'.symm.trans ho);rw[hd] at hd';exact nomatch hd'
 exact ⟨o',items,n,(sb.2 a hne).trans ho',hc,hd',hi⟩
theorem eJ {h:Heap} {es':Array (Int×Value)} {t':SetTable} (ho:h.get? S=some o) (hd:o.data= .set es ep t):(h.update S (Obj.putSet es' t')).get? S=some {o with data:= .set es' (ep+1) t'}:=by
 have:=Heap.get?_update_self (Obj.putSet es' t') ho (by rw[putSet_of es' t' hd];rfl)
 rw[putSet_of es' t' hd] at this;exact this
theorem lf {t1:SetTable} (ho:s.heap.get? S=some o) (hex:o.ExactSet) (hd:o.data= .set es ep t1) (el:es.toList=xs.map (nV prog w)) (key:∀x∈xs,IsTupleKey (ak prog w) s.heap x.1 x.2) (nd:(xs.map fun x=>x.1).Nodup)
  (tab:Tab (es.map fun e=>e.1) t1) (ld:w.params.followText "set-order" =false->t1.led=true) (n1:1<=xs.length) (n2:xs.length<=1300) {m':Nat} (hm:gf m') (hm':SetTable.sizeAbove (xs.length*4)=m'+1) {Q:Unit->Shared->Prop}
  (h:∀h' xs' o' es' ep' t',Heap.SameBut S s.heap h'->gg prog w h' S xs' o' es' ep' t'->xs'.Perm xs->Q () {s with heap:=h'}):wpAny (model prog w) A (setRelay S (SetTable.grown xs.length)) Q E s:=by
 have sz:es.size=xs.length:=by rw[<-AJ,el,A5]
 have fits:t1.fits es.size=true:=by
  have h1:=tab.size;have h2:=tab.few;rw[As] at h1;simp[SetTable.fits,SetTable.fill,tab.dum,h1];omega
 have gr:SetTable.grown xs.length=xs.length*4:=if_neg (by omega)
 rw[gr];obtain ⟨kk,_,_,ab⟩:=gU (w:=xs.length*4) (Nat.lt_of_le_of_lt (show xs.length*4<=5200 by omega) (by decide))
 obtain ⟨t2,order,e1,pm,tb,m1,m2,l2,p2⟩:=jR (t:=t1) (hs:=es.map fun e=>e.1) (w:=xs.length*4) (Nat.lt_of_le_of_lt (show xs.length*4<=5200 by omega) (by decide)) (by rw[As,sz];omega)
 have mm:t2.mask+1=SetTable.sizeAbove (xs.length*4):=by
  have:=e1;unfold SetTable.relaid SetTable.laid at this;obtain ⟨ow,_,e2⟩:=Aj.mp this;simp only[pure,Option.some.injEq,Prod.mk.injEq] at e2;rw[<-e2.1];show SetTable.sizeAbove (xs.length*4)-1+1=_;have:=eH (xs.length*4) 64 8;unfold SetTable.sizeAbove at*;omega
 rw[As,sz] at pm;unfold setRelay;refine wpAny_bind (wpAny_setState_of ho hd fits ?_);dsimp only;have sl:sizeLine=16777216:=sizeLine_eq;rw[if_neg (by omega),e1]
 have inr:∀q∈order.toList,q<xs.length:=fun q hq=>Av.mp (pm.mem_iff.mp hq)
 have tl:(order.filterMap (es[·]?)).toList=(order.toList.filterMap fun q=>xs[q]?).map (nV prog w):=by
  rw[Array.toList_filterMap,List.map_filterMap]
  congr 1
  funext q
  rw[<-AM,el,AF]
 have px:(order.toList.filterMap fun q=>xs[q]?).Perm xs:=by
  have:=pm.filterMap (fun q=>xs[q]?)
  rw[iL] at this;exact this
 have sz2:(order.filterMap (es[·]?)).size=es.size:=by rw[<-AJ,tl,A5,px.length_eq,sz]
 have tb2:Tab ((order.filterMap (es[·]?)).map fun e=>e.1) t2:=by
  have:((order.filterMap (es[·]?)).map fun e=>e.1)=order.map fun q=>(es.map fun e=>e.1).getD q 0:=by
   apply Bk.mp;rw[Array.toList_map,Array.toList_filterMap,Array.toList_map];exact gX (f:=fun e:Int×Value=>e.1) (d:=0) fun q hq=>by rw[sz];exact inr q hq
  rw[this];exact tb
 refine wpAny_bind ?_;show wpAny _ _ (if ((order.filterMap (es[·]?)).size !=es.size)=true then _ else _) _ _ _
 rw[sz2];simp only[bne_self_eq_false,AG,if_false];refine wpAny_pure ?_;refine wpAny_storeSet_of ho hd ?_ (by rw[sz2,sz,sl];omega)
 have sb:=Heap.SameBut.update s.heap S (Obj.putSet (order.filterMap (es[·]?)) t2);have ps:=tb2.size;rw[As,sz2,sz] at ps;have em:t2.mask=m':=by omega
 have mok:gf t2.mask:=by rw[em];exact hm
 have mcap:t2.mask<=8191:=by rcases mok with e|e|e|e|e|e<;>omega
 exact h _ (order.toList.filterMap fun q=>xs[q]?) {o with data:= .set (order.filterMap (es[·]?)) (ep+1) t2} (order.filterMap (es[·]?)) (ep+1) t2 sb ⟨eJ ho hd,hex,rfl,tl,fun x hx=>eI (key x (px.mem_iff.mp hx)) ho hd sb,(px.map _).nodup_iff.mpr nd,tb2,by omega,m2,mcap,mok,fun b=>l2.trans (ld b)⟩ px
theorem nW (hu:A.units<cLine) (T:gg prog w s.heap S xs o es ep t) {a:Addr} {ks:List Key} (hk:IsTupleKey (ak prog w) s.heap ks a) (room:xs.length<4900) {Q:Bool->Shared->Prop}
  (h:∀h' xs' o' es' ep' t',Heap.SameBut S s.heap h'->gg prog w h' S xs' o' es' ep' t'->xs'.Perm (cQ xs (ks,a))->∀b,Q b {s with heap:=h'}):wpAny (model prog w) A (setAddHashed S (.ref a) (tupleKeyHash (ak prog w) ks)) Q E s:=by
 obtain ⟨N,hN,he,hl⟩:=T.tab.first (tupleKeyHash (ak prog w) ks);have cap:=T.cap;have sl:sizeLine=16777216:=sizeLine_eq;unfold setAddHashed setAddHashedIn;refine wpAny_holding (wpAny_bind (wpAny_setState_of T.ho T.hd T.fits ?_));dsimp only;rw[show byScan (.ref a) es=false from rfl]
 simp only[AG,if_false];unfold setSearch;refine wpAny_bind (fA hu T hk hN he hl (fun m=>?_) (fun m=>?_) 100000 0 none rfl (B5 _) (by omega) fun q i x hq=>absurd hq (Nat.not_lt_zero _))
 ·dsimp only;have e:s={s with heap:=s.heap}:=by cases s;rfl
  rw[e];exact wpAny_pure (h s.heap xs o es ep t (Heap.SameBut.refl S s.heap) T (by rw[cQ,if_pos m]) false)
 ·dsimp only;refine wpAny_bind (wpAny_setState_of T.ho T.hd T.fits ?_);dsimp only;have few:=T.few;have big:=T.big;obtain ⟨tab1,p1⟩:=T.tab.put he hl (by omega)
  generalize hp:t.put (a7 t.mask (tupleKeyHash (ak prog w) ks) N).j=P at tab1 p1;obtain ⟨t1,p⟩:=P;have tm:t1.mask=t.mask:=by rw[show t1=(t.put (a7 t.mask (tupleKeyHash (ak prog w) ks) N).j).1 by rw[hp]];rfl
  have tl:t1.led=t.led:=by rw[show t1=(t.put (a7 t.mask (tupleKeyHash (ak prog w) ks) N).j).1 by rw[hp]];rfl
  dsimp only at tab1 p1⊢;have psz:=T.tab.size;rw[As] at psz;have pe:p<=es.size:=by omega
  have el1:(SetTable.insertAt es p (tupleKeyHash (ak prog w) ks,Value.ref a)).toList=(xs.take p++(ks,a)::xs.drop p).map (nV prog w):=by
   have t2:(SetTable.insertAt es p (tupleKeyHash (ak prog w) ks,Value.ref a)).toList=es.toList.take p++(tupleKeyHash (ak prog w) ks,Value.ref a)::es.toList.drop p:=by
    simp[SetTable.insertAt,AU,Bq];rw[Aa (by simp)]
   rw[t2,T.el,Aq,Ag,List.map_take,List.map_drop]
   rfl
  have pm1:(xs.take p++(ks,a)::xs.drop p).Perm (xs++ [(ks,a)]):=by
   refine List.perm_middle.trans ?_;rw[AL];exact (List.perm_append_singleton _ _).symm
  have tab2:Tab ((SetTable.insertAt es p (tupleKeyHash (ak prog w) ks,Value.ref a)).map fun e=>e.1) t1:=by
   have:((SetTable.insertAt es p (tupleKeyHash (ak prog w) ks,Value.ref a)).map fun e=>e.1)=SetTable.insertAt (es.map fun e=>e.1) p (tupleKeyHash (ak prog w) ks):=by
    apply Array.ext_getElem?;intro i;rw[BX,f9 pe,f9 (by rw[As];exact pe)]
    split
    ·rw[BX]
    ·split
     ·rfl
     ·rw[BX]
   rw[this];exact tab1
  have nd1:((xs.take p++(ks,a)::xs.drop p).map fun x=>x.1).Nodup:=by
   refine (pm1.map _).nodup_iff.mpr ?_;rw[Aq];exact List.nodup_append.mpr ⟨T.nd,by simp,fun y hy z hz e=>m (by rw[Ag,List.map_nil,Aw] at hz;have hz:z=ks:=hz;rw[<-hz,<-e];exact hy)⟩
  have len1:(xs.take p++(ks,a)::xs.drop p).length=xs.length+1:=by rw[pm1.length_eq,A9];rfl
  have sz1:(SetTable.insertAt es p (tupleKeyHash (ak prog w) ks,Value.ref a)).size=xs.length+1:=by rw[dk pe,T.size]
  have tail:∀(t3:SetTable),t3=t1∨t3={t1 with plain:=false}->wpAny (model prog w) A (do
    storeSet S (SetTable.insertAt es p (tupleKeyHash (ak prog w) ks,Value.ref a)) t3
    if (!false&&t3.tooFull)=true then do
      setRelay S (SetTable.grown (es.size+1))
      pure true
     else pure true) Q E s:=by
   intro t3 h3;have ef:t3.mask=t1.mask/\t3.place=t1.place/\t3.dummies=t1.dummies/\t3.led=t1.led:=by rcases h3 with rfl|rfl<;>exact ⟨rfl,rfl,rfl,rfl⟩
   have tab3:Tab ((SetTable.insertAt es p (tupleKeyHash (ak prog w) ks,Value.ref a)).map fun e=>e.1) t3:=by
    obtain ⟨f1,f2,f3,f4,f5,f6,f7⟩:=tab2;rcases h3 with rfl|rfl<;>exact ⟨f1,f2,f3,f4,f5,f6,f7⟩
   have ld3:w.params.followText "set-order" =false->t3.led=true:=fun b=>by rw[ef.2.2.2,tl];exact T.ld b
   refine wpAny_bind (wpAny_storeSet_of T.ho T.hd ?_ (by rw[sz1,sl];omega))
   have sb:=Heap.SameBut.update s.heap S (Obj.putSet (SetTable.insertAt es p (tupleKeyHash (ak prog w) ks,Value.ref a)) t3);have key1:∀x∈xs.take p++(ks,a)::xs.drop p,IsTupleKey (ak prog w) (s.heap.update S (Obj.putSet (SetTable.insertAt es p (tupleKeyHash (ak prog w) ks,Value.ref a)) t3)) x.1 x.2:=fun x hx=>by
    have:=pm1.mem_iff.mp hx;rcases AE.mp this with q|q
    ·exact eI (T.key x q) T.ho T.hd sb
    ·rw[Aw.mp q];exact eI hk T.ho T.hd sb
   have ps3:=tab3.size;rw[As,sz1] at ps3;have perm:(xs.take p++(ks,a)::xs.drop p).Perm (cQ xs (ks,a)):=by rw[cQ,if_neg m];exact pm1
   cases c:t3.tooFull with
   |false=>
    simp only[Bool.not_false,Bool.and_false,AG,if_false];have few3:t3.place.size*5<t3.mask*3:=by
     unfold SetTable.tooFull SetTable.fill at c;rw[tab3.dum] at c;simp at c;omega
    exact wpAny_pure (h _ _ _ _ _ _ sb ⟨eJ T.ho T.hd,T.hex,rfl,el1,key1,nd1,tab3,few3,by omega,by omega,by rw[ef.1,tm];exact T.msk,ld3⟩ perm true)
   |true=>
    simp only[Bool.not_false,Bool.and_self,if_true];have full:t.mask*3<=(xs.length+1)*5:=by
     unfold SetTable.tooFull SetTable.fill at c;rw[tab3.dum,ps3,ef.1,tm] at c
     simpa using c
    have fw:xs.length*5<t.mask*3:=by
     have:=T.size;omega
    obtain ⟨m',hm,hm'⟩:∃m',gf m'/\SetTable.sizeAbove ((xs.length+1)*4)=m'+1:=by
     rcases T.msk with e|e|e|e|e|e
     ·have z:xs.length=4:=by omega
      exact ⟨31,.inr (.inl rfl),by rw[z];decide⟩
     ·have z:xs.length=18:=by omega
      exact ⟨127,.inr (.inr (.inl rfl)),by rw[z];decide⟩
     ·have z:xs.length=76:=by omega
      exact ⟨511,.inr (.inr (.inr (.inl rfl))),by rw[z];decide⟩
     ·have z:xs.length=306:=by omega
      exact ⟨2047,.inr (.inr (.inr (.inr (.inl rfl)))),by rw[z];decide⟩
     ·have z:xs.length=1228:=by omega
      exact ⟨8191,.inr (.inr (.inr (.inr (.inr rfl)))),by rw[z];decide⟩
     ·omega
    have n13:xs.length+1<=1300:=by
     rcases T.msk with e|e|e|e|e|e<;>omega
    rw[show es.size+1=(xs.take p++(ks,a)::xs.drop p).length by rw[len1,T.size]]
    refine wpAny_bind (lf (o:={o with data:= .set (SetTable.insertAt es p (tupleKeyHash (ak prog w) ks,Value.ref a)) (ep+1) t3}) (eJ T.ho T.hd) T.hex rfl el1 key1 nd1 tab3 ld3 (by omega) (by omega) hm (by rw[len1];exact hm') fun h' xs' o' es' ep' t' sb' T' pm'=>?_)
    exact wpAny_pure (h h' xs' o' es' ep' t' (sb.trans sb') T' (pm'.trans perm) true)
  by_cases c:t1.plain=true
  ·rw[if_pos c];refine wpAny_bind (qZ hk fun b=>?_)
   cases b with
   |true=>
    simp only[if_true];exact tail t1 (.inl rfl)
   |false=>
    simp only[AG,if_false];exact tail _ (.inr rfl)
  ·rw[if_neg c];refine wpAny_bind (wpAny_pure ?_);simp only[if_true];exact tail t1 (.inl rfl)
end
def mB (prog:Program) (w:World) (h:Heap) (S:Addr) (ys:List Kx):Prop:=∃xs o es ep t,gg prog w h S xs o es ep t/\xs.Perm ys
noncomputable def fB (xs:List Kx) (i:Nat):List Kx:=(xs.take i).foldl cQ []
theorem eK {xs:List Kx} {i:Nat} {y:Kx} (h:xs[i]?=some y):fB xs (i+1)=cQ (fB xs i) y:=by
 unfold fB;rw[List.take_add_one,h,Option.toList_some,List.foldl_append]
 rfl
theorem lg (ys:List Kx) (y:Kx):(cQ ys y).length<=ys.length+1:=by
 unfold cQ
 split
 ·omega
 ·simp
theorem jg (xs:List Kx):∀i,(fB xs i).length<=i
 |0=>by simp[fB]
 |i+1=>by
  have ih:=jg xs i;cases h:xs[i]? with
  |none=>
   have:xs.take (i+1)=xs.take i:=by rw[List.take_add_one,h];simp
   unfold fB at ih⊢;rw[this];omega
  |some y=>
   rw[eK h];have:=lg (fB xs i) y;omega
theorem jT {xs ys:List Kx} {x:Kx} (p:xs.Perm ys):(cQ xs x).Perm (cQ ys x):=by
 have m:x.1∈xs.map (fun y=>y.1)↔x.1∈ys.map (fun y=>y.1):=(p.map _).mem_iff
 unfold cQ
 by_cases c:x.1∈xs.map (fun y=>y.1)
 ·rw[if_pos c,if_pos (m.mp c)];exact p
 ·rw[if_neg c,if_neg fun z=>c (m.mpr z)]
  exact p.append_right _
theorem gg.kept {prog:Program} {w:World} {h h':Heap} {S:Addr} {xs:List Kx} {o:Obj} {es:Array (Int×Value)} {ep:Nat} {t:SetTable} (T:gg prog w h S xs o es ep t) (k:∀b o,(b=S∨∃x∈xs,b=x.2)->h.get? b=some o->h'.get? b=some o):gg prog w h' S xs o es ep t:=
 ⟨k _ _ (.inl rfl) T.ho,T.hex,T.hd,T.el,fun x hx=>let ⟨o',items,n,ho',z⟩:=T.key x hx;⟨o',items,n,k _ _ (.inr ⟨x,hx,rfl⟩) ho',z⟩,T.nd,T.tab,T.few,T.big,T.cap,T.msk,T.ld⟩
theorem eM {prog:Program} {w:World} {h h':Heap} {ks:List Key} {a:Addr} (hk:IsTupleKey (ak prog w) h ks a) (k:∀o,h.get? a=some o->h'.get? a=some o):IsTupleKey (ak prog w) h' ks a:=
 let ⟨o',items,n,ho',z⟩:=hk;⟨o',items,n,k _ ho',z⟩
theorem lj {xs ys:List Kx} {y:Kx} (h:∀x∈ys,x∈xs) (hy:y∈xs):∀x∈cQ ys y,x∈xs:=fun x hx=>by
 unfold cQ at hx
 split at hx
 ·exact h x hx
 ·rcases AE.mp hx with q|q
  ·exact h x q
  ·rw[Aw.mp q];exact hy
theorem dm (xs:List Kx):∀i,∀x∈fB xs i,x∈xs
 |0=>fun x hx=>by simp[fB] at hx
 |i+1=>by
  cases h:xs[i]? with
  |none=>
   have:xs.take (i+1)=xs.take i:=by rw[List.take_add_one,h];simp
   have e:fB xs (i+1)=fB xs i:=by unfold fB;rw[this]
   rw[e];exact dm xs i
  |some y=>
   rw[eK h];exact lj (dm xs i) (AH h)
theorem mC {f m:Nat} {l:Bool}:Tab ((#[]:Array (Int×Value)).map fun e=>e.1) (SetTable.fresh f m l) where
 size:=by simp[SetTable.fresh]
 dum:=rfl
 ri:=List.Pairwise.nil
 le:=fun j hj=>by simp[SetTable.fresh] at hj
 pow:=⟨3,rfl⟩
 few:=by simp[SetTable.fresh]
 reach:=fun i j h hi=>by simp[SetTable.fresh] at hi
section
variable {prog:Program} {w:World} {A:Around} {R:Result->Shared->Prop} {I:Addr} {fp wr:sJ} {G:Array GenState->Array GenState->Prop} {n:Nat} {P:Nat->Value->Prop} {St:Nat->Shared->Prop}
theorem jU (W:WalksS prog w A.in1 I fp wr G n P St) (S:Addr) (out:S∉fp) (xs:List Kx) (hu:A.units+30<cLine) (hv:∀i v,P i v->∃y,xs[i]?=some y/\v= .ref y.2)
  (hn:n<=xs.length) (hb:n<4900) (off:∀x∈xs,x.2∉S::wr):∀(m i:Nat) (s:Shared),n-i=m->i<=n->St i s->(∀x∈xs,IsTupleKey (ak prog w) s.heap x.1 x.2)->mB prog w s.heap S (fB xs i)->
   (∀s',Moved (S::wr) G s s'->mB prog w s'.heap S (fB xs n)->R (.ok (.ret .none)) s')->codeAny (model prog w) A (.builtin "set.update.loop" ⟨[.ref S,.ref I],[]⟩) R s:=by
 have nw:S∉wr:=fun h=>out (W.sub _ h)
 have up:∀b∈wr,b∈S::wr:=fun b hb=> .tail _ hb
 have stay:∀{s1 s2:Shared} {ys:List Kx},(∀x∈ys,x∈xs)->mB prog w s1.heap S ys->Moved wr G s1 s2->mB prog w s2.heap S ys:=by
  rintro s1 s2 ys hy ⟨xs',o,es,ep,t,T,pm⟩ mv;refine ⟨xs',o,es,ep,t,T.kept fun b o hb e=>mv.heap b o ?_ e,pm⟩
  rcases hb with rfl|⟨x,hx,rfl⟩
  ·exact nw
  ·exact fun z=>off x (hy x (pm.mem_iff.mp hx)) (up _ z)
 have keyS:∀{s1 s2:Shared},(∀x∈xs,IsTupleKey (ak prog w) s1.heap x.1 x.2)->Moved wr G s1 s2->∀x∈xs,IsTupleKey (ak prog w) s2.heap x.1 x.2:=fun hk mv x hx=>eM (hk x hx) fun o e=>mv.heap _ o (fun z=>off x hx (up _ z)) e
 intro m
 induction m with
 |zero=>
  intro i s hm hi st hK hS fin;have e:i=n:=by omega
  subst e;apply codeAny_builtin F.entry_set_update_loop;rw[Around.under_plainId F.plain_set_update_loop _];show wpAny _ _ (pyNext (.ref I)>>=_) _ _ s;apply wpAny_bind;refine W.done s _ _ st fun s' mv=>?_
  exact wpAny_pure (fin s' (mv.mono up) (stay (dm xs _) hS mv))
 |succ m ih=>
  intro i s hm hi st hK hS fin;have lt:i<n:=by omega
  apply codeAny_builtin F.entry_set_update_loop;rw[Around.under_plainId F.plain_set_update_loop _];show wpAny _ _ (pyNext (.ref I)>>=_) _ _ s;apply wpAny_bind;refine W.item i s _ _ lt st fun v s' pv st' mv=>?_
  obtain ⟨y,ey,rfl⟩:=hv i v pv;have ym:=AH ey;have hK':=keyS hK mv;show wpAny _ _ (holding [.ref y.2] (setAdd S (.ref y.2))>>=_) _ _ s';apply wpAny_bind;apply wpAny_holding;unfold setAdd;apply wpAny_holding;apply wpAny_bind;refine wpAny_pyHash_tuple (by show A.units+1<cLine;omega) (hK' y ym) ?_
  obtain ⟨xs1,o1,es1,ep1,t1,T1,pm1⟩:=stay (dm xs i) hS mv;have rm:xs1.length<4900:=by
   rw[pm1.length_eq];have:=jg xs i;omega
  refine nW (s:={s' with toks:=s'.toks+(y.1.length+1)}) (by show A.units+1<cLine;omega) T1 (hK' y ym) rm fun h' xs2 o2 es2 ep2 t2 same T2 pm2 b=>?_
  have S2:mB prog w h' S (fB xs (i+1)):=⟨xs2,o2,es2,ep2,t2,T2,by rw[eK ey];exact pm2.trans (jT pm1)⟩
  apply wpAny_pure;refine ⟨plainId_quiet F.plain_set_update_loop _,ih (i+1) _ (by omega) lt (W.frame _ s' _ _ st' (Nat.le_add_right _ _) fun b hb o e=>?_) (fun x hx=>eM (hK' x hx) fun o e=>(same.2 _ fun z=>off x hx (z▸Ae)).trans e) S2 fun s'' mv2 S4=>?_⟩
  ·exact (same.2 b fun z=>out (z▸hb)).trans e
  ·exact fin s'' (Moved.trans W.gtrans ((mv.mono up).then_heap (Nat.le_add_right _ _) fun b o hb e=>(same.2 b fun z=>hb (z▸Ae)).trans e) mv2) S4
end
section
variable {prog:Program} {w:World} {A:Around} {E:sE} {s:Shared}
set_option maxHeartbeats 3200000 in
theorem jV {l:Addr} {items:Array Value} {xs:List Kx} {Q:sE} (hh:A.handled=none) (hu:A.units+40<cLine) (hl:s.heap.IsList l items) (hv:∀(i:Nat) (v:Value),items[i]?=some v->∃y:Kx,xs[i]?=some y/\v=Value.ref y.2) (hk:∀x∈xs,IsTupleKey (ak prog w) s.heap x.1 x.2)
  (hn:items.size=xs.length) (hb:items.size<4900)
  (fin:∀(h':Heap) (tk:Nat),mB prog w h' s.heap.objs.size (fB xs items.size)->(∀b o,b<s.heap.objs.size->s.heap.get? b=some o->h'.get? b=some o)->Q (.ref s.heap.objs.size) {s with heap:=h',toks:=tk}):
  wpAny (model prog w) A (call (.type "set") [.ref l]) Q E s:=by
 obtain ⟨c0,tl0,mro⟩:=F.called_set.mro;have made:=F.called_set.made;have subt:=F.called_set.sub;apply wpAny_call;apply codeAny_of_tree;show wpAny _ _ (callAny (.type "set") _) _ _ _;apply wpAny_pure;refine ⟨Code.quiet_builtin _ (by decide+kernel),codeAny_builtin F.entry_type_call ?_⟩
 rw[Around.under_plain (weight_type_call_type "set" [.ref l] []) rfl];have nt:=F.called_set.notType;have cc:=F.called_set.canCreate;have tc:=F.typeCall_set_1 (.ref l)
 repeat any_goals first|assumption|wp_step
 refine codeAny_mono (eZ (.ref l) (E:=E) (Q₁:=fun v s1=>∃led:Bool,(w.params.followText "set-order" =false->led=true)/\v= .ref s.heap.objs.size/\s1={s with heap:=s.heap.push {cls:= .type "set",dict:=none,data:= .set #[] 0 (.fresh 0 0 led)}}) fun led eld=>⟨led,eld,rfl,rfl⟩) fun r s1 hr=>?_
 cases r with
 |error e=>exact hr
 |ok fl=>
  cases fl with
  |ret v=>
   obtain ⟨led,eld,rfl,rfl⟩:=hr;have e0:(s.heap.push {cls:= .type "set",dict:=none,data:= .set #[] 0 (.fresh 0 0 led)}).get? s.heap.objs.size=some {cls:= .type "set",dict:=none,data:= .set #[] 0 (.fresh 0 0 led)}:=Heap.get?_push_size _ rfl;have tS:Shared.TypeIs {s with heap:=s.heap.push {cls:= .type "set",dict:=none,data:= .set #[] 0 (.fresh 0 0 led)}} (.ref s.heap.objs.size) "set" :=⟨_,e0,rfl⟩
   have lk:=F.called_set.init.lookup;have bd:=F.called_set.init.bind (.ref s.heap.objs.size)
   repeat any_goals first|assumption|wp_step
   refine codeAny_mono (codeAny_call_builtin (R:=wants (fun r s2=>r= .none/\∃h' tk,s2={s with heap:=h',toks:=tk}/\mB prog w h' s.heap.objs.size (fB xs items.size)/\∀b o,b<s.heap.objs.size->s.heap.get? b=some o->h'.get? b=some o) E) F.called_set.init.plain F.entry_set_init (check_set_init_1 tS ?_)) fun r2 s2 hr2=>?_
   ·obtain ⟨⟨lc,ld,lx,ls⟩,hol,hcl,nl,hdl⟩:=hl;simp only at hcl hdl;subst hcl hdl;have el:(s.heap.push {cls:= .type "set",dict:=none,data:= .set #[] 0 (.fresh 0 0 led)}).get? l=some {cls:= .type "list",dict:=ld,data:= .seq items nl,slots:=ls}:=Heap.get?_push_of_some _ hol;have n1:=F.sub_list_set;have n2:=F.sub_list_frozenset;have n3:(Value.type "list" ==Value.type "dict")=false:=by decide
    have il:(s.heap.push {cls:= .type "set",dict:=none,data:= .set #[] 0 (.fresh 0 0 led)}).IsList l items:=⟨_,el,rfl,nl,rfl⟩;unfold Builtin.«set.__init__» noKeywords Builtin.Frozenset.updateFrom;generalize hit:pyIter=PI
    wp_walk
    subst hit;apply wpAny_pyIter_list il;apply wpAny_bind;apply wpAny_runValue;have ll:l<s.heap.objs.size:=Heap.lt_size hol;have h3:A.in1.in1.in1.handled=none:=by simpa using hh
    have nI:l≠(s.heap.push {cls:= .type "set",dict:=none,data:= .set #[] 0 (.fresh 0 0 led)}).objs.size:=by
     rw[Heap.size_push];exact AS (BC ll)
    have out:s.heap.objs.size∉ [(s.heap.push {cls:= .type "set",dict:=none,data:= .set #[] 0 (.fresh 0 0 led)}).objs.size,l]:=by
     rw[Heap.size_push];simp only[AT,not_or];exact ⟨AS (Nat.lt_succ_self _),Nat.ne_of_gt ll,BI⟩
    have offX:∀x∈xs,x.2∉ [s.heap.objs.size,(s.heap.push {cls:= .type "set",dict:=none,data:= .set #[] 0 (.fresh 0 0 led)}).objs.size]:=fun x hx=>by
     obtain ⟨o',_,_,ho',_⟩:=hk x hx;have:=Heap.lt_size ho';rw[Heap.size_push];simp only[AT,BI,or_false,not_or];exact ⟨AS this,AS (BC this)⟩
    refine jU ((Walks.list h3 _ l nI items).toS) s.heap.objs.size out xs (by show A.units+1+1+30<cLine;omega) hv (Nat.le_of_eq hn) hb offX items.size 0 _ rfl (B5 _) ⟨⟨_,Heap.get?_push_size _ rfl,rfl,rfl⟩,il.push _⟩ (fun x hx=>eM (hk x hx) fun o e=>Heap.get?_push_of_some _ (Heap.get?_push_of_some _ e)) ?_ ?_
    ·have e1:((s.heap.push {cls:= .type "set",dict:=none,data:= .set #[] 0 (.fresh 0 0 led)}).push {cls:= .type "list_iterator",data:= .fields #[.ref l,.int 0 0]}).get? s.heap.objs.size=some {cls:= .type "set",dict:=none,data:= .set #[] 0 (.fresh 0 0 led)}:=
      Heap.get?_push_of_some _ e0
     exact ⟨[],_,#[],0,_,⟨e1,⟨rfl,rfl,rfl⟩,rfl,rfl,(fun x hx=>by cases hx),List.nodup_nil,mC,(by show (0:Nat)*5<7*3;decide),(by show 7<=7;decide),(by show 7<=8191;decide),.inl rfl,eld⟩,by simp[fB]⟩
    ·intro s' mv S2;obtain ⟨h',g',d',tk',os'⟩:=s';have eg:g'=s.gens:=mv.gens;have ed:d'=s.drawn:=mv.drawn;have eo:os'=s.os:=mv.os;subst eg ed eo;show wpAny _ _ _ _ _ _;apply wpAny_pure;show wpAny _ _ (ret Value.none) _ _ _;apply wpAny_pure;refine ⟨rfl,h',tk',rfl,S2,fun b o hb' e=>?_⟩
     refine mv.heap b o ?_ (Heap.get?_push_of_some _ (Heap.get?_push_of_some _ e));rw[Heap.size_push];simp only[AT,not_or];exact ⟨AS hb',AS (BC hb'),BI⟩
   ·cases r2 with
    |error e=>exact hr2
    |ok fl2=>
     cases fl2 with
     |ret r=>
      obtain ⟨rfl,h',tk,rfl,S2,kp⟩:=hr2
      repeat any_goals first|assumption|wp_step
      exact fin _ _ S2 kp
     |_=>exact hr2.elim
  |_=>exact hr.elim
end
open Sw So
def nX (w:World) (h:Heap) (a:Addr) (us:sK):Prop:=
 ∃o es ep t,h.get? a=some o/\o.ExactSet/\o.data= .set es ep t/\us=es.toList.map (fun e=>e.2)/\es.size<=sizeLine/\t.fits es.size=true/\(w.params.followText "set-order" =false->t.led=true)/\(t.plain=true->Ri t.place)
theorem cM:∀{es:List (Int×Value)} {acc:sK},acc.length=es.length->(∀(j:Nat) (v:Value),acc[j]?=some v->∃e,es[j]?=some e/\v=e.2)->acc=es.map fun e=>e.2
 | [],[],_,_=>rfl
 |e::es,v::acc,hl,h=>by
  obtain ⟨e',h1,rfl⟩:=h 0 v rfl;cases h1;rw[Ag,<-cM (es:=es) (acc:=acc) (by simpa using hl) fun j u hu=>h (j+1) u (by simpa using hu)]
 | [],_::_,hl,_=>by simp at hl
 |_::_,[],hl,_=>by simp at hl
theorem mB.ge {prog:Program} {w:World} {h:Heap} {S:Addr} {ys:List Kx} (hS:mB prog w h S ys):∃xs:List Kx,xs.Perm ys/\(xs.map fun x=>x.1).Nodup/\(∀x∈xs,IsTupleKey (ak prog w) h x.1 x.2)/\nX w h S (xs.map fun x=>Value.ref x.2):=by
 obtain ⟨xs,o,es,ep,t,T,pm⟩:=hS;have z:es.size<=sizeLine:=by
  have h1:=T.tab.size;have h2:=T.tab.few;have h3:=T.cap;rw[As] at h1;have sl:sizeLine=16777216:=sizeLine_eq;omega
 have ft:t.fits es.size=true:=by
  have h1:=T.tab.size;have h2:=T.tab.few;rw[As] at h1;simp[SetTable.fits,SetTable.fill,T.tab.dum,h1];omega
 exact ⟨xs,pm,T.nd,T.key,o,es,ep,t,T.ho,T.hex,T.hd,by rw[T.el,BF];rfl,z,ft,T.ld,fun _=>T.tab.ri⟩
section
variable {prog:Program} {w:World} {A:Around} {E:sE} {s:Shared}
theorem mD {a:Addr} {us:sK} {Q:sE} (hh:A.handled=none) (hS:nX w s.heap a us)
  (h:∀(s1:Shared) (I:Addr) (fp:sJ) (n:Nat) (P:Nat->Value->Prop) (St:Nat->Heap->Prop),Walks prog w A I fp [I] n P St->St 0 s1.heap->s.heap.objs.size<=I->I∈fp->(∀b∈fp,b=a∨s.heap.objs.size<=b)->n<=sizeLine->
   (∀b o,s.heap.get? b=some o->s1.heap.get? b=some o)->(∃d,s1={s with heap:=s1.heap,drawn:=d})->(∀acc:Array Value,PySem.ItemsOf P acc n->acc.toList.Perm us)->Q (.ref I) s1):
  wpAny (model prog w) A (pyIter (.ref a)) Q E s:=by
 obtain ⟨o,es,ep,t,ho,hex,hd,ue,hb,hf,ld,pl⟩:=hS;have SA:bD s.heap a es ep t:=⟨o,ho,hex,hd,hf⟩;have al:=Heap.lt_size ho;have nz:es.size<=sizeLine:=hb;refine kO SA nz (fun c=>?_) fun c zs d hz=>?_
 ·cases hb':w.params.followText "set-order" with
  |true=>
   refine h _ s.heap.objs.size _ _ _ _ (jN hh hb' s.heap.objs.size a (AS al) es ep t) ⟨Heap.get?_push_size _ rfl,SA.at fun o e=>Heap.get?_push_of_some _ e⟩ (AB _) (by simp) (by simp) nz (fun b o e=>Heap.get?_push_of_some _ e) ⟨s.drawn,rfl⟩ fun acc ha=>?_
   have pp:=eF (w.params.setOrder a ep) es;rw[cM (acc:=acc.toList) (es:=(pickOrder (w.params.setOrder a ep) es).toList) (by rw[AJ,ha.1,pp.length_eq,AJ]) fun j v hv=>ha.2 j v (by rw[<-AM];exact hv),ue]
   exact pp.map _
  |false=>
   cases hpl:t.plain with
   |false=>
    have few:es.size<=1:=by
     rcases Nat.lt_or_ge 1 es.size with q|q
     ·rw[hb',hpl] at c;simp at c;omega
     ·exact q
    refine h _ s.heap.objs.size _ _ _ _ (kP hh hb' s.heap.objs.size a (AS al) es ep t few (ld hb') hf) ⟨⟨0,fun _=>rfl,fun z=>absurd rfl z,Heap.get?_push_size _ rfl⟩,SA.at fun o e=>Heap.get?_push_of_some _ e⟩ (AB _) (by simp) (by simp) nz (fun b o e=>Heap.get?_push_of_some _ e) ⟨s.drawn,rfl⟩ fun acc ha=>?_
    rw[cM (acc:=acc.toList) (es:=es.toList) (by rw[AJ,ha.1,AJ]) fun j v hv=>ha.2 j v (by rw[<-AM];exact hv),ue]
   |true=>
    refine h _ s.heap.objs.size _ _ _ _ (iH hh hb' s.heap.objs.size a (AS al) es ep t hpl (ld hb') hf (pl hpl)) ⟨⟨0,fun _=>rfl,fun z=>absurd rfl z,Heap.get?_push_size _ rfl⟩,SA.at fun o e=>Heap.get?_push_of_some _ e⟩ (AB _) (by simp) (by simp) nz (fun b o e=>Heap.get?_push_of_some _ e) ⟨s.drawn,rfl⟩ fun acc ha=>?_
    rw[cM (acc:=acc.toList) (es:=es.toList) (by rw[AJ,ha.1,AJ]) fun j v hv=>ha.2 j v (by rw[<-AM];exact hv),ue]
 ·have e1:(s.heap.push {cls:= .type "tuple",data:= .seq (zs.map fun (i:Nat)=>rawInt i).toArray}).objs.size=s.heap.objs.size+1:=Heap.size_push ..
  refine h _ (s.heap.objs.size+1) _ _ _ _ (jO hh (s.heap.objs.size+1) a s.heap.objs.size (AS (BC al)) (AS (Nat.lt_succ_self _)) es ep t zs hz)
   ⟨(show ((s.heap.push _).push (hJ (.ref s.heap.objs.size) 0 a es.size ep)).get? (s.heap.objs.size+1)=_ from e1▸Heap.get?_push_size (s.heap.push {cls:= .type "tuple",data:= .seq (zs.map fun (i:Nat)=>rawInt i).toArray}) (o:=hJ (.ref s.heap.objs.size) 0 a es.size ep) rfl),SA.at fun o e=>Heap.get?_push_of_some _ (Heap.get?_push_of_some _ e),Heap.get?_push_of_some _ (Heap.get?_push_size _ rfl)⟩ (Nat.le_succ _) (by simp) (fun b hb=>by
    simp only[AT,BI,or_false] at hb;rcases hb with rfl|rfl|rfl
    ·exact .inr (Nat.le_succ _)
    ·exact .inl rfl
    ·exact .inr (AB _)) nz (fun b o e=>Heap.get?_push_of_some _ (Heap.get?_push_of_some _ e)) ⟨d,rfl⟩ fun acc ha=>?_
  have hl:zs.length=es.size:=by rw[hz.length_eq,BB]
  let es':List (Int×Value):=zs.map fun j=>es.getD j (0,.none)
  have pp:es'.Perm es.toList:=by
   refine (hz.map _).trans ?_;have:(Ai es.size).map (fun j=>es.getD j (0,Value.none))=es.toList:=by
    apply List.ext_getElem?;intro i;rw[AF,AM (xs:=es)];rcases Nat.lt_or_ge i es.size with q|q
    ·rw[List.getElem?_range q,AC q];simp[Array.getD,q]
    ·rw[List.getElem?_eq_none (by simpa using q),BY q]
     rfl
   rw[this]
  suffices e:acc.toList=es'.map fun e=>e.2 by
   rw[e,ue];exact pp.map _
  refine cM (by rw[AJ,ha.1,pp.length_eq,AJ]) fun j v hv=>?_
  obtain ⟨k,e,e2,e3,e4⟩:=ha.2 j v (by rw[<-AM];exact hv)
  refine ⟨e,?_,e4⟩;show (zs.map _)[j]?=_;rw[AF,e2];simp[B1,e3]
theorem jW {a L:Addr} {c:Nat} {us:sK} (hh:A.handled=none) (hS:nX w s.heap a us) (hL:s.heap.get? L=some {cls:= .type "list",data:= .seq #[] c}) (ne:L≠a) {RR:Result->Shared->Prop}
  (hR:∀(h':Heap) (tk:Nat) (d:Drawn) (acc:Array Value) (c:Nat),(∀b o,b≠L->s.heap.get? b=some o->h'.get? b=some o)->h'.get? L=some {cls:= .type "list",dict:=none,data:= .seq acc c,slots:= #[]}->acc.toList.Perm us->RR (.ok (.ret (.ref L))) {s with heap:=h',drawn:=d,toks:=tk}):
  wpAny (model prog w) A.in1 (Builtin.List.listExtendWith (.ref L) (.ref a) (.ref L))
   (fun fin s'=>match fin with| .done f=>RR (.ok f) s'| .again c'=>c'.quiet=true/\codeAny (model prog w) A c' RR s') (fun e s'=>RR (.error e) s') s:=by
 have Ll:L<s.heap.objs.size:=Heap.lt_size hL;have tyS:∀{s':Shared},nX w s'.heap a us->s'.TypeIs (.ref a) "set" :=fun ⟨o,_,_,_,ho,hex,_⟩=>⟨o,ho,hex.1⟩
 unfold Builtin.List.listExtendWith;refine wpAny_bind (wpAny_typeOf (T:= "set") (tyS hS) ?_);have h1:Builtin.List.listSameRef (.ref L) (.ref a)=false:=by simp[Builtin.List.listSameRef,ne]
 simp only[h1,show (Value.type "set" ==Value.type "list")=false by decide,show (Value.type "set" ==Value.type "tuple")=false by decide,Bool.or_false,AG,if_false]
 refine wpAny_bind (mD (A:=A.in1) hh hS fun s1 I fp n P St W st hI hIf hfp hn kp hd out=>?_)
 have Lf:L∉fp:=fun z=>(hfp _ z).elim ne fun q=>absurd Ll (Nat.not_lt.mpr q)
 obtain ⟨d,es1⟩:=hd;have hL1:=kp _ _ hL;have hS2:nX w s1.heap a us:=let ⟨o,es,ep,t,ho,r⟩:=hS;⟨o,es,ep,t,kp _ _ ho,r⟩;refine wpAny_bind (wpAny_holding (kQ (tyS hS2) ?_));have key:∀(hp:Heap) (c₁ tk:Nat),St 0 hp->(∀b o,b≠L->s1.heap.get? b=some o->hp.get? b=some o)->hp.get? L=some {cls:= .type "list",data:= .seq #[] c₁}->
   codeAny (model prog w) A (.builtin "list.extend.loop" ⟨[.ref L,.ref I,.ref L],[]⟩) RR {s1 with heap:=hp,toks:=tk}:=by
  intro hp c₁ tk hst hk hLp;refine codeAny_extend_loopS W.toS hn L Lf (.ref L) n 0 _ #[] c₁ rfl (B5 _) hst hLp (ItemsOf.nil _) fun s' acc' c' hm hS' hacc=>?_
  have z1:=out acc' hacc;have e':=Moved.eq_with hm;rw[es1] at e';rw[e'];refine hR s'.heap s'.toks d acc' c' (fun b o nb e=>hm.heap b o (fun hmem=>?_) (hk b o nb (kp b o e))) hS' z1
  rcases AT.mp hmem with q|q
  ·exact nb q
  ·have bl:=Heap.lt_size e;rw[Aw.mp q] at bl;exact absurd bl (Nat.not_lt.mpr hI)
 refine wpAny_ite_split (fun _=>?_) (fun _=>wpAny_pure ⟨plainId_quiet PySem.F.plain_extend_loop _,key s1.heap c s1.toks st (fun b o _ e=>e) hL1⟩)
 refine wpAny_bind (wpAny_rule ?_);refine wpAny_bind ?_;show wpAny _ _ (updateSeq L (·.push .none)>>=fun _=>updateSeq L (·.pop)) _ _ _
 refine wpAny_bind (wpAny_updateSeq hL1 rfl ?_);have hS₂:=Heap.get?_update_self (Obj.mapSeq (·.push Value.none)) hL1 rfl;refine wpAny_updateSeq (hz:=by seq_fits) hS₂ rfl ?_
 have hS₃:=Heap.get?_update_self (Obj.mapSeq (·.pop)) hS₂ rfl;refine wpAny_pure ⟨plainId_quiet PySem.F.plain_extend_loop _,key _ _ _ (W.frame _ _ _ st fun b hb o e=>?_) (fun b o nb e=>?_) hS₃⟩
 ·have nb:b≠L:=fun z=>Lf (z▸hb)
  exact (Heap.get?_update_other _ _ (Ne.symm nb)).trans ((Heap.get?_update_other _ _ (Ne.symm nb)).trans e)
 ·exact (Heap.get?_update_other _ _ (Ne.symm nb)).trans ((Heap.get?_update_other _ _ (Ne.symm nb)).trans e)
theorem iM {a:Addr} {us:sK} {R:sK->Shared->Prop} (hh:A.handled=none) (hS:nX w s.heap a us)
  (h:∀(h':Heap) (tk:Nat) (d:Drawn) (acc:sK),s.heap.objs.size<h'.objs.size->(∀b o,s.heap.get? b=some o->h'.get? b=some o)->acc.Perm us->R acc {s with heap:=h',drawn:=d,toks:=tk}):
  wpAny (model prog w) A (collect (.ref a)) R E s:=by
 have al:a<s.heap.objs.size:=let ⟨o,_,_,_,ho,_⟩:=hS;Heap.lt_size ho;unfold collect;refine wpAny_bind (wpAny_runValue (codeAny_builtin entry_proto_collect' ?_));rw[Around.under_plainId PySem.F.plain_proto_collect _];show wpAny _ A.in1 (newList []>>=fun l=>again (.builtin "list.__iadd__" ⟨[l,.ref a],[]⟩)) _ _ s
 refine wpAny_bind (wpAny_newObj_type (wpAny_pure ⟨plainId_quiet PySem.F.plain_list_iadd _,codeAny_builtin entry_list_iadd' ?_⟩));rw[Around.under_plainId PySem.F.plain_list_iadd _];have fresh:(s.heap.push {cls:= .type "list",data:= .seq ([]:sK).toArray}).get? s.heap.objs.size=some {cls:= .type "list",data:= .seq #[]}:=Heap.get?_push_size _ rfl;have hS1:nX w (s.heap.push {cls:= .type "list",data:= .seq ([]:sK).toArray}) a us:=let ⟨o,es,ep,t,ho,r⟩:=hS;⟨o,es,ep,t,Heap.get?_push_of_some _ ho,r⟩;show wpAny _ A.in1 (Builtin.List.listExtendWith (.ref s.heap.objs.size) (.ref a) (.ref s.heap.objs.size)) _ _ _;have key:=jW (prog:=prog) (A:=A) (s:={s with heap:=s.heap.push {cls:= .type "list",data:= .seq ([]:sK).toArray}})
  (RR:=fun (q:Result) (s':Shared)=>∃(h':Heap) (tk:Nat) (d:Drawn) (acc:Array Value) (c:Nat),q= .ok (.ret (.ref s.heap.objs.size))/\s'={s with heap:=h',drawn:=d,toks:=tk}/\(∀b o,s.heap.get? b=some o->h'.get? b=some o)/\h'.get? s.heap.objs.size=some {cls:= .type "list",dict:=none,data:= .seq acc c,slots:= #[]}/\acc.toList.Perm us)
  hh hS1 fresh (Nat.ne_of_gt al) (fun h' tk d acc c hk hS' z1=>⟨h',tk,d,acc,c,rfl,rfl,fun b o e=>hk b o (AS (Heap.lt_size e)) (Heap.get?_push_of_some _ e),hS',z1⟩)
 refine wpAny_mono key (fun f s' x=>?_) fun e s' x=>?_
 ·cases f with
  |done f=>
   obtain ⟨h',tk,d,acc,c,e,rfl,hk,hS',z1⟩:=x;cases e;show wpAny _ A (load s.heap.objs.size>>=_) _ _ _;exact wpAny_bind (wpAny_load hS' (wpAny_pure (h h' tk d acc.toList (Heap.lt_size hS') hk z1)))
  |again c₁=>
   refine ⟨x.1,codeAny_mono x.2 fun q s₂ y=>?_⟩
   obtain ⟨h',tk,d,acc,c,rfl,rfl,hk,hS',z1⟩:=y;show wpAny _ A (load s.heap.objs.size>>=_) _ _ _;exact wpAny_bind (wpAny_load hS' (wpAny_pure (h h' tk d acc.toList (Heap.lt_size hS') hk z1)))
 ·obtain ⟨_,_,_,_,_,e',_⟩:=x;cases e'
end
open Hm
abbrev Kn:=Ky×Addr
theorem gY {α β:Type} {f:α->β} {as bs:List β} (p:as.Perm bs):∀{l:List α},bs=l.map f->∃zs:List α,zs.Perm l/\as=zs.map f:=by
 induction p with
 |nil=>
  intro l e;cases l with
  |nil=>exact ⟨[],.refl _,rfl⟩
  |cons _ _=>cases e
 |cons u p ih=>
  intro l e;cases l with
  |nil=>cases e
  |cons a l=>
   rw[Ag] at e;injection e with e1 e2
   obtain ⟨zs,z1,z2⟩:=ih e2;exact ⟨a::zs,z1.cons _,by rw[Ag,e1,z2]⟩
 |swap u v l'=>
  intro l e
  match l,e with
  |a::b::l,e=>
   rw[Ag,Ag] at e;injection e with e1 e2
   injection e2 with e2 e3
   exact ⟨b::a::l,.swap _ _ _,by rw[Ag,Ag,e1,e2,e3]⟩
 |trans p q ih1 ih2=>
  intro l e;obtain ⟨zs,z1,z2⟩:=ih2 e;obtain ⟨ws,w1,w2⟩:=ih1 z2;exact ⟨ws,w1.trans z1,w2⟩
def iN (k:Ky):List Key:=k.map Sum.inl
theorem mE {a b:Ky} (h:iN a=iN b):a=b:=by
 induction a generalizing b with
 |nil=>cases b with|nil=>rfl|cons _ _=>cases h
 |cons x a ih=>
  cases b with
  |nil=>cases h
  |cons y b=>
   injection h with h1 h2
   injection h1 with h1
   rw[h1,ih h2]
theorem gZ {prog:Program} {w:World}:∀{k:Ky} {us:sK},aO (k.map V.int) us->ItemsAre (ak prog w) (iN k) us
 | [],_,h=>by cases h;exact .nil
 |i::k,_,h=>by
  cases h with
  |cons r t=>
   obtain ⟨tk,rfl⟩:=r;exact .cons oX (gZ t)
theorem mF {k:List Key} (xs:List Kx):∀(ys:List Kx),k∈(xs.foldl cQ ys).map (fun x=>x.1)↔k∈ys.map (fun x=>x.1)∨k∈xs.map (fun x=>x.1):=by
 induction xs with
 |nil=>intro ys;simp
 |cons x xs ih=>
  intro ys;rw[List.foldl_cons,ih,Ag,AT];unfold cQ
  split
  ·rename_i m;constructor
   ·rintro (h|h)
    ·exact .inl h
    ·exact .inr (.inr h)
   ·rintro (h|rfl|h)
    ·exact .inl h
    ·exact .inl m
    ·exact .inr h
  ·rw[Aq,AE,Ag,List.map_nil,Aw,or_assoc]
def jX (K:A6) (te:TE):TE:=fun σ H Q=>te σ H fun x H1=>∃(a:Addr) (xs:List Kn),x= .ref a/\aS K H1 a (xs.map fun x=>V.ref x.2)/\xs.length<4900/\(∀x∈xs,H1 x.2=some (.tup (x.1.map V.int))/\x.1≠ [])/\
 ∀(p:Addr) (ys:List Kn),H1 p=none->(∀y∈ys,y∈xs)->(ys.map fun y=>y.1).Nodup->(∀k,k∈ys.map (fun y=>y.1)↔k∈xs.map (fun x=>x.1))->Rs (ys.map fun y=>y.1)->Q (.ref p) (aR H1 p (.lst (ys.map fun y=>V.ref y.2)))
def jh:Option HO->Ky
 |some (.tup vs)=>vs.map fun v=>match v with| .int i=>i|_=>0
 |_=> []
theorem lm {k:Ky}:jh (some (.tup (k.map V.int)))=k:=by
 show (k.map V.int).map _=k;rw[BF]
 conv=>rhs;rw[<-List.map_id k]
 rfl
theorem hC:∀{xs:List Kn} {us:sK},aO (xs.map fun x=>V.ref x.2) us->us=xs.map fun x=>Value.ref x.2
 | [],_,.nil=>rfl
 |x::xs,_,.cons r t=>by rw[show _=Value.ref x.2 from r,hC t];rfl
theorem fC:∀(xs:List Kn),aO (xs.map fun x=>V.ref x.2) (xs.map fun x=>Value.ref x.2)
 | []=> .nil
 |x::xs=> .cons rfl (fC xs)
variable {X:Cx} {e:Expr} {te:TE} {p1 p2 pos pos2:Pos}
theorem cj (hc:X.calm=true) (hu:X.A.units+64<cLine) (g1:Gl X "sorted") (m1:X.mg "sorted" =none) (g2:Gl X "set") (m2:X.mg "set" =none) (b1:bootBuiltins "sorted" =some (.builtin "sorted")) (b2:bootBuiltins "set" =some (.type "set")) (he:PE X e te)
  (hs:starEach [e] X.env= [(false,eval e X.env)]:=by rfl):
  PE X (.Call (.Name "sorted" p1) [.Call (.Name "set" p2) [e] [] pos2] [] pos) (jX X.K te):=by
 intro pins s σ H Q I h;apply wpAny_Call_Name_kw;refine dq I g1 m1 b1 ?_ (by decide) (by decide)
 refine Calls.callWith_builtin rfl (Calls.evalArgs_plain ?_);refine Calls.spliced_cons (x:=eval (.Call (.Name "set" p2) [e] [] pos2) X.env) (rest:= []) ?_;apply wpAny_Call_Name_kw;refine dq I g2 m2 b2 ?_ (by decide) (by decide)
 refine PyProof.Rows.callWith_type1 ?_ hs rfl;rw[hs];refine Calls.spliced_cons (x:=eval e X.env) (rest:= []) (bE (he pins s σ H _ I h) fun v s1 ⟨x,H1,I1,r1,a,xs,ex,hq,few,tups,q⟩=>?_)
 subst ex;cases r1;apply Calls.spliced_nil;obtain ⟨its,rv,pl,hz⟩:=I1.list hq;have ei:=hC rv;have sz:its.toArray.size=xs.length:=by rw[AV,<-rv.length,A5]
 have hli:s1.heap.IsList a its.toArray:=pl.isList;have key0:∀x∈xs,IsTupleKey (ak X.prog X.w) s1.heap (iN x.1) x.2:=fun x hx=>by
  obtain ⟨its',rv',⟨o,e1,c1,n1,d1⟩,_⟩:=I1.tuple (cr.of (tups x hx).1);exact ⟨o,its'.toArray,n1,e1,c1,d1,by rw[List.toList_toArray];exact gZ rv'⟩
 refine jV (xs:=xs.map fun x=>(iN x.1,x.2)) (I.ok.hd hc) (by omega) hli (fun i v hv=>?_) (fun x hx=>?_) (by rw[sz,A5]) (by rw[sz];exact few) fun h' tk S2 kp=>?_
 ·have hv':its[i]?=some v:=by simpa using hv
  rw[ei,AF] at hv';obtain ⟨y,hy,rfl⟩:=AR.mp hv';exact ⟨(iN y.1,y.2),by rw[AF,hy];rfl,rfl⟩
 ·obtain ⟨y,hy,rfl⟩:=Ab.mp hx;exact key0 y hy
 apply Calls.spliced_nil;obtain ⟨xs1,pm1,nd1,key1,G⟩:=S2.ge;have dz:fB (xs.map fun x=>(iN x.1,x.2)) its.toArray.size=(xs.map fun x=>(iN x.1,x.2)).foldl cQ []:=by
  unfold fB;rw[Aa (by rw[A5,sz];exact AB _)]
 have sub1:∀x∈xs1,x∈xs.map fun x=>(iN x.1,x.2):=fun x hx=>dm _ _ x (pm1.mem_iff.mp hx)
 obtain ⟨zs0,ez0,sub0⟩:∃zs0:List Kn,xs1=zs0.map (fun x=>(iN x.1,x.2))/\∀z∈zs0,z∈xs:=by
  have gen:∀(l:List Kx),(∀x∈l,x∈xs.map fun x=>(iN x.1,x.2))->∃zs0:List Kn,l=zs0.map (fun x=>(iN x.1,x.2))/\∀z∈zs0,z∈xs:=by
   intro l
   induction l with
   |nil=>exact fun _=>⟨[],rfl,fun z hz=>by cases hz⟩
   |cons x l ih=>
    intro hl;obtain ⟨zs,e1,e2⟩:=ih fun y hy=>hl y (AY _ hy)
    obtain ⟨y,hy,rfl⟩:=Ab.mp (hl x Ae);exact ⟨y::zs,by rw[Ag,<-e1],fun z hz=>by
     rcases AT.mp hz with rfl|hz
     ·exact hy
     ·exact e2 z hz⟩
  exact gen xs1 sub1
 have I2:=I1.kept (t':=tk) (h':=h') (fun b o e=>kp b o (Heap.lt_size e) e)
 refine Calls.call_function_entry kind_sorted plain_sorted entry_sorted (args_sorted1 _) ?_;unfold Builtin.«sorted»;refine wpAny_bind (m:=checkCount "sorted" 1 1 _) (wpAny_pure ?_);refine wpAny_bind (iM (A:=X.A.in1) (s:={s1 with heap:=h',toks:=tk}) (I.ok.hd hc) G fun h2 tk2 d acc hlt hkp hp=>?_)
 rw[ez0,BF] at hp;obtain ⟨zs,pz,eacc⟩:=gY (f:=fun x:Kn=>Value.ref x.2) hp rfl
 have subz:∀z∈zs,z∈xs:=fun z hz=>sub0 z (pz.mem_iff.mp hz)
 have ndz0:(zs0.map fun y=>y.1).Nodup:=by
  rw[ez0,BF] at nd1;have:(zs0.map fun y=>iN y.1).Nodup:=nd1
  rw[Bi,BA] at this⊢;exact this.imp fun {a b} h e=>h (congrArg iN e)
 have ndz:(zs.map fun y=>y.1).Nodup:=(pz.map _).nodup_iff.mpr ndz0
 have memz:∀k,k∈zs.map (fun y=>y.1)↔k∈xs.map (fun x=>x.1):=fun k=>by
  constructor
  ·intro hk;obtain ⟨z,hz,rfl⟩:=Ab.mp hk;exact Ab.mpr ⟨z,subz z hz,rfl⟩
  ·intro hk;obtain ⟨x,hx,rfl⟩:=Ab.mp hk;have m:iN x.1∈xs1.map (fun x=>x.1):=by
    rw[(pm1.map _).mem_iff,dz,mF];refine .inr ?_;rw[BF];exact Ab.mpr ⟨x,hx,rfl⟩
   rw[ez0,BF] at m;obtain ⟨z,hz,e⟩:=Ab.mp m;exact Ab.mpr ⟨z,pz.mem_iff.mpr hz,mE e⟩
 have la:acc.length=zs.length:=by rw[eacc,A5]
 have lzs:zs.length<=xs.length:=by
  have h1:(zs.map fun y=>y.1).length<=(xs.map fun x=>x.1).length:=ndz.length_le_of_subset fun k hk=>(memz k).mp hk
  simpa using h1
 have lz:acc.length<=sizeLine:=by
  have sl:sizeLine=16777216:=sizeLine_eq;omega
 refine wpAny_bind (wpAny_newList ?_ lz);have hoL:(h2.push (seqObj "list" acc.toArray 0)).get? h2.objs.size=some (seqObj "list" acc.toArray 0):=Heap.get?_push_size _ rfl
 let nm:Addr->Option Ky:=fun a=>if V.ref a∈zs.map (fun x=>V.ref x.2) then some (jh (H1 a)) else none
 have nm_in:∀z∈zs,nm z.2=some z.1:=fun z hz=>by
  show (if V.ref z.2∈zs.map (fun x=>V.ref x.2) then some (jh (H1 z.2)) else none)=_
  rw[if_pos (Ab.mpr ⟨z,hz,rfl⟩),(tups z (subz z hz)).1,lm]
 have nm_of:∀{a:Addr} {k:Ky},nm a=some k->∃z∈zs,z.2=a/\z.1=k:=fun {a k} e=>by
  have e':(if V.ref a∈zs.map (fun x=>V.ref x.2) then some (jh (H1 a)) else none)=some k:=e
  by_cases m:V.ref a∈zs.map (fun x=>V.ref x.2)
  ·obtain ⟨z,hz,ez⟩:=Ab.mp m;injection ez with ez
   refine ⟨z,hz,ez,?_⟩;have:=nm_in z hz;rw[ez,e] at this;exact (B9 this).symm
  ·rw[if_neg m] at e';cases e'
 have keys:∀u∈acc,∃k,(bb true nm).keyOf u=some k:=fun u hu=>by
  rw[eacc] at hu;obtain ⟨z,hz,rfl⟩:=Ab.mp hu;exact ⟨z.1,nm_in z hz⟩
 have tup:true=true->∀x k,nm x=some k->jI (h2.push (seqObj "list" acc.toArray 0)) x k/\k≠ []:=fun _ x k hx=>by
  obtain ⟨z,hz,rfl,rfl⟩:=nm_of hx;obtain ⟨et,ne⟩:=tups z (subz z hz);obtain ⟨its',rv',⟨o,e1,c1,n1,d1⟩,_⟩:=I1.tuple (cr.of et);exact ⟨⟨o,its',n1,Heap.get?_push_of_some _ (hkp _ _ (kp _ _ (Heap.lt_size e1) e1)),c1,d1,i6 rv'⟩,ne⟩
 refine wpAny_bind (wpAny_holding (wpAny_call_entry slot_list_sort ⟨_,hoL,rfl⟩ entry_list_sort (ma (b:=true) (nm:=nm) hoL keys tup lz fun st' hp' hs'=>⟨_,rfl,?_⟩) (args_list_sort _)))
 rw[pairsOf_toList,kK,eacc,BF] at hp';obtain ⟨ws,pw,ew⟩:=gY (f:=fun x:Kn=>((Value.ref x.2,Value.ref x.2):Value×Value)) hp' rfl
 have subw:∀z∈ws,z∈zs:=fun z hz=>pw.mem_iff.mp hz
 have rs:Rs (ws.map fun y=>y.1):=by
  rw[ew,BA] at hs';show List.Pairwise _ _;rw[BA];refine hs'.imp_of_mem fun {a b} ha hb q=>?_
  have e1:kk (bb true nm) ((Value.ref a.2,Value.ref a.2):Value×Value)=a.1:=by unfold kk;show ((nm a.2).getD _)=_;rw[nm_in a (subw a ha)];rfl
  have e2:kk (bb true nm) ((Value.ref b.2,Value.ref b.2):Value×Value)=b.1:=by unfold kk;show ((nm b.2).getD _)=_;rw[nm_in b (subw b hb)];rfl
  have q':cY (kk (bb true nm) ((Value.ref b.2,Value.ref b.2):Value×Value)) (kk (bb true nm) ((Value.ref a.2,Value.ref a.2):Value×Value))=false:=q;rw[e1,e2] at q';exact q'
 have eo2:((arrOf st').map (·.2)).toList=ws.map fun x=>Value.ref x.2:=by
  rw[Array.toList_map,ew,BF]
  rfl
 have I3:aD X pins σ H1 {s1 with heap:=h',drawn:=d,toks:=tk}:=I2.drew (d:=d)
 have sl:h'.objs.size<=h2.objs.size:=Nat.le_of_lt hlt;refine wpAny_pure ⟨_,rfl,.ref h2.objs.size,_,I3.laid (a:=h2.objs.size) (o:= .lst (ws.map fun y=>V.ref y.2)) (h':=sortedHeap (h2.push (seqObj "list" acc.toArray 0)) h2.objs.size acc ((arrOf st').map (·.2))) (t':=tk2) (fun b o eo=>?_) sl ?_,rfl,
  q _ ws (I3.hok.fresh sl) (fun y hy=>subz y (subw y hy)) ((pw.map _).nodup_iff.mpr ndz) (fun k=>((pw.map _).mem_iff).trans (memz k)) rs⟩
 ·have eo':=hkp b o eo;have bl:=Heap.lt_size eo';rw[sortedHeap_old (AS bl) (by rw[size_push'];exact BC bl)]
  exact Heap.get?_push_of_some _ eo'
 ·obtain ⟨e,he⟩:=sortedHeap_at (out:=(arrOf st').map (·.2)) hoL;refine ⟨by rw[A5,pw.length_eq,<-la];exact lz,((arrOf st').map (·.2)).toList,e,?_,?_⟩
  ·rw[eo2];exact fC ws
  ·rw[Array.toArray_toList];exact he
end Su
namespace L2
open PySem PySem.Spec PyProof.Rows XH Sw Hm
theorem mG {X:Cx} (n:Nat) (hu:X.A.units+(n+1)<cLine):fi X (compareOp .NotEq) (fun x y H Q=>∃a b xs ys,x= .ref a/\y= .ref b/\aS X.K H a xs/\aS X.K H b ys/\gN (om X.K H n) xs ys/\Q (.bl false) H):=by
 intro pins s σ H x y v u Q I rx ry h;obtain ⟨a,b,xs,ys,rfl,rfl,h1,h2,hA,hq⟩:=h;cases rx;cases ry;obtain ⟨i1,v1,p1,_⟩:=I.list h1;obtain ⟨i2,v2,p2,_⟩:=I.list h2;refine SeqAt.RcNeAt.lists (e:=fun _=>true) p1.isList p2.isList (by simp[<-v1.length,<-v2.length,hA.len]) (by omega) (fun j g1 g2=>?_) _ _ _ _ ⟨.bl false,H,I,by show Value.bool _=Value.bool _;simp,hq⟩
 exact d0 (A:=X.A.in1) (s:=s) (fun x y u w=>iC I n X.A.in1 x y u w (by show X.A.units+1+n<_;omega)) hA v1 v2 j (by simpa using g1) (by simpa using g2)
end L2
namespace Sw
open PySem L2 XH Hm
def TF (H:Hp) (l:Addr) (fs:List Int):Prop:=∃as:sJ,as.length=fs.length/\H l=some (.lst (as.map V.ref))/\∀(i:Nat) (a:Addr) (f:Int),as[i]?=some a->fs[i]?=some f->∃v w:V,H a=some (.tup [.int f,v,w])
theorem TK.tf {H:Hp} {l:Addr} {ts:List md} (h:TK H l ts):TF H l (ts.map fun t=>t.1):=by
 obtain ⟨as,h1,h2,h3⟩:=h.ex;refine ⟨as,by rw[A5];exact h1,h2,fun i a f e1 e2=>?_⟩
 rw[AF] at e2;obtain ⟨t,ht,rfl⟩:=AR.mp e2;obtain ⟨w,v,e,k1,_⟩:=h3 i a t e1 ht;exact ⟨_,_,k1⟩
theorem TF.same {H H':Hp} {l:Addr} {fs:List Int} (h:TF H l fs) (g:aN H H'):TF H' l fs:=by
 obtain ⟨as,h1,h2,h3⟩:=h;exact ⟨as,h1,g _ _ h2,fun i a f e1 e2=>let ⟨v,w,e⟩:=h3 i a f e1 e2;⟨v,w,g _ _ e⟩⟩
def bv (fs:List Int) (x:Int):List Int:=((Ai fs.length).filter fun i=>decide (fs.getD i 0=x)).map fun i:Nat=>(0+(i:Int):Int)
theorem eN (fs:List Int) (x:Int):(bv fs x).map V.int=cS fs.length (fun i=>decide (fs.getD i 0=x)) (fun i=> .int (0+(i:Int))):=by
 unfold bv cS;rw[BF]
 rfl
def eO (k:cC) (s o:Int):List Ky:=if k.1= "within" then [[2*o+1,2*s,0],[2*s,2*o+1,-k.2.2.2]] else [[2*o+1,2*s,0]]
abbrev AP:=List Ky×List Ky
def mn (s o:Int):Int:=if o<s then o else s
def mx (s o:Int):Int:=if o>s then o else s
def cU (k:cC) (s:Int) (ap:AP) (o:Int):AP:=if k.1= "apart" then (ap.1,ap.2++ [[mn s o,mx s o]]) else (ap.1++eO k s o,ap.2)
def fg (k:cC) (O:List Int) (ap:AP) (s:Int):AP:=O.foldl (cU k s) ap
def b9 (fs:List Int) (ap:AP) (k:cC):AP:=(bv fs k.2.1).foldl (fg k (bv fs k.2.2.1)) ap
def eP (ks:List cC) (fs:List Int):AP:=ks.foldl (b9 fs) ([],[])
theorem bY {α β:Type} (f:β->α->β) (b:β) {xs:List α} {i:Nat} {x:α} (h:xs[i]?=some x):(xs.take (i+1)).foldl f b=f ((xs.take i).foldl f b) x:=by
 rw[List.take_add_one,h,Option.toList_some,List.foldl_append]
 rfl
theorem bG {α β:Type} (f:β->α->β) (b:β) (xs:List α):(xs.take xs.length).foldl f b=xs.foldl f b:=by rw[List.take_length]
theorem dn {α β:Type} {f:β->α->β} {μ:β->Nat} {c:Nat} {P:α->Prop} (h:∀b x,P x->μ (f b x)<=μ b+c):∀(xs:List α) (b:β),(∀x∈xs,P x)->μ (xs.foldl f b)<=μ b+c*xs.length
 | [],b,_=>by simp
 |x::xs,b,hp=>by
  have h1:=dn h xs (f b x) fun y hy=>hp y (AY _ hy)
  have h2:=h b x (hp x Ae);rw[List.foldl_cons,Ap,Nat.mul_add];omega
theorem hE (k:cC) (s o:Int):(eO k s o).length<=2:=by unfold eO;split<;>simp
theorem gh (k:cC) (s:Int) (ap:AP) (o:Int):(cU k s ap o).1.length+(cU k s ap o).2.length<=(ap.1.length+ap.2.length)+2:=by
 have:=hE k s o;unfold cU
 split
 ·simp;omega
 ·simp;omega
theorem hG {fs:List Int} {m:Nat} (hm:∀x,(bv fs x).length<=m) (ap:AP) (k:cC):(b9 fs ap k).1.length+(b9 fs ap k).2.length<=(ap.1.length+ap.2.length)+2*m*m:=by
 have s1:∀(b:AP) (s:Int),True->(fg k (bv fs k.2.2.1) b s).1.length+(fg k (bv fs k.2.2.1) b s).2.length<=(b.1.length+b.2.length)+2*m:=fun b s _=>by
  have:=dn (f:=cU k s) (μ:=fun b:AP=>b.1.length+b.2.length) (c:=2) (P:=fun _=>True) (fun b x _=>gh k s b x) (bv fs k.2.2.1) b fun _ _=>trivial
  have h2:=Nat.mul_le_mul_left 2 (hm k.2.2.1);unfold fg;omega
 have:=dn (f:=fg k (bv fs k.2.2.1)) (μ:=fun b:AP=>b.1.length+b.2.length) (c:=2*m) (P:=fun _=>True) s1 (bv fs k.2.1) ap fun _ _=>trivial
 have h2:=Nat.mul_le_mul_left (2*m) (hm k.2.1);unfold b9;omega
theorem gi {fs:List Int} {m:Nat} (hm:∀x,(bv fs x).length<=m) (ks:List cC):(eP ks fs).1.length+(eP ks fs).2.length<=2*m*m*ks.length:=by
 have:=dn (f:=b9 fs) (μ:=fun b:AP=>b.1.length+b.2.length) (c:=2*m*m) (P:=fun _=>True) (fun b x _=>hG hm b x) ks ([],[]) fun _ _=>trivial
 unfold eP
 simpa using this
theorem fD {cs:List Int} (h:∀c∈cs,1<=c/\c<=3) (x:Int):∀n,(((a9 cs n).map fun t=>t.1).filter fun f=>decide (f=x)).length<=3/\(x<n->True)/\((n:Int)<=x->(((a9 cs n).map fun t=>t.1).filter fun f=>decide (f=x)).length=0)
 |0=>⟨by simp[a9],fun _=>trivial,fun _=>by simp[a9]⟩
 |n+1=>by
  obtain ⟨h1,_,h3⟩:=fD h x n;have c3:(cs.getD n 0).toNat<=3:=by
   rw[BK];cases e:cs[n]? with
   |none=>simp
   |some c=>
    have:=h c (AH e);simp;omega
  have bl:(((Ai (cs.getD n 0).toNat).map fun t:Nat=>(((0+(n:Int):Int),(0+(t:Int):Int)):md)).map fun t=>t.1)=List.replicate (cs.getD n 0).toNat (0+(n:Int)):=by
   rw[BF];apply List.ext_getElem?;intro i;rw[AF,List.getElem?_replicate]
   by_cases c:i<(cs.getD n 0).toNat
   ·rw[List.getElem?_range c,if_pos c];rfl
   ·rw[if_neg c,List.getElem?_eq_none (by simpa using c)];rfl
  have e:((a9 cs (n+1)).map fun t=>t.1)=((a9 cs n).map fun t=>t.1)++List.replicate (cs.getD n 0).toNat (0+(n:Int)):=by
   show ((a9 cs n++_).map _)=_;rw[Aq,bl]
  rw[e,List.filter_append,A9,List.filter_replicate]
  by_cases c:(0+(n:Int))=x
  ·rw[if_pos (decide_eq_true c),List.length_replicate];have:=h3 (by omega)
   exact ⟨by omega,fun _=>trivial,fun z=>by omega⟩
  ·rw[if_neg (by rw[decide_eq_false c];decide)]
   exact ⟨by simpa using h1,fun _=>trivial,fun z=>by simpa using h3 (by omega)⟩
theorem mH:∀(fs:List Int) (x:Int),(bv fs x).length=(fs.filter fun f=>decide (f=x)).length:=by
 intro fs x;unfold bv;rw[A5];have gen:∀n,n<=fs.length->((Ai n).filter fun i=>decide (fs.getD i 0=x)).length=((fs.take n).filter fun f=>decide (f=x)).length:=by
  intro n
  induction n with
  |zero=>intro _;simp
  |succ n ih=>
   intro hn;have hl:fs[n]?=some fs[n]:=A0 (by omega)
   rw[List.range_succ,List.filter_append,A9,ih (by omega),List.take_add_one,hl,Option.toList_some,List.filter_append,A9]
   congr 1
   rw[List.filter_cons,List.filter_cons,BK,hl];simp only[Option.getD_some]
   split<;>simp
 have:=gen fs.length (AB _);rw[List.take_length] at this;exact this
theorem jY {cs:List Int} (h:∀c∈cs,1<=c/\c<=3) (n:Nat) (x:Int):(bv ((a9 cs n).map fun t=>t.1) x).length<=3:=by
 rw[mH];exact (fD h x n).1
theorem gj {fs:List Int} {x y:Int} (h:y∈bv fs x):0<=y/\y<fs.length:=by
 unfold bv at h;obtain ⟨i,hi,rfl⟩:=Ab.mp h;have:=Av.mp (List.mem_filter.mp hi).1;omega
theorem aF.nil {H:Hp} {l:Addr} (e:H l=some (.lst [])):aF H l []:=⟨[],e,dB.nil⟩
theorem aF.other {H:Hp} {l m:Addr} {ks:List Ky} {xs ys:List V} (h:aF H l ks) (e:H m=some (.lst xs)) (n:m≠l):aF (aR H m (.lst ys)) l ks:=by
 obtain ⟨as,h1,h2⟩:=h;refine ⟨as,by rw[ar (Ne.symm n)];exact h1,h2.imp fun t k ht=>?_⟩
 rw[ar (fun z=>by rw[z,e] at ht;cases ht)]
 exact ht
theorem aF.snoc {H:Hp} {l t:Addr} {ks:List Ky} {k:Ky} (h:aF H l ks) (ht:H t=some (.tup (k.map V.int))):∃xs,H l=some (.lst xs)/\xs.length=ks.length/\aF (aR H l (.lst (xs++ [.ref t]))) l (ks++ [k]):=by
 obtain ⟨as,h1,h2⟩:=h;refine ⟨_,h1,by rw[A5];exact h2.1,as++ [t],by rw[ah,Aq];rfl,(h2.snoc ht).imp fun t k ht=>?_⟩
 rw[ar (fun z=>by rw[z,h1] at ht;cases ht)]
 exact ht
theorem lq {α:Type} {R:Addr->α->Prop} {as bs:sJ} {xs ys:List α} (h:dB R as xs) (k:dB R bs ys):dB R (as++bs) (xs++ys):=by
 refine ⟨by rw[A9,A9,h.1,k.1],fun i a x e1 e2=>?_⟩
 by_cases c:i<as.length
 ·rw[AA c] at e1;rw[AA (by rw[<-h.1];exact c)] at e2
  exact h.2 i a x e1 e2
 ·rw[A7 (by omega)] at e1
  rw[A7 (by rw[<-h.1];omega),<-h.1] at e2
  exact k.2 _ a x e1 e2
theorem aF.ext {H:Hp} {l m:Addr} {ks js:List Ky} (h:aF H l ks) (k:aF H m js):∃xs ys,H l=some (.lst xs)/\H m=some (.lst ys)/\xs.length=ks.length/\ys.length=js.length/\aF (aR H l (.lst (xs++ys))) l (ks++js):=by
 obtain ⟨as,h1,h2⟩:=h;obtain ⟨bs,k1,k2⟩:=k;refine ⟨_,_,h1,k1,by rw[A5];exact h2.1,by rw[A5];exact k2.1,as++bs,by rw[ah,Aq],(lq h2 k2).imp fun t k ht=>?_⟩
 rw[ar (fun z=>by rw[z,h1] at ht;cases ht)]
 exact ht
def mQ (A xs:List Ky):Prop:=A.Nodup/\(∀k,k∈A↔k∈xs)/\Rs A
theorem mR:∀{A B:List Ky},A.Perm B->Rs A->Rs B->A=B
 | [],B,p,_,_=>(List.nil_perm.mp p).symm
 |a::A,[],p,_,_=>absurd p.length_eq (by simp)
 |a::A,b::B,p,ha,hb=>by
  have e:a=b:=cN (hb.head a (p.mem_iff.mp Ae)) (ha.head b (p.mem_iff.mpr Ae));subst e;rw[mR (List.Perm.cons_inv p) (B8.mp ha).2 (B8.mp hb).2]
theorem mQ.one {A B xs:List Ky} (h:mQ A xs) (k:mQ B xs):A=B:=mR ((List.perm_ext_iff_of_nodup h.1 k.1).mpr fun x=>(h.2.1 x).trans (k.2.1 x).symm) h.2.2 k.2.2
theorem mQ.len {A xs:List Ky} (h:mQ A xs):A.length<=xs.length:=h.1.length_le_of_subset fun x hx=>(h.2.1 x).mp hx
theorem aF.kn {H:Hp} {l:Addr} {ks:List Ky} (h:aF H l ks) (ne:∀k∈ks,k≠ []):∃xs:List Su.Kn,H l=some (.lst (xs.map fun x=>V.ref x.2))/\xs.map (fun x=>x.1)=ks/\∀x∈xs,H x.2=some (.tup (x.1.map V.int))/\x.1≠ []:=by
 obtain ⟨as,h1,h2⟩:=h;obtain ⟨hl,hr⟩:=h2;have gen:∀(as:sJ) (ks:List Ky),as.length=ks.length->(∀(i:Nat) (a:Addr) (x:Ky),as[i]?=some a->ks[i]?=some x->H a=some (.tup (x.map V.int)))->(∀k∈ks,k≠ [])->∃xs:List Su.Kn,as.map V.ref=xs.map (fun x=>V.ref x.2)/\xs.map (fun x=>x.1)=ks/\∀x∈xs,H x.2=some (.tup (x.1.map V.int))/\x.1≠ []:=by
  intro as
  induction as with
  |nil=>intro ks h _ _;exact ⟨[],rfl,by cases ks with|nil=>rfl|cons _ _=>simp at h,fun x hx=>by cases hx⟩
  |cons a as ih=>
   intro ks h hr hn;cases ks with
   |nil=>simp at h
   |cons k ks=>
    obtain ⟨xs,e1,e2,e3⟩:=ih ks (by simpa using h) (fun i b x q1 q2=>hr (i+1) b x (by simpa using q1) (by simpa using q2)) fun k hk=>hn k (AY _ hk)
    refine ⟨(k,a)::xs,by rw[Ag,Ag,e1],by rw[Ag,e2],fun x hx=>?_⟩
    rcases AT.mp hx with rfl|hx
    ·exact ⟨hr 0 a k rfl rfl,hn k Ae⟩
    ·exact e3 x hx
 obtain ⟨xs,e1,e2,e3⟩:=gen as ks hl hr ne;exact ⟨xs,by rw[<-e1];exact h1,e2,e3⟩
theorem d7 {H:Hp} {l:Addr} {ys:List Su.Kn} (e:H l=some (.lst (ys.map fun y=>V.ref y.2))) (h:∀y∈ys,H y.2=some (.tup (y.1.map V.int))):aF H l (ys.map fun y=>y.1):=by
 refine ⟨ys.map fun y=>y.2,by rw[BF];exact e,by rw[A5,A5],fun i a x e1 e2=>?_⟩
 rw[AF] at e1 e2;obtain ⟨y,hy,rfl⟩:=AR.mp e1;rw[hy] at e2;cases e2;exact h y (AH hy)
theorem nY {k:cC} {s o:Int} {ap:AP} (h:(∀x∈ap.1,x≠ [])/\∀x∈ap.2,x≠ []):(∀x∈(cU k s ap o).1,x≠ [])/\∀x∈(cU k s ap o).2,x≠ []:=by
 unfold cU
 split
 ·refine ⟨h.1,fun x hx=>?_⟩
  rcases AE.mp hx with q|q
  ·exact h.2 x q
  ·rw[Aw.mp q];exact List.cons_ne_nil _ _
 ·refine ⟨fun x hx=>?_,h.2⟩
  rcases AE.mp hx with q|q
  ·exact h.1 x q
  ·unfold eO at q
   split at q
   ·simp only[AT,BI,or_false] at q;rcases q with rfl|rfl<;>exact List.cons_ne_nil _ _
   ·rw[Aw.mp q];exact List.cons_ne_nil _ _
theorem b8 {α β:Type} {f:β->α->β} {P:β->Prop} (h:∀b x,P b->P (f b x)):∀(xs:List α) (b:β),P b->P (xs.foldl f b)
 | [],b,p=>p
 |x::xs,b,p=>b8 h xs (f b x) (h b x p)
def lr (ap:AP):Prop:=(∀x∈ap.1,x≠ [])/\∀x∈ap.2,x≠ []
theorem lw (ks:List cC) (fs:List Int):lr (eP ks fs):=by
 have h0:lr ([],[]):=⟨(fun x hx=>by cases hx),fun x hx=>by cases hx⟩
 have h1:∀(k:cC) (s:Int) (b:AP) (o:Int),lr b->lr (cU k s b o):=fun k s b o hb=>nY hb
 have h2:∀(k:cC) (O:List Int) (b:AP) (s:Int),lr b->lr (fg k O b s):=fun k O b s hb=>b8 (P:=lr) (h1 k s) O b hb
 have h3:∀(b:AP) (k:cC),lr b->lr (b9 fs b k):=fun b k hb=>b8 (P:=lr) (h2 k _) _ b hb
 exact b8 (P:=lr) h3 ks _ h0
def jZ (ap:AP):Prop:=(∀x∈ap.1,x.length<=4000)/\∀x∈ap.2,x.length<=4000
theorem oY {k:cC} {s o:Int} {ap:AP} (h:jZ ap):jZ (cU k s ap o):=by
 unfold cU
 split
 ·refine ⟨h.1,fun x hx=>?_⟩
  rcases AE.mp hx with q|q
  ·exact h.2 x q
  ·rw[Aw.mp q];simp
 ·refine ⟨fun x hx=>?_,h.2⟩
  rcases AE.mp hx with q|q
  ·exact h.1 x q
  ·unfold eO at q
   split at q
   ·simp only[AT,BI,or_false] at q;rcases q with rfl|rfl<;>simp
   ·rw[Aw.mp q];simp
theorem oZ (ks:List cC) (fs:List Int):jZ (eP ks fs):=by
 have h0:jZ ([],[]):=⟨(fun x hx=>by cases hx),fun x hx=>by cases hx⟩
 have h1:∀(k:cC) (s:Int) (b:AP) (o:Int),jZ b->jZ (cU k s b o):=fun k s b o hb=>oY hb
 have h2:∀(k:cC) (O:List Int) (b:AP) (s:Int),jZ b->jZ (fg k O b s):=fun k O b s hb=>b8 (P:=jZ) (h1 k s) O b hb
 have h3:∀(b:AP) (k:cC),jZ b->jZ (b9 fs b k):=fun b k hb=>b8 (P:=jZ) (h2 k _) _ b hb
 exact b8 (P:=jZ) h3 ks _ h0
theorem nZ {a b:Int}:decide (V.int a=V.int b)=decide (a=b):=decide_eq_decide.mpr ⟨V.int.inj,congrArg _⟩
theorem qm {a b:Str}:decide (V.str a=V.str b)=decide (a=b):=decide_eq_decide.mpr ⟨V.str.inj,congrArg _⟩
theorem mI {a b:Str} {p q:Prop} (h1:a=b->p) (h2:a≠b->q):if decide (V.str a=V.str b)=true then p else q:=by
 rw[qm]
 by_cases c:a=b
 ·rw[if_pos (decide_eq_true c)];exact h1 c
 ·rw[if_neg (by rw[decide_eq_false c];decide)]
  exact h2 c
theorem ly {H:Hp} {t1 t2 p:Addr} {k1 k2:Ky} (e1:H t1=some (.tup (k1.map V.int))) (e2:H t2=some (.tup (k2.map V.int))) (np:H p=none):aF (aR H p (.lst [.ref t1,.ref t2])) p [k1,k2]:=by
 refine ⟨[t1,t2],ah,rfl,fun i a x q1 q2=>?_⟩
 match i,q1,q2 with
 |0,q1,q2=>cases q1;cases q2;exact am np _ _ _ e1
 |1,q1,q2=>cases q1;cases q2;exact am np _ _ _ e2
theorem lA {H:Hp} {t1 p:Addr} {k1:Ky} (e1:H t1=some (.tup (k1.map V.int))) (np:H p=none):aF (aR H p (.lst [.ref t1])) p [k1]:=by
 refine ⟨[t1],ah,rfl,fun i a x q1 q2=>?_⟩
 match i,q1,q2 with
 |0,q1,q2=>cases q1;cases q2;exact am np _ _ _ e1
def st1 (k:cC) (s:Int) (ap:AP) (o:Int):AP:=if k.1= "apart" then (ap.1,ap.2++ [[mn s o,mx s o]]) else (ap.1++ [[2*o+1,2*s,0]],ap.2)
theorem n4 {k:cC} (c:k.1= "within") (s o:Int) (ap:AP):cU k s ap o=((st1 k s ap o).1++ [[2*s,2*o+1,0-k.2.2.2]],(st1 k s ap o).2):=by
 have n:¬k.1= "apart" :=fun z=>by rw[c] at z;exact absurd z (by decide)
 unfold cU st1 eO;rw[if_neg n,if_neg n,if_pos c,AI,Int.zero_sub]
 rfl
theorem ji {k:cC} (c:k.1≠ "within") (s o:Int) (ap:AP):cU k s ap o=st1 k s ap o:=by
 unfold cU st1 eO;rw[if_neg c]
def eQ:Sp:=fun vs H Q _=>∃(lt:Addr) (fs:List Int) (x:Int),vs= [.ref lt,.int x]/\TF H lt fs/\fs.length<=1000/\∀(p:Addr) (H':Hp),H p=none->aN H H'->H' p=some (.lst ((bv fs x).map V.int))->Q (.ref p) H'
def eR:Sp:=fun vs H Q _=>∃(a:Addr) (k:cC) (s o:Int),vs= [.ref a,.int s,.int o]/\H a=some (.tup [.str k.1,.int k.2.1,.int k.2.2.1,.int k.2.2.2])/\ -1000<=s/\s<=1000/\ -1000<=o/\o<=1000/\∀(p:Addr) (H':Hp),H p=none->aN H H'->aF H' p (eO k s o)->Q (.ref p) H'
def pc (H:Hp) (Q:VK) (ap:AP):Prop:=∀(t la lb:Addr) (A P:List Ky) (H':Hp),aN H H'->H la=none->H lb=none->la≠lb->H' t=some (.tup [.ref la,.ref lb])->aF H' la A->aF H' lb P->mQ A ap.1->mQ P ap.2->Q (.ref t) H'
def fE (K:A6):Sp:=fun vs H Q _=>∃(r C dx lk lt:Addr) (fl:List (Str×V)) (ks:List cC) (fs:List Int),vs= [.ref r,.ref lt]/\H r=some (.ins C dx fl)/\fm K C/\ai K C "links" /\fl.lookup ("links" :Str)=some (.ref lk)/\LK H lk ks/\TF H lt fs/\ks.length<=100/\fs.length<=100/\(∀x,(bv fs x).length<=3)/\ks.length<=24/\pc H Q (eP ks fs)
def lB:Sp:=fun vs H Q _=>∃(lk lt:Addr) (ks:List cC) (fs:List Int),vs= [.ref lk,.ref lt]/\LK H lk ks/\TF H lt fs/\fs.length<=100/\(∀x,(bv fs x).length<=3)/\ks.length<=24/\pc H Q (eP ks fs)
theorem pf (xs:List V):(dS xs (some 2) (some 26)).length<=24:=by
 unfold dS;rw[AK,List.length_drop];have e1:HT.cF xs.length 0 (some 2)=min 2 xs.length:=by simp[HT.cF];try omega
 have e2:HT.cF xs.length xs.length (some 26)=min 26 xs.length:=by simp[HT.cF];try omega
 omega
def eS (K:A6):Sp:=fun vs H Q _=>∃(a:Addr) (ns:List Int),vs= [.ref a]/\aS K H a (ns.map V.int)/\ns.length<=63/\∀(l:Addr) (H':Hp) (cs:List Int),aN H H'->H' l=some (.lst (cs.map V.int))->2<=cs.length->cs.length<=8->(∀c∈cs,1<=c/\c<=3)->Q (.ref l) H'
def fF (K:A6):Sp:=fun vs H Q _=>∃(a:Addr) (ns:List Int) (m:Int),vs= [.ref a,.int m]/\aS K H a (ns.map V.int)/\ns.length<=63/\2<=m/\m<=8/\∀(l:Addr) (H':Hp) (ks:List cC),aN H H'->LK H' l ks->ks.length<=24->Q (.ref l) H'
def oo (H:Hp):Nat->V->V->Prop
 |0,x,y=>(∃i:Int,x= .int i/\y= .int i)∨∃z:Str,x= .str z/\y= .str z
 |n+1,x,y=>∃a b xs ys,x= .ref a/\y= .ref b/\((H a=some (.lst xs)/\H b=some (.lst ys))∨(H a=some (.tup xs)/\H b=some (.tup ys)))/\xs.length=ys.length/\ys.length<=4000/\∀(i:Nat) (x y:V),xs[i]?=some x->ys[i]?=some y->oo H n x y
def dQ (N:Nat):Sp:=fun vs H Q _=>∃(x y:V) (n:Nat),vs= [x,y]/\n<=N/\oo H n x y/\Q (.bl true) H
theorem lC {H:Hp}:∀{k:Ky} (i:Nat) (x y:V),(k.map V.int)[i]?=some x->(k.map V.int)[i]?=some y->oo H 0 x y:=fun i x y h1 h2=>by
 rw[h1] at h2;cases h2;rw[AF] at h1;obtain ⟨v,_,rfl⟩:=AR.mp h1;exact .inl ⟨v,rfl,rfl⟩
theorem aF.alq {H:Hp} {l m:Addr} {A:List Ky} (h:aF H l A) (k:aF H m A) (few:A.length<=4000) (w:∀a∈A,a.length<=4000):oo H 2 (.ref l) (.ref m):=by
 obtain ⟨as,h1,h2,h3⟩:=h;obtain ⟨bs,k1,k2,k3⟩:=k;refine ⟨l,m,_,_,rfl,rfl,.inl ⟨h1,k1⟩,by rw[A5,A5,h2,k2],by rw[A5,k2];exact few,fun i x y e1 e2=>?_⟩
 obtain ⟨a,ha,rfl⟩:=dC e1;obtain ⟨b,hb,rfl⟩:=dC e2;have il:=(A4.mp ha).1;have ek:=A0 (show i<A.length by omega)
 exact ⟨a,b,_,_,rfl,rfl,.inr ⟨h3 i a _ ha ek,k3 i b _ hb ek⟩,rfl,by rw[A5];exact w _ (List.getElem_mem _),lC⟩
theorem LK.alq {H:Hp} {l m:Addr} {ks:List cC} (h:LK H l ks) (k:LK H m ks) (few:ks.length<=4000):oo H 2 (.ref l) (.ref m):=by
 obtain ⟨as,h2,h1,h3⟩:=h.ex;obtain ⟨bs,k2,k1,k3⟩:=k.ex;refine ⟨l,m,_,_,rfl,rfl,.inl ⟨h1,k1⟩,by rw[A5,A5,h2,k2],by rw[A5,k2];exact few,fun i x y e1 e2=>?_⟩
 obtain ⟨a,ha,rfl⟩:=dC e1;obtain ⟨b,hb,rfl⟩:=dC e2;have il:=(A4.mp ha).1;have ek:=A0 (show i<ks.length by omega)
 refine ⟨a,b,_,_,rfl,rfl,.inr ⟨h3 i a _ ha ek,k3 i b _ hb ek⟩,rfl,by simp,fun j x y q1 q2=>?_⟩
 rw[q1] at q2;cases q2
 match j,q1 with
 |0,q1=>cases q1;exact .inr ⟨_,rfl,rfl⟩
 |1,q1=>cases q1;exact .inl ⟨_,rfl,rfl⟩
 |2,q1=>cases q1;exact .inl ⟨_,rfl,rfl⟩
 |3,q1=>cases q1;exact .inl ⟨_,rfl,rfl⟩
end Sw
namespace Lk42
open PySem L2 Sw XH PyProof.Rows Hm
abbrev sN (x:Addr):Option V:=some (.ref x)
theorem cK {X:Cx} {N P:sI} {sp:Scope} (i:Nat) (sc:aH N P sp) {x:Str} {e:Expr} {te:TE} {pos pos':Pos} (he:PE X e te) (hi:X.N[i]?=some x:=by rfl) (hx:Loc X.env.scope x:=by exact Or.inl rfl) (hn:X.N=N:=by rfl) (hs:swapsWith e (some (.Name x pos')) pos.line X.env=pure false:=by rfl) (hf:X.fn x=true∨X.env.scope.names.lookup x=some .local:=by first|exact .inl rfl|exact .inr rfl|assumption):PS X (.Assign [.Name x pos'] e pos) (lI te (bx i)):=m9 (hn▸sc.nd) hi hx he hs hf
theorem gl {X:Cx} {N P:sI} {sp:Scope} (i:Nat) (sc:aH N P sp) {x:Str} {pos:Pos} (hi:X.N[i]?=some x:=by rfl) (hx:Loc X.env.scope x:=by exact Or.inl rfl) (hn:X.N=N:=by rfl) (hf:X.fn x=true∨X.env.scope.names.lookup x=some .local:=by first|exact .inl rfl|exact .inr rfl|assumption):PG X (.Name x pos) (bx i):=dX (hn▸sc.nd) hi hx hf
theorem eT {X:Cx} {k j:Nat} {x:Str} {ps:sI} {dvs:List V} {sp:Sp} {e:Expr} {es:List Expr} {t:TA} {p pos:Pos} (D:Dx X.prog X.w X.K X.mg X.base bP k x ps dvs sp) (hr:bF j X.A) (ha:PA X (e::es) t) (hk:k<=j:=by decide) (hg:Gl X x:=by rfl) (hdb:(x==("__debug__" :Str))=false:=by decide) (he:starEach (e::es) X.env=(false,eval e X.env)::starEach es X.env:=by rfl) (hpl:(backTo pos (starEach es X.env)).any (·.1)=false:=by rfl):PE X (.Call (.Name x p) (e::es) [] pos) (iW sp [] E0 t):=nD D hr hk hg ha hdb he hpl
def top (i:Nat):Stmt:=PySem.Challenge.pw_stovework_k42_links_of_rounds.main.body.getD i (.Pass ⟨0,0,0,0⟩)
def clsAt (s:Stmt) (i:Nat):Stmt:=match s with| .ClassDef _ _ _ body _ _ _ _ _ _ _=>body.getD i (.Pass ⟨0,0,0,0⟩)|_=>s
abbrev pR:Stmt:=clsAt (top 6) 0
abbrev pS:Stmt:=clsAt (top 8) 0
abbrev qo:Stmt:=clsAt (top 11) 0
abbrev qp:Stmt:=top 4
abbrev qr:Stmt:=top 3
abbrev qs:Stmt:=top 2
abbrev qt:Stmt:=top 13
abbrev qu:Stmt:=top 14
abbrev qM:Stmt:=top 15
abbrev qN:Stmt:=top 15
abbrev ph:Stmt:=top 15
abbrev pq:Stmt:=top 15
abbrev n6:Stmt:=top 15
abbrev n9:Stmt:=top 16
abbrev oa:Stmt:=top 17
abbrev oe:Stmt:=top 18
abbrev og:Stmt:=top 19
abbrev oh:Stmt:=top 20
abbrev gk:Stmt:=top 21
structure Bn (K:A6) (mg:sF) (ra mt q5 q4 on rg rG rV:Addr):Prop where
 rQ:mg "bool" =none
 rp:mg "int" =none
 gt:mg "isinstance" =none
 rb:mg "len" =none
 rf:mg "list" =none
 sj:mg "max" =none
 si:mg "min" =none
 q8:mg "range" =none
 rW:mg "set" =none
 rj:mg "sorted" =none
 ro:mg "str" =none
 rc:mg "tuple" =none
 sB:mg "Cut" =some (.ref ra)
 rZ:mg "Recipe" =some (.ref mt)
 su:mg "Rest" =some (.ref q5)
 ss:mg "Step" =some (.ref q4)
 sq:mg "Warm" =some (.ref on)
 sD:fm K q4
 sC:Mk K q4 rg
 sw:fm K ra
 so:Mk K ra rg
 sh:fm K q5
 sf:Mk K q5 rg
 sg:fm K on
 se:Mk K on rG
 rh:fm K mt
 rX:Mk K mt rV
 r9:ai K q4 "name"
 r6:ai K q4 "least"
 sd:ai K q4 "most"
 r8:ai K q4 "uses"
 rY:ai K q4 "second"
 rS:ai K ra "name"
 rP:ai K ra "least"
 rT:ai K ra "most"
 rR:ai K ra "uses"
 rF:ai K ra "second"
 rN:ai K q5 "name"
 rE:ai K q5 "least"
 rO:ai K q5 "most"
 rM:ai K q5 "uses"
 rB:ai K q5 "second"
 rJ:ai K on "name"
 rD:ai K on "least"
 rK:ai K on "most"
 rH:ai K on "uses"
 rA:ai K on "second"
 rL:ai K on "fill"
 rC:ai K mt "name"
 rk:ai K mt "plates"
 rq:ai K mt "takes"
 rz:ai K mt "steps"
 q9:ai K mt "links"
 rn:nG K q4 "__init__" rg
section
variable {P:Program} {w:World} {K:A6} {mg:sF} {base:Heap} {f:Addr} {fd:FuncData} {ra mt q5 q4 on rg rG rV:Addr}
variable (B:Bn K mg ra mt q5 q4 on rg rG rV)
include B
theorem qw {dV:Value} (F:bC K "__init__" "Step.__init__" pR dV f fd):bu P w K mg base bP 1 f fd ["self","name","least","most","uses","second"] (cA K):=by
 have sc:aH ["self","name","least","most","uses","second"] ["self","name","least","most","uses","second"] (aw pR):=fY (by decide+kernel)
 refine F.ok sc (fun vs H Q E h=>?_) (fun cdv A outer s H vs Q E hr h=>?_)
 ·obtain ⟨_,_,_,_,_,_,rfl,_⟩:=h
  rfl
 obtain ⟨a,C,dx,nm,l,m,rfl,e0,sc0,q⟩:=h;refine ⟨_,(ae (b4 (pv 0) (pv 1) rfl) (ae (b4 (pv 0) (pv 2) rfl) (ae (b4 (pv 0) (pv 3) rfl) (ae (b4 (pv 0) (gv (aQ kq (pv 4) ic (aM _)) (@ba _ _ _ _ ad) (bX bh rfl B.rf boot_list (@aa _ _ _ _ _ (pv 4) ad rfl))) rfl) (ag (b4 (pv 0) (gv (aQ kq (pv 5) ic (aM _)) ic (@bt _ _ _ _ _ (@aa _ _ _ _ _ (aP bR (pv 5) af (fun _ _=>rfl)) (@aa _ _ _ _ _ (aP bR (pv 5) af (fun _ _=>rfl)) (@aa _ _ _ _ _ (bX bh rfl B.rf boot_list (@aa _ _ _ _ _ (aP bR (pv 5) af (fun _ _=>rfl)) ad rfl)) ad rfl) rfl) rfl))) rfl)))))),?_⟩
 try dsimp only[cxK]
 refine ⟨_,rfl,_,rfl,a,C,dx,_,rfl,e0,sc0.cl,sc0.name,by decide,?_⟩
 refine ⟨_,rfl,_,rfl,a,C,dx,_,rfl,ah,sc0.cl,sc0.least,(by have:=aA "name" nm [];simp at this;omega),?_⟩
 refine ⟨_,rfl,_,rfl,a,C,dx,_,rfl,ah,sc0.cl,sc0.most,(by have:=aA "name" nm [];have:=aA "least" l (az "name" nm []);simp at*;omega),?_⟩
 have k0:=(((Kept.refl H a).put (.ins C dx (az "name" nm []))).put (.ins C dx (az "least" l (az "name" nm [])))).put (.ins C dx (az "most" m (az "least" l (az "name" nm []))));have ea:(aR (aR (aR H a (.ins C dx (az "name" nm []))) a (.ins C dx (az "least" l (az "name" nm [])))) a (.ins C dx (az "most" m (az "least" l (az "name" nm []))))) a=some (.ins C dx (az "most" m (az "least" l (az "name" nm [])))):=ah;generalize aR (aR (aR H a (.ins C dx (az "name" nm []))) a (.ins C dx (az "least" l (az "name" nm [])))) a (.ins C dx (az "most" m (az "least" l (az "name" nm []))))=H1 at k0 ea⊢;have l3:(az "most" m (az "least" l (az "name" nm []))).length<=3:=by
  have h1:=aA "name" nm [];have h2:=aA "least" l (az "name" nm []);have h3:=aA "most" m (az "least" l (az "name" nm []));simp at h1;omega
 refine ⟨_,rfl,rfl,_,rfl,dT rfl ⟨by show 0<=sizeLine;decide,fun u nu=>?_⟩⟩
 have ua:u≠a:=fun z=>by rw[z,ea] at nu;cases nu
 refine ⟨_,rfl,a,C,dx,_,rfl,(by rw[ar (Ne.symm ua)];exact ea),sc0.cl,sc0.uses,by omega,?_⟩
 refine ⟨_,rfl,rfl,_,rfl,dT rfl ⟨_,rfl,a,C,dx,_,rfl,ah,sc0.cl,sc0.second,(by have:=aA "uses" (.ref u) (az "most" m (az "least" l (az "name" nm [])));omega),?_⟩⟩
 refine q u _ ua (((k0.new nu _).put _).put _) (by rw[ar ua,ar ua];exact ah) ah
theorem qx {dV:Value} (F:bC K "__init__" "Warm.__init__" pS dV f fd) (DZ0:lD P w K mg base bP 1 rg ["self","name","least","most","uses","second"] [.non,.non] (cA K)):bu P w K mg base bP 2 f fd ["self","name","least","most","fill","uses","second"] (c4 K):=by
 have sc:aH ["self","name","least","most","fill","uses","second"] ["self","name","least","most","fill","uses","second"] (aw pS):=fY (by decide+kernel)
 refine F.ok sc (fun vs H Q E h=>?_) (fun cdv A outer s H vs Q E hr h=>?_)
 ·obtain ⟨_,_,_,_,_,_,_,rfl,_⟩:=h
  rfl
 obtain ⟨a,C,dx,nm,l,m,fl,rfl,e0,sc0,nf,q⟩:=h;refine ⟨_,(ae (aX (oT B.rn DZ0 hr (by decide) rfl B.ss (@aa _ _ _ _ _ (pv 0) (@aa _ _ _ _ _ (pv 1) (@aa _ _ _ _ _ (pv 2) (@aa _ _ _ _ _ (pv 3) (@aa _ _ _ _ _ (pv 5) (@aa _ _ _ _ _ (pv 6) ad rfl) rfl) rfl) rfl) rfl) rfl))) (ag (b4 (pv 0) (pv 4) rfl))),?_⟩
 try dsimp only[cxK]
 refine ⟨_,rfl,_,rfl,_,rfl,_,rfl,_,rfl,_,rfl,a,C,dx,nm,l,m,rfl,e0,sc0,fun u H1 ua k1 eu ea=>?_⟩
 exact ⟨_,rfl,_,rfl,a,C,dx,_,rfl,ea,sc0.cl,nf,(by have:=jL (nm:=nm) (l:=l) (m:=m) (u:= .ref u) (s:= .non);omega),q u _ ua (k1.put _) (by rw[ar ua];exact eu) ah⟩
theorem qy {dV:Value} (F:bC K "__init__" "Recipe.__init__" qo dV f fd):bu P w K mg base bP 1 f fd ["self","name","plates","takes","steps","links"] (fx K):=by
 have sc:aH ["self","name","plates","takes","steps","links"] ["self","name","plates","takes","steps","links"] (aw qo):=fY (by decide+kernel)
 refine F.ok sc (fun vs H Q E h=>?_) (fun cdv A outer s H vs Q E hr h=>?_)
 ·obtain ⟨_,_,_,_,_,_,_,_,_,_,_,rfl,_⟩:=h
  rfl
 obtain ⟨a,C,dx,lt,ls,lk,nm,p,xt,xs,xk,rfl,e0,sc0,et,es,ek,q⟩:=h;refine ⟨_,(ae (b4 (pv 0) (pv 1) rfl) (ae (b4 (pv 0) (pv 2) rfl) (ae (b4 (pv 0) (bX bh rfl B.rf boot_list (@aa _ _ _ _ _ (pv 3) ad rfl)) rfl) (ae (b4 (pv 0) (bX bh rfl B.rf boot_list (@aa _ _ _ _ _ (pv 4) ad rfl)) rfl) (ag (b4 (pv 0) (bX bh rfl B.rf boot_list (@aa _ _ _ _ _ (pv 5) ad rfl)) rfl)))))),?_⟩;try dsimp only[cxK]
 have ne:∀{b:Addr} {zs:List V},H b=some (.lst zs)->b≠a:=fun hb z=>by subst z;rw[e0] at hb;cases hb
 refine ⟨_,rfl,_,rfl,a,C,dx,_,rfl,e0,sc0.cl,sc0.name,by decide,?_⟩
 refine ⟨_,rfl,_,rfl,a,C,dx,_,rfl,ah,sc0.cl,sc0.plates,(by have:=aA "name" nm [];simp at this;omega),?_⟩
 have k0:=((Kept.refl H a).put (.ins C dx (az "name" nm []))).put (.ins C dx (az "plates" p (az "name" nm [])));have ea:(aR (aR H a (.ins C dx (az "name" nm []))) a (.ins C dx (az "plates" p (az "name" nm [])))) a=some (.ins C dx (az "plates" p (az "name" nm []))):=ah;generalize aR (aR H a (.ins C dx (az "name" nm []))) a (.ins C dx (az "plates" p (az "name" nm [])))=H1 at k0 ea⊢;have l2:(az "plates" p (az "name" nm [])).length<=2:=by
  have h1:=aA "name" nm [];have h2:=aA "plates" p (az "name" nm []);simp at h1;omega
 obtain ⟨f2,ef2⟩:∃f2,f2=az "plates" p (az "name" nm []):=⟨_,rfl⟩;rw[<-ef2] at ea l2;have et1:=k0 _ _ et (ne et);refine ⟨_,rfl,lt,xt,rfl,.inl (aS.of et1),fun la na=>?_⟩
 have laa:la≠a:=fun z=>by rw[z,ea] at na;cases na
 refine ⟨_,rfl,a,C,dx,_,rfl,(by rw[ar (Ne.symm laa)];exact ea),sc0.cl,sc0.takes,by omega,?_⟩
 have k1:=(k0.new na (.lst xt)).put (.ins C dx (az "takes" (.ref la) f2));have ea1:(aR (aR H1 la (.lst xt)) a (.ins C dx (az "takes" (.ref la) f2))) a=some (.ins C dx (az "takes" (.ref la) f2)):=ah;generalize aR (aR H1 la (.lst xt)) a (.ins C dx (az "takes" (.ref la) f2))=H2 at k1 ea1⊢;have l3:=aA "takes" (.ref la) f2;obtain ⟨f3,ef3⟩:∃f3,f3=az "takes" (.ref la) f2:=⟨_,rfl⟩;rw[<-ef3] at ea1 l3;have es1:=k1 _ _ es (ne es);refine ⟨_,rfl,ls,xs,rfl,.inl (aS.of es1),fun lb nb=>?_⟩
 have lba:lb≠a:=fun z=>by rw[z,ea1] at nb;cases nb
 refine ⟨_,rfl,a,C,dx,_,rfl,(by rw[ar (Ne.symm lba)];exact ea1),sc0.cl,sc0.steps,by omega,?_⟩
 have k2:=(k1.new nb (.lst xs)).put (.ins C dx (az "steps" (.ref lb) f3));have ea2:(aR (aR H2 lb (.lst xs)) a (.ins C dx (az "steps" (.ref lb) f3))) a=some (.ins C dx (az "steps" (.ref lb) f3)):=ah;generalize aR (aR H2 lb (.lst xs)) a (.ins C dx (az "steps" (.ref lb) f3))=H3 at k2 ea2⊢;have l4:=aA "steps" (.ref lb) f3;obtain ⟨f4,ef4⟩:∃f4,f4=az "steps" (.ref lb) f3:=⟨_,rfl⟩;rw[<-ef4] at ea2 l4;have ek1:=k2 _ _ ek (ne ek);refine ⟨_,rfl,lk,xk,rfl,.inl (aS.of ek1),fun lc nc=>?_⟩
 have lca:lc≠a:=fun z=>by rw[z,ea2] at nc;cases nc
 refine ⟨_,rfl,a,C,dx,_,rfl,(by rw[ar (Ne.symm lca)];exact ea2),sc0.cl,sc0.links,by omega,?_⟩
 refine q lc (.ref la) (.ref lb) _ lca ((k2.new nc (.lst xk)).put _) (by rw[ar lca];exact ah) ?_
 rw[ah,ef4,ef3,ef2]
 rfl
theorem qz {dV:Value} (F:bC K "places_of" "places_of" qp dV f fd):bu P w K mg base bP 1 f fd ["tasks","step"] eQ:=by
 have sc:aH ["tasks","step"] ["tasks","step"] (aw qp):=fY (by decide+kernel)
 refine F.ok sc (fun vs H Q E h=>?_) (fun cdv A outer s H vs Q E hr h=>?_)
 ·obtain ⟨_,_,_,rfl,_⟩:=h
  rfl
 obtain ⟨lt,fs,x,rfl,⟨as,b1,b2,b3⟩,fl,q⟩:=h;have sl:sizeLine=16777216:=sizeLine_eq;refine ⟨_,(ag (aB (dy (own:= "place") (ys:= ["step","tasks"]) (js:= [1,0]) rfl (qh (ol (ol nE)) (.cons rfl (.cons rfl .nil)) (by decide) rfl rfl rfl rfl rfl rfl rfl rfl) (aW rfl B.q8 (@aa _ _ _ _ _ (aj av rfl B.rb boot_len (@aa _ _ _ _ _ (pv 0) ad rfl)) ad rfl)) (fun C fp s H=>(aQ bB (aP (fX (K:=K) rfl) (aP (nM (K:=K) rfl) (pv 2) (pv 0) (fun _ _=>rfl)) af (fun _ _=>rfl)) (pv 1) (aM _))) (fun C fp s H=>(pv 0))))),?_⟩
 try dsimp only[cxK]
 refine ⟨_,rfl,lt,_,rfl,.inl (aS.of b2),_,rfl,by omega,(by rw[A5];omega),?_⟩
 refine c5 (fun i=>decide (fs.getD i 0=x)) (fun i=> .int (0+(i:Int))) (by rw[A5];omega) (fun i hi H2 g2 R hR=>?_) (fun i hi H2 g2 Q' hQ=>⟨_,rfl,hQ⟩) (fun p2 H2 np2 g2 e3=>?_)
 ·have hi':i<as.length:=by rw[A5] at hi;omega
  obtain ⟨f,hf,hd⟩:=dh (d:=(0:Int)) b1 (A0 hi');obtain ⟨v,w,e⟩:=b3 i _ f (A0 hi') hf;have at_:cR (as.map V.ref) (0+(i:Int))=some (.ref as[i]):=by
   rw[An];exact aT (by rw[AF,A0 hi'];rfl)
  rw[hd] at hR;exact ⟨_,rfl,_,rfl,lt,_,_,_,rfl,rfl,aS.of (g2 _ _ b2),at_,_,_,_,_,rfl,rfl,cr.of (g2 _ _ e),rfl,_,rfl,rfl,_,rfl,by rw[nZ];exact hR⟩
 ·refine q p2 H2 np2 g2 ?_;rw[e3,eN,BR,A5,b1]
theorem qA {dV:Value} (F:bC K "arcs_of_link" "arcs_of_link" qr dV f fd):bu P w K mg base bP 1 f fd ["link","one","other"] eR:=by
 have sc:aH ["link","one","other","begin","end"] ["link","one","other"] (aw qr):=fY (by decide+kernel)
 refine F.ok sc (fun vs H Q E h=>?_) (fun cdv A outer s H vs Q E hr h=>?_)
 ·obtain ⟨_,_,_,_,rfl,_⟩:=h
  rfl
 obtain ⟨a,k,s,o,rfl,ea,s0,s1,o0,o1,q⟩:=h;have sl:sizeLine=16777216:=sizeLine_eq;refine ⟨_,(ae (cK 3 sc (ao bn af (pv 1))) (ae (cK 4 sc (ao br (ao bn af (pv 2)) af)) (ae (aJ (aQ bB (aP bR (pv 0) af (fun _ _=>rfl)) cq (aM _)) (ag (aB (@ba _ _ _ _ (@aa _ _ _ _ _ (@bt _ _ _ _ _ (@aa _ _ _ _ _ (pv 4) (@aa _ _ _ _ _ (pv 3) (@aa _ _ _ _ _ af ad rfl) rfl) rfl)) (@aa _ _ _ _ _ (@bt _ _ _ _ _ (@aa _ _ _ _ _ (pv 3) (@aa _ _ _ _ _ (pv 4) (@aa _ _ _ _ _ (oG nq (aP bR (pv 0) af (fun _ _=>rfl))) ad rfl) rfl) rfl)) ad rfl) rfl)))) aE) (ag (aB (@ba _ _ _ _ (@aa _ _ _ _ _ (@bt _ _ _ _ _ (@aa _ _ _ _ _ (pv 4) (@aa _ _ _ _ _ (pv 3) (@aa _ _ _ _ _ af ad rfl) rfl) rfl)) ad rfl))))))),?_⟩
 try dsimp only[cxK]
 refine ⟨_,rfl,_,_,rfl,rfl,IntMulOk.of_left (by decide),?_⟩
 refine ⟨_,rfl,_,_,rfl,rfl,IntMulOk.of_left (by decide),_,_,rfl,rfl,?_⟩
 dsimp only[bx,bL];refine ⟨_,rfl,a,_,_,_,rfl,rfl,cr.of ea,rfl,rfl,_,rfl,mI (fun c=>?_) fun c=>?_⟩
 ·refine ⟨_,rfl,_,rfl,by show 3<=sizeLine;decide,fun t1 n1=>?_⟩
  have g1:=am n1 (.tup [.int (2*o+1),.int (2*s),.int 0]);have e1:aR H t1 (.tup [.int (2*o+1),.int (2*s),.int 0]) t1=some (.tup ([2*o+1,2*s,0].map V.int)):=ah;generalize aR H t1 (.tup [.int (2*o+1),.int (2*s),.int 0])=H1 at g1 e1⊢;refine ⟨_,rfl,_,rfl,_,rfl,a,_,_,_,rfl,rfl,cr.of (g1 _ _ ea),rfl,?_⟩;refine ⟨_,rfl,by show 3<=sizeLine;decide,fun t2 n2=>?_⟩
  have g2:=am n2 (.tup [.int (2*s),.int (2*o+1),.int (-k.2.2.2)]);refine ⟨by show 2<=sizeLine;decide,fun p np=>?_⟩
  refine q p _ ((g1.trans g2).free np) ((g1.trans g2).trans (am np _)) ?_;unfold eO;rw[if_pos c];exact ly (k1:= [2*o+1,2*s,0]) (k2:= [2*s,2*o+1,-k.2.2.2]) (g2 _ _ e1) ah np
 ·refine ⟨_,rfl,_,rfl,by show 3<=sizeLine;decide,fun t1 n1=>⟨by show 1<=sizeLine;decide,fun p np=>?_⟩⟩
  refine q p _ ((am n1 _).free np) ((am n1 _).trans (am np _)) ?_;unfold eO;rw[if_neg c];exact lA (k1:= [2*o+1,2*s,0]) ah np
theorem qB {dV:Value} (F:bC K "links_of" "links_of" qs dV f fd) (DZ3:Dx P w K mg base bP 1 "places_of" ["tasks","step"] [] eQ) (DZ4:Dx P w K mg base bP 1 "arcs_of_link" ["link","one","other"] [] eR):bu P w K mg base bP 3 f fd ["recipe","tasks"] (fE K):=by
 have sc:aH ["recipe","tasks","arcs","pairs","link","one","other"] ["recipe","tasks"] (aw qs):=fY (by decide+kernel)
 refine F.ok sc (fun vs H Q E h=>?_) (fun cdv A outer s H vs Q E hr h=>?_)
 ·obtain ⟨_,_,_,_,_,_,_,_,rfl,_⟩:=h
  rfl
 obtain ⟨r,C,dx,lk,lt,fl,ks,fs,rfl,er,cl,na,lu,hk,ht,k100,f100,p3,k24,q⟩:=h;have sl:sizeLine=16777216:=sizeLine_eq;refine ⟨_,(ae (cK 2 sc (@ba _ _ _ _ ad)) (ae (cK 3 sc (@ba _ _ _ _ ad)) (ae (bf PassesOwn.never rfl (cw (ku (pv 0) rfl)) (gl 4 sc) (ag (bf PassesOwn.never rfl (cw (eT DZ3 hr (@aa _ _ _ _ _ (pv 1) (@aa _ _ _ _ _ (aP bR (pv 4) af (fun _ _=>rfl)) ad rfl) rfl))) (gl 5 sc) (ag (bf PassesOwn.never rfl (cw (eT DZ3 hr (@aa _ _ _ _ _ (pv 1) (@aa _ _ _ _ _ (aP bR (pv 4) af (fun _ _=>rfl)) ad rfl) rfl))) (gl 6 sc) (ag (aJ (aQ bB (aP bR (pv 4) af (fun _ _=>rfl)) cq (aM _)) (ag (aX (bN AN AQ AO aK (pv 3) (@aa _ _ _ _ _ (@bt _ _ _ _ _ (@aa _ _ _ _ _ (aj (fk rfl) rfl B.si boot_min (@aa _ _ _ _ _ (pv 5) (@aa _ _ _ _ _ (pv 6) ad rfl) rfl)) (@aa _ _ _ _ _ (aj (fj rfl) rfl B.sj boot_max (@aa _ _ _ _ _ (pv 5) (@aa _ _ _ _ _ (pv 6) ad rfl) rfl)) ad rfl) rfl)) ad rfl)))) (ag (aX (bN AN PySem.F.slot_list_extend PySem.F.type_list_extend jA (pv 2) (@aa _ _ _ _ _ (eT DZ4 hr (@aa _ _ _ _ _ (pv 4) (@aa _ _ _ _ _ (pv 5) (@aa _ _ _ _ _ (pv 6) ad rfl) rfl) rfl)) ad rfl))))))))))) (ag (aB (@bt _ _ _ _ _ (@aa _ _ _ _ _ (Su.cj rfl hr.units rfl B.rj rfl B.rW PyProof.Rows.Boot.«sorted» PyProof.Rows.Boot.«set» (pv 2)) (@aa _ _ _ _ _ (Su.cj rfl hr.units rfl B.rj rfl B.rW PyProof.Rows.Boot.«sorted» PyProof.Rows.Boot.«set» (pv 3)) ad rfl) rfl))))))),?_⟩
 try dsimp only[cxK]
 refine ⟨by show 0<=sizeLine;decide,fun la nla=>?_⟩
 have g1:=am nla (.lst []);have ea:aR H la (.lst []) la=some (.lst []):=ah;generalize aR H la (.lst [])=H1 at g1 ea⊢;refine ⟨by show 0<=sizeLine;decide,fun lb nlb=>?_⟩
 have g2:=am nlb (.lst []);have eb:aR H1 lb (.lst []) lb=some (.lst []):=ah;have ab:la≠lb:=fun z=>by rw[<-z,ea] at nlb;cases nlb
 have ea:=g2 _ _ ea;have nb0:=g1.free nlb;have g12:=g1.trans g2;generalize aR H1 lb (.lst [])=H2 at g2 eb ea g12⊢;dsimp only[bx,bL];obtain ⟨as,a1,a2,a3⟩:=hk.ex;refine cut (fun σ H'=>∃o4 o5 o6,σ= [sN r,sN lt,sN la,sN lb,o4,o5,o6]/\aN H H'/\aF H' la (eP ks fs).1/\aF H' lb (eP ks fs).2) (fun N hN=>?_) ?_
 ·refine ⟨_,rfl,r,C,dx,fl,_,rfl,g12 _ _ er,cl,na,lu,lk,rfl,⟨_,aS.of (g12 _ _ a2)⟩,bZ (xs:=as.map V.ref) (fun i σ H'=>∃o4 o5 o6,σ= [sN r,sN lt,sN la,sN lb,o4,o5,o6]/\aN H H'/\aF H' la (((ks.take i).foldl (b9 fs) (([],[]):AP))).1/\aF H' lb (((ks.take i).foldl (b9 fs) (([],[]):AP))).2/\(((ks.take i).foldl (b9 fs) (([],[]):AP))).1.length+(((ks.take i).foldl (b9 fs) (([],[]):AP))).2.length<=18*i) ⟨none,none,none,rfl,g12,.nil ea,.nil eb,by simp⟩ (fun i σ H' _ h=>by obtain ⟨_,_,_,_,g,_⟩:=h;exact aS.of (g _ _ a2)) ?_ ?_⟩
  ·rintro i x σ H3 hx ⟨o4,o5,o6,rfl,g3,ta,tb,l1⟩;obtain ⟨a,ha,rfl⟩:=dC hx;obtain ⟨k,hk',_⟩:=dh (d:=qL) a1 ha;have i24:i<24:=by have:=(A4.mp hk').1;omega
   have et:=a3 i a k ha hk';have ftk:=bY (b9 fs) (([],[]):AP) hk';have lK:=hG p3 ((ks.take i).foldl (b9 fs) ([],[])) k;rw[<-ftk] at lK;rw[ftk];rw[ftk] at lK;generalize hb0:(ks.take i).foldl (b9 fs) ([],[])=ap0 at ta tb l1 lK⊢;refine ⟨_,rfl,_,rfl,a,_,_,_,rfl,rfl,cr.of (g3 _ _ et),rfl,lt,fs,k.2.1,rfl,ht.same g3,by omega,fun p H4 np g4 ep=>?_⟩
   have g34:=g3.trans g4;have pa:p≠la:=fun z=>by obtain ⟨_,e,_⟩:=ta;rw[z,e] at np;cases np
   have pb:p≠lb:=fun z=>by obtain ⟨_,e,_⟩:=tb;rw[z,e] at np;cases np
   refine ⟨p,rfl,⟨_,aS.of ep⟩,bZ (xs:=(bv fs k.2.1).map V.int) (fun j σ H'=>∃o5 o6,σ= [sN r,sN lt,sN la,sN lb,sN a,o5,o6]/\aN H H'/\H' p=some (.lst ((bv fs k.2.1).map V.int))/\aF H' la (((bv fs k.2.1).take j).foldl (fg k (bv fs k.2.2.1)) ap0).1/\aF H' lb (((bv fs k.2.1).take j).foldl (fg k (bv fs k.2.2.1)) ap0).2/\(((bv fs k.2.1).take j).foldl (fg k (bv fs k.2.2.1)) ap0).1.length+(((bv fs k.2.1).take j).foldl (fg k (bv fs k.2.2.1)) ap0).2.length<=18*i+6*j) ⟨_,_,rfl,g34,ep,ta.same g4,tb.same g4,by simpa using l1⟩ (fun j σ H' _ h=>by obtain ⟨_,_,_,_,e,_⟩:=h;exact aS.of e) ?_ ?_⟩
   ·rintro j x σ H5 hx ⟨o5,o6,rfl,g5,ep5,ta,tb,l2⟩;rw[AF] at hx;obtain ⟨s,hs,rfl⟩:=AR.mp hx;have j3:j<3:=by have:=(A4.mp hs).1;have:=p3 k.2.1;omega
    have sb:=gj (AH hs);rw[bY (fg k (bv fs k.2.2.1)) ap0 hs];generalize hb1:((bv fs k.2.1).take j).foldl (fg k (bv fs k.2.2.1)) ap0=ap1 at ta tb l2⊢;refine ⟨_,rfl,_,rfl,a,_,_,_,rfl,rfl,cr.of (g5 _ _ et),rfl,lt,fs,k.2.2.1,rfl,ht.same g5,by omega,fun p2 H6 np2 g6 ep2=>?_⟩
    have g56:=g5.trans g6;have pa2:p2≠la:=fun z=>by obtain ⟨_,e,_⟩:=ta;rw[z,e] at np2;cases np2
    have pb2:p2≠lb:=fun z=>by obtain ⟨_,e,_⟩:=tb;rw[z,e] at np2;cases np2
    refine ⟨p2,rfl,⟨_,aS.of ep2⟩,bZ (xs:=(bv fs k.2.2.1).map V.int) (fun u σ H'=>∃o6,σ= [sN r,sN lt,sN la,sN lb,sN a,some (.int s),o6]/\aN H H'/\H' p=some (.lst ((bv fs k.2.1).map V.int))/\H' p2=some (.lst ((bv fs k.2.2.1).map V.int))/\aF H' la (((bv fs k.2.2.1).take u).foldl (cU k s) ap1).1/\aF H' lb (((bv fs k.2.2.1).take u).foldl (cU k s) ap1).2/\(((bv fs k.2.2.1).take u).foldl (cU k s) ap1).1.length+(((bv fs k.2.2.1).take u).foldl (cU k s) ap1).2.length<=18*i+6*j+2*u) ⟨_,rfl,g56,g6 _ _ ep5,ep2,ta.same g6,tb.same g6,by simpa using l2⟩ (fun u σ H' _ h=>by obtain ⟨_,_,_,_,e,_⟩:=h;exact aS.of e) ?_ ?_⟩
    ·rintro u x σ H7 hx ⟨o6,rfl,g7,ep7,ep27,ta,tb,l3⟩;rw[AF] at hx;obtain ⟨o,ho,rfl⟩:=AR.mp hx;have u3:u<3:=by have:=(A4.mp ho).1;have:=p3 k.2.2.1;omega
     have ob:=gj (AH ho);rw[bY (cU k s) ap1 ho];have lO:=gh k s (((bv fs k.2.2.1).take u).foldl (cU k s) ap1) o;generalize hb2:((bv fs k.2.2.1).take u).foldl (cU k s) ap1=ap2 at ta tb l3 lO⊢;refine ⟨_,rfl,a,_,_,_,rfl,rfl,cr.of (g7 _ _ et),rfl,rfl,_,rfl,mI (fun c=>?_) fun c=>?_⟩
     ·have e2:cU k s ap2 o=(ap2.1,ap2.2++ [[mn s o,mx s o]]):=if_pos c;obtain ⟨_,eb7,_⟩:=id tb;refine ⟨_,rfl,.inl ⟨rfl,_,aS.of eb7⟩,_,rfl,_,rfl,_,_,rfl,_,rfl,_,rfl,_,_,rfl,by show 2<=sizeLine;decide,fun t nt=>?_⟩
      have g8:=am nt (.tup [.int (mn s o),.int (mx s o)]);obtain ⟨xs,x1,x2,x3⟩:=(tb.same g8).snoc (t:=t) (k:= [mn s o,mx s o]) ah;obtain ⟨_,ea7,_⟩:=id ta;refine ⟨lb,xs,_,rfl,rfl,x1,by omega,_,rfl,cV (g7.trans g8) nb0 _,by rw[ar pb];exact g8 _ _ ep7,by rw[ar pb2];exact g8 _ _ ep27,?_,?_,by omega⟩
      ·rw[e2];exact (ta.same g8).other x1 (Ne.symm ab)
      ·rw[e2];exact x3
     ·have e2:cU k s ap2 o=(ap2.1++eO k s o,ap2.2):=if_neg c;obtain ⟨_,ea7,_⟩:=id ta;refine ⟨_,rfl,.inl ⟨rfl,_,aS.of ea7⟩,_,rfl,_,rfl,_,rfl,a,k,s,o,rfl,g7 _ _ et,by omega,by omega,by omega,by omega,fun p3 H8 n8 g8 t8=>?_⟩
      obtain ⟨xs,ys,x1,x2,x3,x4,x5⟩:=(ta.same g8).ext t8;have al:=hE k s o;refine ⟨la,p3,xs,ys,rfl,rfl,x1,x2,by omega,_,rfl,cV (g7.trans g8) nla _,by rw[ar pa];exact g8 _ _ ep7,by rw[ar pa2];exact g8 _ _ ep27,?_,?_,by omega⟩
      ·rw[e2];exact x5
      ·rw[e2];exact (tb.same g8).other x1 ab
    ·rintro σ H7 ⟨o6,rfl,g7,ep7,ep27,ta,tb,l3⟩;rw[A5,bG] at ta tb l3;have:=p3 k.2.2.1;exact ⟨_,_,rfl,g7,ep7,ta,tb,by unfold fg;omega⟩
   ·rintro σ H5 ⟨o5,o6,rfl,g5,ep5,ta,tb,l2⟩;rw[A5,bG] at ta tb l2;have:=p3 k.2.1;exact ⟨_,_,_,rfl,g5,ta,tb,by unfold b9;omega⟩
  ·rintro σ H3 ⟨o4,o5,o6,rfl,g3,ta,tb,l1⟩;rw[A5,a1,bG] at ta tb;exact hN _ _ ⟨o4,o5,o6,rfl,g3,ta,tb⟩
 rintro σ H3 ⟨o4,o5,o6,rfl,g3,ta,tb⟩;have few:=gi p3 ks;have ne:=lw ks fs;obtain ⟨xs,x1,x2,x3⟩:=ta.kn ne.1;refine ⟨_,rfl,la,xs,rfl,aS.of x1,?_,x3,fun pa ys npa y1 y2 y3 y4=>?_⟩
 ·have:=congrArg BW x2;rw[A5] at this;omega
 have g4:=am npa (.lst (ys.map fun y=>V.ref y.2))
 have tA:aF (aR H3 pa (.lst (ys.map fun y=>V.ref y.2))) pa (ys.map fun y=>y.1):=d7 ah fun y hy=>g4 _ _ (x3 y (y1 y hy)).1
 generalize aR H3 pa (.lst (ys.map fun y=>V.ref y.2))=H4 at g4 tA⊢
 obtain ⟨ws,w1,w2,w3⟩:=(tb.same g4).kn ne.2;refine ⟨_,rfl,lb,ws,rfl,aS.of w1,?_,w3,fun pb zs npb z1 z2 z3 z4=>?_⟩
 ·have:=congrArg BW w2;rw[A5] at this;omega
 have g5:=am npb (.lst (zs.map fun y=>V.ref y.2))
 have tB:aF (aR H4 pb (.lst (zs.map fun y=>V.ref y.2))) pb (zs.map fun y=>y.1):=d7 ah fun y hy=>g5 _ _ (w3 y (z1 y hy)).1
 have pab:pa≠pb:=fun z=>by obtain ⟨_,e,_⟩:=tA;rw[z,npb] at e;cases e
 generalize aR H4 pb (.lst (zs.map fun y=>V.ref y.2))=H5 at g5 tB⊢
 refine ⟨by show 2<=sizeLine;decide,fun t nt=>?_⟩
 have g6:=am nt (.tup [.ref pa,.ref pb]);rw[x2] at y3;rw[w2] at z3;exact q t pa pb _ _ _ (((g3.trans g4).trans g5).trans g6) (g3.free npa) ((g3.trans g4).free npb) pab ah ((tA.same g5).same g6) (tB.same g6) ⟨y2,y3,y4⟩ ⟨z2,z3,z4⟩
theorem qC {dV:Value} (F:bC K "_law_cell_at" "_law_cell_at" qt dV f fd):bu P w K mg base bP 1 f fd ["_law_script","_law_k"] (ip K):=by
 have sc:aH ["_law_script","_law_k"] ["_law_script","_law_k"] (aw qt):=fY (by decide+kernel)
 refine F.ok sc (fun vs H Q E h=>?_) (fun cdv A outer s H vs Q E hr h=>?_)
 ·obtain ⟨_,_,_,rfl,_⟩:=h
  rfl
 obtain ⟨a,ns,k,rfl,hS,h0,q⟩:=h;refine ⟨_,(ae (aJ (aQ oJ (pv 1) (aj av rfl B.rb boot_len (@aa _ _ _ _ _ (pv 0) ad rfl)) (aM _)) (ag (aB (aP bg (pv 0) (pv 1) (fun _ _=>rfl)))) aE) (ag (aB af))),?_⟩
 try dsimp only[cxK]
 refine ⟨_,rfl,_,rfl,a,_,rfl,.inl hS,_,_,rfl,rfl,_,rfl,d2 (fun c=>?_) (fun c=>?_)⟩
 ·obtain ⟨v,hv⟩:=lW h0 c;exact ⟨_,rfl,_,rfl,a,_,_,_,rfl,rfl,hS,hv,q v⟩
 ·exact q 0
theorem qD {dV:Value} (F:bC K "_law_names" "_law_names" qu dV f fd):bu P w K mg base bP 1 f fd ["_law_number","_law_many"] gK:=by
 have sc:aH ["_law_number","_law_many","_law_cell","_law_letters","_law_base","_law_k","_law_at","_law_size","_law_step","_law_core","_law_names_here","_law_sign"] ["_law_number","_law_many"] (aw qu):=fY (by decide+kernel)
 refine F.ok sc (fun vs H Q E h=>?_) (fun cdv A outer s H vs Q E hr h=>?_)
 ·obtain ⟨_,_,rfl,_⟩:=h
  rfl
 obtain ⟨nb,many,rfl,m0,m1,q⟩:=h;refine ⟨_,(ae (cK 2 sc (ao aL (pv 0) af)) (ae (cK 3 sc cq) (ae (cK 4 sc cq) (ae (bf PassesOwn.never rfl (aW rfl B.q8 (@aa _ _ _ _ _ af ad rfl)) (gl 5 sc) (ag (cK 4 sc (ao bw (pv 4) (aP fN (pv 3) (ao aL (ao aL (ao bn (ao br (pv 2) af) (ao br (ao br (ao bn (pv 5) (pv 5)) (ao bn af (pv 5))) af)) af) af) (fun _ _=>rfl)))))) (ae (cK 6 sc (ao aL (ao a8 (pv 2) af) af)) (ae (cK 7 sc (ao aL (ao a8 (pv 2) af) af)) (ae (cK 8 sc (aP bg (@ba _ _ _ _ (@aa _ _ _ _ _ af (@aa _ _ _ _ _ af (@aa _ _ _ _ _ af (@aa _ _ _ _ _ af (@aa _ _ _ _ _ af (@aa _ _ _ _ _ af (@aa _ _ _ _ _ af (@aa _ _ _ _ _ af ad rfl) rfl) rfl) rfl) rfl) rfl) rfl) rfl)) (ao aL (ao a8 (pv 2) af) af) (fun _ _=>rfl))) (ae (cK 9 sc (bM cW (pv 4) cy (bT (pv 7)))) (ae (cK 10 sc (@ba _ _ _ _ ad)) (ae (bf PassesOwn.never rfl (aW rfl B.q8 (@aa _ _ _ _ _ (pv 1) ad rfl)) (gl 5 sc) (ae (cK 11 sc (aP fN (pv 3) (ao aL (ao br (ao a8 (pv 2) af) (ao bn (pv 5) (pv 8))) af) (fun _ _=>rfl))) (ag (aJ (aQ mK (pv 1) af (aM _)) (ag (aX (bN AN AQ AO aK (pv 10) (@aa _ _ _ _ _ (ao bw (ao bw (ao bw (bM cW (pv 9) cy (bT (pv 6))) (aP fN (pv 3) (ao a8 (pv 5) af) (fun _ _=>rfl))) (pv 11)) (bM cW (pv 9) (bT (pv 6)) cy)) ad rfl)))) (ag (aJ (PW.pt (m4 (aQ bB (ao aL (pv 2) af) af (aM _)) (lG (aQ oK (pv 1) af (aM _))))) (ag (aX (bN AN AQ AO aK (pv 10) (@aa _ _ _ _ _ (bM cW (pv 4) cy (bT (ao br (pv 5) af))) ad rfl)))) (ag (aJ (aQ bB (ao aL (pv 2) af) af (aM _)) (ag (aX (bN AN AQ AO aK (pv 10) (@aa _ _ _ _ _ (ao bw (bM cW (pv 4) cy (bT (ao aL (pv 5) af))) (pv 11)) ad rfl)))) (ag (aX (bN AN AQ AO aK (pv 10) (@aa _ _ _ _ _ (ao bw (ao bw (bM cW (pv 9) cy (bT (pv 6))) (pv 11)) (bM cW (pv 9) (bT (pv 6)) cy)) ad rfl)))))))))))) (ag (aB (pv 10))))))))))))),?_⟩
 try dsimp only[cxK]
 refine ⟨_,rfl,_,_,rfl,rfl,(by show (1000003:Int)≠0;decide),?_⟩
 have c0:=Af nb (show (0:Int)<1000003 by decide)
 have c1:=B0 nb (show (0:Int)<1000003 by decide)
 have s9:(9000:Nat)<=sizeLine:=by decide
 have one:∀c:Nat,(⟨#[c]⟩:Str).length=1:=fun _=>rfl
 have sm:∀(x:Int),0<=x->x<2^30->Bd 30 x:=fun x h0 h1=>by unfold Bd;omega
 have bd3:Bd 30 (3:Int):=by unfold Bd;decide
 try dsimp only[bx,bL]
 refine cut (fun σ H'=>H=H'/\∃c:Int,0<=c/\c<1000003/\σ= [some (.int nb),some (.int many),some (.int c),some (.str cI),none,none,none,none,none,none,none,none]) (fun N hN=>hN _ _ ⟨rfl,_,c0,c1,rfl⟩) ?_
 clear c0 c1;rintro σ _ ⟨rfl,c,c0,c1,rfl⟩;refine cut (fun σ H'=>H=H'/\σ= [some (.int nb),some (.int many),some (.int c),some (.str cI),some (.str ""),none,none,none,none,none,none,none]) (fun N hN=>hN _ _ ⟨rfl,rfl⟩) ?_
 rintro σ _ ⟨rfl,rfl⟩;refine cut (fun σ H'=>H=H'/\∃(b:Str) (o5:Option V),σ= [some (.int nb),some (.int many),some (.int c),some (.str cI),some (.str b),o5,none,none,none,none,none,none]/\b.length<=12) (fun N hN=>?_) ?_
 ·refine ⟨_,rfl,by decide,by decide,aY (fun i σ H'=>H=H'/\∃(b:Str) (o5:Option V),σ= [some (.int nb),some (.int many),some (.int c),some (.str cI),some (.str b),o5,none,none,none,none,none,none]/\b.length=i) ⟨rfl,_,none,rfl,rfl⟩ (fun i σ H' hi hP=>?_) (fun σ H' hP=>?_)⟩
  ·obtain ⟨rfl,b,o5,rfl,hb⟩:=hP;have hi':i<12:=hi;have bk:Bd 30 (0+(i:Int)):=sm _ (by omega) (by omega)
   have b1:Bd 60 ((0+(i:Int))*(0+(i:Int))):=bk.mul bk;have b2:Bd 60 (3*(0+(i:Int))):=bd3.mul bk;have b3:Bd 62 ((0+(i:Int))*(0+(i:Int))+3*(0+(i:Int))+7):=(b1.add b2).add ((show Bd 61 (7:Int) by unfold Bd;decide))
   have i0:=Af (((c+1)*((0+(i:Int))*(0+(i:Int))+3*(0+(i:Int))+7)).fmod 1013) (show (0:Int)<26 by decide)
   have i1:=B0 (((c+1)*((0+(i:Int))*(0+(i:Int))+3*(0+(i:Int))+7)).fmod 1013) (show (0:Int)<26 by decide)
   obtain ⟨ch,hch⟩:=fW i0 i1;refine ⟨_,rfl,_,rfl,_,rfl,_,_,rfl,rfl,_,rfl,_,rfl,_,_,rfl,rfl,bk.ok bk,_,rfl,_,_,rfl,rfl,bd3.ok bk,_,_,rfl,rfl,_,_,rfl,rfl,_,_,rfl,rfl,(sm (c+1) (by omega) (by omega)).ok b3,_,_,rfl,rfl,(by show (1013:Int)≠0;decide),_,_,rfl,rfl,(by show (26:Int)≠0;decide),cI,_,ch,rfl,rfl,by decide,hch,_,_,rfl,rfl,?_,?_⟩
   ·rw[one];omega
   ·exact ⟨rfl,_,_,rfl,by rw[Str.length_append,one,hb]⟩
  ·obtain ⟨rfl,b,o5,rfl,hb⟩:=hP;exact hN _ _ ⟨rfl,b,o5,rfl,by rw[hb];exact AB _⟩
 rintro σ _ ⟨rfl,b,o5,rfl,hb⟩;have hz:b.length<=sizeLine:=by omega
 have a0:=Af (c.fdiv 3) (show (0:Int)<11 by decide)
 have z0:=Af (c.fdiv 40) (show (0:Int)<11 by decide)
 have t0:=Af (c.fdiv 500) (show (0:Int)<8 by decide)
 have t1:=B0 (c.fdiv 500) (show (0:Int)<8 by decide)
 refine ⟨_,rfl,_,_,rfl,rfl,⟨by show (3:Int)≠0;decide,AZ (by decide)⟩,_,_,rfl,rfl,(by show (11:Int)≠0;decide),?_⟩
 refine ⟨_,rfl,_,_,rfl,rfl,⟨by show (40:Int)≠0;decide,AZ (by decide)⟩,_,_,rfl,rfl,(by show (11:Int)≠0;decide),?_⟩
 refine ⟨by show 8<=sizeLine;decide,fun ls ns=>?_⟩
 have g1:=am ns (.lst [.int 1,.int 3,.int 5,.int 7,.int 9,.int 11,.int 15,.int 17]);obtain ⟨v,hv,ev⟩:=fV (xs:= [V.int 1,V.int 3,V.int 5,V.int 7,V.int 9,V.int 11,V.int 15,V.int 17]) t0 (by show (c.fdiv 500).fmod 8<((8:Nat):Int);exact t1)
 obtain ⟨st,rfl,st0,st1⟩:∃y:Int,v= .int y/\0<=y/\y<20:=by
  simp at hv;rcases hv with rfl|rfl|rfl|rfl|rfl|rfl|rfl|rfl
  all_goals exact ⟨_,rfl,by decide,by decide⟩
 refine ⟨_,rfl,_,_,rfl,rfl,⟨by show (500:Int)≠0;decide,AZ (by decide)⟩,_,_,rfl,rfl,(by show (8:Int)≠0;decide),ls,_,_,_,rfl,rfl,aS.of ah,ev,?_⟩
 refine ⟨_,rfl,_,rfl,_,rfl,b,rfl,hz,?_⟩;have hc:(eh b none (some ((c.fdiv 40).fmod 11))).length<=12:=Az (cf _ _ _) hb;refine ⟨by show 0<=sizeLine;decide,fun lp np=>?_⟩
 generalize eh b none (some ((c.fdiv 40).fmod 11))=core at*;have cz:core.length<=sizeLine:=by omega
 have g2:=g1.trans (am np (.lst []));have cl:∀lo hi,(eh core lo hi).length<=12:=fun lo hi=>Az (cf _ _ _) hc
 have bl:∀lo hi,(eh b lo hi).length<=12:=fun lo hi=>Az (cf _ _ _) hb
 try dsimp only[bx,bL]
 refine cut (fun σ H'=>aN H H'/\∃(zs:sI) (o5 o11:Option V),σ= [some (.int nb),some (.int many),some (.int c),some (.str cI),some (.str b),o5,some (.int ((c.fdiv 3).fmod 11)),some (.int ((c.fdiv 40).fmod 11)),some (.int st),some (.str core),sN lp,o11]/\(zs.length:Int)=many/\H' lp=some (.lst (zs.map V.str))) (fun N hN=>?_) ?_
 ·refine ⟨_,rfl,_,rfl,by omega,by omega,aY (fun i σ H'=>aN H H'/\∃(zs:sI) (o5 o11:Option V),σ= [some (.int nb),some (.int many),some (.int c),some (.str cI),some (.str b),o5,some (.int ((c.fdiv 3).fmod 11)),some (.int ((c.fdiv 40).fmod 11)),some (.int st),some (.str core),sN lp,o11]/\zs.length=i/\H' lp=some (.lst (zs.map V.str))) ⟨g2,[],o5,none,rfl,rfl,ah⟩ (fun i σ H' hi hP=>?_) (fun σ H' hP=>?_)⟩
  ·obtain ⟨g,zs,o5,o11,rfl,hl,e⟩:=hP;have hi':(i:Int)<many:=by have:i<many.toNat:=hi;omega
   have i0:=Af (c.fdiv 7+(0+(i:Int))*st) (show (0:Int)<26 by decide)
   have i1:=B0 (c.fdiv 7+(0+(i:Int))*st) (show (0:Int)<26 by decide)
   obtain ⟨ch,hch⟩:=fW i0 i1;have k0:0<=(0+(i:Int)).fdiv 26:=by rw[Int.fdiv_eq_ediv_of_nonneg _ (by decide)];omega
   have k1:(0+(i:Int)).fdiv 26<26:=by rw[Int.fdiv_eq_ediv_of_nonneg _ (by decide)];omega
   obtain ⟨ch2,hch2⟩:=fW k0 k1;have app:∀(z:Str),aN H (aR H' lp (.lst (zs.map V.str++ [.str z])))/\aR H' lp (.lst (zs.map V.str++ [.str z])) lp=some (.lst ((zs++ [z]).map V.str)):=fun z=>⟨cV g (g1.free np) _,by rw[ah,Aq];rfl⟩
   have lnp:(zs.map V.str).length<sizeLine:=by rw[A5,hl];omega
   refine ⟨_,rfl,_,rfl,_,_,rfl,rfl,⟨by show (7:Int)≠0;decide,AZ (by decide)⟩,_,rfl,_,rfl,_,_,rfl,rfl,(sm _ (by omega) (by omega)).ok (sm st (by omega) (by omega)),_,_,rfl,rfl,_,_,rfl,rfl,(by show (26:Int)≠0;decide),cI,_,ch,rfl,rfl,by decide,hch,?_⟩
   refine ⟨_,rfl,_,_,rfl,rfl,_,rfl,d2 (fun _=>?_) (fun _=>?_)⟩
   ·refine ⟨_,rfl,.inl ⟨rfl,_,aS.of e⟩,_,rfl,_,rfl,_,rfl,core,rfl,cz,_,rfl,_,rfl,_,_,rfl,rfl,⟨by show (26:Int)≠0;decide,AZ (by decide)⟩,cI,_,ch2,rfl,rfl,by decide,hch2,_,_,rfl,rfl,?_,_,rfl,_,_,rfl,rfl,?_,_,rfl,_,rfl,_,rfl,core,rfl,cz,_,_,rfl,rfl,?_,lp,_,_,rfl,rfl,e,lnp,(app _).1,_,_,_,rfl,by rw[A9,hl];rfl,(app _).2⟩
    all_goals (simp only[Str.length_append,one];have l1:=cl none (some ((c.fdiv 3).fmod 11));have l2:=cl (some ((c.fdiv 3).fmod 11)) none;have l3:=bl none (some ((0+(i:Int)).fmod 11));omega)
   ·refine ⟨_,rfl,_,_,rfl,rfl,(by show (3:Int)≠0;decide),rfl,_,rfl,oS (fun _=>⟨_,rfl,_,_,rfl,rfl,_,rfl,d2 (fun _=>?_) (fun _=>?_)⟩) (fun _=>?_)⟩
    ·exact ⟨_,rfl,.inl ⟨rfl,_,aS.of e⟩,_,rfl,_,rfl,_,_,rfl,rfl,_,rfl,b,rfl,hz,lp,_,_,rfl,rfl,e,lnp,(app _).1,_,_,_,rfl,by rw[A9,hl];rfl,(app _).2⟩
    ·refine ⟨_,rfl,_,_,rfl,rfl,(by show (3:Int)≠0;decide),rfl,_,rfl,oS (fun _=>?_) (fun _=>?_)⟩
     ·refine ⟨_,rfl,.inl ⟨rfl,_,aS.of e⟩,_,rfl,_,rfl,_,_,rfl,rfl,(by show (11:Int)≠0;decide),_,rfl,b,rfl,hz,_,rfl,_,_,rfl,rfl,?_,lp,_,_,rfl,rfl,e,lnp,(app _).1,_,_,_,rfl,by rw[A9,hl];rfl,(app _).2⟩
      (simp only[Str.length_append,one];have l1:=cl none (some ((c.fdiv 3).fmod 11));have l2:=cl (some ((c.fdiv 3).fmod 11)) none;have l3:=bl none (some ((0+(i:Int)).fmod 11));omega)
     ·refine ⟨_,rfl,.inl ⟨rfl,_,aS.of e⟩,_,rfl,_,rfl,_,rfl,core,rfl,cz,_,rfl,_,_,rfl,rfl,?_,_,rfl,_,rfl,_,rfl,core,rfl,cz,_,_,rfl,rfl,?_,lp,_,_,rfl,rfl,e,lnp,(app _).1,_,_,_,rfl,by rw[A9,hl];rfl,(app _).2⟩
      all_goals (simp only[Str.length_append,one];have l1:=cl none (some ((c.fdiv 3).fmod 11));have l2:=cl (some ((c.fdiv 3).fmod 11)) none;have l3:=bl none (some ((0+(i:Int)).fmod 11));omega)
    ·refine ⟨_,rfl,_,_,rfl,rfl,(by show (3:Int)≠0;decide),rfl,_,rfl,oS (fun _=>?_) (fun _=>?_)⟩
     ·refine ⟨_,rfl,.inl ⟨rfl,_,aS.of e⟩,_,rfl,_,rfl,_,_,rfl,rfl,(by show (11:Int)≠0;decide),_,rfl,b,rfl,hz,_,rfl,_,_,rfl,rfl,?_,lp,_,_,rfl,rfl,e,lnp,(app _).1,_,_,_,rfl,by rw[A9,hl];rfl,(app _).2⟩
      (simp only[Str.length_append,one];have l1:=cl none (some ((c.fdiv 3).fmod 11));have l2:=cl (some ((c.fdiv 3).fmod 11)) none;have l3:=bl none (some ((0+(i:Int)).fmod 11));omega)
     ·refine ⟨_,rfl,.inl ⟨rfl,_,aS.of e⟩,_,rfl,_,rfl,_,rfl,core,rfl,cz,_,rfl,_,_,rfl,rfl,?_,_,rfl,_,rfl,_,rfl,core,rfl,cz,_,_,rfl,rfl,?_,lp,_,_,rfl,rfl,e,lnp,(app _).1,_,_,_,rfl,by rw[A9,hl];rfl,(app _).2⟩
      all_goals (simp only[Str.length_append,one];have l1:=cl none (some ((c.fdiv 3).fmod 11));have l2:=cl (some ((c.fdiv 3).fmod 11)) none;have l3:=bl none (some ((0+(i:Int)).fmod 11));omega)
  ·obtain ⟨g,zs,o5,o11,rfl,hl,e⟩:=hP;exact hN _ _ ⟨g,zs,o5,o11,rfl,by omega,e⟩
 rintro σ H1 ⟨g,zs,o5',o11,rfl,hl,e⟩;exact ⟨_,rfl,q lp H1 zs g e hl⟩
theorem qE {dV:Value} (F:bC K "_law_alike" "_law_alike" qM dV f fd):bu P w K mg base bP 1 f fd ["_law_found","_law_due_here"] i9:=by
 have sc:aH ["_law_found","_law_due_here","_law_k"] ["_law_found","_law_due_here"] (aw qM):=fY (by decide+kernel)
 exact ⟨fun _ _ _ _ h=>h.elim,fun _ _ _ _ _ _ _ _ _ _ _ _ _ h=>h.elim⟩
theorem qF {dV:Value} (F:bC K "_law_alike" "_law_alike" qN dV f fd) (DZ8:Dx P w K mg base bP 1 "_law_alike" ["_law_found","_law_due_here"] [] i9):bu P w K mg base bP 2 f fd ["_law_found","_law_due_here"] (dQ 0):=by
 have sc:aH ["_law_found","_law_due_here","_law_k"] ["_law_found","_law_due_here"] (aw qN):=fY (by decide+kernel)
 refine F.ok sc (fun vs H Q E h=>?_) (fun cdv A outer s H vs Q E hr h=>?_)
 ·obtain ⟨_,_,_,rfl,_⟩:=h
  rfl
 obtain ⟨x,y,n,rfl,nN,al,q⟩:=h;have s4:(5000:Nat)<=sizeLine:=by decide
 refine ⟨_,(ae (aJ (aU (aj (aq (K:=K) rfl) rfl B.gt boot_isinstance (@aa _ _ _ _ _ (pv 1) (@aa _ _ _ _ _ (aC (v:= .ty "str") rfl B.ro boot_str rfl) ad rfl) rfl))) (ag (aB (bQ (aj (aq (K:=K) rfl) rfl B.gt boot_isinstance (@aa _ _ _ _ _ (pv 0) (@aa _ _ _ _ _ (aC (v:= .ty "str") rfl B.ro boot_str rfl) ad rfl) rfl)) (cD (ce bB (pv 0) (pv 1) (aM _)))))) aE) (ae (aJ (aU (aj (aq (K:=K) rfl) rfl B.gt boot_isinstance (@aa _ _ _ _ _ (pv 1) (@aa _ _ _ _ _ (aC (v:= .ty "int") rfl B.rp boot_int rfl) ad rfl) rfl))) (ag (aB (bQ (aj (aq (K:=K) rfl) rfl B.gt boot_isinstance (@aa _ _ _ _ _ (pv 0) (@aa _ _ _ _ _ (aC (v:= .ty "int") rfl B.rp boot_int rfl) ad rfl) rfl)) (bQ (fJ (aj (aq (K:=K) rfl) rfl B.gt boot_isinstance (@aa _ _ _ _ _ (pv 0) (@aa _ _ _ _ _ (aC (v:= .ty "bool") rfl B.rQ boot_bool rfl) ad rfl) rfl))) (cD (ce bB (pv 0) (pv 1) (aM _))))))) aE) (ae (aJ (aU (aj (aq (K:=K) rfl) rfl B.gt boot_isinstance (@aa _ _ _ _ _ (pv 1) (@aa _ _ _ _ _ (aC (v:= .ty "tuple") rfl B.rc boot_tuple rfl) ad rfl) rfl))) (ag (aJ (bA (aU (aj (aq (K:=K) rfl) rfl B.gt boot_isinstance (@aa _ _ _ _ _ (pv 0) (@aa _ _ _ _ _ (aC (v:= .ty "tuple") rfl B.rc boot_tuple rfl) ad rfl) rfl)))) (ag (aB bp)) aE)) (ag (aJ (bA (aU (aj (aq (K:=K) rfl) rfl B.gt boot_isinstance (@aa _ _ _ _ _ (pv 0) (@aa _ _ _ _ _ (aC (v:= .ty "list") rfl B.rf boot_list rfl) ad rfl) rfl)))) (ag (aB bp)) aE))) (ae (aJ (aQ iU (aj av rfl B.rb boot_len (@aa _ _ _ _ _ (pv 0) ad rfl)) (aj av rfl B.rb boot_len (@aa _ _ _ _ _ (pv 1) ad rfl)) (aM _)) (ag (aB bp)) aE) (ae (bf PassesOwn.never rfl (aW rfl B.q8 (@aa _ _ _ _ _ (aj av rfl B.rb boot_len (@aa _ _ _ _ _ (pv 1) ad rfl)) ad rfl)) (gl 2 sc) (ag (aJ (bA (aU (eT DZ8 hr (@aa _ _ _ _ _ (aP cG (pv 0) (pv 2) (fun _ _=>rfl)) (@aa _ _ _ _ _ (aP cG (pv 1) (pv 2) (fun _ _=>rfl)) ad rfl) rfl)))) (ag (aB bp)) aE))) (ag (aB bp))))))),?_⟩
 try dsimp only[cxK]
 cases n with
 |zero=>
  rcases al with ⟨i,rfl,rfl⟩|⟨z,rfl,rfl⟩
  ·refine ⟨_,rfl,_,_,_,false,rfl,.int _,rfl,_,rfl,bj ?_⟩;refine ⟨_,rfl,_,_,_,true,rfl,.int _,rfl,_,rfl,b5 ?_⟩;exact ⟨_,rfl,_,_,_,true,rfl,.int _,rfl,_,rfl,b5 ⟨_,rfl,_,_,_,false,rfl,.int _,rfl,_,rfl,_,rfl,b5 ⟨_,rfl,_,rfl,rfl,mN (Q:=fun v=>Q v _) q⟩⟩⟩
  ·refine ⟨_,rfl,_,_,_,true,rfl,.str _,rfl,_,rfl,b5 ?_⟩;exact ⟨_,rfl,_,_,_,true,rfl,.str _,rfl,_,rfl,b5 ⟨_,rfl,_,rfl,rfl,mN (Q:=fun v=>Q v _) q⟩⟩
 |succ n=>exact absurd nN (Nat.not_succ_le_zero n)
theorem py {dV:Value} (F:bC K "_law_alike" "_law_alike" ph dV f fd) (DZ9:Dx P w K mg base bP 2 "_law_alike" ["_law_found","_law_due_here"] [] (dQ 0)):bu P w K mg base bP 3 f fd ["_law_found","_law_due_here"] (dQ 1):=by
 have sc:aH ["_law_found","_law_due_here","_law_k"] ["_law_found","_law_due_here"] (aw ph):=fY (by decide+kernel)
 refine F.ok sc (fun vs H Q E h=>?_) (fun cdv A outer s H vs Q E hr h=>?_)
 ·obtain ⟨_,_,_,rfl,_⟩:=h
  rfl
 obtain ⟨x,y,n,rfl,nN,al,q⟩:=h;have s4:(5000:Nat)<=sizeLine:=by decide
 refine ⟨_,(ae (aJ (aU (aj (aq (K:=K) rfl) rfl B.gt boot_isinstance (@aa _ _ _ _ _ (pv 1) (@aa _ _ _ _ _ (aC (v:= .ty "str") rfl B.ro boot_str rfl) ad rfl) rfl))) (ag (aB (bQ (aj (aq (K:=K) rfl) rfl B.gt boot_isinstance (@aa _ _ _ _ _ (pv 0) (@aa _ _ _ _ _ (aC (v:= .ty "str") rfl B.ro boot_str rfl) ad rfl) rfl)) (cD (ce bB (pv 0) (pv 1) (aM _)))))) aE) (ae (aJ (aU (aj (aq (K:=K) rfl) rfl B.gt boot_isinstance (@aa _ _ _ _ _ (pv 1) (@aa _ _ _ _ _ (aC (v:= .ty "int") rfl B.rp boot_int rfl) ad rfl) rfl))) (ag (aB (bQ (aj (aq (K:=K) rfl) rfl B.gt boot_isinstance (@aa _ _ _ _ _ (pv 0) (@aa _ _ _ _ _ (aC (v:= .ty "int") rfl B.rp boot_int rfl) ad rfl) rfl)) (bQ (fJ (aj (aq (K:=K) rfl) rfl B.gt boot_isinstance (@aa _ _ _ _ _ (pv 0) (@aa _ _ _ _ _ (aC (v:= .ty "bool") rfl B.rQ boot_bool rfl) ad rfl) rfl))) (cD (ce bB (pv 0) (pv 1) (aM _))))))) aE) (ae (aJ (aU (aj (aq (K:=K) rfl) rfl B.gt boot_isinstance (@aa _ _ _ _ _ (pv 1) (@aa _ _ _ _ _ (aC (v:= .ty "tuple") rfl B.rc boot_tuple rfl) ad rfl) rfl))) (ag (aJ (bA (aU (aj (aq (K:=K) rfl) rfl B.gt boot_isinstance (@aa _ _ _ _ _ (pv 0) (@aa _ _ _ _ _ (aC (v:= .ty "tuple") rfl B.rc boot_tuple rfl) ad rfl) rfl)))) (ag (aB bp)) aE)) (ag (aJ (bA (aU (aj (aq (K:=K) rfl) rfl B.gt boot_isinstance (@aa _ _ _ _ _ (pv 0) (@aa _ _ _ _ _ (aC (v:= .ty "list") rfl B.rf boot_list rfl) ad rfl) rfl)))) (ag (aB bp)) aE))) (ae (aJ (aQ iU (aj av rfl B.rb boot_len (@aa _ _ _ _ _ (pv 0) ad rfl)) (aj av rfl B.rb boot_len (@aa _ _ _ _ _ (pv 1) ad rfl)) (aM _)) (ag (aB bp)) aE) (ae (bf PassesOwn.never rfl (aW rfl B.q8 (@aa _ _ _ _ _ (aj av rfl B.rb boot_len (@aa _ _ _ _ _ (pv 1) ad rfl)) ad rfl)) (gl 2 sc) (ag (aJ (bA (aU (eT DZ9 hr (@aa _ _ _ _ _ (aP cG (pv 0) (pv 2) (fun _ _=>rfl)) (@aa _ _ _ _ _ (aP cG (pv 1) (pv 2) (fun _ _=>rfl)) ad rfl) rfl)))) (ag (aB bp)) aE))) (ag (aB bp))))))),?_⟩
 try dsimp only[cxK]
 cases n with
 |zero=>
  rcases al with ⟨i,rfl,rfl⟩|⟨z,rfl,rfl⟩
  ·refine ⟨_,rfl,_,_,_,false,rfl,.int _,rfl,_,rfl,bj ?_⟩;refine ⟨_,rfl,_,_,_,true,rfl,.int _,rfl,_,rfl,b5 ?_⟩;exact ⟨_,rfl,_,_,_,true,rfl,.int _,rfl,_,rfl,b5 ⟨_,rfl,_,_,_,false,rfl,.int _,rfl,_,rfl,_,rfl,b5 ⟨_,rfl,_,rfl,rfl,mN (Q:=fun v=>Q v _) q⟩⟩⟩
  ·refine ⟨_,rfl,_,_,_,true,rfl,.str _,rfl,_,rfl,b5 ?_⟩;exact ⟨_,rfl,_,_,_,true,rfl,.str _,rfl,_,rfl,b5 ⟨_,rfl,_,rfl,rfl,mN (Q:=fun v=>Q v _) q⟩⟩
 |succ n=>
  obtain ⟨a,b,xs,ys,rfl,rfl,hh,hl,h4,each⟩:=al;rcases hh with ⟨el,em⟩|⟨el,em⟩
  ·refine ⟨_,rfl,_,_,_,false,rfl,.lst em,rfl,_,rfl,bj ?_⟩;refine ⟨_,rfl,_,_,_,false,rfl,.lst em,rfl,_,rfl,bj ?_⟩;try dsimp only[bx,bL]
   refine cut (fun σ H'=>H=H'/\σ= [sN a,sN b,none]) (fun N hN=>?_) ?_
   ·exact ⟨_,rfl,_,_,_,false,rfl,.lst em,rfl,_,rfl,bj ⟨_,rfl,_,_,_,true,rfl,.lst el,rfl,_,rfl,bj (hN _ _ ⟨rfl,rfl⟩)⟩⟩
   rintro σ _ ⟨rfl,rfl⟩;refine ⟨_,rfl,a,_,rfl,.inl (aS.of el),_,rfl,b,_,rfl,.inl (aS.of em),rfl,_,rfl,nF (by rw[hl]) ?_⟩
   refine ⟨_,rfl,b,_,rfl,.inl (aS.of em),_,rfl,by omega,by omega,aY (fun i σ H'=>H=H'/\∃o2:Option V,σ= [sN a,sN b,o2]) ⟨rfl,none,rfl⟩ (fun i σ H' hi hP=>?_) (fun σ H' hP=>?_)⟩
   ·obtain ⟨rfl,o2,rfl⟩:=hP;have hi':i<ys.length:=by omega
    have hx:=A0 (show i<xs.length by omega)
    have hy:=A0 hi';have ea:=each i _ _ hx hy;have ax:cR xs (0+(i:Int))=some xs[i]:=by rw[An];exact aT hx
    have ay:cR ys (0+(i:Int))=some ys[i]:=by rw[An];exact aT hy
    exact ⟨_,rfl,_,rfl,.inl ⟨a,_,_,_,rfl,rfl,aS.of el,ax,_,rfl,_,rfl,.inl ⟨b,_,_,_,rfl,rfl,aS.of em,ay,_,_,n,rfl,by omega,ea,_,rfl,bj ⟨rfl,_,rfl⟩⟩⟩⟩
   ·obtain ⟨rfl,o2,rfl⟩:=hP;exact q
  ·refine ⟨_,rfl,_,_,_,false,rfl,.tup em,rfl,_,rfl,bj ?_⟩;refine ⟨_,rfl,_,_,_,false,rfl,.tup em,rfl,_,rfl,bj ?_⟩;try dsimp only[bx,bL]
   refine cut (fun σ H'=>H=H'/\σ= [sN a,sN b,none]) (fun N hN=>?_) ?_
   ·exact ⟨_,rfl,_,_,_,true,rfl,.tup em,rfl,_,rfl,b5 ⟨_,rfl,_,_,_,true,rfl,.tup el,rfl,_,rfl,bj (hN _ _ ⟨rfl,rfl⟩)⟩⟩
   rintro σ _ ⟨rfl,rfl⟩;refine ⟨_,rfl,a,_,rfl,.inr (cr.of el),_,rfl,b,_,rfl,.inr (cr.of em),rfl,_,rfl,nF (by rw[hl]) ?_⟩
   refine ⟨_,rfl,b,_,rfl,.inr (cr.of em),_,rfl,by omega,by omega,aY (fun i σ H'=>H=H'/\∃o2:Option V,σ= [sN a,sN b,o2]) ⟨rfl,none,rfl⟩ (fun i σ H' hi hP=>?_) (fun σ H' hP=>?_)⟩
   ·obtain ⟨rfl,o2,rfl⟩:=hP;have hi':i<ys.length:=by omega
    have hx:=A0 (show i<xs.length by omega)
    have hy:=A0 hi';have ea:=each i _ _ hx hy;have ax:cR xs (0+(i:Int))=some xs[i]:=by rw[An];exact aT hx
    have ay:cR ys (0+(i:Int))=some ys[i]:=by rw[An];exact aT hy
    exact ⟨_,rfl,_,rfl,.inr (.inl ⟨a,_,_,_,rfl,rfl,cr.of el,ax,_,rfl,_,rfl,.inr (.inl ⟨b,_,_,_,rfl,rfl,cr.of em,ay,_,_,n,rfl,by omega,ea,_,rfl,bj ⟨rfl,_,rfl⟩⟩)⟩)⟩
   ·obtain ⟨rfl,o2,rfl⟩:=hP;exact q
theorem pC {dV:Value} (F:bC K "_law_alike" "_law_alike" pq dV f fd) (DZ10:Dx P w K mg base bP 3 "_law_alike" ["_law_found","_law_due_here"] [] (dQ 1)):bu P w K mg base bP 4 f fd ["_law_found","_law_due_here"] (dQ 2):=by
 have sc:aH ["_law_found","_law_due_here","_law_k"] ["_law_found","_law_due_here"] (aw pq):=fY (by decide+kernel)
 refine F.ok sc (fun vs H Q E h=>?_) (fun cdv A outer s H vs Q E hr h=>?_)
 ·obtain ⟨_,_,_,rfl,_⟩:=h
  rfl
 obtain ⟨x,y,n,rfl,nN,al,q⟩:=h;have s4:(5000:Nat)<=sizeLine:=by decide
 refine ⟨_,(ae (aJ (aU (aj (aq (K:=K) rfl) rfl B.gt boot_isinstance (@aa _ _ _ _ _ (pv 1) (@aa _ _ _ _ _ (aC (v:= .ty "str") rfl B.ro boot_str rfl) ad rfl) rfl))) (ag (aB (bQ (aj (aq (K:=K) rfl) rfl B.gt boot_isinstance (@aa _ _ _ _ _ (pv 0) (@aa _ _ _ _ _ (aC (v:= .ty "str") rfl B.ro boot_str rfl) ad rfl) rfl)) (cD (ce bB (pv 0) (pv 1) (aM _)))))) aE) (ae (aJ (aU (aj (aq (K:=K) rfl) rfl B.gt boot_isinstance (@aa _ _ _ _ _ (pv 1) (@aa _ _ _ _ _ (aC (v:= .ty "int") rfl B.rp boot_int rfl) ad rfl) rfl))) (ag (aB (bQ (aj (aq (K:=K) rfl) rfl B.gt boot_isinstance (@aa _ _ _ _ _ (pv 0) (@aa _ _ _ _ _ (aC (v:= .ty "int") rfl B.rp boot_int rfl) ad rfl) rfl)) (bQ (fJ (aj (aq (K:=K) rfl) rfl B.gt boot_isinstance (@aa _ _ _ _ _ (pv 0) (@aa _ _ _ _ _ (aC (v:= .ty "bool") rfl B.rQ boot_bool rfl) ad rfl) rfl))) (cD (ce bB (pv 0) (pv 1) (aM _))))))) aE) (ae (aJ (aU (aj (aq (K:=K) rfl) rfl B.gt boot_isinstance (@aa _ _ _ _ _ (pv 1) (@aa _ _ _ _ _ (aC (v:= .ty "tuple") rfl B.rc boot_tuple rfl) ad rfl) rfl))) (ag (aJ (bA (aU (aj (aq (K:=K) rfl) rfl B.gt boot_isinstance (@aa _ _ _ _ _ (pv 0) (@aa _ _ _ _ _ (aC (v:= .ty "tuple") rfl B.rc boot_tuple rfl) ad rfl) rfl)))) (ag (aB bp)) aE)) (ag (aJ (bA (aU (aj (aq (K:=K) rfl) rfl B.gt boot_isinstance (@aa _ _ _ _ _ (pv 0) (@aa _ _ _ _ _ (aC (v:= .ty "list") rfl B.rf boot_list rfl) ad rfl) rfl)))) (ag (aB bp)) aE))) (ae (aJ (aQ iU (aj av rfl B.rb boot_len (@aa _ _ _ _ _ (pv 0) ad rfl)) (aj av rfl B.rb boot_len (@aa _ _ _ _ _ (pv 1) ad rfl)) (aM _)) (ag (aB bp)) aE) (ae (bf PassesOwn.never rfl (aW rfl B.q8 (@aa _ _ _ _ _ (aj av rfl B.rb boot_len (@aa _ _ _ _ _ (pv 1) ad rfl)) ad rfl)) (gl 2 sc) (ag (aJ (bA (aU (eT DZ10 hr (@aa _ _ _ _ _ (aP cG (pv 0) (pv 2) (fun _ _=>rfl)) (@aa _ _ _ _ _ (aP cG (pv 1) (pv 2) (fun _ _=>rfl)) ad rfl) rfl)))) (ag (aB bp)) aE))) (ag (aB bp))))))),?_⟩
 try dsimp only[cxK]
 cases n with
 |zero=>
  rcases al with ⟨i,rfl,rfl⟩|⟨z,rfl,rfl⟩
  ·refine ⟨_,rfl,_,_,_,false,rfl,.int _,rfl,_,rfl,bj ?_⟩;refine ⟨_,rfl,_,_,_,true,rfl,.int _,rfl,_,rfl,b5 ?_⟩;exact ⟨_,rfl,_,_,_,true,rfl,.int _,rfl,_,rfl,b5 ⟨_,rfl,_,_,_,false,rfl,.int _,rfl,_,rfl,_,rfl,b5 ⟨_,rfl,_,rfl,rfl,mN (Q:=fun v=>Q v _) q⟩⟩⟩
  ·refine ⟨_,rfl,_,_,_,true,rfl,.str _,rfl,_,rfl,b5 ?_⟩;exact ⟨_,rfl,_,_,_,true,rfl,.str _,rfl,_,rfl,b5 ⟨_,rfl,_,rfl,rfl,mN (Q:=fun v=>Q v _) q⟩⟩
 |succ n=>
  obtain ⟨a,b,xs,ys,rfl,rfl,hh,hl,h4,each⟩:=al;rcases hh with ⟨el,em⟩|⟨el,em⟩
  ·refine ⟨_,rfl,_,_,_,false,rfl,.lst em,rfl,_,rfl,bj ?_⟩;refine ⟨_,rfl,_,_,_,false,rfl,.lst em,rfl,_,rfl,bj ?_⟩;try dsimp only[bx,bL]
   refine cut (fun σ H'=>H=H'/\σ= [sN a,sN b,none]) (fun N hN=>?_) ?_
   ·exact ⟨_,rfl,_,_,_,false,rfl,.lst em,rfl,_,rfl,bj ⟨_,rfl,_,_,_,true,rfl,.lst el,rfl,_,rfl,bj (hN _ _ ⟨rfl,rfl⟩)⟩⟩
   rintro σ _ ⟨rfl,rfl⟩;refine ⟨_,rfl,a,_,rfl,.inl (aS.of el),_,rfl,b,_,rfl,.inl (aS.of em),rfl,_,rfl,nF (by rw[hl]) ?_⟩
   refine ⟨_,rfl,b,_,rfl,.inl (aS.of em),_,rfl,by omega,by omega,aY (fun i σ H'=>H=H'/\∃o2:Option V,σ= [sN a,sN b,o2]) ⟨rfl,none,rfl⟩ (fun i σ H' hi hP=>?_) (fun σ H' hP=>?_)⟩
   ·obtain ⟨rfl,o2,rfl⟩:=hP;have hi':i<ys.length:=by omega
    have hx:=A0 (show i<xs.length by omega)
    have hy:=A0 hi';have ea:=each i _ _ hx hy;have ax:cR xs (0+(i:Int))=some xs[i]:=by rw[An];exact aT hx
    have ay:cR ys (0+(i:Int))=some ys[i]:=by rw[An];exact aT hy
    exact ⟨_,rfl,_,rfl,.inl ⟨a,_,_,_,rfl,rfl,aS.of el,ax,_,rfl,_,rfl,.inl ⟨b,_,_,_,rfl,rfl,aS.of em,ay,_,_,n,rfl,by omega,ea,_,rfl,bj ⟨rfl,_,rfl⟩⟩⟩⟩
   ·obtain ⟨rfl,o2,rfl⟩:=hP;exact q
  ·refine ⟨_,rfl,_,_,_,false,rfl,.tup em,rfl,_,rfl,bj ?_⟩;refine ⟨_,rfl,_,_,_,false,rfl,.tup em,rfl,_,rfl,bj ?_⟩;try dsimp only[bx,bL]
   refine cut (fun σ H'=>H=H'/\σ= [sN a,sN b,none]) (fun N hN=>?_) ?_
   ·exact ⟨_,rfl,_,_,_,true,rfl,.tup em,rfl,_,rfl,b5 ⟨_,rfl,_,_,_,true,rfl,.tup el,rfl,_,rfl,bj (hN _ _ ⟨rfl,rfl⟩)⟩⟩
   rintro σ _ ⟨rfl,rfl⟩;refine ⟨_,rfl,a,_,rfl,.inr (cr.of el),_,rfl,b,_,rfl,.inr (cr.of em),rfl,_,rfl,nF (by rw[hl]) ?_⟩
   refine ⟨_,rfl,b,_,rfl,.inr (cr.of em),_,rfl,by omega,by omega,aY (fun i σ H'=>H=H'/\∃o2:Option V,σ= [sN a,sN b,o2]) ⟨rfl,none,rfl⟩ (fun i σ H' hi hP=>?_) (fun σ H' hP=>?_)⟩
   ·obtain ⟨rfl,o2,rfl⟩:=hP;have hi':i<ys.length:=by omega
    have hx:=A0 (show i<xs.length by omega)
    have hy:=A0 hi';have ea:=each i _ _ hx hy;have ax:cR xs (0+(i:Int))=some xs[i]:=by rw[An];exact aT hx
    have ay:cR ys (0+(i:Int))=some ys[i]:=by rw[An];exact aT hy
    exact ⟨_,rfl,_,rfl,.inr (.inl ⟨a,_,_,_,rfl,rfl,cr.of el,ax,_,rfl,_,rfl,.inr (.inl ⟨b,_,_,_,rfl,rfl,cr.of em,ay,_,_,n,rfl,by omega,ea,_,rfl,bj ⟨rfl,_,rfl⟩⟩)⟩)⟩
   ·obtain ⟨rfl,o2,rfl⟩:=hP;exact q
theorem pD {dV:Value} (F:bC K "_law_alike" "_law_alike" n6 dV f fd) (DZ11:Dx P w K mg base bP 4 "_law_alike" ["_law_found","_law_due_here"] [] (dQ 2)):bu P w K mg base bP 5 f fd ["_law_found","_law_due_here"] (dQ 3):=by
 have sc:aH ["_law_found","_law_due_here","_law_k"] ["_law_found","_law_due_here"] (aw n6):=fY (by decide+kernel)
 refine F.ok sc (fun vs H Q E h=>?_) (fun cdv A outer s H vs Q E hr h=>?_)
 ·obtain ⟨_,_,_,rfl,_⟩:=h
  rfl
 obtain ⟨x,y,n,rfl,nN,al,q⟩:=h;have s4:(5000:Nat)<=sizeLine:=by decide
 refine ⟨_,(ae (aJ (aU (aj (aq (K:=K) rfl) rfl B.gt boot_isinstance (@aa _ _ _ _ _ (pv 1) (@aa _ _ _ _ _ (aC (v:= .ty "str") rfl B.ro boot_str rfl) ad rfl) rfl))) (ag (aB (bQ (aj (aq (K:=K) rfl) rfl B.gt boot_isinstance (@aa _ _ _ _ _ (pv 0) (@aa _ _ _ _ _ (aC (v:= .ty "str") rfl B.ro boot_str rfl) ad rfl) rfl)) (cD (ce bB (pv 0) (pv 1) (aM _)))))) aE) (ae (aJ (aU (aj (aq (K:=K) rfl) rfl B.gt boot_isinstance (@aa _ _ _ _ _ (pv 1) (@aa _ _ _ _ _ (aC (v:= .ty "int") rfl B.rp boot_int rfl) ad rfl) rfl))) (ag (aB (bQ (aj (aq (K:=K) rfl) rfl B.gt boot_isinstance (@aa _ _ _ _ _ (pv 0) (@aa _ _ _ _ _ (aC (v:= .ty "int") rfl B.rp boot_int rfl) ad rfl) rfl)) (bQ (fJ (aj (aq (K:=K) rfl) rfl B.gt boot_isinstance (@aa _ _ _ _ _ (pv 0) (@aa _ _ _ _ _ (aC (v:= .ty "bool") rfl B.rQ boot_bool rfl) ad rfl) rfl))) (cD (ce bB (pv 0) (pv 1) (aM _))))))) aE) (ae (aJ (aU (aj (aq (K:=K) rfl) rfl B.gt boot_isinstance (@aa _ _ _ _ _ (pv 1) (@aa _ _ _ _ _ (aC (v:= .ty "tuple") rfl B.rc boot_tuple rfl) ad rfl) rfl))) (ag (aJ (bA (aU (aj (aq (K:=K) rfl) rfl B.gt boot_isinstance (@aa _ _ _ _ _ (pv 0) (@aa _ _ _ _ _ (aC (v:= .ty "tuple") rfl B.rc boot_tuple rfl) ad rfl) rfl)))) (ag (aB bp)) aE)) (ag (aJ (bA (aU (aj (aq (K:=K) rfl) rfl B.gt boot_isinstance (@aa _ _ _ _ _ (pv 0) (@aa _ _ _ _ _ (aC (v:= .ty "list") rfl B.rf boot_list rfl) ad rfl) rfl)))) (ag (aB bp)) aE))) (ae (aJ (aQ iU (aj av rfl B.rb boot_len (@aa _ _ _ _ _ (pv 0) ad rfl)) (aj av rfl B.rb boot_len (@aa _ _ _ _ _ (pv 1) ad rfl)) (aM _)) (ag (aB bp)) aE) (ae (bf PassesOwn.never rfl (aW rfl B.q8 (@aa _ _ _ _ _ (aj av rfl B.rb boot_len (@aa _ _ _ _ _ (pv 1) ad rfl)) ad rfl)) (gl 2 sc) (ag (aJ (bA (aU (eT DZ11 hr (@aa _ _ _ _ _ (aP cG (pv 0) (pv 2) (fun _ _=>rfl)) (@aa _ _ _ _ _ (aP cG (pv 1) (pv 2) (fun _ _=>rfl)) ad rfl) rfl)))) (ag (aB bp)) aE))) (ag (aB bp))))))),?_⟩
 try dsimp only[cxK]
 cases n with
 |zero=>
  rcases al with ⟨i,rfl,rfl⟩|⟨z,rfl,rfl⟩
  ·refine ⟨_,rfl,_,_,_,false,rfl,.int _,rfl,_,rfl,bj ?_⟩;refine ⟨_,rfl,_,_,_,true,rfl,.int _,rfl,_,rfl,b5 ?_⟩;exact ⟨_,rfl,_,_,_,true,rfl,.int _,rfl,_,rfl,b5 ⟨_,rfl,_,_,_,false,rfl,.int _,rfl,_,rfl,_,rfl,b5 ⟨_,rfl,_,rfl,rfl,mN (Q:=fun v=>Q v _) q⟩⟩⟩
  ·refine ⟨_,rfl,_,_,_,true,rfl,.str _,rfl,_,rfl,b5 ?_⟩;exact ⟨_,rfl,_,_,_,true,rfl,.str _,rfl,_,rfl,b5 ⟨_,rfl,_,rfl,rfl,mN (Q:=fun v=>Q v _) q⟩⟩
 |succ n=>
  obtain ⟨a,b,xs,ys,rfl,rfl,hh,hl,h4,each⟩:=al;rcases hh with ⟨el,em⟩|⟨el,em⟩
  ·refine ⟨_,rfl,_,_,_,false,rfl,.lst em,rfl,_,rfl,bj ?_⟩;refine ⟨_,rfl,_,_,_,false,rfl,.lst em,rfl,_,rfl,bj ?_⟩;try dsimp only[bx,bL]
   refine cut (fun σ H'=>H=H'/\σ= [sN a,sN b,none]) (fun N hN=>?_) ?_
   ·exact ⟨_,rfl,_,_,_,false,rfl,.lst em,rfl,_,rfl,bj ⟨_,rfl,_,_,_,true,rfl,.lst el,rfl,_,rfl,bj (hN _ _ ⟨rfl,rfl⟩)⟩⟩
   rintro σ _ ⟨rfl,rfl⟩;refine ⟨_,rfl,a,_,rfl,.inl (aS.of el),_,rfl,b,_,rfl,.inl (aS.of em),rfl,_,rfl,nF (by rw[hl]) ?_⟩
   refine ⟨_,rfl,b,_,rfl,.inl (aS.of em),_,rfl,by omega,by omega,aY (fun i σ H'=>H=H'/\∃o2:Option V,σ= [sN a,sN b,o2]) ⟨rfl,none,rfl⟩ (fun i σ H' hi hP=>?_) (fun σ H' hP=>?_)⟩
   ·obtain ⟨rfl,o2,rfl⟩:=hP;have hi':i<ys.length:=by omega
    have hx:=A0 (show i<xs.length by omega)
    have hy:=A0 hi';have ea:=each i _ _ hx hy;have ax:cR xs (0+(i:Int))=some xs[i]:=by rw[An];exact aT hx
    have ay:cR ys (0+(i:Int))=some ys[i]:=by rw[An];exact aT hy
    exact ⟨_,rfl,_,rfl,.inl ⟨a,_,_,_,rfl,rfl,aS.of el,ax,_,rfl,_,rfl,.inl ⟨b,_,_,_,rfl,rfl,aS.of em,ay,_,_,n,rfl,by omega,ea,_,rfl,bj ⟨rfl,_,rfl⟩⟩⟩⟩
   ·obtain ⟨rfl,o2,rfl⟩:=hP;exact q
  ·refine ⟨_,rfl,_,_,_,false,rfl,.tup em,rfl,_,rfl,bj ?_⟩;refine ⟨_,rfl,_,_,_,false,rfl,.tup em,rfl,_,rfl,bj ?_⟩;try dsimp only[bx,bL]
   refine cut (fun σ H'=>H=H'/\σ= [sN a,sN b,none]) (fun N hN=>?_) ?_
   ·exact ⟨_,rfl,_,_,_,true,rfl,.tup em,rfl,_,rfl,b5 ⟨_,rfl,_,_,_,true,rfl,.tup el,rfl,_,rfl,bj (hN _ _ ⟨rfl,rfl⟩)⟩⟩
   rintro σ _ ⟨rfl,rfl⟩;refine ⟨_,rfl,a,_,rfl,.inr (cr.of el),_,rfl,b,_,rfl,.inr (cr.of em),rfl,_,rfl,nF (by rw[hl]) ?_⟩
   refine ⟨_,rfl,b,_,rfl,.inr (cr.of em),_,rfl,by omega,by omega,aY (fun i σ H'=>H=H'/\∃o2:Option V,σ= [sN a,sN b,o2]) ⟨rfl,none,rfl⟩ (fun i σ H' hi hP=>?_) (fun σ H' hP=>?_)⟩
   ·obtain ⟨rfl,o2,rfl⟩:=hP;have hi':i<ys.length:=by omega
    have hx:=A0 (show i<xs.length by omega)
    have hy:=A0 hi';have ea:=each i _ _ hx hy;have ax:cR xs (0+(i:Int))=some xs[i]:=by rw[An];exact aT hx
    have ay:cR ys (0+(i:Int))=some ys[i]:=by rw[An];exact aT hy
    exact ⟨_,rfl,_,rfl,.inr (.inl ⟨a,_,_,_,rfl,rfl,cr.of el,ax,_,rfl,_,rfl,.inr (.inl ⟨b,_,_,_,rfl,rfl,cr.of em,ay,_,_,n,rfl,by omega,ea,_,rfl,bj ⟨rfl,_,rfl⟩⟩)⟩)⟩
   ·obtain ⟨rfl,o2,rfl⟩:=hP;exact q
theorem pE {dV:Value} (F:bC K "_law_counts" "_law_counts" n9 dV f fd) (DZ6:Dx P w K mg base bP 1 "_law_cell_at" ["_law_script","_law_k"] [] (ip K)):bu P w K mg base bP 2 f fd ["_law_script"] (eS K):=by
 have sc:aH ["_law_script","_law_cell","_law_counts_here","_law_k","_law_number"] ["_law_script"] (aw n9):=fY (by decide+kernel)
 refine F.ok sc (fun vs H Q E h=>?_) (fun cdv A outer s H vs Q E hr h=>?_)
 ·obtain ⟨_,_,rfl,_⟩:=h
  rfl
 obtain ⟨a,ns,rfl,hS,h63,q⟩:=h;have s4:(5000:Nat)<=sizeLine:=by decide
 refine ⟨_,(ae (cK 1 sc (ao aL (eT DZ6 hr (@aa _ _ _ _ _ (pv 0) (@aa _ _ _ _ _ af ad rfl) rfl)) (ao iZ af af))) (ae (cK 2 sc (@ba _ _ _ _ ad)) (ae (bf PassesOwn.never rfl (aW rfl B.q8 (@aa _ _ _ _ _ (ao br af (ao aL (pv 1) af)) ad rfl)) (gl 3 sc) (ae (cK 4 sc (ao aL (ao bn (ao br (ao a8 (pv 1) af) af) (ao br (ao br (ao bn (pv 3) (pv 3)) (ao bn af (pv 3))) af)) af)) (ag (aX (bN AN AQ AO aK (pv 2) (@aa _ _ _ _ _ (aP bg (@ba _ _ _ _ (@aa _ _ _ _ _ af (@aa _ _ _ _ _ (ao br af (ao aL (ao a8 (pv 4) af) af)) (@aa _ _ _ _ _ (ao br af (ao aL (ao a8 (pv 4) af) af)) ad rfl) rfl) rfl)) (ao aL (pv 4) af) (fun _ _=>rfl)) ad rfl)))))) (ag (aB (pv 2)))))),?_⟩
 try dsimp only[cxK]
 refine cut (fun σ H'=>H=H'/\∃c:Int,σ= [sN a,some (.int c),none,none,none]/\0<=c/\c<10^12) (fun N hN=>⟨_,rfl,a,ns,0,rfl,hS,by decide,fun c0=>⟨_,_,rfl,rfl,⟨by decide,by decide⟩,_,_,rfl,rfl,(by show (10^12:Int)≠0;decide),hN _ _ ⟨rfl,_,rfl,Af c0 (show (0:Int)<10^12 by decide),B0 c0 (show (0:Int)<10^12 by decide)⟩⟩⟩) ?_
 rintro σ _ ⟨rfl,c,rfl,a0,a1⟩;refine ⟨by show 0<=sizeLine;decide,fun l nl=>?_⟩
 have r0:=Af c (show (0:Int)<7 by decide)
 have r1:=B0 c (show (0:Int)<7 by decide)
 have cb:Bd 41 (c.fdiv 7+1):=by
  rw[Int.fdiv_eq_ediv_of_nonneg _ (by decide)]
  unfold Bd;omega
 try dsimp only[bx,bL]
 refine cut (fun σ H'=>∃(xs:List Int) (o3 o4:Option V),σ= [sN a,some (.int c),sN l,o3,o4]/\aN H H'/\H' l=some (.lst (xs.map V.int))/\2<=xs.length/\xs.length<=8/\∀x∈xs,1<=x/\x<=3) (fun N hN=>?_) ?_
 ·refine ⟨_,rfl,_,_,rfl,rfl,(by show (7:Int)≠0;decide),_,_,rfl,rfl,_,rfl,by omega,by omega,aY (fun i σ H'=>∃(xs:List Int) (o3 o4:Option V),σ= [sN a,some (.int c),sN l,o3,o4]/\aN H H'/\H' l=some (.lst (xs.map V.int))/\xs.length=i/\∀x∈xs,1<=x/\x<=3) ⟨[],none,none,rfl,am nl _,ah,rfl,by simp⟩ (fun i σ H2 hi hP=>?_) (fun σ H2 hP=>?_)⟩
  ·obtain ⟨xs,o3,o4,rfl,g,e,hl,hx⟩:=hP;have i8:i<9:=by omega
   have ib:Bd 8 (0+(i:Int)):=by unfold Bd;omega
   have b3:Bd 8 (3:Int):=by unfold Bd;decide
   have kk0:0<=(0+(i:Int))*(0+(i:Int)):=Int.mul_nonneg (by omega) (by omega)
   have kk1:(0+(i:Int))*(0+(i:Int))<=8*8:=Int.mul_le_mul (by omega) (by omega) (by omega) (by omega)
   have kb:Bd 30 ((0+(i:Int))*(0+(i:Int))+3*(0+(i:Int))+5):=by
    unfold Bd;omega
   refine ⟨_,rfl,_,_,rfl,rfl,⟨by decide,AZ (by decide)⟩,_,_,rfl,rfl,_,rfl,_,rfl,_,_,rfl,rfl,ib.ok ib,_,rfl,_,_,rfl,rfl,b3.ok ib,_,_,rfl,rfl,_,_,rfl,rfl,_,_,rfl,rfl,cb.ok kb,_,_,rfl,rfl,(by show (1009:Int)≠0;decide),?_⟩
   obtain ⟨n,en⟩:∃n,n=((c.fdiv 7+1)*((0+(i:Int))*(0+(i:Int))+3*(0+(i:Int))+5)).fmod 1009:=⟨_,rfl⟩;have f3:=fun x:Int=>And.intro (Af x (show (0:Int)<3 by decide)) (B0 x (show (0:Int)<3 by decide))
   obtain ⟨v,hv,hat⟩:=fV (xs:= [V.int 1,.int (1+(n.fdiv 3).fmod 3),.int (1+(n.fdiv 9).fmod 3)]) (f3 n).1 (by simpa using (f3 n).2)
   have fa:=f3 (n.fdiv 3);have fb:=f3 (n.fdiv 9);obtain ⟨w,rfl,w1,w3⟩:∃w:Int,v= .int w/\1<=w/\w<=3:=by
    simp only[AT,BI,or_false] at hv;rcases hv with rfl|rfl|rfl
    ·exact ⟨_,rfl,by omega,by omega⟩
    ·exact ⟨_,rfl,by omega,by omega⟩
    ·exact ⟨_,rfl,by omega,by omega⟩
   subst en;refine ⟨_,rfl,.inl ⟨rfl,_,aS.of e⟩,_,rfl,_,_,rfl,rfl,⟨by decide,AZ (by decide)⟩,_,_,rfl,rfl,(by show (3:Int)≠0;decide),_,_,rfl,rfl,_,rfl,_,_,rfl,rfl,⟨by decide,AZ (by decide)⟩,_,_,rfl,rfl,(by show (3:Int)≠0;decide),_,_,rfl,rfl,by show 3<=sizeLine;decide,fun m nm=>?_⟩
   have e':=fun o=>am nm o _ _ e
   refine ⟨_,rfl,_,_,rfl,rfl,(by show (3:Int)≠0;decide),m,_,_,_,rfl,rfl,aS.of ah,hat,l,_,_,rfl,rfl,e' _,(by rw[A5];omega),?_⟩
   refine ⟨xs++ [w],_,_,rfl,cV (g.trans (am nm _)) nl _,by rw[ah,Aq];rfl,by simp[hl],fun x hx'=>?_⟩
   rcases AE.mp hx' with k|k
   ·exact hx x k
   ·rw[Aw] at k;subst k;exact ⟨w1,w3⟩
  ·obtain ⟨xs,o3,o4,rfl,g,e,hl,hx⟩:=hP;exact hN _ _ ⟨xs,o3,o4,rfl,g,e,by omega,by omega,hx⟩
 rintro σ H' ⟨xs,o3,o4,rfl,g,e,hl2,hl,hx⟩;exact ⟨_,rfl,q l H' xs g e hl2 hl hx⟩
theorem pF {dV:Value} (F:bC K "_law_steps" "_law_steps" oa dV f fd) (DZ0:lD P w K mg base bP 1 rg ["self","name","least","most","uses","second"] [.non,.non] (cA K)) (DZ1:lD P w K mg base bP 2 rG ["self","name","least","most","fill","uses","second"] [.non,.non] (c4 K)):bu P w K mg base bP 4 f fd ["_law_counts_here","_law_names_here"] gO:=by
 have sc:aH ["_law_counts_here","_law_names_here","_law_steps_here","_law_k"] ["_law_counts_here","_law_names_here"] (aw oa):=fY (by decide+kernel)
 refine F.ok sc (fun vs H Q E h=>?_) (fun cdv A outer s H vs Q E hr h=>?_)
 ·obtain ⟨_,_,_,_,rfl,_⟩:=h
  rfl
 obtain ⟨lc,ln,cs,zs,rfl,ec,en,cz,c8,hc,q⟩:=h;have s4:(5000:Nat)<=sizeLine:=by decide
 refine ⟨_,(ae (cK 2 sc (@ba _ _ _ _ ad)) (ae (bf PassesOwn.never rfl (aW rfl B.q8 (@aa _ _ _ _ _ (aj av rfl B.rb boot_len (@aa _ _ _ _ _ (pv 0) ad rfl)) ad rfl)) (gl 3 sc) (ag (aJ (aQ mK (aP bg (pv 0) (pv 3) (fun _ _=>rfl)) af (aM _)) (ag (aX (bN AN AQ AO aK (pv 2) (@aa _ _ _ _ _ (fQ B.se DZ1 hr (by decide) rfl B.sq (@aa _ _ _ _ _ (aP bg (pv 1) (pv 3) (fun _ _=>rfl)) (@aa _ _ _ _ _ af (@aa _ _ _ _ _ af (@aa _ _ _ _ _ (@bt _ _ _ _ _ (@aa _ _ _ _ _ (aP bg (pv 0) (pv 3) (fun _ _=>rfl)) (@aa _ _ _ _ _ af ad rfl) rfl)) ad rfl) rfl) rfl) rfl)) ad rfl)))) (ag (aJ (aQ bB (ao aL (pv 3) af) af (aM _)) (ag (aX (bN AN AQ AO aK (pv 2) (@aa _ _ _ _ _ (fQ B.sf DZ0 hr (by decide) rfl B.su (@aa _ _ _ _ _ (aP bg (pv 1) (pv 3) (fun _ _=>rfl)) (@aa _ _ _ _ _ af (@aa _ _ _ _ _ af ad rfl) rfl) rfl)) ad rfl)))) (ag (aX (bN AN AQ AO aK (pv 2) (@aa _ _ _ _ _ (fQ B.so DZ0 hr (by decide) rfl B.sB (@aa _ _ _ _ _ (aP bg (pv 1) (pv 3) (fun _ _=>rfl)) (@aa _ _ _ _ _ af (@aa _ _ _ _ _ af ad rfl) rfl) rfl)) ad rfl))))))))) (ag (aB (pv 2))))),?_⟩
 try dsimp only[cxK]
 refine ⟨by show 0<=sizeLine;decide,fun l nl=>?_⟩
 try dsimp only[bx,bL]
 refine cut (fun σ H'=>∃(xs:List V) (o3:Option V),σ= [sN lc,sN ln,sN l,o3]/\aN H H'/\H' l=some (.lst xs)) (fun N hN=>?_) ?_
 ·refine ⟨_,rfl,lc,_,rfl,.inl (aS.of (am nl _ _ _ ec)),_,rfl,by omega,(by rw[A5];omega),aY (fun i σ H'=>∃(xs:List V) (o3:Option V),σ= [sN lc,sN ln,sN l,o3]/\aN H H'/\H' l=some (.lst xs)/\xs.length=i) ⟨[],none,rfl,am nl _,ah,rfl⟩ (fun i σ H2 hi hP=>?_) (fun σ H2 hP=>?_)⟩
  ·obtain ⟨xs,o3,rfl,g,e,xl⟩:=hP;have hi':i<cs.length:=by rw[A5] at hi;omega
   have at_:cR (cs.map V.int) (0+(i:Int))=some (.int cs[i]):=by
    rw[An];exact aT (by rw[AF,A0 hi'];rfl)
   have nE:cR (zs.map V.str) (0+(i:Int))=some (.str (zs[i]'(by omega))):=by
    rw[An];exact aT (by rw[AF,A0 (by omega)];rfl)
   have en2:=g _ _ en;have ec2:=g _ _ ec;refine ⟨_,rfl,_,rfl,lc,_,_,_,rfl,rfl,aS.of ec2,at_,_,_,rfl,rfl,_,rfl,d2 (fun c=>?_) (fun c=>?_)⟩
   ·refine ⟨_,rfl,.inl ⟨rfl,_,aS.of e⟩,_,rfl,_,rfl,ln,_,_,_,rfl,rfl,aS.of en2,nE,_,rfl,_,rfl,lc,_,_,_,rfl,rfl,aS.of ec2,at_,by show 2<=sizeLine;decide,fun t nt=>fun x dx nx nd nxd=>⟨x,_,dx,_,_,_,_,rfl,ah,⟨B.sg,B.rJ,B.rD,B.rK,B.rH,B.rA⟩,B.rL,fun u H6 ux k6 eu ex=>⟨rfl,?_⟩⟩⟩
    have g6:=(am nt _).trans (cO nx nd k6);exact ⟨l,xs,_,rfl,rfl,g6 _ _ e,by omega,xs++ [.ref x],_,rfl,cV (g.trans g6) nl _,ah,by simp[xl]⟩
   refine ⟨_,rfl,_,_,rfl,rfl,(by show (2:Int)≠0;decide),rfl,_,rfl,oS (fun c2=>?_) (fun c2=>?_)⟩
   ·refine ⟨_,rfl,.inl ⟨rfl,_,aS.of e⟩,_,rfl,_,rfl,ln,_,_,_,rfl,rfl,aS.of en2,nE,fun x dx nx nd nxd=>⟨x,_,dx,_,_,_,rfl,ah,⟨B.sh,B.rN,B.rE,B.rO,B.rM,B.rB⟩,fun u H6 ux k6 eu ex=>⟨rfl,?_⟩⟩⟩
    have g6:=cO nx nd k6;exact ⟨l,xs,_,rfl,rfl,g6 _ _ e,by omega,xs++ [.ref x],_,rfl,cV (g.trans g6) nl _,ah,by simp[xl]⟩
   ·refine ⟨_,rfl,.inl ⟨rfl,_,aS.of e⟩,_,rfl,_,rfl,ln,_,_,_,rfl,rfl,aS.of en2,nE,fun x dx nx nd nxd=>⟨x,_,dx,_,_,_,rfl,ah,⟨B.sw,B.rS,B.rP,B.rT,B.rR,B.rF⟩,fun u H6 ux k6 eu ex=>⟨rfl,?_⟩⟩⟩
    have g6:=cO nx nd k6;exact ⟨l,xs,_,rfl,rfl,g6 _ _ e,by omega,xs++ [.ref x],_,rfl,cV (g.trans g6) nl _,ah,by simp[xl]⟩
  ·obtain ⟨xs,o3,rfl,g,e,xl⟩:=hP;exact hN _ _ ⟨xs,o3,rfl,g,e⟩
 rintro σ H' ⟨xs,o3,rfl,g,e⟩;exact ⟨_,rfl,q l H' xs g e⟩
theorem pG {dV:Value} (F:bC K "_law_links" "_law_links" oe dV f fd):bu P w K mg base bP 2 f fd ["_law_script","_law_many"] (fF K):=by
 have sc:aH ["_law_script","_law_many","_law_links_here","_law_cell","_law_at","_law_other","_law_turns"] ["_law_script","_law_many"] (aw oe):=fY (by decide+kernel)
 refine F.ok sc (fun vs H Q E h=>?_) (fun cdv A outer s H vs Q E hr h=>?_)
 ·obtain ⟨_,_,_,rfl,_⟩:=h
  rfl
 obtain ⟨a,ns,m,rfl,hS,h63,m0,m8,q⟩:=h;have s4:(5000:Nat)<=sizeLine:=by decide
 refine ⟨_,(ae (cK 2 sc (@ba _ _ _ _ ad)) (ae (bf PassesOwn.never rfl (cw (bM lS (pv 0) (bT af) (bT af))) (gl 3 sc) (ae (cK 4 sc (ao aL (ao a8 (pv 3) af) (pv 1))) (ae (cK 5 sc (ao aL (ao br (ao br (pv 4) af) (ao aL (ao a8 (ao a8 (pv 3) af) (pv 1)) (ao km (pv 1) af))) (pv 1))) (ae (cK 6 sc af) (ae (aJ (aQ bB (ao aL (pv 3) af) af (aM _)) (ag (cK 6 sc (ao aL (ao a8 (pv 3) af) (aP bg (@ba _ _ _ _ (@aa _ _ _ _ _ af (@aa _ _ _ _ _ af (@aa _ _ _ _ _ af (@aa _ _ _ _ _ (ao iZ af af) ad rfl) rfl) rfl) rfl)) (ao aL (ao a8 (pv 3) af) af) (fun _ _=>rfl))))) aE) (ag (aX (bN AN AQ AO aK (pv 2) (@aa _ _ _ _ _ (@bt _ _ _ _ _ (@aa _ _ _ _ _ (aP bg (@ba _ _ _ _ (@aa _ _ _ _ _ cq (@aa _ _ _ _ _ cq (@aa _ _ _ _ _ cq ad rfl) rfl) rfl)) (ao aL (pv 3) af) (fun _ _=>rfl)) (@aa _ _ _ _ _ (pv 4) (@aa _ _ _ _ _ (pv 5) (@aa _ _ _ _ _ (pv 6) ad rfl) rfl) rfl) rfl)) ad rfl))))))))) (ag (aB (pv 2))))),?_⟩
 try dsimp only[cxK]
 refine ⟨by show 0<=sizeLine;decide,fun l nl=>?_⟩
 have g0:=am nl (.lst []);have lk0:LK (aR H l (.lst [])) l []:=⟨[],rfl,ah,fun i a t e=>by simp at e⟩
 try dsimp only[bx,bL]
 refine cut (fun σ H'=>∃(ks:List cC) (o3 o4 o5 o6:Option V),σ= [sN a,some (.int m),sN l,o3,o4,o5,o6]/\aN H H'/\LK H' l ks/\ks.length<=24) (fun N hN=>?_) ?_
 ·refine ⟨_,rfl,_,rfl,_,rfl,a,_,rfl,g0.seq hS,fun c hc=>?_⟩
  have hcl:=dJ (ns.map V.int) (some 2) (some 26);have hcl2:(dS (ns.map V.int) (some 2) (some 26)).length<=24:=by
   exact pf _
  rw[A5] at hcl;have nc:H c=none:=g0.free hc;have cn:c≠l:=fun z=>by rw[z,ah] at hc;cases hc
  have g1:=g0.trans (am hc (.lst (dS (ns.map V.int) (some 2) (some 26))));have lk1:=lk0.same (am hc (.lst (dS (ns.map V.int) (some 2) (some 26))));refine ⟨c,rfl,⟨_,aS.of ah⟩,bZ (xs:=dS (ns.map V.int) (some 2) (some 26)) (fun i σ H'=>H' c=some (.lst (dS (ns.map V.int) (some 2) (some 26)))/\∃(ks:List cC) (o3 o4 o5 o6:Option V),σ= [sN a,some (.int m),sN l,o3,o4,o5,o6]/\aN H H'/\LK H' l ks/\ks.length=i) ⟨ah,[],none,none,none,none,rfl,g1,lk1,rfl⟩ (fun i σ H' _ h=>aS.of h.1) ?_ ?_⟩
  ·rintro i x σ H2 hx ⟨ec,ks,o3,o4,o5,o6,rfl,g,lk,kl⟩;have il:=(A4.mp hx).1;obtain ⟨v,rfl⟩:∃v:Int,x= .int v:=by
    have mm:=AH hx;unfold dS at mm;have mm:=List.mem_of_mem_drop (Bh mm);obtain ⟨c,_,e⟩:=Ab.mp mm;exact ⟨c,e.symm⟩
   have mz:m≠0:=by omega
   refine ⟨_,rfl,_,_,rfl,rfl,⟨by decide,AZ (by decide)⟩,_,rfl,_,_,rfl,rfl,mz,?_⟩
   refine ⟨_,rfl,_,_,rfl,rfl,_,rfl,_,_,rfl,rfl,⟨by decide,AZ (by decide)⟩,_,rfl,_,_,rfl,rfl,⟨mz,AZ (by omega)⟩,_,rfl,_,_,rfl,rfl,_,_,rfl,rfl,by omega,_,_,rfl,rfl,_,rfl,_,_,rfl,rfl,mz,?_⟩
   try dsimp only[bx,bL]
   refine cut (fun σ H'=>H2=H'/\∃at_ ot:Int,σ= [sN a,some (.int m),sN l,some (.int v),some (.int at_),some (.int ot),some (.int 0)]) (fun N hN=>hN _ _ ⟨rfl,_,_,rfl⟩) ?_
   rintro σ _ ⟨rfl,at_,ot,rfl⟩;refine cut (fun σ H'=>aN H2 H'/\∃t:Int,σ= [sN a,some (.int m),sN l,some (.int v),some (.int at_),some (.int ot),some (.int t)]) (fun N hN=>?_) ?_
   ·refine ⟨_,rfl,_,_,rfl,rfl,(by show (3:Int)≠0;decide),rfl,_,rfl,oS (fun _=>?_) (fun _=>hN _ _ ⟨.refl _,_,rfl⟩)⟩
    have q0:=Af (v.fdiv 5) (show (0:Int)<4 by decide)
    have q1:=B0 (v.fdiv 5) (show (0:Int)<4 by decide)
    obtain ⟨w,hw,hat⟩:=fV (xs:=([1,5,100001,10^10]:List Int).map V.int) q0 (by simpa using q1)
    obtain ⟨wd,hwd,rfl⟩:=Ab.mp hw;have wz:wd≠0:=by
     simp only[AT,BI,or_false] at hwd;rcases hwd with rfl|rfl|rfl|rfl<;>decide
    exact ⟨_,rfl,_,_,rfl,rfl,⟨by decide,AZ (by decide)⟩,_,_,rfl,rfl,⟨by decide,by decide⟩,by show 4<=sizeLine;decide,fun p np=>⟨_,rfl,_,_,rfl,rfl,⟨by decide,AZ (by decide)⟩,_,_,rfl,rfl,(by show (4:Int)≠0;decide),p,_,_,.int wd,rfl,rfl,aS.of ah,hat,_,_,rfl,rfl,wz,hN _ _ ⟨am np _,_,rfl⟩⟩⟩
   rintro σ H9 ⟨gq,t,rfl⟩;have lk:=lk.same gq;have ec:=gq _ _ ec;have g:=g.trans gq;obtain ⟨as,a1,a2,a3⟩:=lk.ex;have r0:=Af v (show (0:Int)<3 by decide)
   have r1:=B0 v (show (0:Int)<3 by decide)
   obtain ⟨w,hw,hat⟩:=fV (xs:=([Str.ofString "after",Str.ofString "within",Str.ofString "apart"]).map V.str) r0 (by simpa using r1)
   obtain ⟨wd,_,rfl⟩:=Ab.mp hw;refine ⟨_,rfl,.inl ⟨rfl,_,aS.of a2⟩,by show 3<=sizeLine;decide,fun p np=>⟨_,rfl,_,_,rfl,rfl,(by show (3:Int)≠0;decide),p,_,_,.str wd,rfl,rfl,aS.of ah,hat,_,rfl,_,rfl,_,rfl,by show 4<=sizeLine;decide,fun b nb=>?_⟩⟩
   have g3:=am np (.lst [.str (Str.ofString "after"),.str (Str.ofString "within"),.str (Str.ofString "apart")]);have g4:=am nb (.tup [.str wd,.int at_,.int ot,.int t]);have g34:=g3.trans g4;obtain ⟨xs,ex,xl,lk4⟩:=(lk.same g34).snoc (a:=b) (k:=(wd,at_,ot,t)) ah;refine ⟨l,xs,_,rfl,rfl,ex,by omega,?_⟩
   exact ⟨by rw[ar cn];exact g34 _ _ ec,ks++ [(wd,at_,ot,t)],_,_,_,_,rfl,cV (g.trans g34) nl _,lk4,by simp[kl]⟩
  ·rintro σ H2 ⟨ec,ks,o3,o4,o5,o6,rfl,g,lk,kl⟩;exact hN _ _ ⟨ks,o3,o4,o5,o6,rfl,g,lk,by omega⟩
 rintro σ H' ⟨ks,o3,o4,o5,o6,rfl,g,lk,kl⟩;exact ⟨_,rfl,q l H' ks g lk kl⟩
theorem pH {dV:Value} (F:bC K "_law_tasks" "_law_tasks" og dV f fd):bu P w K mg base bP 1 f fd ["_law_counts_here"] gP:=by
 have sc:aH ["_law_counts_here","_law_tasks_here","_law_k","_law_turn"] ["_law_counts_here"] (aw og):=fY (by decide+kernel)
 refine F.ok sc (fun vs H Q E h=>?_) (fun cdv A outer s H vs Q E hr h=>?_)
 ·obtain ⟨_,_,rfl,_⟩:=h
  rfl
 obtain ⟨lc,cs,rfl,ec,c8,hc,q⟩:=h;have s4:(5000:Nat)<=sizeLine:=by decide
 refine ⟨_,(ae (cK 1 sc (@ba _ _ _ _ ad)) (ae (bf PassesOwn.never rfl (aW rfl B.q8 (@aa _ _ _ _ _ (aj av rfl B.rb boot_len (@aa _ _ _ _ _ (pv 0) ad rfl)) ad rfl)) (gl 2 sc) (ag (bf PassesOwn.never rfl (aW rfl B.q8 (@aa _ _ _ _ _ (aP bg (pv 0) (pv 2) (fun _ _=>rfl)) ad rfl)) (gl 3 sc) (ag (aX (bN AN AQ AO aK (pv 1) (@aa _ _ _ _ _ (@bt _ _ _ _ _ (@aa _ _ _ _ _ (pv 2) (@aa _ _ _ _ _ (pv 3) (@aa _ _ _ _ _ (@ba _ _ _ _ (@aa _ _ _ _ _ (@bt _ _ _ _ _ (@aa _ _ _ _ _ af (@aa _ _ _ _ _ af (@aa _ _ _ _ _ (@ba _ _ _ _ ad) ad rfl) rfl) rfl)) ad rfl)) ad rfl) rfl) rfl)) ad rfl))))))) (ag (aB (pv 1))))),?_⟩
 try dsimp only[cxK]
 refine ⟨by show 0<=sizeLine;decide,fun l nl=>?_⟩
 try dsimp only[bx,bL]
 have tl:=eD hc;have c24:=tl cs.length;refine cut (fun σ H'=>∃(o2 o3:Option V),σ= [sN lc,sN l,o2,o3]/\aN H H'/\TK H' l (a9 cs cs.length)) (fun N hN=>?_) ?_
 ·refine ⟨_,rfl,lc,_,rfl,.inl (aS.of (am nl _ _ _ ec)),_,rfl,by omega,(by rw[A5];omega),aY (fun i σ H'=>∃(o2 o3:Option V),σ= [sN lc,sN l,o2,o3]/\aN H H'/\TK H' l (a9 cs i)) ⟨none,none,rfl,am nl _,⟨[],rfl,ah,fun i a t e=>by simp at e⟩⟩ (fun i σ H2 hi hP=>?_) (fun σ H2 hP=>?_)⟩
  ·obtain ⟨o2,o3,rfl,g,tk⟩:=hP;have hi':i<cs.length:=by rw[A5] at hi;omega
   have hci:=hc _ (List.getElem_mem hi');have at_:cR (cs.map V.int) (0+(i:Int))=some (.int cs[i]):=by
    rw[An];exact aT (by rw[AF,A0 hi'];rfl)
   have gd:cs.getD i 0=cs[i]:=by rw[BK,A0 hi'];rfl
   have li:=tl i;refine ⟨_,rfl,_,rfl,lc,_,_,_,rfl,rfl,aS.of (g _ _ ec),at_,_,rfl,by omega,by omega,aY (fun j σ H'=>∃(o3:Option V),σ= [sN lc,sN l,some (.int (0+(i:Int))),o3]/\aN H H'/\TK H' l (a9 cs i++(Ai j).map fun t:Nat=>((0+(i:Int):Int),(0+(t:Int):Int)))) ⟨_,rfl,g,by simpa using tk⟩ (fun j σ H3 hj hP=>?_) (fun σ H3 hP=>?_)⟩
   ·obtain ⟨o3,rfl,g3,tk3⟩:=hP;obtain ⟨as,a1,a2,a3⟩:=tk3.ex;refine ⟨_,rfl,.inl ⟨rfl,_,aS.of a2⟩,_,rfl,_,rfl,by show 0<=sizeLine;decide,fun e ne=>⟨by show 3<=sizeLine;decide,fun v nv=>⟨by show 1<=sizeLine;decide,fun w nw=>⟨by show 3<=sizeLine;decide,fun a na=>?_⟩⟩⟩⟩
    have g4:=am ne (.lst []);have g5:=am nv (.tup [.int 1,.int 2,.ref e]);have g6:=am nw (.lst [.ref v]);have g7:=am na (.tup [.int (0+(i:Int)),.int (0+(j:Int)),.ref w]);have g47:=((g4.trans g5).trans g6).trans g7;have k4:=g7 _ _ (g6 _ _ (g5 _ _ (show aR H3 e (.lst []) e=_ from ah)))
    have k3:=g7 _ _ (g6 _ _ (show aR (aR H3 e (.lst [])) v (.tup [.int 1,.int 2,.ref e]) v=_ from ah))
    have k2:=g7 _ _ (show aR (aR (aR H3 e (.lst [])) v (.tup [.int 1,.int 2,.ref e])) w (.lst [.ref v]) w=_ from ah)
    have el:e≠l:=fun z=>by rw[z,a2] at ne;cases ne
    have wl:w≠l:=fun z=>by rw[z,g5 _ _ (g4 _ _ a2)] at nw;cases nw
    obtain ⟨xs,ex,xl,tk4⟩:=(tk3.same g47).snoc (t:=(0+(i:Int),0+(j:Int))) ah k2 k3 k4 wl el;have xl':xs.length<=30:=by
     rw[xl,A9,A5,BB];omega
    refine ⟨l,xs,_,rfl,rfl,ex,by omega,?_⟩
    refine ⟨_,rfl,cV (g3.trans g47) nl _,?_⟩;rw[List.range_succ,Aq,<-AI];exact tk4
   ·obtain ⟨o3,rfl,g3,tk3⟩:=hP;refine ⟨_,_,rfl,g3,?_⟩;show TK H3 l (a9 cs i++_);rw[gd];exact tk3
  ·obtain ⟨o2,o3,rfl,g,tk⟩:=hP;rw[BR,A5] at tk;exact hN _ _ ⟨o2,o3,rfl,g,tk⟩
 rintro σ H' ⟨o2,o3,rfl,g,tk⟩;exact ⟨_,rfl,q l H' g tk (by omega)⟩
theorem pI {dV:Value} (F:bC K "_law_due" "_law_due" oh dV f fd):bu P w K mg base bP 1 f fd ["_law_links_here","_law_tasks_here"] lB:=by
 have sc:aH ["_law_links_here","_law_tasks_here","_law_arcs","_law_apart","_law_word","_law_at","_law_other","_law_turns","_law_s","_law_o"] ["_law_links_here","_law_tasks_here"] (aw oh):=fY (by decide+kernel)
 refine F.ok sc (fun vs H Q E h=>?_) (fun cdv A outer s H vs Q E hr h=>?_)
 ·obtain ⟨_,_,_,_,rfl,_⟩:=h
  rfl
 obtain ⟨lk,lt,ks,fs,rfl,hk,ht,f100,p3,k24,q⟩:=h;have sl:sizeLine=16777216:=sizeLine_eq;refine ⟨_,(ae (cK 2 sc (@ba _ _ _ _ ad)) (ae (cK 3 sc (@ba _ _ _ _ ad)) (ae (bf PassesOwn.never rfl (cw (pv 0)) (m7 rfl (c7 (gl 4 sc) (c7 (dX (i:=5) sc.nd rfl (Or.inr rfl)) (c7 (dX (i:=6) sc.nd rfl (Or.inr rfl)) (c7 (gl 7 sc) lH))))) (ag (bf PassesOwn.never rfl (cw (dy (own:= "_law_k") (ys:= ["_law_at","_law_tasks_here"]) (js:= [5,1]) rfl (qh (ol (ol nE)) (.cons rfl (.cons rfl .nil)) (by decide) rfl rfl rfl rfl rfl rfl rfl rfl) (aW rfl B.q8 (@aa _ _ _ _ _ (aj av rfl B.rb boot_len (@aa _ _ _ _ _ (pv 1) ad rfl)) ad rfl)) (fun C fp s H=>(aQ bB (aP (fX (K:=K) rfl) (aP (nM (K:=K) rfl) (pv 2) (pv 0) (fun _ _=>rfl)) af (fun _ _=>rfl)) (pv 1) (aM _))) (fun C fp s H=>(pv 0)))) (gl 8 sc) (ag (bf PassesOwn.never rfl (cw (dy (own:= "_law_k") (ys:= ["_law_other","_law_tasks_here"]) (js:= [6,1]) rfl (qh (ol (ol nE)) (.cons rfl (.cons rfl .nil)) (by decide) rfl rfl rfl rfl rfl rfl rfl rfl) (aW rfl B.q8 (@aa _ _ _ _ _ (aj av rfl B.rb boot_len (@aa _ _ _ _ _ (pv 1) ad rfl)) ad rfl)) (fun C fp s H=>(aQ bB (aP (fX (K:=K) rfl) (aP (nM (K:=K) rfl) (pv 2) (pv 0) (fun _ _=>rfl)) af (fun _ _=>rfl)) (pv 1) (aM _))) (fun C fp s H=>(pv 0)))) (gl 9 sc) (ae (aJ (aQ bB (pv 4) cq (aM _)) (ag (aX (bN AN AQ AO aK (pv 3) (@aa _ _ _ _ _ (@bt _ _ _ _ _ (@aa _ _ _ _ _ (aj (fk rfl) rfl B.si boot_min (@aa _ _ _ _ _ (pv 8) (@aa _ _ _ _ _ (pv 9) ad rfl) rfl)) (@aa _ _ _ _ _ (aj (fj rfl) rfl B.sj boot_max (@aa _ _ _ _ _ (pv 8) (@aa _ _ _ _ _ (pv 9) ad rfl) rfl)) ad rfl) rfl)) ad rfl)))) (ag (aX (bN AN AQ AO aK (pv 2) (@aa _ _ _ _ _ (@bt _ _ _ _ _ (@aa _ _ _ _ _ (ao br (ao bn af (pv 9)) af) (@aa _ _ _ _ _ (ao bn af (pv 8)) (@aa _ _ _ _ _ af ad rfl) rfl) rfl)) ad rfl))))) (ag (aJ (aQ bB (pv 4) cq (aM _)) (ag (aX (bN AN AQ AO aK (pv 2) (@aa _ _ _ _ _ (@bt _ _ _ _ _ (@aa _ _ _ _ _ (ao bn af (pv 8)) (@aa _ _ _ _ _ (ao br (ao bn af (pv 9)) af) (@aa _ _ _ _ _ (ao km af (pv 7)) ad rfl) rfl) rfl)) ad rfl)))) aE)))))))) (ag (aB (@bt _ _ _ _ _ (@aa _ _ _ _ _ (Su.cj rfl hr.units rfl B.rj rfl B.rW PyProof.Rows.Boot.«sorted» PyProof.Rows.Boot.«set» (pv 2)) (@aa _ _ _ _ _ (Su.cj rfl hr.units rfl B.rj rfl B.rW PyProof.Rows.Boot.«sorted» PyProof.Rows.Boot.«set» (pv 3)) ad rfl) rfl))))))),?_⟩
 try dsimp only[cxK]
 refine ⟨by show 0<=sizeLine;decide,fun la nla=>?_⟩
 have g1:=am nla (.lst []);have ea:aR H la (.lst []) la=some (.lst []):=ah;generalize aR H la (.lst [])=H1 at g1 ea⊢;refine ⟨by show 0<=sizeLine;decide,fun lb nlb=>?_⟩
 have g2:=am nlb (.lst []);have eb:aR H1 lb (.lst []) lb=some (.lst []):=ah;have ab:la≠lb:=fun z=>by rw[<-z,ea] at nlb;cases nlb
 have ea:=g2 _ _ ea;have nb0:=g1.free nlb;have g12:=g1.trans g2;generalize aR H1 lb (.lst [])=H2 at g2 eb ea g12⊢;dsimp only[bx,bL];obtain ⟨as,a1,a2,a3⟩:=hk.ex;obtain ⟨bs,b1,b2,b3⟩:=id ht;refine cut (fun σ H'=>∃o4 o5 o6 o7 o8 o9,σ= [sN lk,sN lt,sN la,sN lb,o4,o5,o6,o7,o8,o9]/\aN H H'/\aF H' la (eP ks fs).1/\aF H' lb (eP ks fs).2) (fun N hN=>?_) ?_
 ·refine ⟨_,rfl,lk,rfl,⟨_,aS.of (g12 _ _ a2)⟩,bZ (xs:=as.map V.ref) (fun i σ H'=>∃o4 o5 o6 o7 o8 o9,σ= [sN lk,sN lt,sN la,sN lb,o4,o5,o6,o7,o8,o9]/\aN H H'/\aF H' la (((ks.take i).foldl (b9 fs) (([],[]):AP))).1/\aF H' lb (((ks.take i).foldl (b9 fs) (([],[]):AP))).2/\(((ks.take i).foldl (b9 fs) (([],[]):AP))).1.length+(((ks.take i).foldl (b9 fs) (([],[]):AP))).2.length<=18*i) ⟨none,none,none,none,none,none,rfl,g12,.nil ea,.nil eb,by simp⟩ (fun i σ H' _ h=>by obtain ⟨_,_,_,_,_,_,_,g,_⟩:=h;exact aS.of (g _ _ a2)) ?_ ?_⟩
  ·rintro i x σ H3 hx ⟨o4,o5,o6,o7,o8,o9,rfl,g3,ta,tb,l1⟩;obtain ⟨a,ha,rfl⟩:=dC hx;obtain ⟨k,hk',_⟩:=dh (d:=qL) a1 ha;have i24:i<24:=by have:=(A4.mp hk').1;omega
   have et:=a3 i a k ha hk';have ftk:=bY (b9 fs) (([],[]):AP) hk';rw[ftk];generalize hb0:(ks.take i).foldl (b9 fs) ([],[])=ap0 at ta tb l1⊢;refine ⟨a,_,rfl,cr.of (g3 _ _ et),rfl,_,_,rfl,_,_,rfl,_,_,rfl,_,_,rfl,rfl,?_⟩;change nh _ _ _ _ [some (.ref lk),some (.ref lt),some (.ref la),some (.ref lb),some (.str k.1),some (.int k.2.1),some (.int k.2.2.1),some (.int k.2.2.2),o8,o9] H3;refine ⟨_,rfl,lt,_,rfl,.inl (aS.of (g3 _ _ b2)),_,rfl,by omega,(by rw[A5];omega),?_⟩
   refine c5 (fun i=>decide (fs.getD i 0=k.2.1)) (fun i=> .int (0+(i:Int))) (by rw[A5];omega) (fun i hi H8 g8 R hR=>?_) (fun i hi H8 g8 Q' hQ=>⟨_,rfl,hQ⟩) (fun p H4 np g4 e4=>?_)
   ·have hi':i<bs.length:=by rw[A5] at hi;omega
    obtain ⟨f,hf,hd⟩:=dh (d:=(0:Int)) b1 (A0 hi');obtain ⟨v,w,e⟩:=b3 i _ f (A0 hi') hf;have at_:cR (bs.map V.ref) (0+(i:Int))=some (.ref bs[i]):=by
     rw[An];exact aT (by rw[AF,A0 hi'];rfl)
    rw[hd] at hR;exact ⟨_,rfl,_,rfl,lt,_,_,_,rfl,rfl,aS.of (g8 _ _ (g3 _ _ b2)),at_,_,_,_,_,rfl,rfl,cr.of (g8 _ _ (g3 _ _ e)),rfl,_,rfl,rfl,_,rfl,by rw[nZ];exact hR⟩
   have g34:=g3.trans g4;have ep:H4 p=some (.lst ((bv fs k.2.1).map V.int)):=by rw[e4,eN,BR,A5,b1]
   have pa:p≠la:=fun z=>by obtain ⟨_,e,_⟩:=ta;rw[z,e] at np;cases np
   have pb:p≠lb:=fun z=>by obtain ⟨_,e,_⟩:=tb;rw[z,e] at np;cases np
   refine ⟨p,rfl,⟨_,aS.of ep⟩,bZ (xs:=(bv fs k.2.1).map V.int) (fun j σ H'=>∃o8 o9,σ= [sN lk,sN lt,sN la,sN lb,some (.str k.1),some (.int k.2.1),some (.int k.2.2.1),some (.int k.2.2.2),o8,o9]/\aN H H'/\H' p=some (.lst ((bv fs k.2.1).map V.int))/\aF H' la (((bv fs k.2.1).take j).foldl (fg k (bv fs k.2.2.1)) ap0).1/\aF H' lb (((bv fs k.2.1).take j).foldl (fg k (bv fs k.2.2.1)) ap0).2/\(((bv fs k.2.1).take j).foldl (fg k (bv fs k.2.2.1)) ap0).1.length+(((bv fs k.2.1).take j).foldl (fg k (bv fs k.2.2.1)) ap0).2.length<=18*i+6*j) ⟨_,_,rfl,g34,ep,ta.same g4,tb.same g4,by simpa using l1⟩ (fun j σ H' _ h=>by obtain ⟨_,_,_,_,e,_⟩:=h;exact aS.of e) ?_ ?_⟩
   ·rintro j x σ H5 hx ⟨o8,o9,rfl,g5,ep5,ta,tb,l2⟩;rw[AF] at hx;obtain ⟨s,hs,rfl⟩:=AR.mp hx;have j3:j<3:=by have:=(A4.mp hs).1;have:=p3 k.2.1;omega
    have sb:=gj (AH hs);rw[bY (fg k (bv fs k.2.2.1)) ap0 hs];generalize hb1:((bv fs k.2.1).take j).foldl (fg k (bv fs k.2.2.1)) ap0=ap1 at ta tb l2⊢;change nh _ _ _ _ [some (.ref lk),some (.ref lt),some (.ref la),some (.ref lb),some (.str k.1),some (.int k.2.1),some (.int k.2.2.1),some (.int k.2.2.2),some (.int s),o9] H5;refine ⟨_,rfl,lt,_,rfl,.inl (aS.of (g5 _ _ b2)),_,rfl,by omega,(by rw[A5];omega),?_⟩
    refine c5 (fun i=>decide (fs.getD i 0=k.2.2.1)) (fun i=> .int (0+(i:Int))) (by rw[A5];omega) (fun i hi H8 g8 R hR=>?_) (fun i hi H8 g8 Q' hQ=>⟨_,rfl,hQ⟩) (fun p2 H6 np2 g6 e6=>?_)
    ·have hi':i<bs.length:=by rw[A5] at hi;omega
     obtain ⟨f,hf,hd⟩:=dh (d:=(0:Int)) b1 (A0 hi');obtain ⟨v,w,e⟩:=b3 i _ f (A0 hi') hf;have at_:cR (bs.map V.ref) (0+(i:Int))=some (.ref bs[i]):=by
      rw[An];exact aT (by rw[AF,A0 hi'];rfl)
     rw[hd] at hR;exact ⟨_,rfl,_,rfl,lt,_,_,_,rfl,rfl,aS.of (g8 _ _ (g5 _ _ b2)),at_,_,_,_,_,rfl,rfl,cr.of (g8 _ _ (g5 _ _ e)),rfl,_,rfl,rfl,_,rfl,by rw[nZ];exact hR⟩
    have g56:=g5.trans g6;have ep2:H6 p2=some (.lst ((bv fs k.2.2.1).map V.int)):=by rw[e6,eN,BR,A5,b1]
    have pa2:p2≠la:=fun z=>by obtain ⟨_,e,_⟩:=ta;rw[z,e] at np2;cases np2
    have pb2:p2≠lb:=fun z=>by obtain ⟨_,e,_⟩:=tb;rw[z,e] at np2;cases np2
    refine ⟨p2,rfl,⟨_,aS.of ep2⟩,bZ (xs:=(bv fs k.2.2.1).map V.int) (fun u σ H'=>∃o9,σ= [sN lk,sN lt,sN la,sN lb,some (.str k.1),some (.int k.2.1),some (.int k.2.2.1),some (.int k.2.2.2),some (.int s),o9]/\aN H H'/\H' p=some (.lst ((bv fs k.2.1).map V.int))/\H' p2=some (.lst ((bv fs k.2.2.1).map V.int))/\aF H' la (((bv fs k.2.2.1).take u).foldl (cU k s) ap1).1/\aF H' lb (((bv fs k.2.2.1).take u).foldl (cU k s) ap1).2/\(((bv fs k.2.2.1).take u).foldl (cU k s) ap1).1.length+(((bv fs k.2.2.1).take u).foldl (cU k s) ap1).2.length<=18*i+6*j+2*u) ⟨_,rfl,g56,g6 _ _ ep5,ep2,ta.same g6,tb.same g6,by simpa using l2⟩ (fun u σ H' _ h=>by obtain ⟨_,_,_,_,e,_⟩:=h;exact aS.of e) ?_ ?_⟩
    ·rintro u x σ H7 hx ⟨o9,rfl,g7,ep7,ep27,ta,tb,l3⟩;rw[AF] at hx;obtain ⟨o,ho,rfl⟩:=AR.mp hx;have u3:u<3:=by have:=(A4.mp ho).1;have:=p3 k.2.2.1;omega
     have ob:=gj (AH ho);rw[bY (cU k s) ap1 ho];have lO:=gh k s (((bv fs k.2.2.1).take u).foldl (cU k s) ap1) o;generalize hb2:((bv fs k.2.2.1).take u).foldl (cU k s) ap1=ap2 at ta tb l3 lO⊢;change L2.ki _ _ _ [some (.ref lk),some (.ref lt),some (.ref la),some (.ref lb),some (.str k.1),some (.int k.2.1),some (.int k.2.2.1),some (.int k.2.2.2),some (.int s),some (.int o)] H7;have l9:(st1 k s ap2 o).1.length+(st1 k s ap2 o).2.length<=ap2.1.length+ap2.2.length+1:=by
      unfold st1
      split<;>simp<;>omega
     refine cut (fun σ H'=>σ= [sN lk,sN lt,sN la,sN lb,some (.str k.1),some (.int k.2.1),some (.int k.2.2.1),some (.int k.2.2.2),some (.int s),some (.int o)]/\aN H H'/\H' p=some (.lst ((bv fs k.2.1).map V.int))/\H' p2=some (.lst ((bv fs k.2.2.1).map V.int))/\aF H' la (st1 k s ap2 o).1/\aF H' lb (st1 k s ap2 o).2) (fun N hN=>?_) ?_
     ·refine ⟨_,rfl,rfl,_,rfl,mI (fun c=>?_) fun c=>?_⟩
      ·have e2:st1 k s ap2 o=(ap2.1,ap2.2++ [[mn s o,mx s o]]):=if_pos c;obtain ⟨_,eb7,_⟩:=id tb;refine ⟨_,rfl,.inl ⟨rfl,_,aS.of eb7⟩,_,rfl,_,rfl,_,_,rfl,_,rfl,_,rfl,_,_,rfl,by show 2<=sizeLine;decide,fun t nt=>?_⟩
       have g8:=am nt (.tup [.int (mn s o),.int (mx s o)]);obtain ⟨xs,x1,x2,x3⟩:=(tb.same g8).snoc (t:=t) (k:= [mn s o,mx s o]) ah;refine ⟨lb,xs,_,rfl,rfl,x1,by omega,hN _ _ ⟨rfl,cV (g7.trans g8) nb0 _,by rw[ar pb];exact g8 _ _ ep7,by rw[ar pb2];exact g8 _ _ ep27,?_,?_⟩⟩
       ·rw[e2];exact (ta.same g8).other x1 (Ne.symm ab)
       ·rw[e2];exact x3
      ·have e2:st1 k s ap2 o=(ap2.1++ [[2*o+1,2*s,0]],ap2.2):=if_neg c;obtain ⟨_,ea7,_⟩:=id ta;refine ⟨_,rfl,.inl ⟨rfl,_,aS.of ea7⟩,_,rfl,_,_,rfl,rfl,IntMulOk.of_left (by decide),_,_,rfl,rfl,_,rfl,_,_,rfl,rfl,IntMulOk.of_left (by decide),by show 3<=sizeLine;decide,fun t nt=>?_⟩
       have g8:=am nt (.tup [.int (2*o+1),.int (2*s),.int 0]);obtain ⟨xs,x1,x2,x3⟩:=(ta.same g8).snoc (t:=t) (k:= [2*o+1,2*s,0]) ah;refine ⟨la,xs,_,rfl,rfl,x1,by omega,hN _ _ ⟨rfl,cV (g7.trans g8) nla _,by rw[ar pa];exact g8 _ _ ep7,by rw[ar pa2];exact g8 _ _ ep27,?_,?_⟩⟩
       ·rw[e2];exact x3
       ·rw[e2];exact (tb.same g8).other x1 ab
     rintro σ H8 ⟨rfl,g8,ep8,ep28,ta,tb⟩;refine ⟨_,rfl,rfl,_,rfl,mI (fun c=>?_) fun c=>⟨_,rfl,g8,ep8,ep28,by rw[ji c];exact ta,by rw[ji c];exact tb,by omega⟩⟩
     have e2:=n4 c s o ap2;obtain ⟨_,ea7,_⟩:=id ta;refine ⟨_,rfl,.inl ⟨rfl,_,aS.of ea7⟩,_,rfl,_,_,rfl,rfl,IntMulOk.of_left (by decide),_,rfl,_,_,rfl,rfl,IntMulOk.of_left (by decide),_,_,rfl,rfl,_,rfl,_,_,rfl,rfl,by show 3<=sizeLine;decide,fun t nt=>?_⟩
     have g9:=am nt (.tup [.int (2*s),.int (2*o+1),.int (0-k.2.2.2)]);obtain ⟨xs,x1,x2,x3⟩:=(ta.same g9).snoc (t:=t) (k:= [2*s,2*o+1,0-k.2.2.2]) ah;refine ⟨la,xs,_,rfl,rfl,x1,by omega,_,rfl,cV (g8.trans g9) nla _,by rw[ar pa];exact g9 _ _ ep8,by rw[ar pa2];exact g9 _ _ ep28,?_,?_,by omega⟩
     ·rw[e2];exact x3
     ·rw[e2];exact (tb.same g9).other x1 ab
    ·rintro σ H7 ⟨o9,rfl,g7,ep7,ep27,ta,tb,l3⟩;rw[A5,bG] at ta tb l3;have:=p3 k.2.2.1;exact ⟨_,_,rfl,g7,ep7,ta,tb,by unfold fg;omega⟩
   ·rintro σ H5 ⟨o8,o9,rfl,g5,ep5,ta,tb,l2⟩;rw[A5,bG] at ta tb l2;have:=p3 k.2.1;exact ⟨_,_,_,_,_,_,rfl,g5,ta,tb,by unfold b9;omega⟩
  ·rintro σ H3 ⟨o4,o5,o6,o7,o8,o9,rfl,g3,ta,tb,l1⟩;rw[A5,a1,bG] at ta tb;exact hN _ _ ⟨o4,o5,o6,o7,o8,o9,rfl,g3,ta,tb⟩
 rintro σ H3 ⟨o4,o5,o6,o7,o8,o9,rfl,g3,ta,tb⟩;have few:=gi p3 ks;have ne:=lw ks fs;obtain ⟨xs,x1,x2,x3⟩:=ta.kn ne.1;refine ⟨_,rfl,la,xs,rfl,aS.of x1,?_,x3,fun pa ys npa y1 y2 y3 y4=>?_⟩
 ·have:=congrArg BW x2;rw[A5] at this;omega
 have g4:=am npa (.lst (ys.map fun y=>V.ref y.2))
 have tA:aF (aR H3 pa (.lst (ys.map fun y=>V.ref y.2))) pa (ys.map fun y=>y.1):=d7 ah fun y hy=>g4 _ _ (x3 y (y1 y hy)).1
 generalize aR H3 pa (.lst (ys.map fun y=>V.ref y.2))=H4 at g4 tA⊢
 obtain ⟨ws,w1,w2,w3⟩:=(tb.same g4).kn ne.2;refine ⟨_,rfl,lb,ws,rfl,aS.of w1,?_,w3,fun pb zs npb z1 z2 z3 z4=>?_⟩
 ·have:=congrArg BW w2;rw[A5] at this;omega
 have g5:=am npb (.lst (zs.map fun y=>V.ref y.2))
 have tB:aF (aR H4 pb (.lst (zs.map fun y=>V.ref y.2))) pb (zs.map fun y=>y.1):=d7 ah fun y hy=>g5 _ _ (w3 y (z1 y hy)).1
 have pab:pa≠pb:=fun z=>by obtain ⟨_,e,_⟩:=tA;rw[z,npb] at e;cases e
 generalize aR H4 pb (.lst (zs.map fun y=>V.ref y.2))=H5 at g5 tB⊢
 refine ⟨by show 2<=sizeLine;decide,fun t nt=>?_⟩
 have g6:=am nt (.tup [.ref pa,.ref pb]);rw[x2] at y3;rw[w2] at z3;exact q t pa pb _ _ _ (((g3.trans g4).trans g5).trans g6) (g3.free npa) ((g3.trans g4).free npb) pab ah ((tA.same g5).same g6) (tB.same g6) ⟨y2,y3,y4⟩ ⟨z2,z3,z4⟩
theorem pJ {dV:Value} (F:bC K "law" "law" gk dV f fd) (DZ2:lD P w K mg base bP 1 rV ["self","name","plates","takes","steps","links"] [] (fx K)) (DZ5:Dx P w K mg base bP 3 "links_of" ["recipe","tasks"] [] (fE K)) (DZ6:Dx P w K mg base bP 1 "_law_cell_at" ["_law_script","_law_k"] [] (ip K)) (DZ7:Dx P w K mg base bP 1 "_law_names" ["_law_number","_law_many"] [] gK) (DZ12:Dx P w K mg base bP 5 "_law_alike" ["_law_found","_law_due_here"] [] (dQ 3)) (DZ13:Dx P w K mg base bP 2 "_law_counts" ["_law_script"] [] (eS K)) (DZ14:Dx P w K mg base bP 4 "_law_steps" ["_law_counts_here","_law_names_here"] [] gO) (DZ15:Dx P w K mg base bP 2 "_law_links" ["_law_script","_law_many"] [] (fF K)) (DZ16:Dx P w K mg base bP 1 "_law_tasks" ["_law_counts_here"] [] gP) (DZ17:Dx P w K mg base bP 1 "_law_due" ["_law_links_here","_law_tasks_here"] [] lB):bu P w K mg base bP 7 f fd ["_law_script"] (i3 K):=by
 have sc:aH ["_law_script","_law_counts_here","_law_names_here","_law_links_here","_law_recipe","_law_handed","_law_due_here","_law_found"] ["_law_script"] (aw gk):=fY (by decide+kernel)
 refine F.ok sc (fun vs H Q E h=>?_) (fun cdv A outer s H vs Q E hr h=>?_)
 ·obtain ⟨_,_,rfl,_⟩:=h
  rfl
 obtain ⟨a,ns,rfl,hS,h63,qq⟩:=h;have sl:sizeLine=16777216:=sizeLine_eq;refine ⟨_,(ae (cK 1 sc (eT DZ13 hr (@aa _ _ _ _ _ (pv 0) ad rfl))) (ae (cK 2 sc (eT DZ7 hr (@aa _ _ _ _ _ (eT DZ6 hr (@aa _ _ _ _ _ (pv 0) (@aa _ _ _ _ _ af ad rfl) rfl)) (@aa _ _ _ _ _ (aj av rfl B.rb boot_len (@aa _ _ _ _ _ (pv 1) ad rfl)) ad rfl) rfl))) (ae (cK 3 sc (eT DZ15 hr (@aa _ _ _ _ _ (pv 0) (@aa _ _ _ _ _ (aj av rfl B.rb boot_len (@aa _ _ _ _ _ (pv 1) ad rfl)) ad rfl) rfl))) (ae (cK 4 sc (nH B.rX DZ2 hr (by decide) rfl B.rZ (@aa _ _ _ _ _ cq (@aa _ _ _ _ _ af (@aa _ _ _ _ _ (@ba _ _ _ _ ad) (@aa _ _ _ _ _ (eT DZ14 hr (@aa _ _ _ _ _ (pv 1) (@aa _ _ _ _ _ (pv 2) ad rfl) rfl)) (@aa _ _ _ _ _ (bX bh rfl B.rf boot_list (@aa _ _ _ _ _ (pv 3) ad rfl)) ad rfl) rfl) rfl) rfl) rfl))) (ae (cK 5 sc (eT DZ16 hr (@aa _ _ _ _ _ (pv 1) ad rfl))) (ae (cK 6 sc (eT DZ17 hr (@aa _ _ _ _ _ (pv 3) (@aa _ _ _ _ _ (eT DZ16 hr (@aa _ _ _ _ _ (pv 1) ad rfl)) ad rfl) rfl))) (ae (cK 7 sc (eT DZ5 hr (@aa _ _ _ _ _ (pv 4) (@aa _ _ _ _ _ (pv 5) ad rfl) rfl))) (ae (aJ (bA (aU (eT DZ12 hr (@aa _ _ _ _ _ (pv 7) (@aa _ _ _ _ _ (pv 6) ad rfl) rfl)))) (ag (aB bp)) aE) (ae (aX (bN AN AQ AO aK (aP bR (pv 7) af (fun _ _=>rfl)) (@aa _ _ _ _ _ (@bt _ _ _ _ _ (@aa _ _ _ _ _ af (@aa _ _ _ _ _ af (@aa _ _ _ _ _ af ad rfl) rfl) rfl)) ad rfl))) (ae (aX (bN AN AQ AO aK (aP bR (pv 7) af (fun _ _=>rfl)) (@aa _ _ _ _ _ (@bt _ _ _ _ _ (@aa _ _ _ _ _ af (@aa _ _ _ _ _ af ad rfl) rfl)) ad rfl))) (ae (aJ (PW.pt (ou (bA (aU (eT DZ12 hr (@aa _ _ _ _ _ (eT DZ5 hr (@aa _ _ _ _ _ (pv 4) (@aa _ _ _ _ _ (pv 5) ad rfl) rfl)) (@aa _ _ _ _ _ (pv 6) ad rfl) rfl)))) (mZ (aQ (mG 4 (Nat.lt_trans (Nat.add_lt_add_left (by decide:4+1<64) _) hr.units)) (pv 5) (eT DZ16 hr (@aa _ _ _ _ _ (pv 1) ad rfl)) (aM _))))) (ag (aB bp)) aE) (ag (aB (eT DZ12 hr (@aa _ _ _ _ _ (ku (pv 4) rfl) (@aa _ _ _ _ _ (pv 3) ad rfl) rfl))))))))))))))),?_⟩
 try dsimp only[cxK]
 refine ⟨_,rfl,a,ns,rfl,hS,h63,fun lc H1 cs g1 ec c2 c8 hc=>?_⟩
 have S1:=g1.seq hS;have lcs:((cs.map V.int).length:Int)=cs.length:=by rw[A5]
 refine ⟨_,rfl,a,ns,1,rfl,S1,by decide,fun c1=>⟨_,rfl,lc,_,rfl,.inl (aS.of ec),c1,_,rfl,by omega,by omega,fun ln H2 zs g2 en zl=>?_⟩⟩
 have ec2:=g2 _ _ ec;have S2:=g2.seq S1;refine ⟨_,rfl,_,rfl,lc,_,rfl,.inl (aS.of ec2),a,ns,_,rfl,S2,h63,by omega,by omega,fun lk H3 ks g3 hk kl=>?_⟩
 have ec4:=g3 _ _ ec2;have en4:=g3 _ _ en;have czl:cs.length=zs.length:=by omega
 dsimp only;change L2.ki (lI _ _) _ _ [some (.ref a),some (.ref lc),some (.ref ln),some (.ref lk),none,none,none,none] H3;refine cut (fun σ H'=>aN H3 H'/\∃r1 dx u nm p t s,σ= [sN a,sN lc,sN ln,sN lk,sN r1,none,none,none]/\H' r1=some (.ins mt dx (me nm p t s (.ref u)))/\LK H' u ks) (fun N hN=>?_) ?_
 ·obtain ⟨as,a1,a2,a3⟩:=hk.ex;refine ⟨by show 0<=sizeLine;decide,fun l0 n0=>?_⟩
  have g5:=am n0 (.lst []);refine ⟨_,rfl,_,rfl,lc,ln,cs,zs,rfl,g5 _ _ ec4,g5 _ _ en4,czl,c8,hc,fun ls H6 xs g6 es=>?_⟩
  have g56:=g5.trans g6;refine ⟨_,rfl,lk,_,rfl,.inl (aS.of (g56 _ _ a2)),fun la na=>?_⟩
  have g7:=am na (.lst (as.map V.ref));have g57:=g56.trans g7;refine fun x dx nx nd nxd=>⟨x,_,dx,l0,ls,la,_,_,[],xs,_,rfl,ah,⟨B.rh,B.rC,B.rk,B.rq,B.rz,B.q9⟩,dD nx nd (g7 _ _ (g6 _ _ ah)),dD nx nd (g7 _ _ es),dD nx nd ah,fun u t s H8 ux k8 eu ex=>⟨rfl,?_⟩⟩
  have g8:=g57.trans (cO nx nd k8);exact hN _ _ ⟨g8,x,dx,u,_,_,t,s,rfl,ex,hk.copy g8 a2 eu⟩
 rintro σ H5 ⟨g5,r1,dx1,u1,nm1,p1,t1,s1,rfl,er1,hu1⟩;have ec5:=g5 _ _ ec4;have hk5:=hk.same g5;refine ⟨_,rfl,lc,cs,rfl,ec5,c8,hc,fun lh H6 g6 tk tl=>?_⟩
 have ec6:=g6 _ _ ec5;have hk6:=hk5.same g6;have er1:=g6 _ _ er1;have hu1:=hu1.same g6;refine ⟨_,rfl,_,rfl,lc,cs,rfl,ec6,c8,hc,fun l2 H7 g7 tk2 _=>?_⟩
 have tl':((a9 cs cs.length).map fun t=>t.1).length<=100:=by rw[A5];omega
 have p3:=jY hc cs.length;have few:=gi p3 ks;refine ⟨lk,l2,ks,_,rfl,hk6.same g7,tk2.tf,tl',p3,kl,fun td da db A2 P2 H8 g8 _ _ _ etd tA2 tB2 sA2 sB2=>?_⟩
 have g68:=g7.trans g8;have ec8:=g68 _ _ ec6;have hk8:=hk6.same g68;have er1:=g68 _ _ er1;have hu1:=hu1.same g68;have tk:=tk.same g68;clear g1 g2 g3 g5 g6 g7 g8 tk2;dsimp only;change L2.ki (lI _ _) _ _ [some (.ref a),some (.ref lc),some (.ref ln),some (.ref lk),some (.ref r1),some (.ref lh),some (.ref td),none] H8;have wd:∀{A:List Ky} {ap:List Ky},mQ A ap->(∀x∈ap,x.length<=4000)->∀x∈A,x.length<=4000:=fun sA h x hx=>h x ((sA.2.1 x).mp hx)
 have w12:=oZ ks ((a9 cs cs.length).map fun t=>t.1)
 have lA2:=sA2.len;have lP2:=sB2.len;refine ⟨_,rfl,_,rfl,r1,_,dx1,u1,lh,_,ks,_,rfl,er1,B.rh,B.q9,c6,hu1,tk.tf,by omega,tl',p3,kl,fun tf fa fb A1 P1 H9 g9 nfa nfb fab etf tA1 tB1 sA1 sB1=>?_⟩
 have eA:=sA1.one sA2;have eB:=sB1.one sB2;subst eA eB;have al3:∀(t ta tb:Addr) (H':Hp),aN H8 H'->H' t=some (.tup [.ref ta,.ref tb])->aF H' ta A1->aF H' tb P1->oo H' 3 (.ref t) (.ref td):=fun t ta tb H' g et t1 t2=>by
  refine ⟨t,td,_,_,rfl,rfl,.inr ⟨et,g _ _ etd⟩,rfl,by simp,fun i x y h1 h2=>?_⟩
  match i,h1,h2 with
  |0,h1,h2=>
   cases h1;cases h2;exact t1.alq (tA2.same g) (by omega) (wd sA1 w12.1)
  |1,h1,h2=>
   cases h1;cases h2;exact t2.alq (tB2.same g) (by omega) (wd sB1 w12.2)
 refine ⟨_,rfl,_,rfl,_,_,3,rfl,by decide,al3 tf fa fb H9 g9 etf tA1 tB1,_,rfl,bj ?_⟩
 refine ⟨_,rfl,tf,_,_,_,rfl,rfl,cr.of etf,rfl,?_⟩;obtain ⟨x1,e1,r1'⟩:=id tA1;obtain ⟨x2,e2,r2'⟩:=id tB1;have lx1:=r1'.1;have lx2:=r2'.1;refine ⟨.inl ⟨rfl,_,aS.of e1⟩,by show 3<=sizeLine;decide,fun n1 m1=>?_⟩
 have h1:=am m1 (.tup [.int 0,.int 0,.int 0]);refine ⟨fa,_,_,rfl,rfl,h1 _ _ e1,by rw[A5];omega,?_⟩
 have h2:=cV (g9.trans h1) nfa (.lst (x1.map V.ref++ [.ref n1]));have e2:(aR (aR H9 n1 (.tup [.int 0,.int 0,.int 0])) fa (.lst (x1.map V.ref++ [.ref n1]))) fb=some (.lst (x2.map V.ref)):=by rw[ar (Ne.symm fab)];exact h1 _ _ e2
 have etf:(aR (aR H9 n1 (.tup [.int 0,.int 0,.int 0])) fa (.lst (x1.map V.ref++ [.ref n1]))) tf=some (.tup [.ref fa,.ref fb]):=by
  rw[ar (fun z=>by rw[z,e1] at etf;cases etf)]
  exact h1 _ _ etf
 generalize aR (aR H9 n1 (.tup [.int 0,.int 0,.int 0])) fa (.lst (x1.map V.ref++ [.ref n1]))=H10 at h2 e2 etf⊢;dsimp only;refine ⟨_,rfl,tf,_,_,_,rfl,rfl,cr.of etf,rfl,.inl ⟨rfl,_,aS.of e2⟩,by show 2<=sizeLine;decide,fun n2 m2=>?_⟩
 have h3:=am m2 (.tup [.int 0,.int 0]);refine ⟨fb,_,_,rfl,rfl,h3 _ _ e2,by rw[A5];omega,?_⟩
 have h4:=cV (h2.trans h3) nfb (.lst (x2.map V.ref++ [.ref n2]));generalize aR (aR H10 n2 (.tup [.int 0,.int 0])) fb (.lst (x2.map V.ref++ [.ref n2]))=H11 at h4⊢;have er11:=h4 _ _ er1;have hu11:=hu1.same h4;have tk11:=tk.same h4;have ec11:=h4 _ _ ec8;dsimp only;refine cut (fun σ H'=>aN H11 H'/\σ= [sN a,sN lc,sN ln,sN lk,sN r1,sN lh,sN td,sN tf]) (fun N hN=>?_) ?_
 ·refine ⟨_,rfl,_,rfl,r1,_,dx1,u1,lh,_,ks,_,rfl,er11,B.rh,B.q9,c6,hu11,tk11.tf,by omega,tl',p3,kl,fun tg ga gb A3 P3 H12 g12 _ _ _ etg tA3 tB3 sA3 sB3=>?_⟩
  have eA:=sA3.one sA1;have eB:=sB3.one sB1;subst eA eB;refine ⟨_,rfl,_,_,3,rfl,by decide,al3 tg ga gb H12 (h4.trans g12) etg tA3 tB3,_,rfl,bj ?_⟩
  refine ⟨_,rfl,_,rfl,lc,cs,rfl,g12 _ _ ec11,c8,hc,fun lh2 H13 g13 tk2 _=>?_⟩
  obtain ⟨xs,ys,e3,e4,al⟩:=((tk11.same g12).same g13).alk (K:=K) tk2;exact ⟨lh,lh2,xs,ys,rfl,rfl,aS.of e3,aS.of e4,al,_,rfl,bj (hN _ _ ⟨g12.trans g13,rfl⟩)⟩
 rintro σ H12 ⟨g12,rfl⟩;exact ⟨_,rfl,r1,_,dx1,_,_,rfl,g12 _ _ er11,B.rh,B.q9,c6,_,rfl,_,_,2,rfl,by decide,(hu11.same g12).alq ((hk8.same h4).same g12) (by omega),qq _⟩
end
theorem oi {l:PySem.W.OpenLaw} {w:World} {K:A6} {h:Heap} {mg:sF} {fa w4 w6 w8 w9 xc v0 v3 v4 v5 v6 v7 vm ra mt q5 q4 on rg rG rV:Addr} (X:K.In h) (G:h.Ns mainGlobals mg) (hfa:mg "law" =some (.ref fa))
  {vx ve:sL} {vy:sH} {vz vf vg vh uu vk:Value}
  {wv:Addr} {v8:Value} {v9:sL} {wa:Nat} {wb:sH}
  {ww:Addr} {wc:Value} {we:sL} {wf:Nat} {wg:sH}
  (xf:dW K w4 "places_of" qp .none)
  (xg:dW K w6 "arcs_of_link" qr .none)
  (xh:dW K w8 "links_of" qs .none)
  (xi:dW K w9 "_law_cell_at" qt .none)
  (xj:dW K xc "_law_names" qu .none)
  (uv:dW K v0 "_law_alike" n6 .none)
  (wj:dW K v3 "_law_counts" n9 .none)
  (wk:dW K v4 "_law_steps" oa .none)
  (wm:dW K v5 "_law_links" oe .none)
  (wn:dW K v6 "_law_tasks" og .none)
  (wo:dW K v7 "_law_due" oh .none)
  (wp:Al K mainGlobals "law" =some (some (.ref vm)))
  (wq:K.lookup vm=some ⟨vz,vx,.func (BE "law" "law" (bU gk) (bH gk) (aw gk) .none vf vg vh ve uu vk),vy⟩) (wt:PySem.W.codeIn K uu "law" =true) (wu:BH K (.ref vm)=true)
  (u7:Al K mainGlobals "bool" =some none)
  (vn:Al K mainGlobals "int" =some none)
  (tz:Al K mainGlobals "isinstance" =some none)
  (vo:Al K mainGlobals "len" =some none)
  (u8:Al K mainGlobals "list" =some none)
  (vp:Al K mainGlobals "max" =some none)
  (vq:Al K mainGlobals "min" =some none)
  (uw:Al K mainGlobals "range" =some none)
  (vt:Al K mainGlobals "set" =some none)
  (ur:Al K mainGlobals "sorted" =some none)
  (vv:Al K mainGlobals "str" =some none)
  (uy:Al K mainGlobals "tuple" =some none)
  (vw:Al K mainGlobals "Cut" =some (some (.ref ra)))
  (ut:Al K mainGlobals "Recipe" =some (some (.ref mt)))
  (u9:Al K mainGlobals "Rest" =some (some (.ref q5)))
  (va:Al K mainGlobals "Step" =some (some (.ref q4)))
  (vb:Al K mainGlobals "Warm" =some (some (.ref on)))
  (atZ0:B2 K (.ref q4) "__init__" =some (some (.ref rg)))
  (xm:FnAt K rg "__init__" "Step.__init__" pR (.ref wv))
  (atZ1:B2 K (.ref on) "__init__" =some (some (.ref rG)))
  (xn:FnAt K rG "__init__" "Warm.__init__" pS (.ref ww))
  (xo:oV K mt rV "__init__" "Recipe.__init__" qo .none)
  (wx:K.lookup wv=some ⟨v8,v9,.seq #[.none,.none] wa,wb⟩)
  (wy:K.lookup ww=some ⟨wc,we,.seq #[.none,.none] wf,wg⟩)
  (uz:fm K q4)
  (u0:Mk K q4 rg)
  (vc:fm K ra)
  (vd:Mk K ra rg)
  (u2:fm K q5)
  (u4:Mk K q5 rg)
  (u5:fm K on)
  (u6:Mk K on rG)
  (uo:fm K mt)
  (uq:Mk K mt rV)
  (t4:ai K q4 "name")
  (tt:ai K q4 "least")
  (t6:ai K q4 "most")
  (t9:ai K q4 "uses")
  (ti:ai K q4 "second")
  (uk:ai K ra "name")
  (ub:ai K ra "least")
  (ul:ai K ra "most")
  (um:ai K ra "uses")
  (tu:ai K ra "second")
  (uc:ai K q5 "name")
  (tw:ai K q5 "least")
  (ud:ai K q5 "most")
  (uf:ai K q5 "uses")
  (tj:ai K q5 "second")
  (ug:ai K on "name")
  (tx:ai K on "least")
  (uh:ai K on "most")
  (ui:ai K on "uses")
  (tp:ai K on "second")
  (uj:ai K on "fill")
  (tq:ai K mt "name")
  (bm:ai K mt "plates")
  (dd:ai K mt "takes")
  (ox:ai K mt "steps")
  (sn:ai K mt "links")
  (b0:nG K q4 "__init__" rg)
  :∃fd:FuncData,(∀(s:Shared) (v:Value),BindsTo s fd ⟨[v],[]⟩ [("_law_script",v)])/\∀base:Heap,K.In base->base.Ns mainGlobals mg->bu l.prog w K mg base bP 7 fa fd ["_law_script"] (i3 K):=by
 have e:=hfa.symm.trans (Bo X G wp);cases e;have B:Bn K mg ra mt q5 q4 on rg rG rV:=⟨Am X G u7,Am X G vn,Am X G tz,Am X G vo,Am X G u8,Am X G vp,Am X G vq,Am X G uw,Am X G vt,Am X G ur,Am X G vv,Am X G uy,Bo X G vw,Bo X G ut,Bo X G u9,Bo X G va,Bo X G vb,uz,u0,vc,vd,u2,u4,u5,u6,uo,uq,t4,tt,t6,t9,ti,uk,ub,ul,um,tu,uc,tw,ud,uf,tj,ug,tx,uh,ui,tp,uj,tq,bm,dd,ox,sn,b0⟩;obtain ⟨_,_,_,_,_,_,_,_,_,lZ0,cZ0,kZ0⟩:=xm;obtain ⟨_,_,_,_,_,_,_,_,_,lZ1,cZ1,kZ1⟩:=xn;have FZ0:=dY (st:=pR) lZ0 cZ0 kZ0;have FZ1:=dY (st:=pS) lZ1 cZ1 kZ1;have Flaw:=dY (st:=gk) wq wt wu;refine ⟨BE "law" "law" (bU gk) (bH gk) (aw gk) .none vf vg vh ve uu vk,?bind,fun base _ _=>?ok⟩
 case bind=>exact fun s v=> .of_eq rfl
 case ok=>
  have z9:Bx l.prog w base:=⟨⟩;have DZ0:lD l.prog w K mg base bP 1 rg ["self","name","least","most","uses","second"] [.non,.non] (cA K):=⟨_,qw B FZ0,FZ0.binds (ps:= ["self","name","least","most","uses","second"]) (ds:= []) wx rfl fun _ _ _ _ _ _ us hl=>match us,hl with| [_,_,_,_,_,_],_=>⟨_,rfl,rfl⟩,⟨[.none,.none],FZ0.binds (ps:= ["self","name","least","most","uses","second"]) (ds:= [.none,.none]) wx rfl fun _ _ _ _ _ _ us hl=>match us,hl with| [_,_,_,_],_=>⟨_,rfl,rfl⟩| [],h=>absurd h (by simp)| [_],h=>absurd h (by simp)| [_,_],h=>absurd h (by simp)| [_,_,_],h=>absurd h (by simp)|_::_::_::_::_::_,h=>absurd h (by simp),.cons rfl (.cons rfl .nil)⟩⟩
  have DZ1:lD l.prog w K mg base bP 2 rG ["self","name","least","most","fill","uses","second"] [.non,.non] (c4 K):=⟨_,qx B FZ1 DZ0,FZ1.binds (ps:= ["self","name","least","most","fill","uses","second"]) (ds:= []) wy rfl fun _ _ _ _ _ _ us hl=>match us,hl with| [_,_,_,_,_,_,_],_=>⟨_,rfl,rfl⟩,⟨[.none,.none],FZ1.binds (ps:= ["self","name","least","most","fill","uses","second"]) (ds:= [.none,.none]) wy rfl fun _ _ _ _ _ _ us hl=>match us,hl with| [_,_,_,_,_],_=>⟨_,rfl,rfl⟩| [],h=>absurd h (by simp)| [_],h=>absurd h (by simp)| [_,_],h=>absurd h (by simp)| [_,_,_],h=>absurd h (by simp)| [_,_,_,_],h=>absurd h (by simp)|_::_::_::_::_::_::_,h=>absurd h (by simp),.cons rfl (.cons rfl .nil)⟩⟩
  have DZ2:=qY z9 xo (fun _ _ _ _ _ _=>nP fun _ _ _ _ _ _=>rfl) fun F=>qy B F
  have DZ3:=iD z9 X G xf (fun _ _ _ _ _ _=>bS fun _ _=>rfl) fun F=>qz B F
  have DZ4:=iD z9 X G xg (fun _ _ _ _ _ _=>nO fun _ _ _=>rfl) fun F=>qA B F
  have DZ5:=iD z9 X G xh (fun _ _ _ _ _ _=>bS fun _ _=>rfl) fun F=>qB B F DZ3 DZ4
  have DZ6:=iD z9 X G xi (fun _ _ _ _ _ _=>bS fun _ _=>rfl) fun F=>qC B F
  have DZ7:=iD z9 X G xj (fun _ _ _ _ _ _=>bS fun _ _=>rfl) fun F=>qD B F
  have DZ8:=iD z9 X G uv (fun _ _ _ _ _ _=>bS fun _ _=>rfl) fun F=>qE B F
  have DZ9:=iD z9 X G uv (fun _ _ _ _ _ _=>bS fun _ _=>rfl) fun F=>qF B F DZ8
  have DZ10:=iD z9 X G uv (fun _ _ _ _ _ _=>bS fun _ _=>rfl) fun F=>py B F DZ9
  have DZ11:=iD z9 X G uv (fun _ _ _ _ _ _=>bS fun _ _=>rfl) fun F=>pC B F DZ10
  have DZ12:=iD z9 X G uv (fun _ _ _ _ _ _=>bS fun _ _=>rfl) fun F=>pD B F DZ11
  have DZ13:=iD z9 X G wj (fun _ _ _ _ _ _=>kN fun _=>rfl) fun F=>pE B F DZ6
  have DZ14:=iD z9 X G wk (fun _ _ _ _ _ _=>bS fun _ _=>rfl) fun F=>pF B F DZ0 DZ1
  have DZ15:=iD z9 X G wm (fun _ _ _ _ _ _=>bS fun _ _=>rfl) fun F=>pG B F
  have DZ16:=iD z9 X G wn (fun _ _ _ _ _ _=>kN fun _=>rfl) fun F=>pH B F
  have DZ17:=iD z9 X G wo (fun _ _ _ _ _ _=>bS fun _ _=>rfl) fun F=>pI B F
  exact pJ B Flaw DZ2 DZ5 DZ6 DZ7 DZ12 DZ13 DZ14 DZ15 DZ16 DZ17
theorem walk {l:PySem.W.OpenLaw} {q:Program} {loose:sI} {XP:sF->Heap->Prop} {YP:World->Heap->Prop} {d:DefRec} {K:Params->A6} (hn:l.most=some 63) (hdf:d.params.defaults= [])
  (hY:∀(w:World) (h:Heap),YP w h->(K w.params).In h)
  (F:∀(w:World) (mg:sF) (fa:Addr) (h:Heap),(K w.params).In h->h.Ns mainGlobals mg->mg d.name=some (.ref fa)->
   ∃fd:FuncData,(∀(s:Shared) (u:Value),BindsTo s fd ⟨[u],[]⟩ [("_law_script",u)])/\∀base:Heap,(K w.params).In base->base.Ns mainGlobals mg->bu l.prog w (K w.params) mg base bP 7 fa fd ["_law_script"] (i3 (K w.params))):
  PySem.W.WalkO q loose XP YP l.row.toRowW d [] (fun f vs=>PySem.call f vs):=
 L2.lV (n:=63) (k:=7) (x:= "_law_script") (CX:=fun _=>bP) (sp:=fun w=>i3 (K w.params)) hn (by decide) hdf ⟨rfl,by decide,by decide⟩ hY F (fun _ _ a ns hl _ hS=>⟨a,ns,rfl,hS,hl,fun _=>rfl⟩) fun _ _ _ _ _ z=>z
end Lk42
open PySem PySem.W PyProof.Rows
set_option maxRecDepth 100000 in
set_option maxHeartbeats 0 in
theorem PySem.Challenge.cw_stovework_k42_links_of_rounds_holds : PySem.Challenge.rw_stovework_k42_links_of_rounds.Holds := by
 refine Lk42.hd ?_
 k_fill
 refine Lk42.walk (l:=PySem.Challenge.rw_stovework_k42_links_of_rounds) rfl rfl (fun w h Y=>PySem.W.kIn_of Y) ?F
 case F=>
  intro w mg fa h KX G hmg
  refine' Lk42.oi KX G hmg ?h0 ?h1 ?h2 ?h3 ?h4 ?h5 ?h6 ?h7 ?h8 ?h9 ?h10 ?h11 ?h12 ?h13 ?h14 ?h15 ?h16 ?h17 ?h18 ?h19 ?h20 ?h21 ?h22 ?h23 ?h24 ?h25 ?h26 ?h27 ?h28 ?h29 ?h30 ?h31 ?h32 ?h33 ?h34 ?h35 ?h36 ?h37 ?h38 ?h39 ?h40 ?h41 ?h42 ?h43 ?h44 ?h45 ?h46 ?h47 ?h48 ?h49 ?h50 ?h51 ?h52 ?h53 ?h54 ?h55 ?h56 ?h57 ?h58 ?h59 ?h60 ?h61 ?h62 ?h63 ?h64 ?h65 ?h66 ?h67 ?h68 ?h69 ?h70 ?h71 ?h72 ?h73 ?h74 ?h75
  (case h0=>exact ⟨by k_is,_,_,_,_,_,_,_,_,_,by k_is,by k_is,by k_is⟩)
  (case h1=>exact ⟨by k_is,_,_,_,_,_,_,_,_,_,by k_is,by k_is,by k_is⟩)
  (case h2=>exact ⟨by k_is,_,_,_,_,_,_,_,_,_,by k_is,by k_is,by k_is⟩)
  (case h3=>exact ⟨by k_is,_,_,_,_,_,_,_,_,_,by k_is,by k_is,by k_is⟩)
  (case h4=>exact ⟨by k_is,_,_,_,_,_,_,_,_,_,by k_is,by k_is,by k_is⟩)
  (case h5=>exact ⟨by k_is,_,_,_,_,_,_,_,_,_,by k_is,by k_is,by k_is⟩)
  (case h6=>exact ⟨by k_is,_,_,_,_,_,_,_,_,_,by k_is,by k_is,by k_is⟩)
  (case h7=>exact ⟨by k_is,_,_,_,_,_,_,_,_,_,by k_is,by k_is,by k_is⟩)
  (case h8=>exact ⟨by k_is,_,_,_,_,_,_,_,_,_,by k_is,by k_is,by k_is⟩)
  (case h9=>exact ⟨by k_is,_,_,_,_,_,_,_,_,_,by k_is,by k_is,by k_is⟩)
  (case h10=>exact ⟨by k_is,_,_,_,_,_,_,_,_,_,by k_is,by k_is,by k_is⟩)
  case h11|h12|h13|h14|h15|h16|h17|h18|h19|h20|h21|h22|h23|h24|h25|h26|h27|h28|h29|h30|h31|h32=>k_is
  (case h33=>exact ⟨_,_,_,_,_,_,_,_,_,by k_is,by k_is,by k_is⟩)
  (case h34=>k_is)
  (case h35=>exact ⟨_,_,_,_,_,_,_,_,_,by k_is,by k_is,by k_is⟩)
  (case h36=>exact ⟨by k_is,_,_,_,_,_,_,_,_,_,by k_is,by k_is,by k_is⟩)
  (case h37=>k_is)
  (case h38=>k_is)
  (case h39=>exact ⟨by k_is,by k_is,by k_is,by k_is⟩)
  (case h40=>exact ⟨by k_is,by k_is,by k_is,by k_is⟩)
  (case h41=>exact ⟨by k_is,by k_is,by k_is,by k_is⟩)
  (case h42=>exact ⟨by k_is,by k_is,by k_is,by k_is⟩)
  (case h43=>exact ⟨by k_is,by k_is,by k_is,by k_is⟩)
  (case h44=>exact ⟨by k_is,by k_is,by k_is,by k_is⟩)
  (case h45=>exact ⟨by k_is,by k_is,by k_is,by k_is⟩)
  (case h46=>exact ⟨by k_is,by k_is,by k_is,by k_is⟩)
  (case h47=>exact ⟨by k_is,by k_is,by k_is,by k_is⟩)
  (case h48=>exact ⟨by k_is,by k_is,by k_is,by k_is⟩)
  (case h49=>unfold L2.ai;k_is)
  (case h50=>unfold L2.ai;k_is)
  (case h51=>unfold L2.ai;k_is)
  (case h52=>unfold L2.ai;k_is)
  (case h53=>unfold L2.ai;k_is)
  (case h54=>unfold L2.ai;k_is)
  (case h55=>unfold L2.ai;k_is)
  (case h56=>unfold L2.ai;k_is)
  (case h57=>unfold L2.ai;k_is)
  (case h58=>unfold L2.ai;k_is)
  (case h59=>unfold L2.ai;k_is)
  (case h60=>unfold L2.ai;k_is)
  (case h61=>unfold L2.ai;k_is)
  (case h62=>unfold L2.ai;k_is)
  (case h63=>unfold L2.ai;k_is)
  (case h64=>unfold L2.ai;k_is)
  (case h65=>unfold L2.ai;k_is)
  (case h66=>unfold L2.ai;k_is)
  (case h67=>unfold L2.ai;k_is)
  (case h68=>unfold L2.ai;k_is)
  (case h69=>unfold L2.ai;k_is)
  (case h70=>unfold L2.ai;k_is)
  (case h71=>unfold L2.ai;k_is)
  (case h72=>unfold L2.ai;k_is)
  (case h73=>unfold L2.ai;k_is)
  (case h74=>unfold L2.ai;k_is)
  (case h75=>exact ⟨by k_is,by k_is,by k_is,by k_is⟩)
