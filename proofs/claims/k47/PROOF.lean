import PyProof.Rows.All
import Wide.All
import OpenK.AllK
import Wide.FinOn
import Lean
import PyProof.EqAt
import PyProof.EqKinds
import PyProof.TupleCall
import PyProof.NeKinds
import PyProof.StationsW
import PyProof.RulesAs
import PyProof.ExcArgsOwn
import PyProof.CompFree
import PyProof.ExcInit
import PyProof.ConsumeWalk
import PyProof.Rows.SeqGen
import PyProof.StrWalks
import PyProof.SliceStr2
import PyProof.MeetsStr
import KE.KIntText
import PyProof.Rows.FStr
import PyProof.StrCalls6
import PyProof.StrBlockL
import PyProof.ToksMono
import PyProof.WalkInts
import PyProof.Rows.MinMaxN
import PyProof.StrLawsReplace
import PyProof.StrLawsTight
import PyProof.Rows.StrLawsPart
import PyProof.DictWalks
import KE.KEqDict
import KE.KDictLaws
import KE.KRevIter
import PyProof.ListCopy
import PyProof.CollectIter
import PyProof.Rows.SetFrom
import PyProof.Rows.SortShellK
import PyProof.Rows.SortStr
import PyProof.Rows.SortWalk
import KE.KDictSum
import KE.KSortTup
import PyProof.TupleOfSeq
import PyProof.Rows.SortRuns
import PyProof.FactsAll.tuple_2
import PyProof.WalksEnum
import PyProof.EnumMake
import PyProof.EnumFor
import PyProof.ZipIter
import KE.KDictOf
import PyProof.DictItems
import PyProof.FactsAll.dict_itemiterator_1
import PyProof.Rows.StrMul
import KE.KDictList
import PyProof.Rows.SumAny
import KE.KIsAll
import PySem.Challenge.RW_stovework_k47_whole_words_are_arcs
set_option maxHeartbeats 4000000
noncomputable section
abbrev Cw:=PySem.Value->PySem.Shared->Prop
abbrev Cy:=PySem.Str->Option PySem.Value
abbrev Cz:=List (PySem.Addr×PySem.Obj)
abbrev CA:=Array (Option PySem.Value)
abbrev CB:=List PySem.Str
abbrev CC:=List PySem.Addr
abbrev CD:=List PySem.Value
abbrev CF:=Option PySem.Addr
abbrev CG:=Option PySem.Value
open Array renaming getElem?_eq_getElem → AF, toList_append → AH, length_toList → AK, getElem?_toList → AT, toList_extract → Aa, getElem?_eq_some_iff → Aj, size_map → Az, getD_eq_getD_getElem? → B8, toList_push → BW, toList_reverse → BX, mem_toList_iff → BY, toList_inj → Bb, getElem?_map → Bh, getElem?_eq_none → Bi
open Bool renaming false_eq_true → AG, false_ne_true → AV, not_true → B1, and_true → BM, and_eq_true → BP, and_false → BR, not_false → Be
open Int renaming fmod_nonneg_of_pos → AJ, fmod_lt_of_pos → AY, toNat_natCast → BK, fdiv_eq_ediv_of_nonneg → BU, fmod_eq_emod_of_nonneg → By, zero_add → C1
open List renaming getElem?_eq_getElem → A0, getElem?_eq_some_iff → A3, length_map → A5, getElem?_append_right → A6, getElem?_append_left → A8, getElem?_map → A9, pairwise_append → AA, length_append → AB, mem_append_right → AD, mem_append → AI, take_append_drop → AL, mem_cons_of_mem → AM, length_take → AN, append_assoc → AQ, mem_of_getElem? → AR, mem_singleton → AS, mem_cons → AU, size_toArray → AW, mem_map → AX, mem_iff_getElem? → Ab, range → Ac, take_of_length_le → Ad, mem_cons_self → Ae, extract_eq_take_drop → Af, length_cons → Ah, map_cons → Ai, eq_nil_of_length_eq_zero → Aq, pairwise_map → Ay, map_append → B0, all_eq_true → B2, getElem?_take_of_lt → B3, mem_range → B6, length_range → B7, map_map → BE, take_add_one → BF, getD_eq_getElem?_getD → BG, drop_eq_getElem_cons → BH, mem_reverse → BI, filterMap_cons → BL, getElem_mem → BO, getElem?_drop → BS, mem_append_left → BZ, length_reverse → Bc, not_mem_nil → Bf, getElem?_cons_succ → Bg, length → Bt, mem_of_mem_take → Bu, nodup_iff_pairwise_ne → Bv, Perm → Bz, pairwise_iff_getElem → C3, extract_eq_drop_take → C4, all_cons → C6
open List.Pairwise renaming imp_of_mem → Bl, nil → C2
open List.Perm renaming append_left → Al, append_right → B5, refl → C8
open Nat renaming le_refl → A7, ne_of_lt → AE, lt_of_lt_of_le → AZ, lt_succ_of_lt → Am, zero_le → Ar, le_trans → B4, add_sub_cancel_left → B9, mul_assoc → BN, lt_of_le_of_lt → Bj, min_eq_left → Bk, le_of_lt_succ → Bm, pow_succ → C0
open Option renaming map_eq_some_iff → AO, bind_eq_some_iff → Ap, toList_some → BQ, isSome_iff_exists → Ba
open Option.some renaming inj → Av
open PyProof renaming noPylong_small → AC
open PyProof.Rows renaming callWith_type1 → BJ
open PySem renaming mem_of_lookup → Ax
open PySem.F renaming plainAttrs_list → Ao, type_list_append → As, slot_list_append → Au, plain_list_iadd → C7
open PySem.W renaming Frag → A4, nsIn → Ag, mg_none_of → Ak, findIn → Aw, mg_of → BA, fnOf → BB, keepIn → BC, emptyDict → BD, instObj → BV, callWith_K → C5
open PySem.W.Fast renaming te14364793385576792824 → Bo, te14289696077712309145 → Bp, te11892475500146522536 → Bq, te10274390034422433532 → Br, te10156331382660048174 → Bs, te6613529449190102663 → Bw
namespace Ht
open PySem PySem.W PyProof.Rows
noncomputable def kU (ok:Thread->Bool) (st:SharedT->Thread->Option (SharedT×Thread)) (n:Nat):SharedT->Thread->Option SharedT:=
 Nat.rec (motive:=fun _=>SharedT->Thread->Option SharedT) (fun _ _=>none) (fun _ ih s t=>
  Bool.rec (motive:=fun _=>Option SharedT)
   (Bool.rec (motive:=fun _=>Option SharedT) none (Option.rec (motive:=fun _=>Option SharedT) none (fun r=>Prod.rec (motive:=fun _=>Option SharedT) (fun s' t'=>ih s' t') r) (st s t)) (ok t))
   (some s) (through t)) n
theorem mI {tb:String->Option Builtin} {p:Program} {w:World} {m:Nat} {ann:CG}:∀{n:Nat} {s s':SharedT} {t:Thread},kU (stepOk m ann) (stepT (denote tb) p w) n s t=some s'->topRun tb p w m ann n s.abs t=some s'.abs
 |0,_,_,_,h=>by cases h
 |n+1,s,s',t,h=>by
  unfold topRun;have h':Bool.rec (motive:=fun _=>Option SharedT)
   (Bool.rec (motive:=fun _=>Option SharedT) none (Option.rec (motive:=fun _=>Option SharedT) none (fun r=>Prod.rec (motive:=fun _=>Option SharedT) (fun s' t'=>kU (stepOk m ann) (stepT (denote tb) p w) n s' t') r) (stepT (denote tb) p w s t)) (stepOk m ann t))
   (some s) (through t)=some s':=h
  cases ht:through t with
  |true=>rw[ht] at h';cases h';rfl
  |false=>
   rw[ht] at h';cases hk:stepOk m ann t with
   |false=>rw[hk] at h';cases h'
   |true=>
    rw[hk] at h';cases hs:stepT (denote tb) p w s t with
    |none=>rw[hs] at h';cases h'
    |some r=>
     obtain ⟨s₂,t₂⟩:=r;rw[hs] at h';dsimp only;rw[stepT_spec hs];exact mI h'
noncomputable def grow (l:List Obj):Nat->BT->Option BT:=
 List.rec (motive:=fun _=>Nat->BT->Option BT) (fun _ t=>some t) (fun o _ ih n t=>
  Bool.rec (motive:=fun _=>Option BT) none (ih (n+1) (t.ins n o)) ((t.ins n o).get n).isSome) l
theorem mJ {life:Life}:∀{l:List Obj} {n:Nat} {t t':BT},grow l n t=some t'->absHeap t' (n+l.length) life=⟨(absHeap t n life).objs++l.toArray,life⟩
 | [],n,t,t',h=>by
  cases h;simp[absHeap]
 |o::l,n,t,t',h=>by
  have h':Bool.rec (motive:=fun _=>Option BT) none (grow l (n+1) (t.ins n o)) ((t.ins n o).get n).isSome=some t':=h
  cases e:((t.ins n o).get n).isSome with
  |false=>rw[e] at h';cases h'
  |true=>
   rw[e] at h';have z:=mJ (life:=life) h';rw[absHeap_ins e] at z;rw[show n+(o::l).length=n+1+l.length by rw[Ah];omega,z]
   simp[Heap.push]
noncomputable def treeOf (s:Shared):Option SharedT:=
 Option.rec (motive:=fun _=>Option SharedT) none (fun t=>some ⟨t,s.heap.objs.size,s.heap.life,s.gens,s.drawn,s.toks,s.os⟩) (grow s.heap.objs.toList 0 .nil)
theorem kW {s:Shared} {s':SharedT} (h:treeOf s=some s'):s'.abs=s:=by
 have h':Option.rec (motive:=fun _=>Option SharedT) none (fun t=>some ⟨t,s.heap.objs.size,s.heap.life,s.gens,s.drawn,s.toks,s.os⟩) (grow s.heap.objs.toList 0 .nil)=some s':=h
 cases e:grow s.heap.objs.toList 0 .nil with
 |none=>rw[e] at h';cases h'
 |some t=>
  rw[e] at h';cases h';have z:=mJ (life:=s.heap.life) e;obtain ⟨⟨objs,life⟩,gens,drawn,toks,os⟩:=s;simp only[SharedT.abs];have z':absHeap t objs.size life=⟨objs,life⟩:=by
   simpa [absHeap,BT.list] using z
  rw[z']
noncomputable def pI (ok:Nat->CG->Thread->Bool) (st:SharedT->Thread->Option (SharedT×Thread)) (p:Program) (N:Nat) (s₀:Shared):Option Shared:=
 Bool.rec (motive:=fun _=>Option Shared) none
  ((treeOf s₀).bind fun t₀=>(kU (ok s₀.heap.objs.size (s₀.heap.nsMap mainGlobals "__annotations__")) st N t₀ (topStub p)).bind fun t₁=>
   (fun s₁=>Bool.rec (motive:=fun _=>Option Shared) none (some s₁) (staticsOk (importedModules p.main.body) s₀.heap s₁.heap&&namesBound p s₁.heap&&gensDone s₁&&laidKept s₀.heap s₁.heap)) t₁.abs)
  (s₀.heap.isNs mainGlobals&&s₀.gens.size==0)
theorem pJ {tb:String->Option Builtin} {p:Program} {w:World} {N:Nat} {s₀ s:Shared} (h:pI stepOk (stepT (denote tb) p w) p N s₀=some s):topFrom tb p w N s₀=some s:=by
 unfold pI at h;unfold topFrom;cases e:s₀.heap.isNs mainGlobals&&s₀.gens.size==0 with
 |false=>rw[e] at h;cases h
 |true=>
  rw[e] at h;obtain ⟨t₀,e0,h⟩:=Ap.mp h;obtain ⟨t₁,e1,h⟩:=Ap.mp h;have r:=mI e1;rw[kW e0] at r;dsimp only;rw[r];dsimp only at h;show (match staticsOk (importedModules p.main.body) s₀.heap t₁.abs.heap&&namesBound p t₁.abs.heap&&gensDone t₁.abs&&laidKept s₀.heap t₁.abs.heap with|true=>some t₁.abs|false=>none)=some s
  cases q:staticsOk (importedModules p.main.body) s₀.heap t₁.abs.heap&&namesBound p t₁.abs.heap&&gensDone t₁.abs&&laidKept s₀.heap t₁.abs.heap with
  |false=>rw[q] at h;cases h
  |true=>rw[q] at h;exact h
noncomputable def jv (ok:Nat->CG->Thread->Bool) (st:SharedT->Thread->Option (SharedT×Thread)) (p:Program) (N:Nat) (s₀:Shared):Option Shared:=
 (treeOf s₀).bind fun t₀=>(kU (ok s₀.heap.objs.size (s₀.heap.nsMap mainGlobals "__annotations__")) st N t₀ (topStub p)).map fun t₁=>t₁.abs
def rT (p:Program) (s₀ s₁:Shared):Bool:=(s₀.heap.isNs mainGlobals&&s₀.gens.size==0)&&(staticsOk (importedModules p.main.body) s₀.heap s₁.heap&&namesBound p s₁.heap&&gensDone s₁&&laidKept s₀.heap s₁.heap)
theorem pM {tb:String->Option Builtin} {p:Program} {w:World} {N:Nat} {s₀ s:Shared} (h:jv stepOk (stepT (denote tb) p w) p N s₀=some s) (c:rT p s₀ s=true):topFrom tb p w N s₀=some s:=by
 apply pJ;unfold jv at h;obtain ⟨t₀,e0,h⟩:=Ap.mp h;obtain ⟨t₁,e1,rfl⟩:=AO.mp h;unfold rT at c;rw[BP] at c;unfold pI;rw[c.1];show ((treeOf s₀).bind fun t₀=>_)=_
 rw[e0];show ((kU _ _ N t₀ (topStub p)).bind fun t₁=>_)=_
 rw[e1];show (Bool.rec (motive:=fun _=>Option Shared) none (some t₁.abs) (staticsOk (importedModules p.main.body) s₀.heap t₁.abs.heap&&namesBound p t₁.abs.heap&&gensDone t₁.abs&&laidKept s₀.heap t₁.abs.heap):Option Shared)=_
 rw[c.2]
abbrev Look (p:Program) (N:Nat) {α:Type} (f:Shared->Shared->α) (v:World->α):Prop:=∀w:World,((importEnds treeTable (opening p) w N (start (opening p)).1 (start (opening p)).2).bind fun s=>(fenceModules? p s).bind fun s₀=>(jv stepOk (stepT (denote treeTable) p w) p N s₀).map fun s₁=>f s₀ s₁)=some (v w)
theorem Look.at_ {p:Program} {N:Nat} {α:Type} {f:Shared->Shared->α} {v:World->α} (h:Look p N f v) (w:World) {s s₀ s₁:Shared} (a:importEnds treeTable (opening p) w N (start (opening p)).1 (start (opening p)).2=some s) (b:fenceModules? p s=some s₀) (c:jv stepOk (stepT (denote treeTable) p w) p N s₀=some s₁):f s₀ s₁=v w:=by
 have:=h w;rw[a] at this;replace this:((fenceModules? p s).bind fun s₀=>(jv stepOk (stepT (denote treeTable) p w) p N s₀).map fun s₁=>f s₀ s₁)=some (v w):=this
 rw[b] at this;replace this:((jv stepOk (stepT (denote treeTable) p w) p N s₀).map fun s₁=>f s₀ s₁)=some (v w):=this
 rw[c] at this;injection this
theorem pN {p q:Program} {loose:CB} {Xt:Shared->Bool} {α:Type} {Yf:Shared->α} {Ya:World->α} {N:Nat} {g0:Bool} (hc:Look p N (fun s₀ s₁=>rT p s₀ s₁) fun _=>true)
  (h1:Look p N (fun _ s=>openSeen q loose (importedModules p.main.body) Xt g0 s) fun _=>openGood q loose) (h2:Look p N (fun _ s=>Yf s) Ya):LeftO p q loose Xt Yf Ya N g0:=fun w=>by
 obtain ⟨s,a,e⟩:=Ap.mp (hc w);obtain ⟨s₀,b,e⟩:=Ap.mp e;obtain ⟨s₁,c,e⟩:=AO.mp e;have z:openEnds treeTable p w N=some s₁:=by
  unfold openEnds fencedOpening;rw[a];show (fenceModules? p s).bind _=_;rw[b];exact pM c e
 rw[z];show some (_,_)=some (_,_);rw[h1.at_ w a b c,h2.at_ w a b c]
noncomputable def mK (t:SharedT) (a:Addr):Option Obj:=Bool.rec (motive:=fun _=>Option Obj) none ((fun o=>Bool.rec (motive:=fun _=>Option Obj) (some o) none (Obj.isFreed o)) ((t.tree.get a).getD default)) (Nat.blt a t.n)
theorem nU (t:SharedT) (a:Addr):mK t a=t.abs.heap.get? a:=by
 unfold mK SharedT.abs Heap.get?;dsimp only;rw[absHeap_at];cases h:Nat.blt a t.n with
 |false=>
  rw[if_neg fun z=>by rw[Nat.blt_eq.mpr z] at h;cases h]
 |true=>
  rw[if_pos (Nat.blt_eq.mp h)];obtain ⟨cls,dict,data,slots⟩:=(t.tree.get a).getD default;cases data<;>rfl
theorem nV {p:Program} {N:Nat} {as:CC} {v:World->List (Option Obj)}
  (h:∀w:World,((importEnds treeTable (opening p) w N (start (opening p)).1 (start (opening p)).2).bind fun s=>(fenceModules? p s).bind fun s₀=>(treeOf s₀).bind fun t₀=>(kU (stepOk s₀.heap.objs.size (s₀.heap.nsMap mainGlobals "__annotations__")) (stepT (denote treeTable) p w) N t₀ (topStub p)).map fun t₁=>as.map (mK t₁))=some (v w)):
  Look p N (fun _ s=>as.map s.heap.get?) v:=fun w=>by
 obtain ⟨s,a,e⟩:=Ap.mp (h w);obtain ⟨s₀,b,e⟩:=Ap.mp e;obtain ⟨t₀,c,e⟩:=Ap.mp e;obtain ⟨t₁,d,e⟩:=AO.mp e;rw[a];show (fenceModules? p s).bind _=_;rw[b];show (jv stepOk (stepT (denote treeTable) p w) p N s₀).map _=_;unfold jv;rw[c];show ((kU _ _ N t₀ (topStub p)).map fun t₁=>t₁.abs).map _=_
 rw[d];show some (as.map t₁.abs.heap.get?)=_;rw[<-e,show (as.map (mK t₁))=as.map t₁.abs.heap.get? from List.map_congr_left fun a _=>nU t₁ a]
end Ht
set_option Elab.async false
set_option linter.all false
set_option maxRecDepth 100000
namespace Lk47
open PySem PySem.W PyProof.Rows
def qv:Program:={PySem.Challenge.pw_stovework_k47_whole_words_are_arcs with main:={PySem.Challenge.pw_stovework_k47_whole_words_are_arcs.main with body:=([0,2,3,4,6,7,10,11,12,14,15,17,18,19,20,22,23,24,25,26,28,30,31,32,33,34,35,36,37,38,39,40]:List Nat).filterMap fun i=>PySem.Challenge.pw_stovework_k47_whole_words_are_arcs.main.body[i]?}}
def lo:CB:= ["fraction","tasks_of","Warm"]
theorem head {α:Type} {Yf:Shared->α} {Ya:World->α} {YP:World->Heap->Prop} {d:DefRec} {kwd:List (Str×Expr)} (left:LeftO PySem.Challenge.pw_stovework_k47_whole_words_are_arcs qv lo (fun s=>xlAt qv [] s&&recOk [] s) Yf Ya 5958)
  (hY:∀w s,Yf s=Ya w->YP w s.heap) (hYk:∀w h h',YP w h->(∀b o,h.get? b=some o->h'.get? b=some o)->YP w h') (hd:defOf qv PySem.Challenge.rw_stovework_k47_whole_words_are_arcs.row.name=some (d,kwd))
  (hp:PySem.Challenge.rw_stovework_k47_whole_words_are_arcs.row.prog.theDef PySem.Challenge.rw_stovework_k47_whole_words_are_arcs.row.name=some (d.params,d.body,d.scope)) (hk:kwWritten? d.params.kwonlyargs d.params.kw_defaults=some kwd)
  (said:PySem.Challenge.rw_stovework_k47_whole_words_are_arcs.row.wellSaid=true) (hw:PySem.Challenge.rw_stovework_k47_whole_words_are_arcs.row.toRowW.promised) (call:WalkO qv lo (XL qv []) YP PySem.Challenge.rw_stovework_k47_whole_words_are_arcs.row.toRowW d kwd fun f vs=>PySem.call f vs):PySem.Challenge.rw_stovework_k47_whole_words_are_arcs.row.Holds:=
 holds_open left hY hYk (fun s e=>xl_of s (Bool.and_eq_true_iff.mp e).1) XL.keeps hd hp hk (fun s e=>recFacts_of (Bool.and_eq_true_iff.mp e).2) rfl said (by decide+kernel) ⟨rfl,rfl,rfl,rfl,rfl,by decide+kernel⟩ hw call
set_option maxHeartbeats 0 in
theorem la:Ht.Look PySem.Challenge.pw_stovework_k47_whole_words_are_arcs 5958 (fun s₀ s₁=>Ht.rT PySem.Challenge.pw_stovework_k47_whole_words_are_arcs s₀ s₁) (fun _=>true):=by
 (intro w;rw[Br,Bp,Bw,Bs,Bq,Bo];kernel_rfl)
set_option maxHeartbeats 0 in
theorem lb:Ht.Look PySem.Challenge.pw_stovework_k47_whole_words_are_arcs 5958 (fun _ s=>openSeen qv lo (importedModules PySem.Challenge.pw_stovework_k47_whole_words_are_arcs.main.body) (fun s=>xlAt qv [] s&&recOk [] s) true s) (fun _=>openGood qv lo):=by
 (intro w;rw[Br,Bp,Bw,Bs,Bq,Bo,PySem.W.Fast.te4187177175401517315];kernel_rfl)
end Lk47
local macro_rules| `(tactic|o_head $H)=> `(tactic|(refine Lk47.head (Yf:=PySem.W.Hook.obs $H) (Ya:=PySem.W.Hook.val $H) (YP:=PySem.W.Hook.says $H) ?hl (PySem.W.Hook.of $H) (PySem.W.Hook.keeps $H) (by rfl) (by rfl) (by rfl) (by assumption) ?hw ?hc;(case hl=>(refine Ht.pN Lk47.la Lk47.lb ?c;(case c=>(refine Ht.nV ?c2;(case c2=>(intro w;rw[Br,Bp,Bw,Bs,Bq,Bo];kernel_rfl))))))))
namespace PySem.W.Fast
def tw6855693112677381289:PySem.Program:=PySem.Challenge.pw_stovework_k47_whole_words_are_arcs
theorem te6855693112677381289:PySem.Challenge.pw_stovework_k47_whole_words_are_arcs=tw6855693112677381289:=rfl
end PySem.W.Fast
set_option maxHeartbeats 0 in
open_top Lk47.hd for PySem.Challenge.rw_stovework_k47_whole_words_are_arcs
namespace L2
open PySem PySem.Spec PyProof.Rows
abbrev Key:=Sum Int Str
def hJ:Key->Value->Bool
 | .inl k,v=>Value.isInt k v
 | .inr x,v=>Value.isStrOf x v
def w8 (w:World):Key->Int
 | .inl k=>hashInt k
 | .inr x=>hashStr w x
theorem bg:∀{k:Key} {v:Value},hJ k v=true->(∃i t,k=Sum.inl i/\v=Value.int i t)∨(∃x t,k=Sum.inr x/\v=Value.str x t)
 | .inl i,v,h=>by
  obtain ⟨t,e⟩:=Value.isInt_shape (k:=i) (v:=v) h;exact .inl ⟨i,t,rfl,e⟩
 | .inr x,v,h=>by
  obtain ⟨t,e⟩:=Value.isStrOf_shape (x:=x) (v:=v) h;exact .inr ⟨x,t,rfl,e⟩
theorem nW (i:Int) (t:Tok):hJ (.inl i) (.int i t)=true:=by simp[hJ,Value.isInt]
theorem nX (x:Str) (t:Tok):hJ (.inr x) (.str x t)=true:=by simp[hJ,Value.isStrOf]
theorem uf (a b:Int):decide ((Sum.inl a:Key)=Sum.inl b)=(a==b):=by
 by_cases e:a=b
 ·subst e;simp
 ·have h:¬(Sum.inl a:Key)=Sum.inl b:=fun q=>e (Sum.inl.inj q)
  rw[decide_eq_false h];exact (beq_eq_false_iff_ne.mpr e).symm
theorem ug (a b:Str):decide ((Sum.inr a:Key)=Sum.inr b)=decide (a=b):=by
 by_cases e:a=b
 ·subst e;simp
 ·have h:¬(Sum.inr a:Key)=Sum.inr b:=fun q=>e (Sum.inr.inj q)
  rw[decide_eq_false h,decide_eq_false e]
theorem uh (a:Int) (b:Str):decide ((Sum.inl a:Key)=Sum.inr b)=false:=decide_eq_false (fun q=>nomatch q)
theorem ui (a:Str) (b:Int):decide ((Sum.inr a:Key)=Sum.inl b)=false:=decide_eq_false (fun q=>nomatch q)
def aq (prog:Program) (w:World):PySem.KeyKind prog w Key where
 is:=hJ
 hash:=w8 w
 inj:=fun v a b ha hb=>by
  rcases bg ha with ⟨i,t,rfl,rfl⟩|⟨x,t,rfl,rfl⟩
  ·rcases bg hb with ⟨j,u,rfl,e⟩|⟨y,u,rfl,e⟩
   ·injection e with e1 _;rw[e1]
   ·exact nomatch e
  ·rcases bg hb with ⟨j,u,rfl,e⟩|⟨y,u,rfl,e⟩
   ·exact nomatch e
   ·injection e with e1 _;rw[e1]
 byValue:=fun k v h=>by
  rcases bg h with ⟨i,t,rfl,rfl⟩|⟨x,t,rfl,rfl⟩<;>rfl
 pyHash:=fun hv h=>by
  rcases bg hv with ⟨i,t,rfl,rfl⟩|⟨x,t,rfl,rfl⟩
  ·exact wpAny_pyHash_int h
  ·exact wpAny_pyHash_str h
 eqBool:=fun hu hv h=>by
  rcases bg hu with ⟨i,t,rfl,rfl⟩|⟨x,t,rfl,rfl⟩
  ·rcases bg hv with ⟨j,u,rfl,rfl⟩|⟨y,u,rfl,rfl⟩
   ·rw[uf] at h;exact wpAny_eqBool_int h
   ·rw[uh] at h;exact SeqAt.EqAt.int_str i t y u _ _ _ _ h
  ·rcases bg hv with ⟨j,u,rfl,rfl⟩|⟨y,u,rfl,rfl⟩
   ·rw[ui] at h;exact SeqAt.EqAt.str_int x t j u _ _ _ _ h
   ·rw[ug] at h;exact wpAny_eqBool_str h
 «strs» :=fun k x t v h=>by
  rcases bg h with ⟨i,u,rfl,e⟩|⟨y,u,rfl,e⟩
  ·exact nomatch e
  ·injection e with e1 _
   subst e1;cases v<;>rfl
theorem jw (prog:Program) (w:World) (i:Int) (t:Tok):(aq prog w).is (.inl i) (.int i t)=true:=nW i t
theorem jx (prog:Program) (w:World) (x:Str) (t:Tok):(aq prog w).is (.inr x) (.str x t)=true:=nX x t
inductive V where
 |non|bl (b:Bool)|int (i:Int)|str (x:Str)|byt (b:Array UInt8)|flt (b:UInt64)|ref (a:Addr)|ty (n:String)
 deriving DecidableEq
def RelV:V->Value->Prop
 | .non,u=>u=Value.none
 | .bl b,u=>u=Value.bool b
 | .int i,u=>∃t,u=Value.int i t
 | .str x,u=>∃t,u=Value.str x t
 | .byt b,u=>∃t,u=Value.bytes b t
 | .flt b,u=>∃t,u=Value.float b t
 | .ref a,u=>u=Value.ref a
 | .ty n,u=>u=Value.type n
abbrev aM:List V->CD->Prop:=Paired RelV
theorem aM.length {xs:List V} {us:CD} (r:aM xs us):xs.length=us.length:=Paired.length r
theorem aM.get:∀{xs:List V} {us:CD} {i:Nat} {x:V},aM xs us->xs[i]?=some x->∃u,us[i]?=some u/\RelV x u
 |_,_,_,_,.nil,e=>by simp at e
 |_,_,0,_,.cons r _,e=>by simp at e;subst e;exact ⟨_,rfl,r⟩
 |_,_,i+1,x,.cons _ t,e=>by
  obtain ⟨u,h1,h2⟩:=aM.get (i:=i) (x:=x) t (by simpa using e)
  exact ⟨u,by simpa using h1,h2⟩
theorem aM.set {x:V} {u:Value} (r:RelV x u):∀{xs:List V} {us:CD} (i:Nat),aM xs us->aM (xs.set i x) (us.set i u)
 |_,_,_,.nil=> .nil
 |_,_,0,.cons _ t=> .cons r t
 |_,_,i+1,.cons q t=> .cons q (aM.set r i t)
theorem aM.append:∀{xs ys:List V} {us ws:CD},aM xs us->aM ys ws->aM (xs++ys) (us++ws)
 |_,_,_,_,.nil,s=>s
 |_,_,_,_,.cons r t,s=> .cons r (aM.append t s)
theorem aM.take:∀{xs:List V} {us:CD} (n:Nat),aM xs us->aM (xs.take n) (us.take n)
 |_,_,0,_=> .nil
 |_,_,_+1,.nil=> .nil
 |_,_,n+1,.cons r t=> .cons r (aM.take n t)
theorem aM.drop:∀{xs:List V} {us:CD} (n:Nat),aM xs us->aM (xs.drop n) (us.drop n)
 |_,_,0,r=>r
 |_,_,_+1,.nil=> .nil
 |_,_,n+1,.cons _ t=>aM.drop n t
def gQ:Option V->CG->Prop
 |some v,some u=>RelV v u
 |none,none=>True
 |_,_=>False
def KV {κ:Type}:List (κ×V)->List (κ×Value)->Prop:=Paired fun (p:κ×V) (q:κ×Value)=>p.1=q.1/\RelV p.2 q.2
def kV:Key->V
 | .inl i=> .int i
 | .inr x=> .str x
inductive HO where
  |lst (xs:List V)
  |tup (xs:List V)
  |dK (kvs:List (Key×V))|dT (kvs:List (List Key×V))
  |set (S:Int->Bool) (n:Nat)
  |ins (C dx:Addr) (fs:List (Str×V))
  |own (x:Addr)
  |xd (fs:List (Str×V))
  |met (f x:Addr)
  |rng (lo hi:Int)
  |frz (o:Obj) (u:HO)
  |tbl (ps:Array Value)
  |ext (φ:Heap->Prop)
abbrev Hp:=Addr->Option HO
def aL (H:Hp) (a:Addr) (o:HO):Hp:=fun b=>if b=a then some o else H b
theorem af {H:Hp} {a:Addr} {o:HO}:aL H a o a=some o:=by unfold aL;rw[if_pos rfl]
theorem am {H:Hp} {a b:Addr} {o:HO} (h:b≠a):aL H a o b=H b:=by unfold aL;rw[if_neg h]
theorem aF {H:Hp} {a b:Addr} {o:HO} (h:H a=some o) (h':H b=none):a≠b:=by
 intro e;subst e;rw[h] at h';cases h'
section
variable (P:Program) (w:World)
def bO (H:Hp) (h:Heap) (a:Addr):HO->Prop
 | .lst xs=>xs.length<=sizeLine/\∃(its:CD) (n:Nat),aM xs its/\h.get? a=some {cls:= .type "list",data:= .seq its.toArray n}
 | .tup xs=>xs.length<=sizeLine/\∃its:CD,aM xs its/\IsTup h a its.toArray
 | .dK kvs=>kvs.length<=sizeLine/\(a==sysModules)=false/\∃vs,KV kvs vs/\h.DictOf (aq P w) a vs
 | .dT kvs=>kvs.length<=sizeLine/\(a==sysModules)=false/\∃xs:List (List Key×Addr×Value),
   Paired (fun (p:List Key×V) (q:List Key×Addr×Value)=>p.1=q.1/\H q.2.1=some (.tup (p.1.map kV))/\RelV p.2 q.2.2) kvs xs/\
   ∃o es ep,h.get? a=some o/\o.ExactDict/\o.data= .dict es ep/\es.toList=xs.map (entryOfKey (tupleKind (aq P w)))/\(xs.map (·.1)).Nodup
 | .set S n=>h.SetOf (intKind P w) a S n
 | .ins C dx fs=>H dx=some (.own a)/\fs.length<=1000/\dx≠a/\h.get? a=some (BV C dx)/\
   ∃mA,h.Ns1 dx mA/\(∀f,gQ (fs.lookup f) (mA f))/\PySem.Within mA (fs.map (·.1))
 | .own _=>∃o,h.get? a=some o
 | .xd fs=>∃mA,h.Ns1 a mA/\∀f,gQ (fs.lookup f) (mA f)
 | .rng lo hi=>∃t u v,h.get? a=some {cls:= .type "range",data:= .fields #[.int lo t,.int hi u,.int 1 v]}
 | .frz o u=>h.get? a=some o/\bO H h a u
 | .tbl ps=>h.get? a=some {cls:= .none,data:= .fields ps}
 | .met f x=>h.get? a=some (PySem.W.methodObj (.ref f) (.ref x))
 | .ext φ=>φ h/\(∃o,h.get? a=some o)/\∀h1 h2:Heap,φ h1->(∀o,h1.get? a=some o->h2.get? a=some o)->φ h2
def dI (H:Hp) (h:Heap):Prop:=∀a o,H a=some o->bO P w H h a o
end
section
variable {P:Program} {w:World} {H H':Hp} {h h':Heap} {a:Addr} {o:HO}
theorem bO.lt (x:bO P w H h a o):a<h.objs.size:=by
 cases o with
 |lst xs=>obtain ⟨_,_,_,_,e⟩:=x;exact Heap.lt_size e
 |tup xs=>obtain ⟨_,_,_,p⟩:=x;exact p.lt
 |dK kvs=>obtain ⟨_,_,_,_,o,_,_,e,_⟩:=x;exact Heap.lt_size e
 |dT kvs=>obtain ⟨_,_,_,_,o,_,_,e,_⟩:=x;exact Heap.lt_size e
 |set S n=>obtain ⟨o,_,_,_,e,_⟩:=x;exact Heap.lt_size e
 |ins C dx fs=>obtain ⟨_,_,_,e,_⟩:=x;exact Heap.lt_size e
 |own y=>obtain ⟨_,e⟩:=x;exact Heap.lt_size e
 |xd fs=>obtain ⟨_,⟨_,_,_,e,_⟩,_⟩:=x;exact Heap.lt_size e
 |rng lo hi=>obtain ⟨_,_,_,e⟩:=x;exact Heap.lt_size e
 |frz ob u=>obtain ⟨e,_⟩:=x;exact Heap.lt_size e
 |tbl ps=>exact Heap.lt_size (show h.get? a=some _ from x)
 |met f y=>exact Heap.lt_size (show h.get? a=some _ from x)
 |ext φ=>obtain ⟨_,⟨_,e⟩,_⟩:=x;exact Heap.lt_size e
theorem Paired.mapP {α β:Type} {F G:α->β->Prop}:∀{l₁:List α} {l₂:List β},Paired F l₁ l₂->(∀a b,F a b->G a b)->Paired G l₁ l₂
 |_,_,.nil,_=> .nil
 |_,_,.cons r t,f=> .cons (f _ _ r) (Paired.mapP t f)
theorem bO.stay (x:bO P w H h a o) (k:∀b u,(b=a∨H b=some (.own a))->h.get? b=some u->h'.get? b=some u)
  (ho:∀b,H b=some (.own a)->H' b=some (.own a)) (ht:∀b xs,H b=some (.tup xs)->H' b=some (.tup xs)):bO P w H' h' a o:=by
 induction o with
 |lst xs=>obtain ⟨z,its,n,r,e⟩:=x;exact ⟨z,its,n,r,k _ _ (.inl rfl) e⟩
 |tup xs=>obtain ⟨z,its,r,ob,e,c⟩:=x;exact ⟨z,its,r,ob,k _ _ (.inl rfl) e,c⟩
 |dK kvs=>obtain ⟨z,y,vs,r,ob,es,ep,e,c⟩:=x;exact ⟨z,y,vs,r,ob,es,ep,k _ _ (.inl rfl) e,c⟩
 |dT kvs=>
  obtain ⟨z,y,xs,r,ob,es,ep,e,c⟩:=x;exact ⟨z,y,xs,Paired.mapP r fun p q z=>⟨z.1,ht _ _ z.2.1,z.2.2⟩,ob,es,ep,k _ _ (.inl rfl) e,c⟩
 |set S n=>obtain ⟨ob,es,ep,t,e,c⟩:=x;exact ⟨ob,es,ep,t,k _ _ (.inl rfl) e,c⟩
 |ins C dx fs=>
  obtain ⟨d,z,ne,e,mA,⟨od,es,ep,e2,c⟩,r⟩:=x;exact ⟨ho _ d,z,ne,k _ _ (.inl rfl) e,mA,⟨od,es,ep,k _ _ (.inr d) e2,c⟩,r⟩
 |own y=>obtain ⟨ob,e⟩:=x;exact ⟨ob,k _ _ (.inl rfl) e⟩
 |xd fs=>obtain ⟨mA,⟨od,es,ep,e,c⟩,r⟩:=x;exact ⟨mA,⟨od,es,ep,k _ _ (.inl rfl) e,c⟩,r⟩
 |rng lo hi=>obtain ⟨t,u,v,e⟩:=x;exact ⟨t,u,v,k _ _ (.inl rfl) e⟩
 |frz ob u ih=>obtain ⟨e,q⟩:=x;exact ⟨k _ _ (.inl rfl) e,ih q⟩
 |tbl ps=>
  have e:h.get? a=some {cls:= .none,data:= .fields ps}:=x;show h'.get? a=some {cls:= .none,data:= .fields ps};exact k a _ (.inl rfl) e
 |met f y=>
  have e:h.get? a=some (PySem.W.methodObj (.ref f) (.ref y)):=x;show h'.get? a=some (PySem.W.methodObj (.ref f) (.ref y));exact k a _ (.inl rfl) e
 |ext φ=>obtain ⟨p,⟨o,e⟩,st⟩:=x;exact ⟨st _ _ p fun o q=>k _ _ (.inl rfl) q,⟨o,k _ _ (.inl rfl) e⟩,st⟩
theorem dI.lt (x:dI P w H h) (e:H a=some o):a<h.objs.size:=(x a o e).lt
theorem dI.fresh (x:dI P w H h) (e:h.objs.size<=a):H a=none:=by
 cases q:H a with
 |none=>rfl
 |some u=>exact absurd (AZ (x.lt q) e) (Nat.lt_irrefl _)
theorem dI.kept (x:dI P w H h) (k:∀b u,h.get? b=some u->h'.get? b=some u):dI P w H h':=fun a o e=>
 (x a o e).stay (fun b u _ q=>k b u q) (fun _ q=>q) fun _ _ q=>q
theorem dI.laid (x:dI P w H h) (k:∀b u,h.get? b=some u->h'.get? b=some u) (hp:h.objs.size<=a) (new:bO P w (aL H a o) h' a o):dI P w (aL H a o) h':=fun b u e=>by
 have hn:=x.fresh hp
 by_cases hb:b=a
 ·subst hb;rw[af] at e;cases e;exact new
 ·rw[am hb] at e;exact (x b u e).stay (fun c v _ q=>k c v q) (fun c q=>by rw[am (aF q hn)];exact q) fun c xs q=>by rw[am (aF q hn)];exact q
end
def Rd (H:Hp) (a:Addr) (u:HO):Prop:=H a=some u∨∃o,H a=some (.frz o u)
theorem Rd.ok {P:Program} {w:World} {H:Hp} {h:Heap} {a:Addr} {u:HO} (r:Rd H a u) (x:dI P w H h):bO P w H h a u:=by
 rcases r with r|⟨o,r⟩
 ·exact x a u r
 ·obtain ⟨_,q⟩:=x a _ r;exact q
def wT:Option HO->Prop
 |some (.lst _)=>True
 |some (.dK _)=>True
 |some (.dT _)=>True
 |some (.set _ _)=>True
 |some (.ins _ _ _)=>True
 |some (.ext _)=>True
 |_=>False
section
variable {P:Program} {w:World} {H:Hp} {h h':Heap} {x e:Addr} {o':HO}
theorem dI.write (ok:dI P w H h) (mu:wT (H x)) (he:e=x∨H e=some (.own x)) (k:∀b u,b≠e->h.get? b=some u->h'.get? b=some u) (heo:∃u,h'.get? e=some u)
  (new:bO P w (aL H x o') h' x o'):dI P w (aL H x o') h':=fun b u q=>by
 have nown:∀c y,H c=some (.own y)->c≠x:=fun c y r z=>by subst z;rw[r] at mu;exact mu
 have ntup:∀c xs,H c=some (.tup xs)->c≠x:=fun c xs r z=>by subst z;rw[r] at mu;exact mu
 by_cases hb:b=x
 ·subst hb;rw[af] at q;cases q;exact new
 ·rw[am hb] at q
  by_cases hbe:b=e
  ·have q':H b=some (.own x):=by
    rcases he with z|z
    ·exact absurd (hbe.trans z) hb
    ·rw[hbe];exact z
   rw[q] at q';cases q';obtain ⟨v,hv⟩:=heo;exact ⟨v,by rw[hbe];exact hv⟩
  ·refine (ok b u q).stay (fun c v hc r=>k c v ?_ r) (fun c r=>by rw[am (nown c b r)];exact r) fun c xs r=>by rw[am (ntup c xs r)];exact r
   rcases hc with rfl|hc
   ·exact hbe
   ·rintro rfl;rcases he with z|z
    ·exact nown c b hc z
    ·rw[hc] at z;cases z;exact hb rfl
end
structure Un (fs ex:CC) (H H':Hp) (h h':Heap):Prop where
 keep:∀b o,h.get? b=some o->H b=none->b∉fs->b∉ex->h'.get? b=some o
 slot:∀b o,h.get? b=some o->H b=none->b∈fs->b∉ex->∃sl,h'.get? b=some {o with slots:=sl}
 free:∀b o,h.get? b=some o->H b=none->b∉ex->H' b=none
 there:∀b o,h.get? b=some o->b∉ex->∃o',h'.get? b=some o'
 tups:∀b xs,H b=some (.tup xs)->H' b=some (.tup xs)
 frzs:∀b o u,H b=some (.frz o u)->H' b=some (.frz o u)
 tbls:∀b ps,H b=some (.tbl ps)->∃more,H' b=some (.tbl (ps++more))
section
variable {fs fs' ex ex':CC} {H H1 H2:Hp} {h h1 h2 h':Heap} {a x e:Addr} {o:HO}
theorem Un.any (u:Un fs ex H H1 h h1) {b:Addr} {ob:Obj} (q:h.get? b=some ob) (n:H b=none) (hx:b∉ex):∃sl,h1.get? b=some {ob with slots:=sl}:=by
 by_cases hb:b∈fs
 ·exact u.slot b ob q n hb hx
 ·exact ⟨ob.slots,u.keep b ob q n hb hx⟩
theorem Un.kept (k:∀b u,h.get? b=some u->h'.get? b=some u):Un fs ex H H h h':=
 ⟨fun b ob q _ _ _=>k b ob q,fun b ob q _ _ _=>⟨ob.slots,k b ob q⟩,fun _ _ _ n _=>n,fun b ob q _=>⟨ob,k b ob q⟩,fun _ _ q=>q,fun _ _ _ q=>q,fun _ ps q=>⟨#[],by rw[q];simp⟩⟩
theorem Un.refl:Un fs ex H H h h:=Un.kept fun _ _ q=>q
theorem Un.laid (k:∀b u,h.get? b=some u->h'.get? b=some u) (hp:h.objs.size<=a) (hn:H a=none):Un fs ex H (aL H a o) h h' where
 keep:=fun b u q _ _ _=>k b u q
 slot:=fun b u q _ _ _=>⟨u.slots,k b u q⟩
 free:=fun b u q n _=>by rw[am (AE (AZ (Heap.lt_size q) hp))];exact n
 there:=fun b u q _=>⟨u,k b u q⟩
 tups:=fun b xs q=>by rw[am (aF q hn)];exact q
 frzs:=fun b u xs q=>by rw[am (aF q hn)];exact q
 tbls:=fun b ps q=>⟨#[],by rw[am (aF q hn),q];simp⟩
theorem Un.write (mu:wT (H x)) (he:e=x∨H e=some (.own x)) (k:∀b u,b≠e->h.get? b=some u->h'.get? b=some u) (heo:∃u,h'.get? e=some u):Un fs ex H (aL H x o) h h':=by
 have hx:∀b,H b=none->b≠x:=fun b n z=>by subst z;rw[n] at mu;exact mu
 have hb:∀b,H b=none->b≠e:=fun b n z=>by
  subst z;rcases he with r|r
  ·exact hx b n r
  ·rw[n] at r;cases r
 have hm:∀b u,H b=some u->¬wT (some u)->b≠x:=fun b u q nm z=>by subst z;rw[q] at mu;exact nm mu
 refine ⟨fun b u q n _ _=>k b u (hb b n) q,fun b u q n _ _=>⟨u.slots,k b u (hb b n) q⟩,fun b u q n _=>by rw[am (hx b n)];exact n,fun b u q _=>?_,
  fun b xs q=>by rw[am (hm b _ q fun z=>z)];exact q,fun b u xs q=>by rw[am (hm b _ q fun z=>z)];exact q,fun b ps q=>⟨#[],by rw[am (hm b _ q fun z=>z),q];simp⟩⟩
 by_cases hbe:b=e
 ·subst hbe;exact heo
 ·exact ⟨u,k b u hbe q⟩
end
def wU (h:Heap) (H:Hp):CC:=(Ac h.objs.size).filter fun a=>(H a).isSome
def iQ (h:Heap) (H:Hp):Heap:=PySem.W.hideAll h (wU h H)
theorem nY (h:Heap) (H:Hp):(iQ h H).objs.size=h.objs.size:=PySem.W.hideAll_size _ _
theorem pO {h:Heap} {H:Hp} {b:Addr} {o:Obj} (e:h.get? b=some o) (n:H b=none):(iQ h H).get? b=some o:=
 PySem.W.hideAll_get _ e fun hm=>by
  have q:(H b).isSome=true:=(List.mem_filter.mp hm).2;rw[n] at q;simp at q
theorem rV {h:Heap} {H:Hp} {b:Addr} {o:Obj} (e:(iQ h H).get? b=some o):h.get? b=some o/\H b=none:=by
 have e':h.get? b=some o:=PySem.W.of_hideAll (wU h H) e;refine ⟨e',?_⟩;cases q:H b with
 |none=>rfl
 |some x=>
  have hm:b∈wU h H:=List.mem_filter.mpr ⟨B6.mpr (Heap.lt_size e'),by simp[q]⟩
  have z:(iQ h H).get? b=none:=PySem.W.hideAll_none (wU h H) hm;rw[z] at e;cases e
structure Mod (K:A4) (mg:Cy) (base:Heap):Prop where
 kin:K.In base
 glob:base.Ns mainGlobals mg
 blt:∃mb,base.Ns builtinsNs mb/\∀x:Str,x≠ "__name__" ->mb x=bootBuiltins x
 nolimit:base.NoLimit
structure Cx where
 prog:Program
 w:World
 K:A4
 mg:Str->CG
 base:Heap
 A:Around
 N:CB
 s₀:Shared
 H₀:Hp
 env:Env
 outer:List Env
 stack:List Env
 ex:CC
 fn:Str->Bool
 calm:Bool
 pn:Cz
 xe:Value->Shared->Prop
def fV (l:List Env):CC:=l.filterMap (·.frame)
abbrev Cx.fs (X:Cx):CC:=fV X.outer
def xc (sc:Scope) (x:Str):Prop:=sc.names.lookup x=some .local∨sc.names.lookup x=some .cell∨sc.names.lookup x=some .free
def Loc (sc:Scope) (x:Str):Prop:=sc.names.lookup x=some .local∨sc.names.lookup x=some .cell
def Look (env:Env) (h:Heap) (m:Cy) (x:Str) (u:Value):Prop:=
 (env.kindOf x=some .local/\m x=some u)∨((env.kindOf x=some .cell∨env.kindOf x=some .free)/\∃c,env.cells.lookup x=some c/\h.IsCell c (some u))
structure Cx.Ok (X:Cx):Prop where
 mod:Mod X.K X.mg X.base
 kind:X.env.scope.kind= .function
 glob:X.env.globals=mainGlobals
 blt:X.env.builtins=builtinsNs
 above:X.s₀.heap.objs.size<=X.env.locals
 inj:∀x y c,X.env.cells.lookup x=some c->X.env.cells.lookup y=some c->x=y
 has:∀x,(X.env.kindOf x=some .cell∨X.env.kindOf x=some .free)->∃c,X.env.cells.lookup x=some c
 cab:∀x c,X.fn x=true->X.env.cells.lookup x=some c->X.s₀.heap.objs.size<=c
 hd:X.calm=true->X.A.handled=none
 frames:X.A.frames=some X.stack
 stk:X.stack=X.outer∨(X.stack=X.env::X.outer/\X.env.frame=some X.env.locals)
 exf:∀b∈X.ex,b≠X.env.locals/\∀x c,X.env.cells.lookup x=some c->c≠b
 bs:∀b o,X.base.get? b=some o->X.s₀.heap.get? b=some o/\X.H₀ b=none
 bsz:X.base.objs.size<=X.s₀.heap.objs.size
 noex:∀b o,X.base.get? b=some o->b∉X.ex
 exfs:∀b∈X.ex,b∉X.fs
 funs:X.s₀.heap.FunFrames X.base X.outer
 frf:∀b∈X.fs,X.H₀ b=none
structure aB (X:Cx) (pins:Cz) (σ:List (Option V)) (H:Hp) (s:Shared):Prop where
 ok:X.Ok
 os:s.os=X.s₀.os
 bare:AllBare s.gens
 base:Un X.fs X.ex X.H₀ H X.s₀.heap s.heap
 loc:∃m,s.heap.Ns X.env.locals m/\∀(i:Nat) (x:Str) (v:V),X.N[i]?=some x->σ[i]?=some (some v)->xc X.env.scope x->∃u,RelV v u/\Look X.env s.heap m x u
 cell:∀x c,X.env.cells.lookup x=some c->∃v,s.heap.IsCell c v
 free:H X.env.locals=none
 freeC:∀x c,X.env.cells.lookup x=some c->H c=none
 pin:∀p∈X.pn++pins,s.heap.get? p.1=some p.2/\H p.1=none/\p.1≠X.env.locals/\p.1∉X.fs/\∀v,p.2.data≠ .cell v
 hok:dI X.prog X.w H s.heap
 len:σ.length=X.N.length
variable {X:Cx} {pins:Cz} {σ:List (Option V)} {H H':Hp} {s:Shared} {h':Heap}
theorem Cx.Ok.nofr (ok:X.Ok) {b:Addr} {o:Obj} (e:X.base.get? b=some o):b∉X.fs:=fun hb=>by
 have:=(ok.funs.mem hb).1;rw[e] at this;cases this
theorem aB.bs (I:aB X pins σ H s):∀b o,X.base.get? b=some o->s.heap.get? b=some o/\H b=none:=fun b o e=>
 ⟨I.base.keep b o (I.ok.bs b o e).1 (I.ok.bs b o e).2 (I.ok.nofr e) (I.ok.noex b o e),I.base.free b o (I.ok.bs b o e).1 (I.ok.bs b o e).2 (I.ok.noex b o e)⟩
theorem aB.bk (I:aB X pins σ H s):∀b o,X.base.get? b=some o->s.heap.get? b=some o:=fun b o e=>(I.bs b o e).1
theorem aB.mod (I:aB X pins σ H s):Mod X.K X.mg X.base:=I.ok.mod
theorem aB.kIn (I:aB X pins σ H s):X.K.In s.heap:=I.ok.mod.kin.keeps I.bk
theorem aB.lt (I:aB X pins σ H s):X.env.locals<s.heap.objs.size:=let ⟨_,hn,_⟩:=I.loc;hn.lt
theorem aB.sz (I:aB X pins σ H s):X.s₀.heap.objs.size<=s.heap.objs.size:=B4 I.ok.above (Nat.le_of_lt I.lt)
theorem aB.nofs (I:aB X pins σ H s) {a:Addr} (h:s.heap.objs.size<=a):a∉X.fs:=fun hb=>by
 obtain ⟨_,o,ho,_⟩:=I.ok.funs.mem hb;exact absurd (AZ (Heap.lt_size ho) (B4 I.sz h)) (Nat.lt_irrefl _)
theorem aB.cne (I:aB X pins σ H s):∀x c,X.env.cells.lookup x=some c->c≠X.env.locals:=fun x c e z=>by
 obtain ⟨v,o,ho,hd⟩:=I.cell x c e;obtain ⟨m,⟨o',es,ep,ho',hd',_⟩,_⟩:=I.loc;rw[z,ho'] at ho;cases ho;rw[hd'] at hd;cases hd
theorem aB.funs (I:aB X pins σ H s):s.heap.FunFrames X.base X.outer:=by
 have all:∀(l:List Env),(∀b∈fV l,b∈X.fs)->X.s₀.heap.FunFrames X.base l->s.heap.FunFrames X.base l:=by
  intro l
  induction l with
  |nil=>intro _ _;trivial
  |cons env r ih=>
   intro hs hl;obtain ⟨hk,⟨L,o,hf,hn,ho,hd⟩,hr⟩:=hl;have hL:L∈X.fs:=hs L (by unfold fV;rw[BL,hf];exact Ae)
   obtain ⟨sl,e⟩:=I.base.slot L o ho (I.ok.frf L hL) hL fun z=>I.ok.exfs L z hL
   exact ⟨hk,⟨L,_,hf,hn,e,hd⟩,ih (fun b hb=>hs b (by unfold fV;rw[BL,hf];exact AM _ hb)) hr⟩
 exact all X.outer (fun _ hb=>hb) I.ok.funs
theorem aB.stack (I:aB X pins σ H s):s.heap.FunFrames X.base X.stack:=by
 rcases I.ok.stk with e|⟨e,hf⟩
 ·rw[e];exact I.funs
 ·rw[e];obtain ⟨m,hn,_⟩:=I.loc;refine .cons (by rw[I.ok.kind];decide) hf hn ?_ I.funs
  exact Heap.get?_none_of_le (B4 I.ok.bsz I.ok.above)
theorem aB.stkSub (I:aB X pins σ H s):∀b∈fV X.stack,b∈X.env.locals::X.fs:=fun b hb=>by
 rcases I.ok.stk with e|⟨e,hf⟩
 ·rw[e] at hb;exact AM _ hb
 ·rw[e] at hb;unfold fV at hb;rw[BL,hf] at hb;exact hb
theorem aB.stkFree (I:aB X pins σ H s):∀b∈fV X.stack,H b=none:=fun b hb=>by
 rcases AU.mp (I.stkSub b hb) with e|hb
 ·rw[e];exact I.free
 ·obtain ⟨_,o,ho,_⟩:=I.ok.funs.mem hb;exact I.base.free b o ho (I.ok.frf b hb) fun z=>I.ok.exfs b z hb
theorem aB.step {g':Array GenState} {t':Nat} {d':Drawn} {ch:CC} (I:aB X pins σ H s)
  (hch:∀b∈ch,(b∈X.ex∨X.s₀.heap.objs.size<=b)/\b≠X.env.locals/\(∀x c,X.env.cells.lookup x=some c->c≠b)/\∀p∈X.pn++pins,p.1≠b)
  (keep:∀b o,b≠X.env.locals->b∉X.fs->b∉ch->s.heap.get? b=some o->H b=none->h'.get? b=some o)
  (slot:∀b o,b≠X.env.locals->b∈X.fs->b∉ch->s.heap.get? b=some o->H b=none->∃sl,h'.get? b=some {o with slots:=sl}) (free:∀b o,b∉ch->s.heap.get? b=some o->H b=none->H' b=none)
  (there:∀b o,b∉ch->s.heap.get? b=some o->∃o',h'.get? b=some o')
  (tups:∀b xs,H b=some (.tup xs)->H' b=some (.tup xs)) (frzs:∀b o u,H b=some (.frz o u)->H' b=some (.frz o u)) (tbls:∀b ps,H b=some (.tbl ps)->∃more,H' b=some (.tbl (ps++more)))
  (ns:∀m,s.heap.Ns X.env.locals m->h'.Ns X.env.locals m) (hok:dI X.prog X.w H' h') (hg:AllBare g'):
  aB X pins σ H' {s with heap:=h',gens:=g',drawn:=d',toks:=t'}:=by
 have neL:∀b o,X.s₀.heap.get? b=some o->b≠X.env.locals:=fun b o e=>AE (AZ (Heap.lt_size e) I.ok.above)
 have neC:∀b o,X.s₀.heap.get? b=some o->b∉X.ex->b∉ch:=fun b o e hx hb=>by
  rcases (hch b hb).1 with z|z
  ·exact hx z
  ·exact absurd (AZ (Heap.lt_size e) z) (Nat.lt_irrefl _)
 have cellK:∀x c,X.env.cells.lookup x=some c->∀v,s.heap.IsCell c v->h'.IsCell c v:=fun x c e v ⟨o,ho,hd⟩=>by
  have nch:c∉ch:=fun z=>(hch c z).2.2.1 x c e rfl
  by_cases hc:c∈X.fs
  ·obtain ⟨sl,q⟩:=slot c o (I.cne x c e) hc nch ho (I.freeC x c e);exact ⟨_,q,hd⟩
  ·exact ⟨o,keep c o (I.cne x c e) hc nch ho (I.freeC x c e),hd⟩
 refine ⟨I.ok,I.os,hg,⟨fun b o e n hb hx=>?_,fun b o e n hb hx=>?_,fun b o e n hx=>?_,fun b o e hx=>?_,fun b xs e=>tups b xs (I.base.tups b xs e),fun b o xs e=>frzs b o xs (I.base.frzs b o xs e),fun b ps e=>?_⟩,?_,fun x c e=>?_,?_,fun x c e=>?_,fun p hp=>?_,hok,I.len⟩
 ·exact keep b o (neL b o e) hb (neC b o e hx) (I.base.keep b o e n hb hx) (I.base.free b o e n hx)
 ·obtain ⟨sl,e1⟩:=I.base.slot b o e n hb hx;obtain ⟨sl',e2⟩:=slot b _ (neL b o e) hb (neC b o e hx) e1 (I.base.free b o e n hx);exact ⟨sl',e2⟩
 ·obtain ⟨o',e1⟩:=I.base.there b o e hx;exact free b o' (neC b o e hx) e1 (I.base.free b o e n hx)
 ·obtain ⟨o',e1⟩:=I.base.there b o e hx;exact there b o' (neC b o e hx) e1
 ·obtain ⟨m1,e1⟩:=I.base.tbls b ps e;obtain ⟨m2,e2⟩:=tbls b _ e1;exact ⟨m1++m2,by rw[e2,Array.append_assoc]⟩
 ·obtain ⟨m,hn,hl⟩:=I.loc;refine ⟨m,ns m hn,fun i x v e1 e2 e3=>?_⟩
  obtain ⟨u,r,l⟩:=hl i x v e1 e2 e3;refine ⟨u,r,?_⟩;rcases l with l|⟨k,c,e,z⟩
  ·exact .inl l
  ·exact .inr ⟨k,c,e,cellK x c e _ z⟩
 ·obtain ⟨v,z⟩:=I.cell x c e;exact ⟨v,cellK x c e v z⟩
 ·obtain ⟨m,⟨o,_,_,ho,_⟩,_⟩:=I.loc;exact free _ o (fun z=>(hch _ z).2.1 rfl) ho I.free
 ·obtain ⟨v,o,ho,hd⟩:=I.cell x c e;exact free c o (fun z=>(hch c z).2.2.1 x c e rfl) ho (I.freeC x c e)
 ·obtain ⟨e,n,ne,nf,d⟩:=I.pin p hp;have nch:p.1∉ch:=fun z=>(hch p.1 z).2.2.2 p hp rfl
  exact ⟨keep p.1 p.2 ne nf nch e n,free p.1 p.2 nch e n,ne,nf,d⟩
theorem aB.un {t':Nat} (I:aB X pins σ H s) (u:Un X.fs [] H H' s.heap h') (hok:dI X.prog X.w H' h'):aB X pins σ H' {s with heap:=h',toks:=t'}:=by
 obtain ⟨m,⟨o,es,ep,ho,r⟩,_⟩:=id I.loc;obtain ⟨sl,hL⟩:=u.any ho I.free (by simp)
 exact I.step (g':=s.gens) (d':=s.drawn) (ch:= []) (fun _ z=>nomatch z) (fun b o _ hb _ e n=>u.keep b o e n hb (by simp)) (fun b o _ hb _ e n=>u.slot b o e n hb (by simp)) (fun b o _ e n=>u.free b o e n (by simp)) (fun b o _ e=>u.there b o e (by simp)) u.tups u.frzs u.tbls (fun m' hm=>by
  obtain ⟨o',es',ep',ho',r'⟩:=hm;rw[ho] at ho';cases ho';exact ⟨_,es',ep',hL,r'⟩) hok I.bare
theorem aB.call {g':Array GenState} {t':Nat} {d':Drawn} {ch:CC} (I:aB X pins σ H s) (u:Un (fV X.stack) ch H H' s.heap h') (hok:dI X.prog X.w H' h') (hg:AllBare g')
  (hch:∀b∈ch,(b∈X.ex∨X.s₀.heap.objs.size<=b)/\b≠X.env.locals/\(∀x c,X.env.cells.lookup x=some c->c≠b)/\∀p∈X.pn++pins,p.1≠b):
  aB X pins σ H' {s with heap:=h',gens:=g',drawn:=d',toks:=t'}:=by
 obtain ⟨m,⟨o,es,ep,ho,r⟩,_⟩:=id I.loc;obtain ⟨sl,hL⟩:=u.any ho I.free fun z=>(hch _ z).2.1 rfl
 exact I.step (ch:=ch) hch (fun b o hL hb hc e n=>u.keep b o e n (fun z=>(AU.mp (I.stkSub b z)).elim hL hb) hc) (fun b o _ _ hc e n=>u.any e n hc) (fun b o hc e n=>u.free b o e n hc) (fun b o hc e=>u.there b o e hc) u.tups u.frzs u.tbls (fun m' hm=>by
  obtain ⟨o',es',ep',ho',r'⟩:=hm;rw[ho] at ho';cases ho';exact ⟨_,es',ep',hL,r'⟩) hok hg
theorem aB.turned {t':Nat} {it:Addr} (I:aB X pins σ H s) (k:∀b o,b≠it->s.heap.get? b=some o->h'.get? b=some o) (hn:H it=none) (hL:it≠X.env.locals)
  (h1:it∈X.ex∨X.s₀.heap.objs.size<=it) (h2:∀x c,X.env.cells.lookup x=some c->c≠it) (h3:∀p∈X.pn++pins,p.1≠it):aB X pins σ H {s with heap:=h',toks:=t'}:=by
 have nit:∀b u,H b=some u->b≠it:=fun b u e z=>by rw[z,hn] at e;cases e
 refine I.step (g':=s.gens) (d':=s.drawn) (ch:= [it]) (fun b hb=>?_) (fun b o _ _ hc e _=>k b o (fun z=>hc (by simp[z])) e) (fun b o _ _ hc e _=>⟨o.slots,k b o (fun z=>hc (by simp[z])) e⟩) (fun _ _ _ _ n=>n)
  (fun b o hc e=>⟨o,k b o (fun z=>hc (by simp[z])) e⟩) (fun _ _ e=>e) (fun _ _ _ e=>e) (fun b ps e=>⟨#[],by rw[e];simp⟩) (fun m hm=>?_) (fun b u e=>?_) I.bare
 ·have e:b=it:=by simpa using hb
  subst e;exact ⟨h1,hL,h2,h3⟩
 ·obtain ⟨o,es,ep,ho,r⟩:=hm;exact ⟨o,es,ep,k _ o (Ne.symm hL) ho,r⟩
 ·refine (I.hok b u e).stay (fun c v hc q=>k c v ?_ q) (fun _ q=>q) fun _ _ q=>q
  rcases hc with z|z
  ·rw[z];exact nit b u e
  ·exact nit c _ z
theorem aB.tok (I:aB X pins σ H s) (t:Nat):aB X pins σ H {s with toks:=t}:=I.un (h':=s.heap) (t':=t) Un.refl I.hok
theorem aB.kept {t':Nat} (I:aB X pins σ H s) (k:∀b u,s.heap.get? b=some u->h'.get? b=some u):aB X pins σ H {s with heap:=h',toks:=t'}:=I.un (Un.kept k) (I.hok.kept k)
theorem aB.laid {a:Addr} {o:HO} {t':Nat} (I:aB X pins σ H s) (k:∀b u,s.heap.get? b=some u->h'.get? b=some u) (hp:s.heap.objs.size<=a) (new:bO X.prog X.w (aL H a o) h' a o):
  aB X pins σ (aL H a o) {s with heap:=h',toks:=t'}:=I.un (Un.laid k hp (I.hok.fresh hp)) (I.hok.laid k hp new)
theorem aB.write {x e:Addr} {o:HO} {t':Nat} (I:aB X pins σ H s) (mu:wT (H x)) (he:e=x∨H e=some (.own x)) (k:∀b u,b≠e->s.heap.get? b=some u->h'.get? b=some u) (heo:∃u,h'.get? e=some u)
  (new:bO X.prog X.w (aL H x o) h' x o):aB X pins σ (aL H x o) {s with heap:=h',toks:=t'}:=I.un (Un.write mu he k heo) (I.hok.write mu he k heo new)
theorem aB.pins_of {pins':Cz} (I:aB X pins σ H s) (h:∀p∈pins',s.heap.get? p.1=some p.2/\H p.1=none/\p.1≠X.env.locals/\p.1∉X.fs/\∀v,p.2.data≠ .cell v):aB X pins' σ H s:=
 ⟨I.ok,I.os,I.bare,I.base,I.loc,I.cell,I.free,I.freeC,fun p hp=>(AI.mp hp).elim (fun z=>I.pin p (BZ _ z)) (h p),I.hok,I.len⟩
theorem jy {N:CB} (hN:N.Nodup) {i j:Nat} {x:Str} (a:N[i]?=some x) (b:N[j]?=some x):i=j:=by
 obtain ⟨h1,e1⟩:=A3.mp a;obtain ⟨h2,e2⟩:=A3.mp b;exact (List.getElem_inj hN).mp (e1.trans e2.symm)
theorem eN {M:Model} {A:Around} {E:Cw} {i:Nat} {x:Str} {v:V} {u:Value} {Q:Unit->Shared->Prop} (I:aB X pins σ H s) (hN:X.N.Nodup) (hi:X.N[i]?=some x) (hx:Loc X.env.scope x) (r:RelV v u)
  (h:∀s',aB X pins (σ.set i (some v)) H s'->(∃a,Heap.SameBut a s.heap s'.heap/\(a=X.env.locals∨X.env.cells.lookup x=some a))->Q () s') (hf:X.fn x=true∨X.env.scope.names.lookup x=some .local:=by first|exact .inl rfl|exact .inr rfl|assumption):wpAny M A (storeName X.env x u) Q E s:=by
 obtain ⟨m,hn,hl⟩:=id I.loc;have hcls:(X.env.scope.kind== .class||(X.env.scope.kind== .module&&X.env.locals !=X.env.globals))=false:=by rw[I.ok.kind];rfl
 have hiσ:i<σ.length:=by rw[I.len];exact (A3.mp hi).1
 have cne:=I.cne;have tracked:∀{a:Addr} {h':Heap},(∃o,s.heap.get? a=some o/\H a=none)->Heap.SameBut a s.heap h'->dI X.prog X.w H h':=fun {a h'} ha hs b ob e=>by
  obtain ⟨_,_,hfree⟩:=ha;refine (I.hok b ob e).stay (fun c w' hc q=>(hs.2 c ?_).trans q) (fun _ q=>q) fun _ _ q=>q
  rintro rfl;rcases hc with rfl|hc
  ·rw[hfree] at e;cases e
  ·rw[hfree] at hc;cases hc
 rcases hx with hk|hk
 ·refine wpAny_storeName_local hk hn (fun h' hn' hs=>?_) hcls
  obtain ⟨oL,_,_,hoL,_⟩:=id hn;refine h _ ⟨I.ok,I.os,I.bare,⟨fun b o e n hb hx=>?_,fun b o e n hb hx=>?_,I.base.free,fun b o e hx=>?_,I.base.tups,I.base.frzs,I.base.tbls⟩,⟨_,hn',fun j y v' e1 e2 e3=>?_⟩,fun y c e=>?_,I.free,I.freeC,fun p hp=>?_,tracked ⟨oL,hoL,I.free⟩ hs,by simpa using I.len⟩ ⟨_,hs,.inl rfl⟩
  ·exact (hs.2 b (AE (AZ (Heap.lt_size e) I.ok.above))).trans (I.base.keep b o e n hb hx)
  ·obtain ⟨sl,e1⟩:=I.base.slot b o e n hb hx;exact ⟨sl,(hs.2 b (AE (AZ (Heap.lt_size e) I.ok.above))).trans e1⟩
  ·obtain ⟨o',e1⟩:=I.base.there b o e hx;exact ⟨o',(hs.2 b (AE (AZ (Heap.lt_size e) I.ok.above))).trans e1⟩
  ·by_cases hj:j=i
   ·subst hj;rw[hi] at e1;cases e1;rw[List.getElem?_set_self hiσ] at e2;cases e2;exact ⟨u,r,.inl ⟨hk,by simp⟩⟩
   ·rw[List.getElem?_set_ne (Ne.symm hj)] at e2;obtain ⟨u',r',q⟩:=hl j y v' e1 e2 e3;refine ⟨u',r',?_⟩;rcases q with ⟨k,e⟩|⟨k,c,e,z⟩
    ·refine .inl ⟨k,?_⟩;have:y≠x:=fun e=>hj (jy hN e1 (e▸hi))
     simp[this,e]
    ·exact .inr ⟨k,c,e,z.sameBut hs (cne y c e)⟩
  ·obtain ⟨w',z⟩:=I.cell y c e;exact ⟨w',z.sameBut hs (cne y c e)⟩
  ·obtain ⟨e,n,ne,nf,d⟩:=I.pin p hp;exact ⟨(hs.2 p.1 ne).trans e,n,ne,nf,d⟩
 ·have hfn:X.fn x=true:=by
   rcases hf with z|z
   ·exact z
   ·rw[z] at hk;cases hk
  obtain ⟨c,hc⟩:=I.ok.has x (.inl hk);obtain ⟨w',z⟩:=I.cell x c hc;refine wpAny_storeName_cell I.ok.kind hk hc z (fun h' hc' hs=>?_)
  obtain ⟨oc,hoc,hocd⟩:=id z;refine h {s with heap:=h'} ⟨I.ok,I.os,I.bare,⟨fun b o e n hb hx=>?_,fun b o e n hb hx=>?_,I.base.free,fun b o e hx=>?_,I.base.tups,I.base.frzs,I.base.tbls⟩,⟨m,hn.sameBut hs (Ne.symm (cne x c hc)),fun j y v' e1 e2 e3=>?_⟩,fun y c' e=>?_,I.free,I.freeC,fun p hp=>?_,tracked ⟨oc,hoc,I.freeC x c hc⟩ hs,by simpa using I.len⟩ ⟨c,hs,.inr hc⟩
  ·exact (hs.2 b (AE (AZ (Heap.lt_size e) (I.ok.cab x c hfn hc)))).trans (I.base.keep b o e n hb hx)
  ·obtain ⟨sl,e1⟩:=I.base.slot b o e n hb hx;exact ⟨sl,(hs.2 b (AE (AZ (Heap.lt_size e) (I.ok.cab x c hfn hc)))).trans e1⟩
  ·obtain ⟨o',e1⟩:=I.base.there b o e hx;exact ⟨o',(hs.2 b (AE (AZ (Heap.lt_size e) (I.ok.cab x c hfn hc)))).trans e1⟩
  ·by_cases hj:j=i
   ·subst hj;rw[hi] at e1;cases e1;rw[List.getElem?_set_self hiσ] at e2;cases e2;exact ⟨u,r,.inr ⟨.inl hk,c,hc,hc'⟩⟩
   ·rw[List.getElem?_set_ne (Ne.symm hj)] at e2;obtain ⟨u',r',q⟩:=hl j y v' e1 e2 e3;refine ⟨u',r',?_⟩;rcases q with q|⟨k,c',e,z'⟩
    ·exact .inl q
    ·refine .inr ⟨k,c',e,z'.sameBut hs ?_⟩;rintro rfl;exact hj (jy hN e1 (I.ok.inj _ _ _ e hc▸hi))
  ·by_cases hcc:c'=c
   ·subst hcc;exact ⟨_,hc'⟩
   ·obtain ⟨w2,z2⟩:=I.cell y c' e;exact ⟨w2,z2.sameBut hs hcc⟩
  ·obtain ⟨e,n,ne,nf,d⟩:=I.pin p hp;refine ⟨(hs.2 p.1 ?_).trans e,n,ne,nf,d⟩;intro q;rw[q,hoc] at e;have q':oc=p.2:=Av e;exact d w' (by rw[<-q'];exact hocd)
theorem jz {M:Model} {A:Around} {E:Cw} {i:Nat} {x:Str} {v:V} {u:Value} {Q:Unit->Shared->Prop} (I:aB X pins σ H s) (hN:X.N.Nodup) (hi:X.N[i]?=some x) (hx:Loc X.env.scope x) (r:RelV v u)
  (h:∀s',aB X pins (σ.set i (some v)) H s'->Q () s') (hf:X.fn x=true∨X.env.scope.names.lookup x=some .local:=by first|exact .inl rfl|exact .inr rfl|assumption):wpAny M A (storeName X.env x u) Q E s:=
 eN I hN hi hx r (fun s' I' _=>h s' I') hf
theorem aB.call' {s':Shared} {ch:CC} (I:aB X pins σ H s) (ho:s'.os=s.os) (u:Un (fV X.stack) ch H H' s.heap s'.heap) (hok:dI X.prog X.w H' s'.heap) (hg:AllBare s'.gens)
  (hch:∀b∈ch,(b∈X.ex∨X.s₀.heap.objs.size<=b)/\b≠X.env.locals/\(∀x c,X.env.cells.lookup x=some c->c≠b)/\∀p∈X.pn++pins,p.1≠b):aB X pins σ H' s':=by
 obtain ⟨h',g',d',t',o'⟩:=s';have e:o'=s.os:=ho;subst e;exact I.call (g':=g') (t':=t') (d':=d') u hok hg hch
abbrev XK:=Value->CF->Hp->Prop
abbrev St:=List (Option V)
abbrev VK:=V->Hp->Prop
abbrev TE:=St->Hp->VK->Prop
abbrev TT:=St->Hp->(Bool->Hp->Prop)->Prop
abbrev TA:=St->Hp->(List V->Hp->Prop)->Prop
structure Ends where
 nx:St->Hp->Prop
 rt:VK
 bk:St->Hp->Prop:=fun _ _=>False
 ct:St->Hp->Prop:=fun _ _=>False
abbrev TS:=Ends->St->Hp->Prop
def EP (X:Cx) (pins:Cz) (σ:St) (Q:VK) (u:Value) (s':Shared):Prop:=∃v H',aB X pins σ H' s'/\RelV v u/\Q v H'
def TP (X:Cx) (pins:Cz) (σ:St) (Q:Bool->Hp->Prop) (b:Bool) (s':Shared):Prop:=∃H',aB X pins σ H' s'/\Q b H'
def AP (X:Cx) (pins:Cz) (σ:St) (Q:List V->Hp->Prop) (us:CD) (s':Shared):Prop:=∃vs H',aB X pins σ H' s'/\aM vs us/\Q vs H'
def SP (X:Cx) (pins:Cz) (D:Ends) (f:Flow) (s':Shared):Prop:=
 match f with
 | .next=>∃σ' H',aB X pins σ' H' s'/\D.nx σ' H'
 | .brk=>∃σ' H',aB X pins σ' H' s'/\D.bk σ' H'
 | .cont=>∃σ' H',aB X pins σ' H' s'/\D.ct σ' H'
 | .ret u=>∃v σ' H',aB X pins σ' H' s'/\RelV v u/\D.rt v H'
def PE (X:Cx) (e:Expr) (t:TE):Prop:=
 ∀(pins:Cz) (s:Shared) (σ:St) (H:Hp) (Q:VK),aB X pins σ H s->t σ H Q->wpAny (model X.prog X.w) X.A (eval e X.env) (EP X pins σ Q) X.xe s
def PT (X:Cx) (e:Expr) (t:TT):Prop:=
 ∀(pins:Cz) (s:Shared) (σ:St) (H:Hp) (Q:Bool->Hp->Prop),aB X pins σ H s->t σ H Q->wpAny (model X.prog X.w) X.A (isTrue e X.env (eval e X.env)) (TP X pins σ Q) X.xe s
def PW (X:Cx) (e:Expr) (t:TT):Prop:=
 ∀(whole:Sem Value) (pins:Cz) (s:Shared) (σ:St) (H:Hp) (Q:Bool->Hp->Prop),aB X pins σ H s->t σ H Q->wpAny (model X.prog X.w) X.A (isTrue e X.env whole) (TP X pins σ Q) X.xe s
theorem PW.pt {X:Cx} {e:Expr} {t:TT} (h:PW X e t):PT X e t:=h _
def PA (X:Cx) (es:List Expr) (t:TA):Prop:=
 ∀(pos:Pos) (pins:Cz) (s:Shared) (σ:St) (H:Hp) (Q:List V->Hp->Prop),aB X pins σ H s->t σ H Q->wpAny (model X.prog X.w) X.A (spliced (backTo pos (starEach es X.env))) (AP X pins σ Q) X.xe s
def PS (X:Cx) (st:Stmt) (t:TS):Prop:=
 ∀(pins:Cz) (s:Shared) (σ:St) (H:Hp) (D:Ends),aB X pins σ H s->t D σ H->wpAny (model X.prog X.w) X.A (exec st X.env) (SP X pins D) X.xe s
def hU (X:Cx) (st:List Stmt) (t:TS):Prop:=
 ∀(pins:Cz) (s:Shared) (σ:St) (H:Hp) (D:Ends),aB X pins σ H s->t D σ H->wpAny (model X.prog X.w) X.A (execs st X.env) (SP X pins D) X.xe s
theorem aZ {α:Type} {t:Sem α} {Q Q':α->Shared->Prop} {M:Model} {A:Around} {E:Cw} {s:Shared} (h:wpAny M A t Q E s) (hQ:∀a s,Q a s->Q' a s):wpAny M A t Q' E s:=wpAny_mono h hQ fun _ _ x=>x
section
def vN (i:Nat):TE:=fun σ H Q=>∃v,σ[i]?=some (some v)/\Q v H
def tC (v:V):TE:=fun _ H Q=>Q v H
theorem uj {i:Nat} {x:Str} {pos:Pos} (hN:X.N[i]?=some x) (hv:xc X.env.scope x) (hd:(x==("__debug__" :Str))=false:=by decide) (hcd:(x==("__classdict__" :Str))=false:=by decide):PE X (.Name x pos) (vN i):=by
 intro pins s σ H Q I h;obtain ⟨v,e,h⟩:=h;obtain ⟨m,hn,hl⟩:=I.loc;obtain ⟨u,r,l⟩:=hl i x v hN e hv;have fin:EP X pins σ Q u s:=⟨v,H,I,r,h⟩;rcases l with ⟨hk,hm⟩|⟨hk,c,hc,hcell⟩
 ·exact wpAny_Name (wpAny_loadName_local I.ok.kind hk hn hm fin) hd
 ·rcases hk with hk|hk
  ·exact wpAny_Name (wpAny_loadName_cell I.ok.kind hk hc hcell fin) hd
  ·exact wpAny_Name (wpAny_loadName_free I.ok.kind hk hc hcell fin hcd) hd
theorem ad {i j pos}:PE X (.Constant (.int i) j pos) (tC (.int i)):=fun _ _ _ H _ I h=>wpAny_Constant_int ⟨.int i,H,I.tok _,⟨_,rfl⟩,h⟩
theorem bV {b j pos}:PE X (.Constant (.bool b) j pos) (tC (.bl b)):=fun _ _ _ H _ I h=>Constant_bool ⟨.bl b,H,I,rfl,h⟩
theorem f8 {j pos}:PE X (.Constant .none j pos) (tC .non):=fun _ _ _ H _ I h=>Constant_none ⟨.non,H,I,rfl,h⟩
theorem bP {x j pos}:PE X (.Constant (.str x) j pos) (tC (.str x)):=fun _ _ _ H _ I h=>Calls.Constant_str ⟨.str x,H,I.tok _,⟨_,rfl⟩,h⟩
def Gl (X:Cx) (x:Str):Prop:=X.env.kindOf x=some .globalImplicit
theorem c4 {E:Cw} {pins:Cz} {s:Shared} {σ:St} {H:Hp} {x:Str} {u:Value} {pos:Pos} {Q:Cw} (I:aB X pins σ H s) (hg:Gl X x) (hm:X.mg x=some u) (h:Q u s)
  (hd:(x==("__debug__" :Str))=false:=by decide):wpAny (model X.prog X.w) X.A (eval (.Name x pos) X.env) Q E s:=
 Calls.Name_function_global I.ok.kind hg (Calls.loadGlobal_global (by rw[I.ok.glob];exact I.mod.glob.keeps I.bk) hm h) hd
theorem di {E:Cw} {pins:Cz} {s:Shared} {σ:St} {H:Hp} {x:Str} {u:Value} {pos:Pos} {Q:Cw} (I:aB X pins σ H s) (hg:Gl X x) (hm:X.mg x=none) (hv:bootBuiltins x=some u) (h:Q u s)
  (hn:x≠ "__name__" :=by decide) (hd:(x==("__debug__" :Str))=false:=by decide):wpAny (model X.prog X.w) X.A (eval (.Name x pos) X.env) Q E s:=by
 obtain ⟨mb,h1,h2⟩:=I.mod.blt;exact Calls.Name_function_global I.ok.kind hg (Calls.loadGlobal_builtin (by rw[I.ok.glob];exact I.mod.glob.keeps I.bk) hm (by rw[I.ok.blt];exact h1.keeps I.bk) ((h2 x hn).trans hv) h) hd
theorem rW {x:Str} {v:V} {u:Value} {pos:Pos} (hg:Gl X x) (hm:X.mg x=some u) (r:RelV v u) (hd:(x==("__debug__" :Str))=false:=by decide):PE X (.Name x pos) (tC v):=
 fun _ _ _ H _ I h=>c4 I hg hm ⟨v,H,I,r,h⟩ hd
theorem mL {x:Str} {v:V} {u:Value} {pos:Pos} (hg:Gl X x) (hm:X.mg x=none) (hv:bootBuiltins x=some u) (r:RelV v u) (hn:x≠ "__name__" :=by decide) (hd:(x==("__debug__" :Str))=false:=by decide):PE X (.Name x pos) (tC v):=
 fun _ _ _ H _ I h=>di I hg hm hv ⟨v,H,I,r,h⟩ hn hd
variable {a b:Expr} {ta tb:TE} {pos:Pos}
def tB (t:TE):TT:=fun σ H Q=>t σ H fun x H1=>∃c,x= .bl c/\Q c H1
theorem eO {e:Expr} {t:TE} (h:PE X e t) (he:∀whole,isTrue e X.env whole=(do let v<-whole;standAt e.pos;holding [v] (truthy v)):=by intro _;rfl):PT X e (tB t):=by
 intro pins s σ H Q I hw;refine isTrue_plain (aZ (h pins s σ H _ I hw) fun v s1 ⟨x,H1,I1,r1,q1⟩=>?_) (he _)
 obtain ⟨d,rfl,q⟩:=q1;cases r1;exact wpAny_truthy_bool ⟨H1,I1,q⟩
variable {tA tB':TT} {rest:List Expr}
def xf (t u:TT):TT:=fun σ H Q=>t σ H fun c H1=>if c=true then u σ H1 Q else Q false H1
def yr (t u:TT):TT:=fun σ H Q=>t σ H fun c H1=>if c=true then Q true H1 else u σ H1 Q
def xg (t:TT):TT:=fun σ H Q=>t σ H fun c H1=>Q (!c) H1
theorem dA (ha:PT X a tA):PW X (.BoolOp .And [a] pos) tA:=by
 intro wh pins s σ H Q I h;refine isTrue_and (aZ (ha pins s σ H Q I h) fun c s1 e=>?_)
 cases c with
 |true=>exact isTrue_and_nil e
 |false=>exact e
theorem kZ (ha:PT X a tA):PW X (.BoolOp .Or [a] pos) tA:=by
 intro wh pins s σ H Q I h;refine isTrue_or (aZ (ha pins s σ H Q I h) fun c s1 e=>?_)
 cases c with
 |false=>exact isTrue_or_nil e
 |true=>exact e
theorem eP (ha:PT X a tA) (hb:PW X (.BoolOp .And (b::rest) pos) tB'):PW X (.BoolOp .And (a::b::rest) pos) (xf tA tB'):=by
 intro wh pins s σ H Q I h;refine isTrue_and (aZ (ha pins s σ H _ I h) fun c s1 ⟨H1,I1,q1⟩=>?_)
 cases c with
 |true=>exact hb wh pins s1 σ H1 Q I1 q1
 |false=>exact ⟨H1,I1,q1⟩
theorem pP (ha:PT X a tA) (hb:PW X (.BoolOp .Or (b::rest) pos) tB'):PW X (.BoolOp .Or (a::b::rest) pos) (yr tA tB'):=by
 intro wh pins s σ H Q I h;refine isTrue_or (aZ (ha pins s σ H _ I h) fun c s1 ⟨H1,I1,q1⟩=>?_)
 cases c with
 |true=>exact ⟨H1,I1,q1⟩
 |false=>exact hb wh pins s1 σ H1 Q I1 q1
theorem dN (ha:PT X a tA):PT X (.UnaryOp .Not a pos) (xg tA):=by
 intro pins s σ H Q I h;exact isTrue_not (ha pins s σ H (fun c H1=>Q (!c) H1) I h)
def vO (ta tb:TE):TE:=fun σ H Q=>ta σ H fun x H1=>∃c,x= .bl c/\if c=true then tb σ H1 Q else Q (.bl false) H1
def vP (ta:TE):TE:=fun σ H Q=>ta σ H fun x H1=>∃c,x= .bl c/\Q (.bl (!c)) H1
theorem pQ {op} {t:TE} (h:PE X a t):PE X (.BoolOp op [a] pos) t:=fun pins s σ H Q I hw=>BoolOp_one (h pins s σ H Q I hw)
theorem pR (ha:PE X a ta) (hb:PE X (.BoolOp .And (b::rest) pos) tb):PE X (.BoolOp .And (a::b::rest) pos) (vO ta tb):=by
 intro pins s σ H Q I h;refine BoolOp_and (aZ (ha pins s σ H _ I h) fun v s1 ⟨x,H1,I1,r1,q1⟩=>?_)
 obtain ⟨c,rfl,q1⟩:=q1;cases r1;refine wpAny_truthy_bool ?_;cases c with
 |true=>exact hb pins s1 σ H1 Q I1 q1
 |false=>exact ⟨.bl false,H1,I1,rfl,q1⟩
theorem uk (ha:PE X a ta):PE X (.UnaryOp .Not a pos) (vP ta):=by
 intro pins s σ H Q I h;refine UnaryOp_ (aZ (ha pins s σ H _ I h) fun v s1 ⟨x,H1,I1,r1,q1⟩=>?_)
 obtain ⟨c,rfl,q1⟩:=q1;cases r1;exact not_of (wpAny_truthy_bool ⟨.bl (!c),H1,I1,rfl,q1⟩)
def yt (t:TT) (ta tb:TE):TE:=fun σ H Q=>t σ H fun c H1=>if c=true then ta σ H1 Q else tb σ H1 Q
theorem d7 {c:Expr} (hc:PT X c tA) (ha:PE X a ta) (hb:PE X b tb):PE X (.IfExp c a b pos) (yt tA ta tb):=by
 intro pins s σ H Q I h;refine wpAny_IfExp (aZ (hc pins s σ H _ I h) fun d s1 ⟨H1,I1,q1⟩=>?_)
 cases d with
 |true=>exact ha pins s1 σ H1 Q I1 q1
 |false=>exact hb pins s1 σ H1 Q I1 q1
end
def aP (K:A4) (H:Hp) (a:Addr) (xs:List V):Prop:=
 Rd H a (.lst xs)∨
  ∃(o:Obj) (its:Array Value) (n:Nat),K.lookup a=some o/\o.cls= .type "list" /\o.dict=none/\o.data= .seq its n/\its.size<=sizeLine/\aM xs its.toList
def bF (K:A4) (H:Hp) (a:Addr) (xs:List V):Prop:=
 Rd H a (.tup xs)∨
  ∃(o:Obj) (its:Array Value) (n:Nat),K.lookup a=some o/\o.cls= .type "tuple" /\o.data= .seq its n/\its.size<=sizeLine/\aM xs its.toList
def xh:Value->Option V
 | .none=>some .non
 | .bool b=>some (.bl b)
 | .int i _=>some (.int i)
 | .str x _=>some (.str x)
 | .bytes b _=>some (.byt b)
 | .float b _=>some (.flt b)
 | .ref a=>some (.ref a)
 | .type n=>some (.ty n)
 |_=>none
theorem RelV.abs {x:V} {u:Value} (r:RelV x u):xh u=some x:=by
 cases x with
 |non=>cases r;rfl
 |bl _=>cases r;rfl
 |int _=>obtain ⟨t,rfl⟩:=r;rfl
 |str _=>obtain ⟨t,rfl⟩:=r;rfl
 |byt _=>obtain ⟨t,rfl⟩:=r;rfl
 |flt _=>obtain ⟨t,rfl⟩:=r;rfl
 |ref _=>cases r;rfl
 |ty _=>cases r;rfl
theorem RelV.inj {x y:V} {u:Value} (r:RelV x u) (q:RelV y u):x=y:=Av (r.abs.symm.trans q.abs)
theorem aM.inj:∀{xs ys:List V} {us:CD},aM xs us->aM ys us->xs=ys
 |_,_,_,.nil,.nil=>rfl
 |_,_,_,.cons r t,.cons r' t'=>by rw[r.inj r',aM.inj t t']
variable {σ:St} {a:Addr} {xs ys:List V}
theorem aP.of {K:A4} (h:H a=some (.lst xs)):aP K H a xs:= .inl (.inl h)
theorem bF.of {K:A4} (h:H a=some (.tup xs)):bF K H a xs:= .inl (.inl h)
theorem aB.list (I:aB X pins σ H s) (h:aP X.K H a xs):∃its:CD,aM xs its/\PlainL s.heap a its.toArray/\xs.length<=sizeLine:=by
 rcases h with h|⟨o,its,n,hk,hc,hd,hs,hz,r⟩
 ·obtain ⟨z,its,n,r,e⟩:=h.ok I.hok;exact ⟨its,r,⟨_,n,e,rfl,rfl,rfl⟩,z⟩
 ·refine ⟨its.toList,r,⟨o,n,I.kIn a o hk,hc,hd,by simpa using hs⟩,?_⟩
  have e:=r.length;simp only[AK] at e;omega
theorem aB.tuple (I:aB X pins σ H s) (h:bF X.K H a xs):∃its:CD,aM xs its/\IsTup s.heap a its.toArray/\xs.length<=sizeLine:=by
 rcases h with h|⟨o,its,n,hk,hc,hs,hz,r⟩
 ·obtain ⟨z,its,r,p⟩:=h.ok I.hok;exact ⟨its,r,p,z⟩
 ·refine ⟨its.toList,r,⟨o,I.kIn a o hk,hc,n,by simpa using hs⟩,?_⟩
  have e:=r.length;simp only[AK] at e;omega
theorem aB.list_inj (I:aB X pins σ H s) (h:aP X.K H a xs) (h':aP X.K H a ys):xs=ys:=by
 obtain ⟨its,r,⟨o,n,e,_,_,d⟩,_⟩:=I.list h;obtain ⟨its',r',⟨o',n',e',_,_,d'⟩,_⟩:=I.list h';rw[e] at e';cases e';rw[d] at d';injection d' with d1 _
 have:its=its':=by simpa using congrArg Array.toList d1
 subst this;exact r.inj r'
abbrev Cx.wish (X:Cx) (E:Cw):Cx:={X with xe:=E}
abbrev Cx.nox (X:Cx):Cx:=X.wish fun _ _=>False
theorem Cx.Ok.wish {X:Cx} (ok:X.Ok) (E:Cw):(X.wish E).Ok:=
 ⟨ok.mod,ok.kind,ok.glob,ok.blt,ok.above,ok.inj,ok.has,ok.cab,ok.hd,ok.frames,ok.stk,ok.exf,ok.bs,ok.bsz,ok.noex,ok.exfs,ok.funs,ok.frf⟩
theorem Cx.Ok.unwish {X:Cx} {E:Cw} (ok:(X.wish E).Ok):X.Ok:=
 ⟨ok.mod,ok.kind,ok.glob,ok.blt,ok.above,ok.inj,ok.has,ok.cab,ok.hd,ok.frames,ok.stk,ok.exf,ok.bs,ok.bsz,ok.noex,ok.exfs,ok.funs,ok.frf⟩
variable {E:Cw}
theorem aB.wish (I:aB X pins σ H s) (E:Cw):aB (X.wish E) pins σ H s:=⟨I.ok.wish E,I.os,I.bare,I.base,I.loc,I.cell,I.free,I.freeC,I.pin,I.hok,I.len⟩
theorem aB.unwish (I:aB (X.wish E) pins σ H s):aB X pins σ H s:=⟨I.ok.unwish,I.os,I.bare,I.base,I.loc,I.cell,I.free,I.freeC,I.pin,I.hok,I.len⟩
theorem SP.unwish {D:Ends} {f:Flow} {s':Shared} (h:SP (X.wish E) pins D f s'):SP X pins D f s':=by
 cases f with
 |next=>obtain ⟨σ',H',I,q⟩:=h;exact ⟨σ',H',I.unwish,q⟩
 |brk=>obtain ⟨σ',H',I,q⟩:=h;exact ⟨σ',H',I.unwish,q⟩
 |cont=>obtain ⟨σ',H',I,q⟩:=h;exact ⟨σ',H',I.unwish,q⟩
 |ret u=>obtain ⟨v,σ',H',I,r,q⟩:=h;exact ⟨v,σ',H',I.unwish,r,q⟩
theorem hU.nox {st:List Stmt} {t:TS} (h:hU X.nox st t):hU X st t:=fun pins s σ H D I hw=>
 wpAny_mono (h pins s σ H D (I.wish _) hw) (fun _ _ q=>q.unwish) fun _ _ z=>False.elim z
section
variable {st:Stmt} {rest:List Stmt} {t u:TS} {e:Expr} {te:TE} {pos:Pos}
def c9:TS:=fun D σ H=>D.nx σ H
def jA (t u:TS):TS:=fun D σ H=>t {D with nx:=u D} σ H
theorem aS:hU X [] c9:=fun _ _ σ H _ I h=>wpAny_execs_nil ⟨σ,H,I,h⟩
theorem ae (h1:PS X st t) (h2:hU X rest u):hU X (st::rest) (jA t u):=by
 intro pins s σ H D I h;refine wpAny_execs_cons (aZ (h1 pins s σ H {D with nx:=u D} I h) fun f s1 q=>?_)
 cases f with
 |next=>
  obtain ⟨σ',H',I',q⟩:=q;exact h2 pins s1 σ' H' D I' q
 |ret v=>exact q
 |brk=>exact q
 |cont=>exact q
theorem ai (h1:PS X st t):hU X [st] t:=by
 intro pins s σ H D I h;refine wpAny_execs_cons (aZ (h1 pins s σ H D I h) fun f s1 q=>?_)
 cases f with
 |next=>exact wpAny_execs_nil q
 |ret v=>exact q
 |brk=>exact q
 |cont=>exact q
theorem aB.quiet {pins:Cz} {σ:St} {H:Hp} {s:Shared} (I:aB X pins σ H s):interactive X.env=false:=by simp[interactive,I.ok.kind]
def vQ (te:TE):TS:=fun D σ H=>te σ H fun _ H1=>D.nx σ H1
theorem bQ (he:PE X e te) (hs:swapsWith e none pos.line X.env=pure false:=by rfl):PS X (.Expr e pos) (vQ te):=by
 intro pins s σ H D I h;exact wpAny_Expr_any (aZ (he pins s σ H _ I h) fun v s1 ⟨x,H1,I1,r1,q1⟩=>⟨σ,H1,I1,q1⟩) I.quiet hs
def xi (te:TE):TS:=fun D σ H=>te σ H D.rt
theorem aI (he:PE X e te):PS X (.Return (some e) pos) (xi te):=by
 intro pins s σ H D I h;exact wpAny_Return_some (aZ (he pins s σ H _ I h) fun v s1 ⟨x,H1,I1,r1,q1⟩=>⟨x,σ,H1,I1,r1,q1⟩)
def xj (c:TT) (t u:TS):TS:=fun D σ H=>c σ H fun b H1=>if b=true then t D σ H1 else u D σ H1
theorem bh {c:Expr} {a b:List Stmt} {tc:TT} (hc:PT X c tc) (ha:hU X a t) (hb:hU X b u):PS X (.If c a b pos) (xj tc t u):=by
 intro pins s σ H D I h;refine wpAny_If (aZ (hc pins s σ H _ I h) fun d s1 ⟨H1,I1,q1⟩=>?_)
 cases d with
 |true=>exact ha pins s1 σ H1 D I1 q1
 |false=>exact hb pins s1 σ H1 D I1 q1
def um:TS:=fun _ _ _=>False
theorem jB:PS X st um:=fun _ _ _ _ _ _ h=>h.elim
end
abbrev TG:=V->St->Hp->(St->Hp->Prop)->Prop
abbrev uo:=List V->St->Hp->(St->Hp->Prop)->Prop
def PG (X:Cx) (target:Expr) (t:TG):Prop:=
 ∀(pins:Cz) (s:Shared) (σ:St) (H:Hp) (v:V) (u:Value) (Q:St->Hp->Prop),aB X pins σ H s->RelV v u->t v σ H Q->
  wpAny (model X.prog X.w) X.A (assign target X.env u) (fun _ s'=>∃σ' H',aB X pins σ' H' s'/\Q σ' H') X.xe s
def wV (X:Cx) (ts:List Expr) (t:uo):Prop:=
 ∀(pins:Cz) (s:Shared) (σ:St) (H:Hp) (vs:List V) (us:CD) (Q:St->Hp->Prop),aB X pins σ H s->aM vs us->t vs σ H Q->
  wpAny (model X.prog X.w) X.A (assignInOrder ((assignEach ts X.env).map (·.2)) us) (fun _ s'=>∃σ' H',aB X pins σ' H' s'/\Q σ' H') X.xe s
abbrev uq:=V->V->V->Hp->(Hp->Prop)->Prop
def vR (X:Cx) (t:uq):Prop:=
 ∀(pins:Cz) (s:Shared) (σ:St) (H:Hp) (o i v:V) (ov iv u:Value) (Q:Hp->Prop),aB X pins σ H s->RelV o ov->RelV i iv->RelV v u->t o i v H Q->
  wpAny (model X.prog X.w) X.A (setItem ov iv u) (fun _ s'=>∃H',aB X pins σ H' s'/\Q H') X.xe s
section
variable {pos:Pos}
def b9 (i:Nat):TG:=fun v σ H Q=>Q (σ.set i (some v)) H
theorem c5 {i:Nat} {x:Str} (hN:X.N.Nodup) (hi:X.N[i]?=some x) (hx:Loc X.env.scope x) (hf:X.fn x=true∨X.env.scope.names.lookup x=some .local:=by first|exact .inl rfl|exact .inr rfl|assumption):PG X (.Name x pos) (b9 i):=by
 intro pins s σ H v u Q I r h;exact wpAny_assign_Name (jz I hN hi hx r (fun s' I'=>⟨_,H,I',h⟩) hf)
def xm:uo:=fun vs σ H Q=>vs= []/\Q σ H
def vS (t:TG) (u:uo):uo:=fun vs σ H Q=>∃v r,vs=v::r/\t v σ H fun σ' H'=>u r σ' H' Q
theorem c6:wV X [] xm:=by
 intro pins s σ H vs us Q I r h;obtain ⟨e,h⟩:=h;subst e;cases r;exact assignInOrder_nil ⟨σ,H,I,h⟩
theorem aX {e:Expr} {es:List Expr} {t:TG} {u:uo} (h1:PG X e t) (h2:wV X es u)
  (hs:(assignEach (e::es) X.env).map (·.2)=assign e X.env::(assignEach es X.env).map (·.2):=by rfl):wV X (e::es) (vS t u):=by
 intro pins s σ H vs us Q I r h;obtain ⟨v,vr,e1,h⟩:=h;subst e1;cases r with
 |cons r rr=>
  rw[hs];refine assignInOrder_cons (aZ (h1 pins s σ H _ _ _ I r h) fun _ s1 ⟨σ1,H1,I1,q1⟩=>?_)
  exact h2 pins s1 σ1 H1 _ _ Q I1 rr q1
def xn (K:A4) (n:Nat) (t:uo):TG:=fun v σ H Q=>∃a xs,v= .ref a/\bF K H a xs/\xs.length=n/\t xs σ H Q
theorem dO {es:List Expr} {k:Nat} {t:uo} {n:Nat} (hc:X.calm=true) (h:wV X es t)
  (hn:(assignEach es X.env).length=n:=by rfl) (hst:(assignEach es X.env).findIdx? (·.1)=none:=by rfl):PG X (.Tuple es k pos) (xn X.K n t):=by
 intro pins s σ H v u Q I r hw;obtain ⟨a,xs,e1,hq,hl,hw⟩:=hw;subst e1;cases r;obtain ⟨its,rv,ht,hz⟩:=I.tuple hq;refine assign_Tuple_tuple (I.ok.hd hc) ht (by simp[hn,<-hl,rv.length]) hst fun h' hx=>?_
 have I1:aB X pins σ H {s with heap:=h'}:=I.kept (t':=s.toks) fun b o e=>hx b o (AE (Heap.lt_size e)) e
 exact h pins _ σ H xs _ Q I1 (by simpa using rv) hw
def xp (to ti:TE) (t:uq):TG:=fun v σ H Q=>to σ H fun o H1=>ti σ H1 fun i H2=>t o i v H2 fun H3=>Q σ H3
theorem f9 {o i:Expr} {to ti:TE} {t:uq} (ho:PE X o to) (hi:PE X i ti) (hs:vR X t)
  (ha:∀v,assign (.Subscript o i pos) X.env v=(do
   let ov<-holding [v] (eval o X.env)
   let iv<-holding [v,ov] (eval i X.env)
   standAt pos
   holding [v,ov,iv] (setItem ov iv v)
   release [v,ov,iv] []):=by intro _;rfl):PG X (.Subscript o i pos) (xp to ti t):=by
 intro pins s σ H v u Q I r h;rw[ha];refine wpAny_bind (wpAny_holding (aZ (ho pins s σ H _ I h) fun ov s1 ⟨x,H1,I1,r1,q1⟩=>?_))
 refine wpAny_bind (wpAny_holding (aZ (hi pins s1 σ H1 _ I1 q1) fun iv s2 ⟨y,H2,I2,r2,q2⟩=>?_))
 refine wpAny_bind (wpAny_standAt (wpAny_bind (wpAny_holding (aZ (hs pins s2 σ H2 x y v ov iv u _ I2 r1 r2 r q2) fun _ s3 ⟨H3,I3,q3⟩=>?_))))
 exact wpAny_release ⟨σ,H3,I3,q3⟩
def k7 (te:TE) (g:TG):TS:=fun D σ H=>te σ H fun x H1=>g x σ H1 D.nx
theorem eQ {tg e:Expr} {te:TE} {g:TG} (he:PE X e te) (hg:PG X tg g) (hs:swapsWithSole [tg] e pos.line X.env=pure false:=by rfl) (hw:swappedStores [tg] e X.env=pure none:=by rfl)
  (h1:(assignEach [tg] X.env).map (·.2)= [assign tg X.env]:=by rfl):PS X (.Assign [tg] e pos) (k7 te g):=by
 intro pins s σ H D I h;refine wpAny_Assign_stores (aZ (he pins s σ H _ I h) fun v s1 ⟨x,H1,I1,r1,q1⟩=>?_) hs hw
 rw[h1];exact aZ (hg pins s1 σ H1 x v _ I1 r1 q1) fun _ s2 q=>q
theorem cQ {i:Nat} {x:Str} {e:Expr} {te:TE} {pos':Pos} (hN:X.N.Nodup) (hi:X.N[i]?=some x) (hx:Loc X.env.scope x) (he:PE X e te) (hs:swapsWith e (some (.Name x pos')) pos.line X.env=pure false:=by rfl) (hf:X.fn x=true∨X.env.scope.names.lookup x=some .local:=by first|exact .inl rfl|exact .inr rfl|assumption):
  PS X (.Assign [.Name x pos'] e pos) (k7 te (b9 i)):=by
 intro pins s σ H D I h;refine wpAny_Assign_Name (aZ (he pins s σ H _ I h) fun v s1 ⟨y,H1,I1,r1,q1⟩=>?_) hs
 exact jz I1 hN hi hx r1 (fun s2 I2=>⟨_,H1,I2,q1⟩) hf
end
section
variable {pos:Pos}
def pS (c:TT) (tb:TS):TS:=fun D σ H=>∃W:Nat->St->Hp->Prop,(∃m,W m σ H)/\∀m σ H,W m σ H->
 c σ H fun b H1=>if b=true then ∃N:St->Hp->Prop,(∀σ' H',N σ' H'->∃m',m'<m/\W m' σ' H')/\tb {D with nx:=N,ct:=N,bk:=D.nx} σ H1 else D.nx σ H1
theorem pT {c:Expr} {body:List Stmt} {tc:TT} {tb:TS} (hp:PassesOwn (model X.prog X.w) X.A X.env X.xe) (hc:PT X c tc) (hb:hU X body tb):PS X (.While c body [] pos) (pS tc tb):=by
 intro pins s σ H D I h;obtain ⟨W,⟨m0,w0⟩,turn⟩:=h;refine wpAny_While (codeAny_whileLoop (fun n s'=>∃σ' H',aB X pins σ' H' s'/\W n σ' H') ?_ m0 ⟨σ,H,I,w0⟩)
 rintro n s1 ⟨σ1,H1,I1,w1⟩;refine wpAny_passesOwn hp (aZ (hc pins s1 σ1 H1 _ I1 (turn n σ1 H1 w1)) fun b s2 ⟨H2,I2,q2⟩=>?_)
 cases b with
 |true=>
  obtain ⟨N,hN,q2⟩:=q2;rw[if_pos rfl];refine wpAny_passesOwn hp (aZ (hb pins s2 σ1 H2 _ I2 q2) fun f s3 q3=>?_)
  cases f with
  |next=>
   obtain ⟨σ3,H3,I3,n3⟩:=q3;obtain ⟨m',hm,w3⟩:=hN σ3 H3 n3;exact ⟨m',hm,σ3,H3,I3,w3⟩
  |cont=>
   obtain ⟨σ3,H3,I3,n3⟩:=q3;obtain ⟨m',hm,w3⟩:=hN σ3 H3 n3;exact ⟨m',hm,σ3,H3,I3,w3⟩
  |brk=>exact q3
  |ret v=>exact q3
 |false=>
  rw[if_neg AV];exact wpAny_execs_nil ⟨σ1,H2,I2,q2⟩
end
structure It where
 go:Nat->Hp->Prop
 yld:Nat->Hp->V->Hp->Prop
 stop:Nat->Hp->Prop
def cS (X:Cx) (pins:Cz) (H:Hp) (b:Addr):Prop:=
 H b=none/\b≠X.env.locals/\b∉X.fs/\(b∈X.ex∨X.s₀.heap.objs.size<=b)/\(∀x c,X.env.cells.lookup x=some c->c≠b)/\∀p∈X.pn++pins,p.1≠b
theorem aB.fpOk {X:Cx} {pins:Cz} {σ:St} {H H':Hp} {s:Shared} {b:Addr} (I:aB X pins σ H s) (hb:s.heap.objs.size<=b) (hn:H' b=none):cS X pins H' b:=by
 refine ⟨hn,Nat.ne_of_gt (AZ I.lt hb),I.nofs hb,.inr (B4 I.sz hb),fun x c e z=>?_,fun p hp z=>?_⟩
 ·obtain ⟨v,q⟩:=I.cell x c e;exact absurd (AZ q.lt (by rw[z];exact hb)) (Nat.lt_irrefl _)
 ·exact absurd (AZ (Heap.lt_size (I.pin p hp).1) (by rw[z];exact hb)) (Nat.lt_irrefl _)
structure Turn (P:Program) (w:World) (K:A4) (tg:Expr) (J:It) (fp:CC) (it:Addr) (tn:Nat->Heap->Prop):Prop where
 mem:it∈fp
 obj:∀i h,tn i h->∀b∈fp,∃o,h.get? b=some o/\∀v,o.data≠ .cell v
 keep:∀i h h',tn i h->(∀b∈fp,∀o,h.get? b=some o->h'.get? b=some o)->tn i h'
 item:∀(X:Cx),X.prog=P->X.w=w->X.K=K->X.calm=true->∀(i:Nat) (pins:Cz) (s:Shared) (σ:St) (H:Hp) (E:Cw),aB X pins σ H s->(∀b∈fp,cS X pins H b)->tn i s.heap->J.go i H->
  wpAny (model P w) X.A (pyNext (.ref it)) (fun r s1=>∃u,r=some u/\
   wpAny (model P w) X.A (letOwnedTupleGo tg (.ref it) u) (fun _ s2=>∃x H',aB X pins σ H' s2/\RelV x u/\J.yld i H x H'/\tn (i+1) s2.heap/\∀b∈fp,H' b=none) E s1) E s
 done:∀(X:Cx),X.prog=P->X.w=w->X.K=K->X.calm=true->∀(i:Nat) (pins:Cz) (s:Shared) (σ:St) (H:Hp) (E:Cw),aB X pins σ H s->(∀b∈fp,cS X pins H b)->tn i s.heap->J.stop i H->
  wpAny (model P w) X.A (pyNext (.ref it)) (fun r s1=>r=none/\aB X pins σ H s1) E s
 self:∀(A:Around) (i:Nat) (s:Shared) (Q:Cw) (E:Cw),tn i s.heap->Q (.ref it) s->wpAny (model P w) A (pyIter (.ref it)) Q E s
abbrev TI:=St->Hp->(It->Hp->Prop)->Prop
def yg (X:Cx) (pins:Cz) (σ:St) (tg:Expr) (R:It->Hp->Prop) (itv:Value) (s2:Shared):Prop:=
 ∃(it:Addr) (fp:CC) (tn:Nat->Heap->Prop) (J:It) (H':Hp),itv= .ref it/\aB X pins σ H' s2/\Turn X.prog X.w X.K tg J fp it tn/\tn 0 s2.heap/\(∀b∈fp,cS X pins H' b)/\R J H'
def PI (X:Cx) (tg iter:Expr) (wi:TI):Prop:=
 ∀(pins:Cz) (s:Shared) (σ:St) (H:Hp) (R:It->Hp->Prop),aB X pins σ H s->wi σ H R->
  wpAny (model X.prog X.w) X.A (eval iter X.env) (fun v s1=>wpAny (model X.prog X.w) X.A (pyIter v) (yg X pins σ tg R) X.xe s1) X.xe s
theorem pU {M:Model} {A:Around} {E:Cw} {s:Shared} {tg:Expr} {it:Addr} {u:Value} {o:Obj} {n:String} {vs:Array Value} {Q:Unit->Shared->Prop} (ho:s.heap.get? it=some o) (hc:o.cls= .type n) (hd:o.data= .fields vs)
    (hn: ["enumerate","zip","dict_itemiterator","dict_reverseitemiterator","odict_iterator","itertools.zip_longest","itertools.pairwise"].contains n=false) (hQ:Q () s):wpAny M A (letOwnedTupleGo tg (.ref it) u) Q E s:=by
  unfold letOwnedTupleGo;cases tg<;>first
    |exact wpAny_pure hQ
    | (cases u<;>first
        |exact wpAny_pure hQ
        | (refine wpAny_bind (wpAny_load ho ?_)
           rw[hc,hd];show wpAny M A (if (["enumerate","zip","dict_itemiterator","dict_reverseitemiterator","odict_iterator","itertools.zip_longest","itertools.pairwise"].contains n&&vs[0]?==some (rawInt _))=true then _ else _) Q E s
           rw[if_neg (by intro h;rw[hn,Bool.false_and] at h;cases h)]
           exact wpAny_pure hQ))
def ur (K:A4) (a:Addr):It:=
 ⟨fun i H=>∃xs x,aP K H a xs/\xs[i]?=some x,fun i H x H'=>H'=H/\∀xs,aP K H a xs->xs[i]?=some x,fun i H=>∃xs,aP K H a xs/\xs.length<=i⟩
def ut (lo:Int) (n:Nat):It:=⟨fun i _=>i<n,fun i H x H'=>H'=H/\x= .int (lo+i),fun i _=>n<=i⟩
theorem nZ {P:Program} {w:World} {K:A4} {tg:Expr} (a it:Addr):Turn P w K tg (ur K a) [it] it (fun i h=>h.IsListIter it a i) where
 mem:=by simp
 obj:=fun i h st b hb=>by
  have e:b=it:=by simpa using hb
  subst e;obtain ⟨o,e,c,d⟩:=st;exact ⟨o,e,fun v z=>by rw[d] at z;cases z⟩
 keep:=fun i h h' st k=>st.at fun o e=>k it (by simp) o e
 item:=by
  intro X hP hw hK hc i pins s σ H E I hf st hg;subst hP hw hK;obtain ⟨xs,x,hq,hx⟩:=hg;obtain ⟨its,rv,p,hz⟩:=I.list hq;obtain ⟨u,hu,ru⟩:=rv.get hx;obtain ⟨f0,f1,f2,f3,f4,f5⟩:=hf it (by simp)
  refine wpAny_pyNext_list_item st p.isList (x:=u) (by simpa using hu) fun h' st' sb=>?_
  have I1:aB X pins σ H {s with heap:=h'}:=I.turned (t':=s.toks) (fun b o hb e=>(sb.2 b hb).trans e) f0 f1 f3 f4 f5
  obtain ⟨o,e,c,d⟩:=id st';exact ⟨u,rfl,pU (s:={s with heap:=h'}) e c d (by decide) ⟨x,H,I1,ru,⟨rfl,fun ys hy=>by rw[I.list_inj hy hq];exact hx⟩,st',fun b hb=>(hf b hb).1⟩⟩
 done:=by
  intro X hP hw hK hc i pins s σ H E I hf st hg;subst hP hw hK;obtain ⟨xs,hq,hx⟩:=hg;obtain ⟨its,rv,p,hz⟩:=I.list hq;obtain ⟨f0,f1,f2,f3,f4,f5⟩:=hf it (by simp)
  have hl:=rv.length;exact wpAny_pyNext_list_end (I.ok.hd hc) st p.isList (by simp;omega) fun h' eb=>⟨rfl,I.turned (t':=s.toks) (fun b o hb e=>eb b o hb e) f0 f1 f3 f4 f5⟩
 self:=fun _ _ _ _ _ st h=>wpAny_pyIter_listiter st h
theorem k9 {P:Program} {w:World} {K:A4} {tg:Expr} (it:Addr) (lo:Int) (n:Nat):Turn P w K tg (ut lo n) [it] it (fun i h=>IsRangeIter h it (lo+(i:Nat)*1) ((n:Int)-(i:Nat)) 1) where
 mem:=by simp
 obj:=fun i h st b hb=>by
  have e:b=it:=by simpa using hb
  subst e;exact ⟨_,st,fun v z=>by
   have z':Data.fields _=Data.cell v:=z;cases z'⟩
 keep:=fun i h h' st k=>k it (by simp) _ st
 item:=by
  intro X hP hw hK hc i pins s σ H E I hf st hg;subst hP hw hK;obtain ⟨f0,f1,f2,f3,f4,f5⟩:=hf it (by simp)
  have W:=Walks.range (prog:=X.prog) (w:=X.w) (I.ok.hd hc) it lo 1 n;refine W.item i s _ _ hg st fun v h' tk hv st' kk=>?_
  obtain ⟨t,rfl⟩:=hv;have I1:aB X pins σ H {s with heap:=h',toks:=tk}:=I.turned (fun b o hb e=>kk b o (by simpa using hb) e) f0 f1 f3 f4 f5
  refine ⟨_,rfl,pU (s:={s with heap:=h',toks:=tk}) (n:= "range_iterator") st' rfl rfl (by decide) ⟨.int (lo+i),H,I1,⟨t,?_⟩,⟨rfl,rfl⟩,st',fun b hb=>(hf b hb).1⟩⟩
  rw[Int.mul_one]
 done:=by
  intro X hP hw hK hc i pins s σ H E I hf st hg;subst hP hw hK;obtain ⟨f0,f1,f2,f3,f4,f5⟩:=hf it (by simp)
  exact wpAny_pyNext_range_end (I.ok.hd hc) st (by have:n<=i:=hg;omega) fun h' eb=>⟨rfl,I.turned (t':=s.toks) (fun b o hb e=>eb b o hb e) f0 f1 f3 f4 f5⟩
 self:=fun _ _ _ _ _ st h=>wpAny_pyIter_rangeiter st h
variable {tg:Expr}
def vT (K:A4) (tl:TE):TI:=fun σ H R=>tl σ H fun x H1=>∃a,x= .ref a/\(∃xs,aP K H1 a xs)/\R (ur K a) H1
theorem bD {l:Expr} {tl:TE} (hl:PE X l tl):PI X tg l (vT X.K tl):=by
 intro pins s σ H R I h;refine aZ (hl pins s σ H _ I h) fun v s1 ⟨x,H1,I1,r1,q1⟩=>?_
 obtain ⟨a,e,⟨xs,hq⟩,q⟩:=q1;subst e;cases r1;obtain ⟨its,rv,p,hz⟩:=I1.list hq;refine wpAny_pyIter_list p.isList ?_;refine ⟨s1.heap.objs.size,[s1.heap.objs.size],_,_,H1,rfl,I1.kept (t':=s1.toks) fun b o e=>Heap.get?_push_of_some _ e,nZ a _,⟨_,Heap.get?_push_size _ rfl,rfl,rfl⟩,fun b hb=>?_,q⟩
 have e:b=s1.heap.objs.size:=by simpa using hb
 subst e;exact I1.fpOk (A7 _) (I1.hok.fresh (A7 _))
theorem pV {pins:Cz} {σ:St} {H:Hp} {s:Shared} {R:It->Hp->Prop} {E:Cw} {lo hi:Int} {t u v:Tok} {tk:Nat} (I:aB X pins σ H s) (h1: -(2^62)<=lo) (h2:lo<2^62) (h3: -(2^62)<=hi) (h4:hi<2^62)
  (q:R (ut lo (hi-lo).toNat) H):wpAny (model X.prog X.w) X.A (pyIter (.ref s.heap.objs.size)) (yg X pins σ tg R) E {s with heap:=s.heap.push {cls:= .type "range",data:= .fields #[.int lo t,.int hi u,.int 1 v]},toks:=tk}:=by
 refine wpAny_pyIter_range (IsRange.new ..) (small_one h1 h2 h3 h4) ?_;have I1:aB X pins σ H {s with heap:=s.heap.push {cls:= .type "range",data:= .fields #[.int lo t,.int hi u,.int 1 v]},toks:=tk}:=I.kept fun b o e=>Heap.get?_push_of_some _ e
 refine ⟨(s.heap.push {cls:= .type "range",data:= .fields #[.int lo t,.int hi u,.int 1 v]}).objs.size,[(s.heap.push {cls:= .type "range",data:= .fields #[.int lo t,.int hi u,.int 1 v]}).objs.size],_,_,H,rfl,
  I1.kept (t':=tk) fun b o e=>Heap.get?_push_of_some _ e,k9 _ lo (hi-lo).toNat,?_,fun b hb=>?_,q⟩
 ·have e1:lo+((0:Nat):Int)*1=lo:=by simp
  have e2:(((hi-lo).toNat:Nat):Int)-((0:Nat):Int)=Builtin.Range.rangeSize lo hi 1:=by rw[rangeSize_one];split<;>omega
  show IsRangeIter _ _ (lo+((0:Nat):Int)*1) ((((hi-lo).toNat:Nat):Int)-((0:Nat):Int)) 1;rw[e1,e2];exact Heap.get?_push_size _ rfl
 ·have e:b=(s.heap.push {cls:= .type "range",data:= .fields #[.int lo t,.int hi u,.int 1 v]}).objs.size:=by simpa using hb
  subst e;exact I1.fpOk (A7 _) (I1.hok.fresh (A7 _))
def vU (ta:TA):TI:=fun σ H R=>ta σ H fun vs H1=>∃j:Int,vs= [.int j]/\ -(2^62)<=j/\j<2^62/\R (ut 0 j.toNat) H1
theorem bz {a:Expr} {ta:TA} {p pos:Pos} (hg:Gl X "range") (hm:X.mg "range" =none) (ha:PA X [a] ta) (hs:starEach [a] X.env= [(false,eval a X.env)]:=by rfl):PI X tg (.Call (.Name "range" p) [a] [] pos) (vU ta):=by
 intro pins s σ H R I h;refine Call_ (di I hg hm boot_range (BJ (aZ (ha pos pins s σ H _ I h) fun us s1 ⟨vs,H1,I1,r1,q1⟩=>?_) hs rfl))
 obtain ⟨j,e,q1,q2,q⟩:=q1;subst e;cases r1 with
 |cons r rr=>
  cases rr;obtain ⟨t,rfl⟩:=r;exact call_range_1 (pV I1 (by omega) (by omega) q1 q2 (by simpa using q))
def rX (wi:TI) (g:TG) (tb:TS):TS:=fun D σ H=>wi σ H fun J H1=>∃W:Nat->Nat->St->Hp->Prop,(∃m,W 0 m σ H1)/\∀i m σ H,W i m σ H->
 (J.stop i H/\D.nx σ H)∨(J.go i H/\∃N:St->Hp->Prop,(∀σ' H',N σ' H'->∃m',m'<m/\W (i+1) m' σ' H')/\∀x H',J.yld i H x H'->g x σ H' fun σ2 H2=>tb {D with nx:=N,ct:=N,bk:=D.nx} σ2 H2)
def gf (fp:CC) (h:Heap):Cz:=fp.filterMap fun b=>(h.get? b).map fun o=>(b,o)
theorem bo {fp:CC} {h:Heap} {b:Addr} {o:Obj} (hb:b∈fp) (e:h.get? b=some o):(b,o)∈gf fp h:=List.mem_filterMap.mpr ⟨b,hb,by rw[e];rfl⟩
theorem n4 {fp:CC} {h:Heap} {p:Addr×Obj} (hp:p∈gf fp h):p.1∈fp/\h.get? p.1=some p.2:=by
 obtain ⟨b,hb,e⟩:=List.mem_filterMap.mp hp;cases q:h.get? b with
 |none=>rw[q] at e;cases e
 |some o=>
  rw[q] at e;have e':(b,o)=p:=Av e;subst e';exact ⟨hb,q⟩
theorem aB.pinned {pins:Cz} {σ:St} {H:Hp} {s:Shared} {fp:CC} (I:aB X pins σ H s) (hf:∀b∈fp,cS X pins H b) (ho:∀b∈fp,∃o,s.heap.get? b=some o/\∀v,o.data≠ .cell v):aB X (pins++gf fp s.heap) σ H s:=
 I.pins_of fun p hp=>(AI.mp hp).elim (fun z=>I.pin p (AD _ z)) fun z=>by
  obtain ⟨hb,e⟩:=n4 z;obtain ⟨f0,f1,f2,_⟩:=hf p.1 hb;obtain ⟨o,e',d⟩:=ho p.1 hb;rw[e] at e';cases e';exact ⟨e,f0,f1,f2,d⟩
theorem aB.unpinned {pins pl:Cz} {σ:St} {H:Hp} {s:Shared} (I:aB X (pins++pl) σ H s):aB X pins σ H s:=I.pins_of fun p hp=>I.pin p (AD _ (BZ _ hp))
theorem bG {iter:Expr} {body:List Stmt} {wi:TI} {g:TG} {tb:TS} {pos:Pos} (hp:PassesOwn (model X.prog X.w) X.A X.env X.xe) (hc:X.calm=true) (hi:PI X tg iter wi) (hg:PG X tg g) (hb:hU X body tb)
  (hs:∀x,foldedSetIterable iter X.env x=pure x:=by intro _;rfl):PS X (.For tg iter body [] pos) (rX wi g tb):=by
 intro pins s σ H D I h;refine wpAny_For (aZ (hi pins s σ H _ I h) fun v s1 h1=>aZ h1 fun itv s2 h2=>?_) hs
 obtain ⟨it,fp,tn,J,H2,e,I2,T,st2,f2,W,⟨m0,w0⟩,turn⟩:=h2;subst e;have stat:∀{H':Hp},(∀b∈fp,H' b=none)->∀b∈fp,cS X pins H' b:=fun hn b hb=>⟨hn b hb,(f2 b hb).2⟩
 refine codeAny_forLoop_any (fun n s'=>∃i σ' H',aB X pins σ' H' s'/\tn i s'.heap/\(∀b∈fp,H' b=none)/\W i n σ' H') ?_ m0 ⟨0,σ,H2,I2,st2,fun b hb=>(f2 b hb).1,w0⟩
 rintro n s3 ⟨i,σ3,H3,I3,st3,fr3,w3⟩;rcases turn i n σ3 H3 w3 with ⟨stop,qn⟩|⟨go,N,hN,step⟩
 ·refine wpAny_passesOwn hp (aZ (T.done X rfl rfl rfl hc i pins s3 σ3 H3 X.xe I3 (stat fr3) st3 stop) fun r s4 ⟨hr,I4⟩=>?_)
  subst hr;exact wpAny_execs_nil ⟨σ3,H3,I4,qn⟩
 ·refine wpAny_passesOwn hp (aZ (T.item X rfl rfl rfl hc i pins s3 σ3 H3 X.xe I3 (stat fr3) st3 go) fun r s4 ⟨u,hr,h4⟩=>?_)
  subst hr;refine wpAny_passesOwn hp (aZ h4 fun _ s5 ⟨x,H5,I5,r5,y5,st5,fr5⟩=>?_)
  have I5':=I5.pinned (stat fr5) (T.obj _ _ st5);refine wpAny_passesOwn hp (aZ (hg _ s5 σ3 H5 x u _ I5' r5 (step x H5 y5)) fun _ s6 ⟨σ6,H6,I6,q6⟩=>?_)
  refine wpAny_passesOwn hp (aZ (hb _ s6 σ6 H6 _ I6 q6) fun f s7 q7=>?_)
  have again:∀{σ7:St} {H7:Hp},aB X (pins++gf fp s5.heap) σ7 H7 s7->N σ7 H7->∃m,m<n/\∃i σ' H',aB X pins σ' H' s7/\tn i s7.heap/\(∀b∈fp,H' b=none)/\W i m σ' H':=fun {σ7 H7} I7 n7=>by
   obtain ⟨m',hm,w7⟩:=hN σ7 H7 n7;refine ⟨m',hm,i+1,σ7,H7,I7.unpinned,T.keep _ _ _ st5 fun b hb o e=>(I7.pin (b,o) (AD _ (AD _ (bo hb e)))).1,fun b hb=>?_,w7⟩
   obtain ⟨o,e,d⟩:=T.obj _ _ st5 b hb;exact (I7.pin (b,o) (AD _ (AD _ (bo hb e)))).2.1
  cases f with
  |next=>obtain ⟨σ7,H7,I7,n7⟩:=q7;exact again I7 n7
  |cont=>obtain ⟨σ7,H7,I7,n7⟩:=q7;exact again I7 n7
  |brk=>obtain ⟨σ7,H7,I7,q7⟩:=q7;exact ⟨σ7,H7,I7.unpinned,q7⟩
  |ret v=>obtain ⟨x7,σ7,H7,I7,r7,q7⟩:=q7;exact ⟨x7,σ7,H7,I7.unpinned,r7,q7⟩
theorem bH {K:A4} {a:Addr} {xs:List V} {g:TG} {tb:TS} {D:Ends} {σ:St} {H:Hp} (Pv:Nat->St->Hp->Prop) (h0:Pv 0 σ H) (hl:∀i σ H,i<=xs.length->Pv i σ H->aP K H a xs)
  (hs:∀i x σ H,xs[i]?=some x->Pv i σ H->g x σ H fun σ2 H2=>tb {D with nx:=Pv (i+1),ct:=Pv (i+1),bk:=D.nx} σ2 H2) (hd:∀σ H,Pv xs.length σ H->D.nx σ H):
  ∃W:Nat->Nat->St->Hp->Prop,(∃m,W 0 m σ H)/\∀i m σ H,W i m σ H->
   ((ur K a).stop i H/\D.nx σ H)∨((ur K a).go i H/\∃N:St->Hp->Prop,(∀σ' H',N σ' H'->∃m',m'<m/\W (i+1) m' σ' H')/\∀x H',(ur K a).yld i H x H'->g x σ H' fun σ2 H2=>tb {D with nx:=N,ct:=N,bk:=D.nx} σ2 H2):=by
 refine ⟨fun i m σ H=>m=xs.length-i/\i<=xs.length/\Pv i σ H,⟨xs.length,by simp,Ar _,h0⟩,?_⟩
 rintro i m σ H ⟨rfl,hi,p⟩;have q:=hl i σ H hi p
 by_cases hlt:i<xs.length
 ·refine .inr ⟨⟨xs,xs[i],q,by simp[hlt]⟩,Pv (i+1),fun σ' H' p'=>⟨xs.length-(i+1),by omega,rfl,hlt,p'⟩,fun x H' y=>?_⟩
  obtain ⟨e,y⟩:=y;subst e;exact hs i x σ _ (y xs q) p
 ·have e:i=xs.length:=by omega
  subst e;exact .inl ⟨⟨xs,q,A7 _⟩,hd σ H p⟩
theorem cT {lo:Int} {n:Nat} {g:TG} {tb:TS} {D:Ends} {σ:St} {H:Hp} (Pv:Nat->St->Hp->Prop) (h0:Pv 0 σ H)
  (hs:∀i σ H,i<n->Pv i σ H->g (.int (lo+i)) σ H fun σ2 H2=>tb {D with nx:=Pv (i+1),ct:=Pv (i+1),bk:=D.nx} σ2 H2) (hd:∀σ H,Pv n σ H->D.nx σ H):
  ∃W:Nat->Nat->St->Hp->Prop,(∃m,W 0 m σ H)/\∀i m σ H,W i m σ H->
   ((ut lo n).stop i H/\D.nx σ H)∨((ut lo n).go i H/\∃N:St->Hp->Prop,(∀σ' H',N σ' H'->∃m',m'<m/\W (i+1) m' σ' H')/\∀x H',(ut lo n).yld i H x H'->g x σ H' fun σ2 H2=>tb {D with nx:=N,ct:=N,bk:=D.nx} σ2 H2):=by
 refine ⟨fun i m σ H=>m=n-i/\i<=n/\Pv i σ H,⟨n,by simp,Ar _,h0⟩,?_⟩
 rintro i m σ H ⟨rfl,hi,p⟩
 by_cases hlt:i<n
 ·refine .inr ⟨hlt,Pv (i+1),fun σ' H' p'=>⟨n-(i+1),by omega,rfl,hlt,p'⟩,fun x H' y=>?_⟩
  obtain ⟨e,y⟩:=y;subst e y;exact hs i σ _ hlt p
 ·have e:i=n:=by omega
  subst e;exact .inl ⟨A7 _,hd σ H p⟩
theorem pW {c:TT} {tb:TS} {D:Ends} {σ:St} {H:Hp} (Pv:St->Hp->Prop) (μ:St->Hp->Nat) (h0:Pv σ H)
  (hs:∀σ H,Pv σ H->c σ H fun b H1=>if b=true then tb {D with nx:=fun σ' H'=>Pv σ' H'/\μ σ' H'<μ σ H,ct:=fun σ' H'=>Pv σ' H'/\μ σ' H'<μ σ H,bk:=D.nx} σ H1 else D.nx σ H1)
  (mono:∀σ H Q Q',(∀b H1,Q b H1->Q' b H1)->c σ H Q->c σ H Q'):pS c tb D σ H:=by
 refine ⟨fun m σ H=>m=μ σ H/\Pv σ H,⟨_,rfl,h0⟩,?_⟩
 rintro m σ H ⟨rfl,p⟩;refine mono σ H _ _ (fun b H1 q=>?_) (hs σ H p)
 cases b with
 |true=>exact ⟨_,fun σ' H' ⟨p',l⟩=>⟨_,l,rfl,p'⟩,q⟩
 |false=>exact q
abbrev R2:=V->V->Hp->VK->Prop
def dX (X:Cx) (f:Value->Value->Sem Value) (r:R2):Prop:=
 ∀(pins:Cz) (s:Shared) (σ:St) (H:Hp) (x y:V) (v u:Value) (Q:VK),aB X pins σ H s->RelV x v->RelV y u->r x y H Q->
  wpAny (model X.prog X.w) X.A (f v u) (EP X pins σ Q) X.xe s
def xq (X:Cx) (f:Value->Sem Value) (r:V->Hp->VK->Prop):Prop:=
 ∀(pins:Cz) (s:Shared) (σ:St) (H:Hp) (x:V) (v:Value) (Q:VK),aB X pins σ H s->RelV x v->r x H Q->
  wpAny (model X.prog X.w) X.A (f v) (EP X pins σ Q) X.xe s
def cK (X:Cx) (f:Value) (r:List V->Hp->VK->Prop):Prop:=
 ∀(pins:Cz) (s:Shared) (σ:St) (H:Hp) (xs:List V) (us:CD) (Q:VK),aB X pins σ H s->aM xs us->r xs H Q->
  wpAny (model X.prog X.w) X.A (call f us) (EP X pins σ Q) X.xe s
def wW (r:R2) (ta tb:TE):TE:=fun σ H Q=>ta σ H fun x H1=>tb σ H1 fun y H2=>r x y H2 Q
def yu (r:V->Hp->VK->Prop) (ta:TE):TE:=fun σ H Q=>ta σ H fun x H1=>r x H1 Q
def rI (C:Int->Int->Prop) (g:Int->Int->V):R2:=fun x y H Q=>∃i j,x= .int i/\y= .int j/\C i j/\Q (g i j) H
def uu (g:Int->Int->V):R2:=fun x y H Q=>∃i j,x= .int i/\y= .int j/\Q (g i j) H
def rU (g:Int->V):V->Hp->VK->Prop:=fun x H Q=>∃i,x= .int i/\Q (g i) H
section
variable {a b c:Expr} {ta tb tc:TE} {pos:Pos}
theorem uw (ha:PE X a ta) (hb:PE X b tb) {pins:Cz} {s:Shared} {σ:St} {H:Hp} {R:V->V->Hp->Prop} (I:aB X pins σ H s)
  (h:ta σ H fun x H1=>tb σ H1 fun y H2=>R x y H2) {Q:Cw} {f:Value->Value->Sem Value}
  (hf:∀v u s2 x y H2,aB X pins σ H2 s2->RelV x v->RelV y u->R x y H2->wpAny (model X.prog X.w) X.A (f v u) Q X.xe s2):
  wpAny (model X.prog X.w) X.A (eval a X.env) (fun v s₁=>wpAny (model X.prog X.w) X.A (eval b X.env) (fun u s₂=>wpAny (model X.prog X.w) X.A (f v u) Q X.xe s₂) X.xe s₁) X.xe s:=by
 refine aZ (ha pins s σ H _ I h) fun v s1 ⟨x,H1,I1,r1,q1⟩=>?_
 refine aZ (hb pins s1 σ H1 _ I1 q1) fun u s2 ⟨y,H2,I2,r2,q2⟩=>?_
 exact hf v u s2 x y H2 I2 r1 r2 q2
theorem ak {op:Operator} {r:R2} (ho:dX X (binaryOp op) r) (ha:PE X a ta) (hb:PE X b tb):PE X (.BinOp a op b pos) (wW r ta tb):=by
 intro pins s σ H Q I h;exact wpAny_BinOp (uw ha hb I h fun v u s2 x y H2 I2 rx ry q=>ho pins s2 σ H2 x y v u Q I2 rx ry q)
theorem hV {op:UnaryOp} {r:V->Hp->VK->Prop} (ho:xq X (unaryOp op) r) (ha:PE X a ta):PE X (.UnaryOp op a pos) (yu r ta):=by
 intro pins s σ H Q I h;exact UnaryOp_ (aZ (ha pins s σ H _ I h) fun v s1 ⟨x,H1,I1,r1,q1⟩=>ho pins s1 σ H1 x v Q I1 r1 q1)
theorem wX {f:Value->Value->Sem Value} {C:Int->Int->Prop} {g:Int->Int->Int}
  (rule:∀(i j:Int) (t u:Tok) (s:Shared) (Q:Cw) (E:Cw),C i j->Q (.int (g i j) s.toks) {s with toks:=s.toks+1}->wpAny (model X.prog X.w) X.A (f (.int i t) (.int j u)) Q E s):
  dX X f (rI C fun i j=> .int (g i j)):=by
 intro pins s σ H x y v u Q I rx ry h;obtain ⟨i,j,rfl,rfl,hc,q⟩:=h;obtain ⟨t,rfl⟩:=rx;obtain ⟨t',rfl⟩:=ry;exact rule i j t t' s _ _ hc ⟨.int (g i j),H,I.tok _,⟨_,rfl⟩,q⟩
theorem vV {f:Value->Value->Sem Value} {g:Int->Int->Int}
  (rule:∀(i j:Int) (t u:Tok) (s:Shared) (Q:Cw) (E:Cw),Q (.int (g i j) s.toks) {s with toks:=s.toks+1}->wpAny (model X.prog X.w) X.A (f (.int i t) (.int j u)) Q E s):
  dX X f (uu fun i j=> .int (g i j)):=by
 intro pins s σ H x y v u Q I rx ry h;obtain ⟨i,j,rfl,rfl,q⟩:=h;obtain ⟨t,rfl⟩:=rx;obtain ⟨t',rfl⟩:=ry;exact rule i j t t' s _ _ ⟨.int (g i j),H,I.tok _,⟨_,rfl⟩,q⟩
theorem uy {f:Value->Value->Sem Value} {g:Int->Int->Bool}
  (rule:∀(i j:Int) (t u:Tok) (s:Shared) (Q:Cw) (E:Cw),Q (.bool (g i j)) s->wpAny (model X.prog X.w) X.A (f (.int i t) (.int j u)) Q E s):
  dX X f (uu fun i j=> .bl (g i j)):=by
 intro pins s σ H x y v u Q I rx ry h;obtain ⟨i,j,rfl,rfl,q⟩:=h;obtain ⟨t,rfl⟩:=rx;obtain ⟨t',rfl⟩:=ry;exact rule i j t t' s _ _ ⟨.bl (g i j),H,I,rfl,q⟩
theorem aT:dX X (binaryOp .Add) (uu fun i j=> .int (i+j)):=vV fun _ _ _ _ _ _ _ q=>add_int q
theorem dj:dX X (binaryOp .Sub) (uu fun i j=> .int (i-j)):=vV fun _ _ _ _ _ _ _ q=>sub_int q
theorem aw:dX X (binaryOp .Mod) (rI (fun _ j=>j≠0) fun i j=> .int (i.fmod j)):=wX fun _ _ _ _ _ _ _ hc q=>mod_int' hc q
theorem yw {f:Value->Sem Value} {g:Int->Int}
  (rule:∀(i:Int) (t:Tok) (s:Shared) (Q:Cw) (E:Cw),Q (.int (g i) s.toks) {s with toks:=s.toks+1}->wpAny (model X.prog X.w) X.A (f (.int i t)) Q E s):
  xq X f (rU fun i=> .int (g i)):=by
 intro pins s σ H x v Q I rx h;obtain ⟨i,rfl,q⟩:=h;obtain ⟨t,rfl⟩:=rx;exact rule i t s _ _ ⟨.int (g i),H,I.tok _,⟨_,rfl⟩,q⟩
theorem eR:xq X (unaryOp .USub) (rU fun i=> .int (-i)):=yw fun _ _ _ _ _ q=>neg_int q
end
def vW:V->V->Bool
 | .non,.non=>true| .non,.int _=>true| .int _,.non=>true| .non,.bl _=>true| .bl _,.non=>true| .non,.str _=>true| .str _,.non=>true
 | .int _,.int _=>true| .bl _,.bl _=>true| .str _,.str _=>true| .byt _,.byt _=>true
 | .int _,.str _=>true| .str _,.int _=>true| .bl _,.str _=>true| .str _,.bl _=>true
 |_,_=>false
def yx:R2:=fun x y H Q=>vW x y=true/\Q (.bl (decide (x=y))) H
def yz:R2:=fun x y H Q=>vW x y=true/\Q (.bl (!decide (x=y))) H
theorem mO {i j:Int}:decide (V.int i=V.int j)=(i==j):=by
 rw[Bool.eq_iff_iff];simp
theorem pY {i j:Bool}:decide (V.bl i=V.bl j)=(i==j):=by
 rw[Bool.eq_iff_iff];simp
theorem mP {i j:Str}:decide (V.str i=V.str j)=(i==j):=by
 rw[Bool.eq_iff_iff];simp
theorem mQ {i j:Array UInt8}:decide (V.byt i=V.byt j)=(i.toList==j.toList):=by
 rw[Bool.eq_iff_iff];cases i;cases j;simp
section
variable {a b c:Expr} {ta tb tc:TE} {pos:Pos}
theorem aQ {pins:Cz} {σ:St} {H:Hp} {s:Shared} {Q:VK} {k k':Bool} (I:aB X pins σ H s) (q:Q (.bl k) H) (e:k=k'):EP X pins σ Q (.bool k') s:=by
 subst e;exact ⟨.bl k,H,I,rfl,q⟩
theorem ce:dX X (compareOp .Eq) yx:=by
 intro pins s σ H x y v u Q I rx ry h;obtain ⟨hs,q⟩:=h;cases x with
 |non=>
  cases rx;cases y with
  |non=>cases ry;exact PySem.EqNone.eq_none_none (aQ I q (by simp))
  |bl j=>cases ry;exact PySem.EqNone.eq_none_bool (aQ I q (by simp))
  |int j=>obtain ⟨t',rfl⟩:=ry;exact PySem.EqNone.eq_none_int (aQ I q (by simp))
  |str j=>obtain ⟨t',rfl⟩:=ry;exact PySem.EqNone.eq_none_str (aQ I q (by simp))
  |_=>exact absurd (show false=true from hs) AV
 |bl i=>
  cases rx;cases y with
  |non=>cases ry;exact PySem.EqNone.eq_bool_none (aQ I q (by simp))
  |bl j=>cases ry;exact eq_bool (aQ I q pY)
  |str j=>obtain ⟨t',rfl⟩:=ry;exact PySem.EqMixed.eq_bool_str (aQ I q (by simp))
  |_=>exact absurd (show false=true from hs) AV
 |int i=>
  obtain ⟨t,rfl⟩:=rx;cases y with
  |non=>cases ry;exact PySem.EqNone.eq_int_none (aQ I q (by simp))
  |int j=>obtain ⟨t',rfl⟩:=ry;exact eq_int (aQ I q mO)
  |str j=>obtain ⟨t',rfl⟩:=ry;exact PySem.EqMixed.eq_int_str (aQ I q (by simp))
  |_=>exact absurd (show false=true from hs) AV
 |str i=>
  obtain ⟨t,rfl⟩:=rx;cases y with
  |non=>cases ry;exact PySem.EqNone.eq_str_none (aQ I q (by simp))
  |bl j=>cases ry;exact PySem.EqMixed.eq_str_bool (aQ I q (by simp))
  |int j=>obtain ⟨t',rfl⟩:=ry;exact PySem.EqMixed.eq_str_int (aQ I q (by simp))
  |str j=>obtain ⟨t',rfl⟩:=ry;exact eq_str (aQ I q mP)
  |_=>exact absurd (show false=true from hs) AV
 |byt i=>
  obtain ⟨t,rfl⟩:=rx;cases y with
  |byt j=>obtain ⟨t',rfl⟩:=ry;exact PySem.W.eq_bytes (aQ I q mQ)
  |_=>exact absurd (show false=true from hs) AV
 |_=>cases y<;>exact absurd (show false=true from hs) AV
theorem hW:dX X (compareOp .NotEq) yz:=by
 intro pins s σ H x y v u Q I rx ry h;obtain ⟨hs,q⟩:=h;cases x with
 |non=>
  cases rx;cases y with
  |non=>cases ry;exact PySem.EqNone.ne_none_none (aQ I q (by simp))
  |bl j=>cases ry;exact PySem.EqNone.ne_none_bool (aQ I q (by simp))
  |int j=>obtain ⟨t',rfl⟩:=ry;exact PySem.EqNone.ne_none_int (aQ I q (by simp))
  |str j=>obtain ⟨t',rfl⟩:=ry;exact PySem.EqNone.ne_none_str (aQ I q (by simp))
  |_=>exact absurd (show false=true from hs) AV
 |bl i=>
  cases rx;cases y with
  |non=>cases ry;exact PySem.EqNone.ne_bool_none (aQ I q (by simp))
  |bl j=>cases ry;exact ne_bool (aQ I q (congrArg not pY))
  |str j=>obtain ⟨t',rfl⟩:=ry;exact PySem.EqMixed.ne_bool_str (aQ I q (by simp))
  |_=>exact absurd (show false=true from hs) AV
 |int i=>
  obtain ⟨t,rfl⟩:=rx;cases y with
  |non=>cases ry;exact PySem.EqNone.ne_int_none (aQ I q (by simp))
  |int j=>obtain ⟨t',rfl⟩:=ry;exact ne_int (aQ I q (congrArg not mO))
  |str j=>obtain ⟨t',rfl⟩:=ry;exact PySem.EqMixed.ne_int_str (aQ I q (by simp))
  |_=>exact absurd (show false=true from hs) AV
 |str i=>
  obtain ⟨t,rfl⟩:=rx;cases y with
  |non=>cases ry;exact PySem.EqNone.ne_str_none (aQ I q (by simp))
  |bl j=>cases ry;exact PySem.EqMixed.ne_str_bool (aQ I q (by simp))
  |int j=>obtain ⟨t',rfl⟩:=ry;exact PySem.EqMixed.ne_str_int (aQ I q (by simp))
  |str j=>obtain ⟨t',rfl⟩:=ry;exact ne_str (aQ I q (congrArg not mP))
  |_=>exact absurd (show false=true from hs) AV
 |byt i=>
  obtain ⟨t,rfl⟩:=rx;cases y with
  |byt j=>obtain ⟨t',rfl⟩:=ry;exact PySem.W.ne_bytes (aQ I q (congrArg not mQ))
  |_=>exact absurd (show false=true from hs) AV
 |_=>cases y<;>exact absurd (show false=true from hs) AV
theorem dJ:dX X (compareOp .Lt) (uu fun i j=> .bl (decide (i<j))):=uy fun _ _ _ _ _ _ _ q=>lt_int q
theorem jC:dX X (compareOp .LtE) (uu fun i j=> .bl (decide (i<=j))):=uy fun _ _ _ _ _ _ _ q=>le_int q
theorem jD:dX X (compareOp .Gt) (uu fun i j=> .bl (decide (j<i))):=uy fun _ _ _ _ _ _ _ q=>gt_int q
theorem lg:dX X (compareOp .Is) (fun x y H Q=>y= .non/\Q (.bl (decide (x= .non))) H):=by
 intro pins s σ H x y v u Q I rx ry h;obtain ⟨rfl,q⟩:=h;cases ry;refine is_none_gen (aQ I q ?_);cases x<;>first
  |(cases rx;rfl)
  |(obtain ⟨t,rfl⟩:=rx;rfl)
theorem rY:dX X (compareOp .IsNot) (fun x y H Q=>y= .non/\Q (.bl (!decide (x= .non))) H):=by
 intro pins s σ H x y v u Q I rx ry h;obtain ⟨rfl,q⟩:=h;cases ry;refine isnot_none_gen (aQ I q ?_);cases x<;>first
  |(cases rx;rfl)
  |(obtain ⟨t,rfl⟩:=rx;rfl)
theorem aJ (b:Expr) {op:CmpOp} (h:op≠ .In:=by decide) (h2:op≠ .NotIn:=by decide):behindInMarks op b=false:=by
 have e1:(op==CmpOp.In)=false:=by cases op<;>first|rfl|exact absurd rfl h
 have e2:(op==CmpOp.NotIn)=false:=by cases op<;>first|rfl|exact absurd rfl h2
 cases b<;>simp[behindInMarks,e1,e2]
theorem fW {op:CmpOp} {r:R2} (ho:dX X (compareOp op) r) (ha:PE X a ta) (hb:PE X b tb) (hm:behindInMarks op b=false):PE X (.Compare a [op] [b] pos) (wW r ta tb):=by
 intro pins s σ H Q I h;exact wpAny_Compare1 (uw ha hb I h fun v u s2 x y H2 I2 rx ry q=>ho pins s2 σ H2 x y v u Q I2 rx ry q) hm
def pZ (t:TE):TT:=fun σ H Q=>t σ H fun x H'=>∃k,x= .bl k/\Q k H'
theorem aC {op:CmpOp} {r:R2} (ho:dX X (compareOp op) r) (ha:PE X a ta) (hb:PE X b tb) (hm:behindInMarks op b=false):PT X (.Compare a [op] [b] pos) (pZ (wW r ta tb)):=by
 intro pins s σ H Q I h;refine wpAny_isTrue_Compare1 (aZ (ha pins s σ H _ I h) fun v s1 ⟨x,H1,I1,r1,q1⟩=>aZ (hb pins s1 σ H1 _ I1 q1) fun u s2 ⟨y,H2,I2,r2,q2⟩=>
  aZ (ho pins s2 σ H2 x y v u _ I2 r1 r2 q2) fun c s3 ⟨z,H3,I3,r3,k,e,q3⟩=>?_) hm
 subst e;cases r3;exact wpAny_truthy_bool ⟨H3,I3,q3⟩
def uz (r r':R2) (ta tb tc:TE):TE:=fun σ H Q=>ta σ H fun x H1=>tb σ H1 fun y H2=>r x y H2 fun z H3=>∃k,z= .bl k/\
 (if k=true then tc σ H3 fun w' H4=>r' y w' H4 Q else Q (.bl false) H3)
theorem jE {op op':CmpOp} {r r':R2} (ho:dX X (compareOp op) r) (ho':dX X (compareOp op') r') (ha:PE X a ta) (hb:PE X b tb) (hc:PE X c tc)
  (hm:lastMarks [op,op'] [b,c]=false:=by with_unfolding_all rfl):PT X (.Compare a [op,op'] [b,c] pos) (pZ (uz r r' ta tb tc)):=by
 intro pins s σ H Q I h;refine isTrue_chain (aZ (ha pins s σ H _ I h) fun v s1 ⟨x,H1,I1,r1,q1⟩=>test_link (aZ (hb pins s1 σ H1 _ I1 q1) fun u s2 ⟨y,H2,I2,r2,q2⟩=>
  aZ (ho pins s2 σ H2 x y v u _ I2 r1 r2 q2) fun d s3 ⟨z,H3,I3,r3,k,e,q3⟩=>?_)) hm
 subst e;cases r3;refine wpAny_truthy_bool ?_;cases k with
 |false=>
  obtain ⟨k',e',q'⟩:=q3;cases e';exact ite_ff ⟨H3,I3,q'⟩
 |true=>
  refine ite_tt (test_last (aZ (hc pins s3 σ H3 _ I3 q3) fun w' s4 ⟨z',H4,I4,r4,q4⟩=>aZ (ho' pins s4 σ H4 y z' u w' _ I4 r2 r4 q4) fun d' s5 ⟨z2,H5,I5,r5,k2,e2,q5⟩=>?_))
  subst e2;cases r5;exact wpAny_truthy_bool ⟨H5,I5,q5⟩
theorem gh:(sizeLine:Nat)<2^63:=by rw[sizeLine_eq];decide
theorem bM:dX X (binaryOp .Add) (fun x y H Q=>∃i j,x= .str i/\y= .str j/\i.length+j.length<=sizeLine/\Q (.str (i++j)) H):=by
 intro pins s σ H x y v u Q I rx ry h;obtain ⟨i,j,rfl,rfl,hz,q⟩:=h;obtain ⟨t,rfl⟩:=rx;obtain ⟨t',rfl⟩:=ry;exact add_str (fun t' tk=>⟨.str (i++j),H,I.tok _,⟨_,rfl⟩,q⟩) hz
theorem vals1 {x:V} {us:CD} (r:aM [x] us):∃u,us= [u]/\RelV x u:=by
 cases r with
 |cons r1 r2=>cases r2;exact ⟨_,rfl,r1⟩
theorem vals2 {x y:V} {us:CD} (r:aM [x,y] us):∃u w',us= [u,w']/\RelV x u/\RelV y w':=by
 cases r with
 |cons r1 r2=>
  cases r2 with
  |cons r3 r4=>cases r4;exact ⟨_,_,rfl,r1,r3⟩
theorem jF:cK X (.builtin "abs") (fun xs H Q=>∃i,xs= [.int i]/\Q (.int (if i<0 then-i else i)) H):=by
 intro pins s σ H xs us Q I r h;obtain ⟨i,rfl,q⟩:=h;obtain ⟨u,rfl,t,rfl⟩:=vals1 r;exact call_abs_int fun u tk=>⟨.int (if i<0 then-i else i),H,I.tok _,⟨_,rfl⟩,q⟩
theorem n6 (hc:X.calm=true):cK X (.builtin "max") (fun xs H Q=>∃i j,xs= [.int i,.int j]/\Q (.int (if j>i then j else i)) H):=by
 intro pins s σ H xs us Q I r h;obtain ⟨i,j,rfl,q⟩:=h;obtain ⟨u,w',rfl,⟨t,rfl⟩,⟨t',rfl⟩⟩:=vals2 r;refine max_two_ints (I.ok.hd hc) fun h' tk k=>⟨_,H,I.kept k,?_,q⟩
 by_cases hj:j>i
 ·rw[if_pos hj,if_pos hj];exact ⟨_,rfl⟩
 ·rw[if_neg hj,if_neg hj];exact ⟨_,rfl⟩
theorem ic (hc:X.calm=true):cK X (.builtin "min") (fun xs H Q=>∃i j,xs= [.int i,.int j]/\Q (.int (if j<i then j else i)) H):=by
 intro pins s σ H xs us Q I r h;obtain ⟨i,j,rfl,q⟩:=h;obtain ⟨u,w',rfl,⟨t,rfl⟩,⟨t',rfl⟩⟩:=vals2 r;refine min_two_ints (I.ok.hd hc) fun h' tk k=>⟨_,H,I.kept k,?_,q⟩
 by_cases hj:j<i
 ·rw[if_pos hj,if_pos hj];exact ⟨_,rfl⟩
 ·rw[if_neg hj,if_neg hj];exact ⟨_,rfl⟩
end
structure li (h:Heap) (x dx C:Addr) (mA:Cy):Prop where
 obj:h.get? x=some (BV C dx)
 ns:h.Ns1 dx mA
 ne:dx≠x
theorem oa {h:Heap} {dx:Addr} {mA:Cy} (n:h.Ns1 dx mA):∃od,h.get? dx=some od/\∀name,PySem.W.lookIn name od=some (mA name):=by
 obtain ⟨o,es,ep,ho,hd,hk,_,hm⟩:=n;refine ⟨o,ho,fun name=>?_⟩
 have e:=hm name;unfold nsFind findBy at e;rw[<-Array.find?_toList] at e;unfold PySem.W.lookIn;rw[hd];dsimp only
 split
 ·rename_i y q;rw[q] at e;exact congrArg some e
 ·rename_i q;rw[q] at e;have a:es.toList.any (·.refKey)=false:=by
   rw[List.any_eq_false];intro y hy;obtain ⟨z,t,hkey⟩:=hk y (BY.mp hy);simp[DictEntry.refKey,hkey]
  have a':¬es.toList.any (·.refKey)=true:=by rw[a];exact AV
  rw[if_neg a'];exact congrArg some e
theorem li.look {h:Heap} {x dx C:Addr} {mA:Cy} (I:li h x dx C mA):∃od,PySem.W.InstAt h x (BV C dx) C (some od)/\∀name,PySem.W.lookIn name od=some (mA name):=
 let ⟨od,ho,hl⟩:=oa I.ns
 ⟨od,⟨I.obj,rfl,rfl,ho⟩,hl⟩
section
variable {prog:Program} {w:World} {A:Around} {K:A4} {x dx C f:Addr} {mA:Cy} {name:Str} {v:Value}
theorem rZ {expr:Bool} {Q:Cw} (X:K.In s.heap) (I:li s.heap x dx C mA) (hg:PySem.W.plainGet K C name=true) (hh:PySem.W.hasDictIn K C=true)
  (ha:Aw K (.ref C) name=some none) (hv:mA name=some v) (hv':PySem.W.handedIn v=true) (h:Q v {s with toks:=s.toks+1}):
  wpAny (model prog w) A (getAttr (.ref x) name expr) Q E s:=by
 obtain ⟨od,J,hl⟩:=I.look;exact PySem.W.get_value X J (PySem.W.plainGet_of hg).1 (PySem.W.findObj_own hh ha rfl (by rw[hl,hv])) hv' h
theorem p5 {pl:Sem Bool} {Q:Value×CD->Shared->Prop} (X:K.In s.heap) (I:li s.heap x dx C mA) (hg:PySem.W.plainGet K C name=true)
  (hf:Aw K (.ref C) name=some (some (.ref f))) (ht:PySem.W.isFn K (.ref f)=true) (hv:mA name=none) (h:Q (.ref f,[.ref x]) s):
  wpAny (model prog w) A (getMethod (.ref x) name pl) Q E s:=by
 obtain ⟨od,J,hl⟩:=I.look;exact PySem.W.method_fn X J (PySem.W.plainGet_of hg).1 (PySem.W.plainGet_of hg).2 hf (beq_iff_eq.mp ht) (by show (PySem.W.lookIn name od).map (·.isSome)=some false;rw[hl,hv];rfl) h
theorem r8 {ns:CB} {Q:Unit->Shared->Prop} (X:K.In s.heap) (I:li s.heap x dx C mA)
  (hs:Aw K (.ref C) "__setattr__" =some (some (.builtin "object.__setattr__"))) (hp:PySem.W.plainOver K C=true) (ht:PySem.W.takerIn K C name=some none) (hh:PySem.W.hasDictIn K C=true)
  (hw:PySem.Within mA ns) (hsz:ns.length<=sizeLine)
  (h:∀h',li h' x dx C (fun y=>if y=name then some v else mA y)->Heap.SameBut dx s.heap h'->Q () {s with heap:=h',toks:=s.toks+2}):
  wpAny (model prog w) A (setAttr (.ref x) name v) Q E s:=by
 obtain ⟨od,J,hl⟩:=I.look;refine PySem.W.set_plain X J hs (PySem.W.osa_open (s:={s with toks:=s.toks+1}) (r:=none) X J hp ht fun b=>?_)
 obtain ⟨cd,hc,hd'⟩:=PySem.W.any_some hh;have hx:s.heap.get? x=some ⟨.ref C,some dx,.plain,#[]⟩:=I.obj;refine wpAny_bind (wpAny_pure (wpAny_bind (wpAny_bind (wpAny_loadPart hx (wpAny_bind (PySem.W.Looks.here (s:={s with toks:=s.toks+1}) (PySem.W.looks_clsIn X hc) ?_))))))
 rw[hd'];refine wpAny_pure (a:=some dx) (wpAny_bind (wpAny_pure (wpAny_bind ?_)));refine wpAny_nsSet1 (s:={s with toks:=s.toks+1}) I.ns fun h' hn2 hs2=>?_
 obtain ⟨oD,esD,epD,hoD,hdD,hcD⟩:=hn2.count (PySem.Within.cons name v hw);refine wpAny_bind (wpAny_lookBehind hoD (by rw[hdD];exact pastItsLine_dict (B4 hcD (by rw[Ah];omega))) ?_)
 exact wpAny_pure (h _ ⟨(hs2.2 _ (Ne.symm I.ne)).trans I.obj,hn2,I.ne⟩ hs2)
theorem p8 {R:Result->Shared->Prop} {vs:CD} {kw:List (Str×Value)} (X:K.In s.heap) (hm:PySem.W.makesIn K C=true)
  (hi:Aw K (.ref C) "__init__" =some (some (.ref f))) (hf:PySem.W.typeIn K (.ref f)=some (.type "function"))
  (h:codeAny (model prog w) (A.under (.builtin "type.__call__" ⟨.ref C::vs,kw⟩)) (.call (.ref f) ⟨.ref (s.heap.objs.size+1)::vs,kw⟩) (PySem.W.InitBack (s.heap.objs.size+1) R)
   {s with heap:=(s.heap.push BD).push (BV C s.heap.objs.size)}):
  codeAny (model prog w) A (.call (.ref C) ⟨vs,kw⟩) R s:=by
 obtain ⟨hh,g,d,t,os⟩:=s;exact PySem.W.make_core (PySem.W.makes_of X hm) (PySem.W.looks_findIn X hi) (fun self=>PySem.W.bind_fn X self hf) (.inl rfl) h
end
def aE (f:Str) (v:V):List (Str×V)->List (Str×V)
 | []=> [(f,v)]
 |(g,x)::r=>if g=f then (g,v)::r else (g,x)::aE f v r
theorem a6 (f g:Str) (v:V):∀fs:List (Str×V),(aE f v fs).lookup g=if g=f then some v else fs.lookup g
 | []=>by
  show List.lookup g [(f,v)]=_
  by_cases h:g=f
  ·have hb:(g==f)=true:=beq_iff_eq.mpr h;simp only[List.lookup,hb,if_pos h]
  ·have hb:(g==f)=false:=beq_eq_false_iff_ne.mpr h;simp only[List.lookup,hb,if_neg h]
 |(k,x)::r=>by
  have ih:=a6 f g v r;rw[show aE f v ((k,x)::r)=(if k=f then (k,v)::r else (k,x)::aE f v r) from rfl]
  by_cases hk:k=f
  ·rw[if_pos hk]
   by_cases h:g=k
   ·have hb:(g==k)=true:=beq_iff_eq.mpr h;simp only[List.lookup,hb,if_pos (h.trans hk)]
   ·have hb:(g==k)=false:=beq_eq_false_iff_ne.mpr h;simp only[List.lookup,hb,if_neg (fun e:g=f=>h (e.trans hk.symm))]
  ·rw[if_neg hk]
   by_cases h:g=k
   ·have hb:(g==k)=true:=beq_iff_eq.mpr h;simp only[List.lookup,hb,if_neg (fun e:g=f=>hk (h.symm.trans e))]
   ·have hb:(g==k)=false:=beq_eq_false_iff_ne.mpr h;simp only[List.lookup,hb];exact ih
theorem eS (f:Str) (v:V):∀fs:List (Str×V),f∈(aE f v fs).map (·.1)/\∀g,g∈fs.map (·.1)->g∈(aE f v fs).map (·.1)
 | []=>⟨by simp[aE],fun g h=>by simp at h⟩
 |(k,x)::r=>by
  obtain ⟨i1,i2⟩:=eS f v r;rw[show aE f v ((k,x)::r)=(if k=f then (k,v)::r else (k,x)::aE f v r) from rfl]
  by_cases hk:k=f
  ·rw[if_pos hk];subst hk;exact ⟨by simp,fun g h=>by simpa using h⟩
  ·rw[if_neg hk];refine ⟨?_,fun g h=>?_⟩
   ·rw[Ai];exact AM _ i1
   ·rw[Ai] at h⊢;rcases AU.mp h with e|e
    ·exact AU.mpr (.inl e)
    ·exact AM _ (i2 g e)
theorem aG (f:Str) (v:V):∀fs:List (Str×V),(aE f v fs).length<=fs.length+1
 | []=>by simp[aE]
 |(k,x)::r=>by
  have ih:=aG f v r;rw[show aE f v ((k,x)::r)=(if k=f then (k,v)::r else (k,x)::aE f v r) from rfl]
  by_cases hk:k=f
  ·rw[if_pos hk,Ah,Ah];omega
  ·rw[if_neg hk,Ah,Ah];omega
theorem gQ.some_of {v:V} {o:CG} (r:gQ (some v) o):∃u,o=some u/\RelV v u:=by
 cases o with
 |none=>exact (show False from r).elim
 |some u=>exact ⟨u,rfl,r⟩
theorem gQ.none_of {o:CG} (r:gQ none o):o=none:=by
 cases o with
 |none=>rfl
 |some u=>exact (show False from r).elim
theorem og {v:V} {u:Value} (r:RelV v u):PySem.W.handedIn u=true:=by
 cases v with
 |non=>cases (show u=Value.none from r);rfl
 |bl b=>cases (show u=Value.bool b from r);rfl
 |int i=>obtain ⟨t,e⟩:=(show ∃t,u=Value.int i t from r);cases e;rfl
 |str x=>obtain ⟨t,e⟩:=(show ∃t,u=Value.str x t from r);cases e;rfl
 |byt b=>obtain ⟨t,e⟩:=(show ∃t,u=Value.bytes b t from r);cases e;rfl
 |flt b=>obtain ⟨t,e⟩:=(show ∃t,u=Value.float b t from r);cases e;rfl
 |ref a=>cases (show u=Value.ref a from r);rfl
 |ty n=>cases (show u=Value.type n from r);rfl
section
variable {P:Program} {w:World} {h:Heap} {C dx:Addr} {fs fs':List (Str×V)}
theorem iR (hok:dI P w H h) (e:H a=some (.ins C dx fs)):∃mA,li h a dx C mA/\(∀f,gQ (fs.lookup f) (mA f))/\PySem.Within mA (fs.map (·.1))/\fs.length<=1000/\H dx=some (.own a):=by
 obtain ⟨d,z,ne,ob,mA,n,r,q⟩:=(show bO P w H h a (.ins C dx fs) from hok a _ e)
 exact ⟨mA,⟨ob,n,ne⟩,r,q,z,d⟩
end
structure eT (K:A4) (C:Addr):Prop where
 pg:PySem.W.plainGet K C Str.empty=true
 hd:PySem.W.hasDictIn K C=true
 po:PySem.W.plainOver K C=true
 sa:Aw K (.ref C) "__setattr__" =some (some (.builtin "object.__setattr__"))
theorem eT.get {K:A4} {C:Addr} (c:eT K C) (f:Str):PySem.W.plainGet K C f=true:=c.pg
def aj (K:A4) (C:Addr) (f:Str):Prop:=Aw K (.ref C) f=some none
theorem aj.taker {K:A4} {C:Addr} {f:Str} (n:aj K C f):PySem.W.takerIn K C f=some none:=by
 unfold PySem.W.takerIn;rw[show Aw K (.ref C) f=some none from n]
 rfl
structure bu (K:A4) (C:Addr) (m:Str) (f:Addr):Prop where
 at_:Aw K (.ref C) m=some (some (.ref f))
 fn:PySem.W.isFn K (.ref f)=true
 kp:BC K (.ref f)=true
section
variable {C dx:Addr} {fs:List (Str×V)} {f:Str} {v:V} {A:Around}
theorem lj {b:Bool} {Q:Cw} (I:aB X pins σ H s) (e:H a=some (.ins C dx fs)) (c:eT X.K C) (n:aj X.K C f) (l:fs.lookup f=some v)
  (h:∀u s',aB X pins σ H s'->RelV v u->Q u s'):wpAny (model X.prog X.w) A (getAttr (.ref a) f b) Q E s:=by
 obtain ⟨mA,O,r,_,_,_⟩:=iR I.hok e;obtain ⟨u,hu,ru⟩:=gQ.some_of (v:=v) (o:=mA f) (by rw[<-l];exact r f)
 exact rZ I.kIn O (c.get f) c.hd n hu (og ru) (h u _ (I.tok _) ru)
theorem lq {m:Str} {g:Addr} {pl:Sem Bool} {Q:Value×CD->Shared->Prop} (I:aB X pins σ H s) (e:H a=some (.ins C dx fs)) (c:eT X.K C) (k:bu X.K C m g) (l:fs.lookup m=none)
  (h:Q (.ref g,[.ref a]) s):wpAny (model X.prog X.w) A (getMethod (.ref a) m pl) Q E s:=by
 obtain ⟨mA,O,r,_,_,_⟩:=iR I.hok e;have hn:mA m=none:=gQ.none_of (by rw[<-l];exact r m)
 exact p5 I.kIn O (c.get m) k.at_ k.fn hn h
theorem lr {y:V} {u:Value} {Q:Unit->Shared->Prop} (I:aB X pins σ H s) (e:H a=some (.ins C dx fs)) (c:eT X.K C) (n:aj X.K C f) (hl:fs.length<1000) (ry:RelV y u)
  (h:∀s',aB X pins σ (aL H a (.ins C dx (aE f y fs))) s'->Q () s'):wpAny (model X.prog X.w) A (setAttr (.ref a) f u) Q E s:=by
 obtain ⟨mA,O,r,wi,_,ho⟩:=iR I.hok e;have hz:(fs.map (·.1)).length<=sizeLine:=by rw[A5,sizeLine_eq];omega
 refine r8 I.kIn O c.sa c.po n.taker c.hd wi hz fun h' O' sb=>h _ ?_
 have hd:∃o,h'.get? dx=some o:=let ⟨o,_,_,e',_⟩:=O'.ns;⟨o,e'⟩;refine I.write (x:=a) (e:=dx) (by rw[e];exact True.intro) (.inr ho) (fun b q hb z=>(sb.2 b hb).trans z) hd ?_
 refine ⟨by rw[am O.ne];exact ho,?_,O.ne,O'.obj,_,O'.ns,fun g=>?_,fun g hg=>?_⟩
 ·have:=aG f y fs;omega
 ·show gQ ((aE f y fs).lookup g) (if g=f then some u else mA g)
  rw[a6]
  by_cases q:g=f
  ·rw[if_pos q,if_pos q];exact ry
  ·rw[if_neg q,if_neg q];exact r g
 ·by_cases q:g=f
  ·rw[q];exact (eS f y fs).1
  ·refine (eS f y fs).2 g (wi g fun z=>hg ?_)
   show (if g=f then some u else mA g)=none
   rw[if_neg q];exact z
theorem aB.made (I:aB X pins σ H s):aB X pins σ (aL (aL H s.heap.objs.size (.own (s.heap.objs.size+1))) (s.heap.objs.size+1) (.ins C s.heap.objs.size []))
  {s with heap:=(s.heap.push BD).push (BV C s.heap.objs.size)}:=by
 have e1:(s.heap.push BD).get? s.heap.objs.size=some BD:=Heap.get?_push_size s.heap rfl;have e2:((s.heap.push BD).push (BV C s.heap.objs.size)).get? (s.heap.objs.size+1)=some (BV C s.heap.objs.size):=by
  have:=Heap.get?_push_size (s.heap.push BD) (o:=BV C s.heap.objs.size) rfl
  rwa [Heap.size_push] at this
 have e3:(s.heap.push BD).Ns s.heap.objs.size (fun _=>none):=⟨BD,#[],_,e1,rfl,(fun e he=>absurd he (by simp)),fun _=>rfl⟩
 have I1:=I.laid (a:=s.heap.objs.size) (o:= .own (s.heap.objs.size+1)) (h':=s.heap.push BD) (t':=s.toks) (fun b u q=>Heap.get?_push_of_some _ q) (A7 _) ⟨_,e1⟩
 refine I1.laid (a:=s.heap.objs.size+1) (o:= .ins C s.heap.objs.size []) (t':=s.toks) (fun b u q=>Heap.get?_push_of_some _ q) (Nat.le_of_eq (Heap.size_push _ _)) ?_
 have ne:s.heap.objs.size≠s.heap.objs.size+1:=AE (Nat.lt_succ_self _);refine ⟨by rw[am ne,af],Ar _,ne,e2,fun _=>none,(Heap.Ns1.of_empty e3).at fun o q=>Heap.get?_push_of_some _ q,fun _=>True.intro,fun y hy=>absurd rfl hy⟩
theorem sd {prog:Program} {w:World} {env:Env} {e:Expr} {f:Str} {pos:Pos} {s:Shared} {Q:Cw} (hb:attributeBase e f env (eval e env)=eval e env)
  (h:wpAny (model prog w) A (eval e env) (fun o s₁=>wpAny (model prog w) A (getAttr o f true) Q E s₁) E s):wpAny (model prog w) A (eval (.Attribute e f pos) env) Q E s:=
 Attribute_any_ h (by rw[arm_eval_Attribute,hb])
end
def xr (K:A4) (ta:TE) (f:Str):TE:=fun σ H Q=>ta σ H fun x H1=>∃a C dx fs v,x= .ref a/\H1 a=some (.ins C dx fs)/\eT K C/\aj K C f/\fs.lookup f=some v/\Q v H1
def xu (K:A4) (ta tv:TE) (f:Str):TS:=fun D σ H=>tv σ H fun y H1=>ta σ H1 fun x H2=>∃a C dx fs,x= .ref a/\H2 a=some (.ins C dx fs)/\eT K C/\aj K C f/\fs.length<1000/\
 D.nx σ (aL H2 a (.ins C dx (aE f y fs)))
section
variable {o e value:Expr} {f:Str} {pos pos' tpos:Pos} {ta tv:TE}
theorem bW (he:PE X e ta) (hb:attributeBase e f X.env (eval e X.env)=eval e X.env):PE X (.Attribute e f pos) (xr X.K ta f):=by
 intro pins s σ H Q I h;refine sd hb (aZ (he pins s σ H _ I h) fun u s1 ⟨x,H1,I1,rx,a,C,dx,fs,v,ex,ea,c,n,l,q⟩=>?_)
 subst ex;obtain rfl:u=Value.ref a:=rx;exact lj I1 ea c n l fun u' s2 I2 ru=>⟨v,H1,I2,ru,q⟩
theorem cF (ha:PE X o ta) (hv:PE X value tv) (hs:swapsWith value (some (.Attribute o f pos')) pos.line X.env=pure false):PS X (.Assign [.Attribute o f pos'] value pos) (xu X.K ta tv f):=by
 intro pins s σ H D I h;refine plainObj_wpAny_Assign_Attribute (aZ (hv pins s σ H _ I h) fun u s1 ⟨y,H1,I1,ry,q⟩=>aZ (ha pins s1 σ H1 _ I1 q) fun ov s2 ⟨x,H2,I2,rx,a,C,dx,fs,ex,ea,c,n,l,q2⟩=>?_) hs
 subst ex;obtain rfl:ov=Value.ref a:=rx;exact lr I2 ea c n l ry fun s3 I3=>⟨σ,_,I3,q2⟩
end
structure bx (k:Nat) (A:Around):Prop where
 hd:A.handled=none
 dp:A.depth+3*k+5<recursionLimit
 un:A.units+16*k+200<cLine
theorem bx.mono {j k:Nat} {A:Around} (r:bx k A) (h:j<=k):bx j A:=⟨r.hd,by have:=r.dp;omega,by have:=r.un;omega⟩
theorem bx.deeper {k:Nat} {A:Around} (r:bx (k+1) A) (env:Env):bx k (A.deeper env):=
 ⟨r.hd,by have:=r.dp;show A.depth+1+3*k+5<_;omega,by have:=r.un;show A.units+3+16*k+200<_;omega⟩
theorem ly {A:Around} {C:Addr} {us:CD} {kw:List (Str×Value)}:(A.under (.builtin "type.__call__" ⟨.ref C::us,kw⟩)).depth=A.depth+1:=by
 first|rfl|simp[Around.under,Code.weight,Code.isCreation,Code.isGuard,Code.isCaller,Code.frames,Code.isFrame,guardIds]
theorem lA {A:Around} {C:Addr} {us:CD} {kw:List (Str×Value)}:(A.under (.builtin "type.__call__" ⟨.ref C::us,kw⟩)).units=A.units+1:=by
 first|rfl|simp[Around.under,Code.cUnits,Code.frames,Code.isFrame]
theorem bx.make {k:Nat} {A:Around} (r:bx (k+1) A) (C:Addr) (us:CD) (kw:List (Str×Value)):bx k (A.under (.builtin "type.__call__" ⟨.ref C::us,kw⟩)):=
 ⟨r.hd,by have:=r.dp;rw[ly];omega,by have:=r.un;rw[lA];omega⟩
theorem bx.depth {k:Nat} {A:Around} (r:bx k A):A.depth<recursionLimit:=by have:=r.dp;omega
theorem bx.units {k:Nat} {A:Around} (r:bx k A):A.units+64<cLine:=by have:=r.un;omega
theorem bx.units0 {k:Nat} {A:Around} (r:bx k A):A.units<cLine:=by have:=r.un;omega
def xv:TA:=fun _ H Q=>Q [] H
def vX (ta:TE) (tr:TA):TA:=fun σ H Q=>ta σ H fun x H1=>tr σ H1 fun xs H2=>Q (x::xs) H2
section
variable {e:Expr} {es:List Expr} {te:TE} {t:TA} {pos:Pos}
theorem ag:PA X [] xv:=fun _ _ _ _ H Q I h=>Calls.spliced_nil ⟨[],H,I,.nil,h⟩
theorem aa (ha:PE X e te) (hr:PA X es t) (hs:starEach (e::es) X.env=(false,eval e X.env)::starEach es X.env:=by rfl):PA X (e::es) (vX te t):=by
 intro pos pins s σ H Q I h;rw[hs];show wpAny _ _ (spliced ((false,eval e X.env)::backTo pos (starEach es X.env))) _ _ s;refine Calls.spliced_cons (aZ (ha pins s σ H _ I h) fun u s1 ⟨x,H1,I1,r1,q1⟩=>?_)
 exact aZ (hr pos pins s1 σ H1 _ I1 q1) fun us s2 ⟨xs,H2,I2,r2,q2⟩=>⟨x::xs,H2,I2,.cons r1 r2,q2⟩
def xw (t:TA):TE:=fun σ H Q=>t σ H fun xs H1=>xs.length<=sizeLine/\∀p,H1 p=none->Q (.ref p) (aL H1 p (.tup xs))
def xy (t:TA):TE:=fun σ H Q=>t σ H fun xs H1=>xs.length<=sizeLine/\∀p,H1 p=none->Q (.ref p) (aL H1 p (.lst xs))
theorem bB {x1} (h:PA X es t):PE X (.Tuple es x1 pos) (xw t):=by
 intro pins s σ H Q I hq;refine wpAny_Tuple_spliced (aZ (h pos pins s σ H _ I hq) fun us s1 ⟨xs,H1,I1,r,z,q⟩=>⟨by rw[<-r.length];exact z,?_⟩)
 have hf:H1 s1.heap.objs.size=none:=I1.hok.fresh (A7 _);refine ⟨.ref s1.heap.objs.size,aL H1 s1.heap.objs.size (.tup xs),I1.laid (t':=s1.toks) (fun b u e=>Heap.get?_push_of_some _ e) (A7 _) ?_,rfl,q _ hf⟩
 exact ⟨z,us,r,⟨_,Heap.get?_push_size _ rfl,rfl,_,rfl⟩⟩
theorem bL (h:PA X es t):PE X (.List es pos) (xy t):=by
 intro pins s σ H Q I hq;refine wpAny_List_spliced (aZ (h pos pins s σ H _ I hq) fun us s1 ⟨xs,H1,I1,r,z,q⟩=>⟨by rw[<-r.length];exact z,?_⟩)
 have hf:H1 s1.heap.objs.size=none:=I1.hok.fresh (A7 _);refine ⟨.ref s1.heap.objs.size,aL H1 s1.heap.objs.size (.lst xs),I1.laid (t':=s1.toks) (fun b u e=>Heap.get?_push_of_some _ e) (A7 _) ?_,rfl,q _ hf⟩
 exact ⟨z,us,0,r,Heap.get?_push_size _ rfl⟩
end
abbrev Sp:=List V->Hp->VK->XK->Prop
abbrev lB:=List Env->Hp->Shared->XK->Value->Shared->Prop
structure lC (P:Program) (w:World) (K:A4) (mg:Cy) (base:Heap) (A:Around) (outer:List Env) (s:Shared) (H:Hp):Prop where
 frames:A.frames=some outer
 mod:Mod K mg base
 bs:∀b o,base.get? b=some o->s.heap.get? b=some o/\H b=none
 bsz:base.objs.size<=s.heap.objs.size
 funs:s.heap.FunFrames base outer
 frf:∀b∈fV outer,H b=none
 hok:dI P w H s.heap
 bare:AllBare s.gens
def CE (outer:List Env) (P:Program) (w:World) (H:Hp) (s:Shared) (Q:VK) (u:Value) (s':Shared):Prop:=
 ∃v H',s'.os=s.os/\AllBare s'.gens/\Un (fV outer) [] H H' s.heap s'.heap/\dI P w H' s'.heap/\RelV v u/\Q v H'
def CR (CX:lB) (outer:List Env) (P:Program) (w:World) (H:Hp) (s:Shared) (Q:VK) (E:XK) (r:Result) (s':Shared):Prop:=
 match r with
 | .ok (.ret u)=>CE outer P w H s Q u s'
 | .ok _=>False
 | .error e=>CX outer H s E e s'
structure a7 (P:Program) (w:World) (K:A4) (mg:Cy) (base:Heap) (CX:lB) (k:Nat) (f:Addr) (fd:FuncData) (ps:CB) (sp:Sp):Prop where
 len:∀vs H Q E,sp vs H Q E->vs.length=ps.length
 run:∀(A:Around) (outer:List Env) (s:Shared) (H:Hp) (args:Args) (us:CD) (vs:List V) (Q:VK) (E:XK),bx k A->lC P w K mg base A outer s H->BindsTo s fd args (ps.zip us)->aM vs us->sp vs H Q E->
  codeAny (model P w) A (.call (.ref f) args) (CR CX outer P w H s Q E) s
theorem lC.make {P:Program} {w:World} {K:A4} {mg:Cy} {base:Heap} {A:Around} {outer:List Env} {s:Shared} {H:Hp} (e:lC P w K mg base A outer s H) (C:Addr) (us:CD) (kw:List (Str×Value)):
  lC P w K mg base (A.under (.builtin "type.__call__" ⟨.ref C::us,kw⟩)) outer s H:=⟨by first|exact e.frames|(simpa [Around.under,Code.envs,Code.isFrame,pushEnvs] using e.frames),e.mod,e.bs,e.bsz,e.funs,e.frf,e.hok,e.bare⟩
variable {s':Shared}
theorem aB.env0 (I:aB X pins σ H s):lC X.prog X.w X.K X.mg X.base X.A X.stack s H:=
 ⟨I.ok.frames,I.ok.mod,I.bs,B4 I.ok.bsz I.sz,I.stack,I.stkFree,I.hok,I.bare⟩
theorem aB.after {Q:VK} {u:Value} (I:aB X pins σ H s) (h:CE X.stack X.prog X.w H s Q u s'):EP X pins σ Q u s':=by
 obtain ⟨v,H',os,bare,un,hok,r,q⟩:=h;obtain ⟨hh,g,d,t,os'⟩:=s';obtain rfl:os'=s.os:=os;exact ⟨v,H',I.call (h':=hh) (g':=g) (d':=d) (t':=t) (ch:= []) un hok bare (fun b z=>absurd z (by simp)),r,q⟩
def jG (sp:Sp) (dvs:List V) (E:XK) (t:TA):TE:=fun σ H Q=>t σ H fun vs H1=>sp (vs++dvs) H1 Q E
def p9 (C:Addr) (sp:Sp) (dvs:List V) (E:XK) (t:TA):TE:=fun σ H Q=>t σ H fun vs H1=>∀x dx,H1 x=none->H1 dx=none->dx≠x->
 sp (.ref x::(vs++dvs)) (aL (aL H1 dx (.own x)) x (.ins C dx [])) (fun v H2=>v= .non/\Q (.ref x) H2) E
def Binds (K:A4) (fd:FuncData) (ps:CB) (ds:CD):Prop:=
 ∀(s:Shared) (us:CD),K.In s.heap->(us++ds).length=ps.length->BindsTo s fd ⟨us,[]⟩ (ps.zip (us++ds))
theorem Binds.all {K:A4} {fd:FuncData} {ps:CB} (h:∀us:CD,us.length=ps.length->bindArgs fd ⟨us,[]⟩=pure (ps.zip us)):Binds K fd ps []:=fun s us _ hl=>by
 rw[List.append_nil] at hl⊢;exact .of_eq (h us hl)
def gi (CX:lB) (X:Cx) (E:XK):Prop:=∀(pins:Cz) (σ:St) (H:Hp) (s:Shared) (e:Value) (s':Shared),aB X pins σ H s->CX X.stack H s E e s'->X.xe e s'
section
variable {CX:lB} {k:Nat} {f C:Addr} {fd:FuncData} {ps:CB} {sp:Sp} {dvs:List V} {ds:CD} {E:XK} {x m:Str} {p pos apos:Pos} {e o:Expr} {es:List Expr} {ta:TE} {t:TA}
theorem lD {pins:Cz} {σ:St} {H:Hp} {s:Shared} {Q:VK} {us:CD} {vs:List V} (F:a7 X.prog X.w X.K X.mg X.base CX k f fd ps sp) (hr:bx k X.A) (hb:Binds X.K fd ps ds) (hd:aM dvs ds) (hx:gi CX X E)
  (I:aB X pins σ H s) (r:aM vs us) (h:sp (vs++dvs) H Q E):wpAny (model X.prog X.w) X.A (call (.ref f) us) (EP X pins σ Q) X.xe s:=by
 have r2:aM (vs++dvs) (us++ds):=r.append hd;have hl:(us++ds).length=ps.length:=by rw[<-r2.length];exact F.len _ _ _ _ h
 refine wpAny_call (codeAny_mono (F.run X.A X.stack s H ⟨us,[]⟩ (us++ds) (vs++dvs) Q E hr I.env0 (hb s us I.kIn hl) r2 h) fun r s' hq=>?_)
 cases r with
 |error e=>exact hx pins σ H s e s' I hq
 |ok fl=>
  cases fl with
  |ret u=>exact I.after hq
  |next=>exact False.elim hq
  |brk=>exact False.elim hq
  |cont=>exact False.elim hq
theorem mR (F:a7 X.prog X.w X.K X.mg X.base CX k f fd ps sp) (hr:bx k X.A) (hg:Gl X x) (hm:X.mg x=some (.ref f)) (hk:BC X.K (.ref f)=true) (hb:Binds X.K fd ps ds) (hd:aM dvs ds) (hx:gi CX X E)
  (ha:PA X (e::es) t) (hdb:(x==("__debug__" :Str))=false:=by decide) (he:starEach (e::es) X.env=(false,eval e X.env)::starEach es X.env:=by rfl) (hpl:(backTo pos (starEach es X.env)).any (·.1)=false:=by rfl):
  PE X (.Call (.Name x p) (e::es) [] pos) (jG sp dvs E t):=by
 intro pins s σ H Q I h;refine wpAny_Call_Name_kw (c4 I hg hm ?_ hdb);refine C5 (h₀:=X.base) I.ok.mod.kin hk (aZ (ha pos pins s σ H _ I h) fun us s1 ⟨vs,H1,I1,r,q⟩=>⟨I1.kIn,?_⟩) he hpl
 exact lD F hr hb hd hx I1 r q
structure Mk (K:A4) (C f:Addr):Prop where
 makes:PySem.W.makesIn K C=true
 init:Aw K (.ref C) "__init__" =some (some (.ref f))
 fn:PySem.W.isFn K (.ref f)=true
 kp:BC K (.ref C)=true
theorem qa {pins:Cz} {σ:St} {H:Hp} {s:Shared} {Q:VK} {us:CD} {vs:List V} (M:Mk X.K C f) (F:a7 X.prog X.w X.K X.mg X.base CX k f fd ps sp) (hr:bx (k+1) X.A) (hb:Binds X.K fd ps ds) (hd:aM dvs ds)
  (hx:gi CX X E) (I:aB X pins σ H s) (r:aM vs us)
  (h:∀x dx,H x=none->H dx=none->dx≠x->sp (.ref x::(vs++dvs)) (aL (aL H dx (.own x)) x (.ins C dx [])) (fun v H2=>v= .non/\Q (.ref x) H2) E):
  wpAny (model X.prog X.w) X.A (call (.ref C) us) (EP X pins σ Q) X.xe s:=by
 have hq:=h (s.heap.objs.size+1) s.heap.objs.size (I.hok.fresh (Nat.le_succ _)) (I.hok.fresh (A7 _)) (AE (Nat.lt_succ_self _));have I2:=aB.made (C:=C) I;have r2:aM (V.ref (s.heap.objs.size+1)::(vs++dvs)) (Value.ref (s.heap.objs.size+1)::(us++ds)):= .cons rfl (r.append hd);have hl:(Value.ref (s.heap.objs.size+1)::us++ds).length=ps.length:=by
  have e:=r2.length;rw[F.len _ _ _ _ hq] at e;exact e.symm
 refine wpAny_call (p8 (f:=f) I.kIn M.makes M.init (beq_iff_eq.mp M.fn) (codeAny_mono (F.run _ X.stack _ _ ⟨Value.ref (s.heap.objs.size+1)::us,[]⟩ (Value.ref (s.heap.objs.size+1)::(us++ds)) _ _ E (hr.make C us [])
  (I2.env0.make C us []) (hb _ (Value.ref (s.heap.objs.size+1)::us) I2.kIn hl) r2 hq) fun r s' hq'=>?_))
 cases r with
 |error e=>exact hx pins σ _ _ e s' I2 hq'
 |ok fl=>
  cases fl with
  |ret u=>
   obtain ⟨v,H',I3,rv,ev,q3⟩:=I2.after hq';subst ev;exact ⟨rv,⟨V.ref (s.heap.objs.size+1),H',I3,rfl,q3⟩⟩
  |next=>exact False.elim hq'
  |brk=>exact False.elim hq'
  |cont=>exact False.elim hq'
theorem mS (M:Mk X.K C f) (F:a7 X.prog X.w X.K X.mg X.base CX k f fd ps sp) (hr:bx (k+1) X.A) (hg:Gl X x) (hm:X.mg x=some (.ref C)) (hb:Binds X.K fd ps ds) (hd:aM dvs ds) (hx:gi CX X E)
  (ha:PA X (e::es) t) (hdb:(x==("__debug__" :Str))=false:=by decide) (he:starEach (e::es) X.env=(false,eval e X.env)::starEach es X.env:=by rfl) (hpl:(backTo pos (starEach es X.env)).any (·.1)=false:=by rfl):
  PE X (.Call (.Name x p) (e::es) [] pos) (p9 C sp dvs E t):=by
 intro pins s σ H Q I h;refine wpAny_Call_Name_kw (c4 I hg hm ?_ hdb);refine C5 (h₀:=X.base) I.ok.mod.kin M.kp (aZ (ha pos pins s σ H _ I h) fun us s1 ⟨vs,H1,I1,r,q⟩=>⟨I1.kIn,?_⟩) he hpl
 exact qa M F hr hb hd hx I1 r q
end
structure aD (N P:CB) (sc:Scope):Prop where
 kind:sc.kind= .function
 co:sc.isCoroutine=false
 gen:sc.isGenerator=false
 nd:N.Nodup
 pre:N.take P.length=P
 par:∀x∈P,sc.names.lookup x=some .local∨sc.names.lookup x=some .cell
 nofree:∀y∈sc.names,y.2≠ .free
theorem ie {kindOf:Str->Option NameKind} {x:Str}:∀{binds:List (Str×Value)} {m:Cy},(∀v,(x,v)∉binds)->bindL kindOf binds m x=m x
 | [],_,_=>rfl
 |(n,v)::r,m,h=>by
  unfold bindL;rw[ie fun w hw=>h w (AM _ hw)]
  split
  ·have:x≠n:=by rintro rfl;exact h v Ae
   simp[this]
  ·rfl
theorem ig {kindOf:Str->Option NameKind} {x:Str}:∀{binds:List (Str×Value)} {m:Cy},(∀v,(x,v)∉binds)->bindC kindOf binds m x=m x
 | [],_,_=>rfl
 |(n,v)::r,m,h=>by
  unfold bindC;rw[ig fun w hw=>h w (AM _ hw)]
  split
  ·rfl
  ·have:x≠n:=by rintro rfl;exact h v Ae
   simp[this]
theorem im {kindOf:Str->Option NameKind} {x:Str} {v:Value}:∀{P:CB} {vs:CD} {i:Nat} {m:Cy},P.Nodup->P[i]?=some x->vs[i]?=some v->kindOf x=some .local->
  bindL kindOf (P.zip vs) m x=some v
 | [],_,_,_,_,h,_,_=>by simp at h
 |_::_,[],_,_,_,_,h,_=>by simp at h
 |p::P,w::vs,0,m,nd,h1,h2,hk=>by
  simp at h1 h2;subst h1;subst h2;show bindL kindOf ((p,w)::P.zip vs) m p=_;unfold bindL;rw[ie fun v hv=>(List.nodup_cons.mp nd).1 (List.of_mem_zip hv).1,if_pos hk]
  simp
 |p::P,w::vs,i+1,m,nd,h1,h2,hk=>by
  show bindL kindOf ((p,w)::P.zip vs) m x=_;unfold bindL;exact im (i:=i) (List.nodup_cons.mp nd).2 (by simpa using h1) (by simpa using h2) hk
theorem io {kindOf:Str->Option NameKind} {x:Str} {v:Value}:∀{P:CB} {vs:CD} {i:Nat} {m:Cy},P.Nodup->P[i]?=some x->vs[i]?=some v->kindOf x≠some .local->
  bindC kindOf (P.zip vs) m x=some v
 | [],_,_,_,_,h,_,_=>by simp at h
 |_::_,[],_,_,_,_,h,_=>by simp at h
 |p::P,w::vs,0,m,nd,h1,h2,hk=>by
  simp at h1 h2;subst h1;subst h2;show bindC kindOf ((p,w)::P.zip vs) m p=_;unfold bindC;rw[ig fun v hv=>(List.nodup_cons.mp nd).1 (List.of_mem_zip hv).1,if_neg hk]
  simp
 |p::P,w::vs,i+1,m,nd,h1,h2,hk=>by
  show bindC kindOf ((p,w)::P.zip vs) m x=_;unfold bindC;exact io (i:=i) (List.nodup_cons.mp nd).2 (by simpa using h1) (by simpa using h2) hk
def start (N:CB) (vs:List V):St:=vs.map some++List.replicate (N.length-vs.length) none
def fS (CX:lB) (P:Program) (w:World) (K:A4) (mg:Cy) (base:Heap) (N:CB) (qual:Str) (scope:Scope) (f:Addr) (cd:Value) (A:Around) (outer:List Env) (s:Shared) (H:Hp) (E:XK):Cx where
 prog:=P
 w:=w
 K:=K
 mg:=mg
 base:=base
 A:=A.deeper (envOfC qual scope s.heap.objs.size f cd)
 N:=N
 s₀:=s
 H₀:=H
 env:=envOfC qual scope s.heap.objs.size f cd
 outer:=outer
 stack:=envOfC qual scope s.heap.objs.size f cd::outer
 ex:= []
 calm:=true
 fn:=fun _=>true
 pn:= []
 xe:=fun e s'=>wpAny (model P w) (A.deeper (envOfC qual scope s.heap.objs.size f cd)) (leaving (envOfC qual scope s.heap.objs.size f cd) e) (fun _ s''=>CX outer H s E e s'') (fun e' s''=>CX outer H s E e' s'') s'
theorem jH {sc:Scope} {n:Nat} {x:Str} (h:sc.names.lookup x=some .cell):∃c,(cellsFrom n sc.names []).lookup x=some c:=by
 have q:=PySem.W.cellsFrom_some sc.names n [] (.inl h);exact Ba.mp q
theorem oh {CX:lB} {P:Program} {w:World} {K:A4} {mg:Cy} {base:Heap} {N ps:CB} {qual:Str} {scope:Scope} {f:Addr} {cd:Value} {A:Around} {outer:List Env} {s s1:Shared} {H:Hp} {E:XK} {us:CD} {vs:List V}
  (S:aD N ps scope) (hd:A.handled=none) (e0:lC P w K mg base A outer s H) (hl:vs.length=ps.length) (r:aM vs us)
  (x:InCallC s s.heap.objs.size (bindL (envOfC qual scope s.heap.objs.size f cd).kindOf (ps.zip us) fun _=>none) (cellsFrom (s.heap.objs.size+1) scope.names []) (bindC (envOfC qual scope s.heap.objs.size f cd).kindOf (ps.zip us) fun _=>none) s1):
  aB (fS CX P w K mg base N qual scope f cd A outer s H E) [] (start N vs) H s1:=by
 have hpl:ps.length<=N.length:=by have:=congrArg Bt S.pre;rw[AN] at this;omega
 obtain ⟨h1,tk,rfl,hk⟩:=x.done;have noA:∀b:Addr,b∉(fS CX P w K mg base N qual scope f cd A outer s H E).ex:=fun b z=>absurd (show b∈([]:CC) from z) (by simp)
 refine ⟨⟨e0.mod,S.kind,rfl,rfl,A7 _,fun y z c h1 h2=>?_,fun y hy=>?_,fun y c _ h=>?_,fun _=>hd,Around.frames_deeper e0.frames,.inr ⟨rfl,rfl⟩,fun b z=>absurd z (noA b),e0.bs,e0.bsz,fun b _ _=>noA b,fun b z=>absurd z (noA b),e0.funs,e0.frf⟩,
  rfl,e0.bare,Un.kept hk,⟨_,x.toInCall.ns,fun i y v h1 h2 h3=>?_⟩,fun y c h=>⟨_,x.cell y c h⟩,e0.hok.fresh (A7 _),fun y c h=>?_,fun p hp=>absurd (show p∈([]:Cz) from hp) (by simp),e0.hok.kept hk,?_⟩
 ·exact name_of_addr x.apart (Ax h1) (Ax h2)
 ·have hy:scope.names.lookup y=some .cell∨scope.names.lookup y=some .free:=hy;rcases hy with hy|hy
  ·exact jH hy
  ·exact absurd rfl (S.nofree _ (Ax hy))
 ·exact Nat.le_of_lt (x.above y c (Ax h))
 ·have hi:i<vs.length:=by
   unfold start at h2
   by_cases hi:i<vs.length
   ·exact hi
   ·rw[A6 (by simpa using hi)] at h2
    rw[List.getElem?_replicate] at h2
    split at h2<;>cases h2
  have ha:vs[i]?=some v:=by
   unfold start at h2;rw[A8 (by simpa using hi),A9] at h2
   cases e:vs[i]? with
   |none=>rw[e] at h2;cases h2
   |some a=>rw[e] at h2;cases h2;rfl
  obtain ⟨u,hu,rv⟩:=r.get ha;have hp:ps[i]?=some y:=by
   rw[<-S.pre,B3 (by omega)];exact h1
  have ndP:ps.Nodup:=by rw[<-S.pre];exact S.nd.sublist (List.take_sublist _ _)
  refine ⟨u,rv,?_⟩;rcases S.par y (AR hp) with k|k
  ·exact .inl ⟨k,im ndP hp hu k⟩
  ·obtain ⟨c,e⟩:=jH (n:=s.heap.objs.size+1) k;refine .inr ⟨.inl k,c,e,?_⟩;have q:=x.cell y c e;rw[io ndP hp hu (by show scope.names.lookup y≠_;rw[k];decide)] at q
   exact q
 ·exact e0.hok.fresh (Nat.le_of_lt (x.above y c (Ax h)))
 ·unfold start;show _=N.length;rw[AB,A5,List.length_replicate];omega
theorem tR {CX:lB} {P:Program} {w:World} {K:A4} {mg:Cy} {base:Heap} {k:Nat} {f:Addr} {name qual:Str} {params:Arguments} {body:List Stmt} {scope:Scope} {dV kV doc pm cdv ct oc:Value} {an od:CF}
  {osl:CA} {N ps:CB} {sp:Sp} (lk:K.lookup f=some ⟨oc,od,.func (BB name qual params body scope dV kV doc pm an cdv ct),osl⟩) (hcd:PySem.W.codeIn K cdv qual=true) (S:aD N ps scope)
  (len:∀vs H Q E,sp vs H Q E->vs.length=ps.length)
  (hbody:∀(A:Around) (outer:List Env) (s:Shared) (H:Hp) (vs:List V) (Q:VK) (E:XK),bx k (A.deeper (envOfC qual scope s.heap.objs.size f cdv))->sp vs H Q E->
   ∃t,hU (fS CX P w K mg base N qual scope f cdv A outer s H E) body t/\t {nx:=fun _ H'=>Q .non H',rt:=Q} (start N vs) H):
  a7 P w K mg base CX (k+1) f (BB name qual params body scope dV kV doc pm an cdv ct) ps sp:=by
 refine ⟨len,fun A outer s H args us vs Q E hr e0 hb r hsp=>?_⟩
 have hl:=len _ _ _ _ hsp;have KX:K.In s.heap:=e0.mod.kin.keeps fun b o e=>(e0.bs b o e).1
 have lim:s.heap.NoLimit:=e0.mod.nolimit.keeps fun b o e=>(e0.bs b o e).1
 have hkind:∀y∈ps.zip us,scope.names.lookup y.1=some .local∨(scope.names.lookup y.1=some .cell/\((cellsFrom (s.heap.objs.size+1) scope.names []).lookup y.1).isSome=true):=fun ⟨n,v⟩ hy=>by
  rcases S.par n (List.of_mem_zip hy).1 with q|q
  ·exact .inl q
  ·exact .inr ⟨q,PySem.W.cellsFrom_some _ _ _ (.inl q)⟩
 refine codeAny_call_function hr.depth (KX _ _ lk) rfl S.co S.gen rfl (PySem.W.codeRec_of KX hcd) (hb _ _ _ _ ?_);refine wpAny_newFunctionEnv_cells S.kind hkind fun env he s1 x=>?_
 subst he;refine ⟨lim.keeps x.toInCall.keep,codeAny_func ?_⟩;obtain ⟨t,ht,hq⟩:=hbody A outer s H vs Q E (hr.deeper _) hsp;have I:aB (fS CX P w K mg base N qual scope f cdv A outer s H E) [] (start N vs) H s1:=oh S hr.hd e0 hl r x;refine wpAny_mono (ht [] s1 (start N vs) H _ I hq) (fun fl s' hs=>?_) fun e s' hs=>hs
 have fin:∀{σ':St} {H':Hp} {v:V} {u:Value},aB (fS CX P w K mg base N qual scope f cdv A outer s H E) [] σ' H' s'->RelV v u->Q v H'->CE outer P w H s Q u s':=
  fun {σ' H' v u} J rv q=>⟨v,H',J.os,J.bare,J.base,J.hok,rv,q⟩
 cases fl with
 |ret u=>
  obtain ⟨v,σ',H',J,rv,q⟩:=hs;exact fin J rv q
 |next=>
  obtain ⟨σ',H',J,q⟩:=hs;exact fin (v:=V.non) (u:=Value.none) J rfl q
 |brk=>
  obtain ⟨_,_,_,q⟩:=hs;exact False.elim q
 |cont=>
  obtain ⟨_,_,_,q⟩:=hs;exact False.elim q
section
variable {x:Str} {p pos:Pos} {e:Expr} {es:List Expr} {t:TA} {id T:String} {r:List V->Hp->VK->Prop}
def yh (r:List V->Hp->VK->Prop) (t:TA):TE:=fun σ H Q=>t σ H fun vs H1=>r vs H1 Q
theorem aU (hc:cK X (.builtin id) r) (hg:Gl X x) (hm:X.mg x=none) (hv:bootBuiltins x=some (.builtin id)) (ha:PA X (e::es) t) (hn:x≠ "__name__" :=by decide) (hdb:(x==("__debug__" :Str))=false:=by decide)
  (he:starEach (e::es) X.env=(false,eval e X.env)::starEach es X.env:=by rfl) (hpl:(backTo pos (starEach es X.env)).any (·.1)=false:=by rfl):PE X (.Call (.Name x p) (e::es) [] pos) (yh r t):=by
 intro pins s σ H Q I h;refine wpAny_Call_Name_kw (di I hg hm hv ?_ hn hdb);exact PyProof.Rows.callWith_builtin1 (aZ (ha pos pins s σ H _ I h) fun us s1 ⟨vs,H1,I1,r1,q1⟩=>hc pins s1 σ H1 vs us Q I1 r1 q1) he hpl
theorem cU (hc:cK X (.type T) r) (hg:Gl X x) (hm:X.mg x=none) (hv:bootBuiltins x=some (.type T)) (ha:PA X (e::es) t) (hn:x≠ "__name__" :=by decide) (hdb:(x==("__debug__" :Str))=false:=by decide)
  (he:starEach (e::es) X.env=(false,eval e X.env)::starEach es X.env:=by rfl) (hpl:(backTo pos (starEach es X.env)).any (·.1)=false:=by rfl):PE X (.Call (.Name x p) (e::es) [] pos) (yh r t):=by
 intro pins s σ H Q I h;refine wpAny_Call_Name_kw (di I hg hm hv ?_ hn hdb);exact BJ (aZ (ha pos pins s σ H _ I h) fun us s1 ⟨vs,H1,I1,r1,q1⟩=>hc pins s1 σ H1 vs us Q I1 r1 q1) he hpl
end
end L2
namespace HT
open PySem PyProof.Rows
section
variable {prog:Program} {w:World} {A:Around} {E:Cw} {s:Shared}
def dk (n d:Nat):Option Int->Nat
 |none=>d
 |some v=>if v<0 then (v+(n:Int)).toNat else min v.toNat n
end
end HT
namespace L2
open PySem PySem.Spec PyProof.Rows
abbrev TO:=St->Hp->(Option Int->Hp->Prop)->Prop
def PO (X:Cx) (e:Option Expr) (t:TO):Prop:=
 ∀(pins:Cz) (s:Shared) (σ:St) (H:Hp) (Q:Option Int->Hp->Prop),aB X pins σ H s->t σ H Q->
  wpAny (model X.prog X.w) X.A (evalPart e X.env) (fun u s'=>∃o H',aB X pins σ H' s'/\IsPart u o/\Q o H') X.xe s
def se:TO:=fun _ H Q=>Q none H
def vY (t:TE):TO:=fun σ H Q=>t σ H fun x H1=>∃i,x= .int i/\Q (some i) H1
section
variable {X:Cx} {e:Expr} {te:TE} {lo hi:Option Expr} {tl th:TO} {pos p2:Pos}
theorem c7:PO X none se:=by
 intro pins s σ H Q I h;rw[evalPart_none];exact wpAny_pure ⟨none,H,I,.none,h⟩
theorem cu (h:PE X e te):PO X (some e) (vY te):=by
 intro pins s σ H Q I hw;rw[evalPart_some];refine aZ (h pins s σ H _ I hw) fun u s1 ⟨x,H1,I1,r1,q1⟩=>?_
 obtain ⟨i,rfl,q⟩:=q1;obtain ⟨t,rfl⟩:=r1;exact ⟨some i,H1,I1,.int i t,q⟩
def xz (X:Cx) (r:V->Option Int->Option Int->Hp->VK->Prop):Prop:=
 ∀(pins:Cz) (s:Shared) (σ:St) (H:Hp) (x:V) (v vl vu:Value) (lo hi:Option Int) (sl:Addr) (Q:VK),aB X pins σ H s->RelV x v->s.heap.IsSliceOf sl vl vu .none->IsPart vl lo->IsPart vu hi->r x lo hi H Q->
  ∃T id,typeLookup (.type T) "__getitem__" =pure (some (.builtin id))/\s.TypeIs v T/\wpAny (model X.prog X.w) X.A (getItem v (.ref sl)) (EP X pins σ Q) X.xe s
def yA (r:V->Option Int->Option Int->Hp->VK->Prop) (te:TE) (tl th:TO):TE:=fun σ H Q=>te σ H fun x H1=>tl σ H1 fun l H2=>th σ H2 fun u H3=>r x l u H3 Q
theorem cf {r:V->Option Int->Option Int->Hp->VK->Prop} (hr:xz X r) (he:PE X e te) (hl:PO X lo tl) (hu:PO X hi th):PE X (.Subscript e (.Slice lo hi none p2) pos) (yA r te tl th):=by
 intro pins s σ H Q I h;refine Subscript_ (aZ (he pins s σ H _ I h) fun v s1 ⟨x,H1,I1,r1,q1⟩=>?_)
 refine wpAny_Slice (aZ (hl pins s1 σ H1 _ I1 q1) fun vl s2 ⟨l,H2,I2,pl,q2⟩=>aZ (hu pins s2 σ H2 _ I2 q2) fun vu s3 ⟨u,H3,I3,pu,q3⟩=>?_)
 rw[evalPart_none];refine wpAny_pure ?_;have I4:aB X pins σ H3 {s3 with heap:=s3.heap.push {cls:= .type "slice",data:= .fields #[vl,vu,.none]}}:=I3.kept (t':=s3.toks) fun b ob q=>Heap.get?_push_of_some _ q
 obtain ⟨T,id,hT,ht,hg⟩:=hr pins {s3 with heap:=s3.heap.push {cls:= .type "slice",data:= .fields #[vl,vu,.none]}} σ H3 x v vl vu l u s3.heap.objs.size Q I4 r1 (Heap.IsSliceOf.new ..) pl pu q3
 show wpAny (model X.prog X.w) X.A (subscriptTail e (.Slice lo hi none p2) v (.ref s3.heap.objs.size)) (EP X pins σ Q) X.xe {s3 with heap:=s3.heap.push {cls:= .type "slice",data:= .fields #[vl,vu,.none]}}
 exact tail_any (ops:= [.ref s3.heap.objs.size,v]) ht hT hg (by with_unfolding_all rfl)
def fT (xs:List V) (lo hi:Option Int):List V:=(xs.drop (HT.dk xs.length 0 lo)).take (HT.dk xs.length xs.length hi-HT.dk xs.length 0 lo)
theorem fH (xs:List V) (lo hi:Option Int):(fT xs lo hi).length<=xs.length:=by
 unfold fT;rw[AN,List.length_drop];omega
end
def sg (n:Nat) (i:Int):Option Nat:=if 0<=i then (if i<n then some i.toNat else none) else if-(n:Int)<=i then some (i+n).toNat else none
def d8 {α:Type} (xs:List α) (i:Int):Option α:=(sg xs.length i).bind fun j=>xs[j]?
theorem mT {n:Nat} {i:Int} {j:Nat} (h:sg n i=some j):seqIndex? i n=some j/\j<n/\ -(n:Int)<=i/\i<n:=by
 unfold sg at h
 by_cases h0:0<=i
 ·rw[if_pos h0] at h
  by_cases h1:i<n
  ·rw[if_pos h1] at h;have e:i.toNat=j:=Av h;exact ⟨by rw[seqIndex_of h0 h1,e],by omega,by omega,h1⟩
  ·rw[if_neg h1] at h;cases h
 ·rw[if_neg h0] at h
  by_cases h1: -(n:Int)<=i
  ·rw[if_pos h1] at h;have e:(i+n).toNat=j:=Av h;exact ⟨by rw[seqIndex_neg (by omega) h1,e],by omega,h1,by omega⟩
  ·rw[if_neg h1] at h;cases h
theorem iS {α:Type} {xs:List α} {i:Int} {v:α} (h:d8 xs i=some v):∃j,seqIndex? i xs.length=some j/\xs[j]?=some v/\j<xs.length/\ -(xs.length:Int)<=i/\i<xs.length:=by
 unfold d8 at h;cases e:sg xs.length i with
 |none=>rw[e] at h;cases h
 |some j=>
  rw[e] at h;obtain ⟨h1,h2,h3,h4⟩:=mT e;exact ⟨j,h1,h,h2,h3,h4⟩
theorem bI {α:Type} {xs:List α} {j:Nat} {v:α} (h:xs[j]?=some v):d8 xs (j:Int)=some v:=by
 have hj:j<xs.length:=(A3.mp h).1;have e:sg xs.length (j:Int)=some j:=by
  unfold sg;rw[if_pos (by omega),if_pos (by omega)];simp
 unfold d8;rw[e];exact h
def sh (b:Expr):Prop:=∀o i,subscripted b false o i=operate [o,i] (getItem o i)
def uA (X:Cx) (r:R2):Prop:=
 ∀(value slice:Expr) (pins:Cz) (s:Shared) (σ:St) (H:Hp) (x y:V) (v u:Value) (Q:VK),aB X pins σ H s->RelV x v->RelV y u->r x y H Q->
  subscripted slice false v u=operate [v,u] (getItem v u)->wpAny (model X.prog X.w) X.A (subscriptTail value slice v u) (EP X pins σ Q) X.xe s
def yB (X:Cx) (id:String) (r:V->List V->Hp->VK->Prop):Prop:=
 ∀(pins:Cz) (s:Shared) (σ:St) (H:Hp) (x:V) (xs:List V) (v:Value) (us:CD) (Q:VK),aB X pins σ H s->RelV x v->aM xs us->r x xs H Q->
  wpAny (model X.prog X.w) X.A (call (.builtin id) (v::us)) (EP X pins σ Q) X.xe s
section
variable {X:Cx} {a b:Expr} {ta tb:TE} {pos:Pos}
theorem av {r:R2} (hr:uA X r) (ha:PE X a ta) (hb:PE X b tb) (hs:sh b):PE X (.Subscript a b pos) (wW r ta tb):=by
 intro pins s σ H Q I h;exact Subscript_ (uw ha hb I h fun v u s2 x y H2 I2 rx ry q=>hr a b pins s2 σ H2 x y v u Q I2 rx ry q (hs _ _))
def uB (K:A4):R2:=fun x y H Q=>∃p xs i v,x= .ref p/\y= .int i/\aP K H p xs/\d8 xs i=some v/\Q v H
def vZ (K:A4):R2:=fun x y H Q=>∃p xs i v,x= .ref p/\y= .int i/\bF K H p xs/\d8 xs i=some v/\Q v H
def xA:R2:=fun x y H Q=>∃z i c,x= .str z/\y= .int i/\z.length<=sizeLine/\d8 z.cps.toList i=some c/\Q (.str ⟨#[c]⟩) H
theorem aW:uA X (uB X.K):=by
 intro value slice pins s σ H x y v u Q I rx ry h hs;obtain ⟨p,xs,i,z,rfl,rfl,hq,he,q⟩:=h;cases rx;obtain ⟨t,rfl⟩:=ry;obtain ⟨its,r,pl,hz⟩:=I.list hq;obtain ⟨j,h1,h2,h3,h4,h5⟩:=iS he;obtain ⟨w,ew,rw'⟩:=r.get h2;have hl:=r.length;have hn:=gh;have fin:EP X pins σ Q w s:=⟨z,H,I,rw',q⟩
 by_cases h0:0<=i
 ·have hj:i.toNat=j:=by
   rw[seqIndex_of h0 h5] at h1;exact Av h1
  exact item_listR pl.isList h0 (by omega) (by rw[hj];simpa using ew) fin hs
 ·have hj:(i+(its.toArray.size:Int)).toNat=j:=by
   rw[seqIndex_neg (by omega) h4] at h1
   rw[AW,<-hl];exact Av h1
  exact subscriptTail_builtinR (x:=w) pl.isList.typeIs slot_list_getitem.lookup
   (wpAny_getItem_list_neg (Q:=fun r s'=>r=w/\EP X pins σ Q r s') pl.isList (by omega) (by rw[AW]<;>omega) (by omega) (by rw[hj];simpa using ew) ⟨rfl,fin⟩) hs
theorem aK:uA X (vZ X.K):=by
 intro value slice pins s σ H x y v u Q I rx ry h hs;obtain ⟨p,xs,i,z,rfl,rfl,hq,he,q⟩:=h;cases rx;obtain ⟨t,rfl⟩:=ry;obtain ⟨its,r,pl,hz⟩:=I.tuple hq;obtain ⟨j,h1,h2,h3,h4,h5⟩:=iS he;obtain ⟨w,ew,rw'⟩:=r.get h2;have hl:=r.length;have hn:=gh;have fin:EP X pins σ Q w s:=⟨z,H,I,rw',q⟩;exact subscriptTail_builtinR (x:=w) pl.typeIs slot_tuple_getitem.lookup
  (getItem_tuple (j:=j) (Q:=fun r s'=>r=w/\EP X pins σ Q r s') pl (by omega) (by omega) (by rw[AW,<-hl];exact h1) (by simpa using ew) ⟨rfl,fin⟩) hs
theorem lE:uA X xA:=by
 intro value slice pins s σ H x y v u Q I rx ry h hs;obtain ⟨z,i,c,rfl,rfl,hz,he,q⟩:=h;obtain ⟨t,rfl⟩:=rx;obtain ⟨t',rfl⟩:=ry;obtain ⟨j,h1,h2,h3,h4,h5⟩:=iS he;have hl:z.cps.toList.length=z.length:=by simp[Str.length]
 rw[hl] at h1 h4 h5;have hn:=gh;exact tail_any (typeIs_str s z t) slot_str_getitem.lookup (getItem_str (c:=c) (by
  have e1:decide (i< -(2^63:Int))=false:=decide_eq_false (by omega)
  have e2:decide (i≥2^63)=false:=decide_eq_false (by omega)
  rw[e1,e2,Bool.or_false]) (by rw[h1];simpa using h2) ⟨.str ⟨#[c]⟩,H,I.tok _,⟨_,rfl⟩,q⟩) hs
theorem lF (its:CD) (n j:Nat) (u:Value):Obj.mapSeq (·.setIfInBounds j u) {cls:= .type "list",data:= .seq its.toArray n}={cls:= .type "list",data:= .seq (its.set j u).toArray n}:=by
 simp[Obj.mapSeq]
theorem aB.lst {pins:Cz} {σ:St} {H:Hp} {s:Shared} {p:Addr} {xs:List V} (I:aB X pins σ H s) (h:H p=some (.lst xs)):
  ∃(its:CD) (n:Nat),aM xs its/\s.heap.get? p=some {cls:= .type "list",data:= .seq its.toArray n}/\xs.length<=sizeLine:=by
 obtain ⟨z,its,n,r,e⟩:=I.hok p _ h;exact ⟨its,n,r,e,z⟩
theorem aB.lstUpd {pins:Cz} {σ:St} {H:Hp} {s:Shared} {p:Addr} {xs ys:List V} {its its':CD} {n n':Nat} {f:Obj->Obj} (I:aB X pins σ H s) (h:H p=some (.lst xs))
  (ho:s.heap.get? p=some {cls:= .type "list",data:= .seq its.toArray n}) (hf:f {cls:= .type "list",data:= .seq its.toArray n}={cls:= .type "list",data:= .seq its'.toArray n'}) (r:aM ys its') (hz:ys.length<=sizeLine) (t:Nat):
  aB X pins σ (aL H p (.lst ys)) {s with heap:=s.heap.update p f,toks:=t}:=by
 have e:(s.heap.update p f).get? p=some {cls:= .type "list",data:= .seq its'.toArray n'}:=by
  rw[Heap.get?_update_self f ho (by rw[hf]<;>rfl),hf]
 refine I.write (x:=p) (e:=p) (by rw[h];trivial) (.inl rfl) (fun b u hb q=>(Heap.get?_update_other _ _ (Ne.symm hb)).trans q) ⟨_,e⟩ ?_
 exact ⟨hz,its',n',r,e⟩
def v0:V->V->V->Hp->(Hp->Prop)->Prop:=fun o i v H Q=>∃p xs k j,o= .ref p/\i= .int k/\H p=some (.lst xs)/\sg xs.length k=some j/\Q (aL H p (.lst (xs.set j v)))
theorem set_list:vR X v0:=by
 intro pins s σ H o i v ov iv u Q I ro ri rv h;obtain ⟨p,xs,k,j,rfl,rfl,hp,hj,q⟩:=h;cases ro;obtain ⟨t,rfl⟩:=ri;obtain ⟨its,n,r,ho,hz⟩:=I.lst hp;obtain ⟨h1,h2,h3,h4⟩:=mT hj;have hl:=r.length;have hn:=gh;have I':aB X pins σ (aL H p (.lst (xs.set j v))) {s with heap:=s.heap.update p (Obj.mapSeq (·.setIfInBounds j u))}:=
  I.lstUpd hp ho (lF its n j u) (r.set rv j) (by rw[List.length_set];exact hz) s.toks
 by_cases h0:0<=k
 ·have hk:k.toNat=j:=by
   rw[seqIndex_of h0 h4] at h1;exact Av h1
  exact PySem.W.ki_setAt ho h0 (by omega) (by rw[AW,<-hl];exact h4) (by rw[hk];exact ⟨_,I',q⟩)
 ·have hk:(k+(its.toArray.size:Int)).toNat=j:=by
   rw[seqIndex_neg (by omega) h3] at h1
   rw[AW,<-hl];exact Av h1
  exact PySem.W.ki_setBack ho (by omega) (by rw[AW,<-hl];exact h3) (by omega) (by rw[hk];exact ⟨_,I',q⟩)
theorem iT (lo hi:Option Int) (n:Nat):(sliceBounds lo hi none n).1=((HT.dk n 0 lo:Nat):Int)/\(sliceBounds lo hi none n).2.1=((HT.dk n n hi:Nat):Int)/\(sliceBounds lo hi none n).2.2=1:=by
 refine ⟨?_,?_,rfl⟩
 ·cases lo with
  |none=>simp[sliceBounds,HT.dk]
  |some i=>
   simp only[sliceBounds,HT.dk,Option.getD_none,show (1:Int)>0 by decide,if_true]
   by_cases h:i<0
   ·simp only[h,if_true]<;>omega
   ·simp only[h,if_false]<;>omega
 ·cases hi with
  |none=>simp[sliceBounds,HT.dk]
  |some i=>
   simp only[sliceBounds,HT.dk,Option.getD_none,show (1:Int)>0 by decide,if_true]
   by_cases h:i<0
   ·simp only[h,if_true]<;>omega
   ·simp only[h,if_false]<;>omega
theorem gR (its:CD) (lo hi:Option Int):slicePick its.toArray lo hi none=((its.drop (HT.dk its.length 0 lo)).take (HT.dk its.length its.length hi-HT.dk its.length 0 lo)).toArray:=by
 obtain ⟨h1,h2,h3⟩:=iT lo hi its.toArray.size;unfold slicePick;rw[h1,h2,h3];simp only[sliceRange_one,pick_run,AW]<;>rfl
def xB (K:A4):V->Option Int->Option Int->Hp->VK->Prop:=fun x lo hi H Q=>∃a xs,x= .ref a/\aP K H a xs/\∀p,H p=none->Q (.ref p) (aL H p (.lst (fT xs lo hi)))
theorem si:xz X (xB X.K):=by
 intro pins s σ H x v vl vu lo hi sl Q I rx hs pl pu h;obtain ⟨a,xs,rfl,hx,q⟩:=h;cases rx;obtain ⟨its,r,ht,hz⟩:=I.list hx;have hlen:=r.length;refine ⟨"list",_,slot_list_getitem.lookup,ht.isList.typeIs,?_⟩;refine wpAny_getItem_list_slice ht.isList hs pl pu .none (by simp) ?_ (by rw[AW]<;>omega)
 rw[gR,<-hlen];refine ⟨.ref s.heap.objs.size,_,I.laid (t':=s.toks) (o:= .lst (fT xs lo hi)) (fun b ob q=>Heap.get?_push_of_some _ q) (A7 _) ?_,rfl,q _ (I.hok.fresh (A7 _))⟩
 exact ⟨B4 (fH xs lo hi) hz,_,0,(r.drop (HT.dk xs.length 0 lo)).take (HT.dk xs.length xs.length hi-HT.dk xs.length 0 lo),Heap.get?_push_size _ rfl⟩
def d9:V->Bool
 | .non=>true
 | .bl _=>true
 | .int _=>true
 | .str _=>true
 |_=>false
def tT:V->V->Bool
 | .non,.non=>true
 | .bl a,.bl b=>a==b
 | .bl a,.int b=>(if a then 1 else 0)==b
 | .int a,.bl b=>a==(if b then 1 else 0)
 | .int a,.int b=>a==b
 | .str a,.str b=>a==b
 |_,_=>false
theorem uC {A:Around} {s:Shared} {y x:V} {u v:Value} (ry:RelV y u) (rx:RelV x v) (fy:d9 y=true) (fx:d9 x=true):SeqAt.EqAt A s u v (tT y x):=by
 cases y with
 |non=>
  cases ry;cases x with
  |non=>cases rx;exact SeqAt.EqAt.same _
  |bl b=>cases rx;exact SeqAt.EqAt.none_bool b
  |int b=>obtain ⟨t,rfl⟩:=rx;exact SeqAt.EqAt.none_int b t
  |str b=>obtain ⟨t,rfl⟩:=rx;exact SeqAt.EqAt.none_str b t
  |_=>exact absurd (show false=true from fx) AV
 |bl a=>
  cases ry;cases x with
  |non=>cases rx;exact SeqAt.EqAt.bool_none a
  |bl b=>cases rx;exact SeqAt.EqAt.bool_bool a b
  |int b=>obtain ⟨t,rfl⟩:=rx;exact SeqAt.EqAt.bool_int a b t
  |str b=>obtain ⟨t,rfl⟩:=rx;exact SeqAt.EqAt.bool_str a b t
  |_=>exact absurd (show false=true from fx) AV
 |int a=>
  obtain ⟨t',rfl⟩:=ry;cases x with
  |non=>cases rx;exact SeqAt.EqAt.int_none a t'
  |bl b=>cases rx;exact SeqAt.EqAt.int_bool a t' b
  |int b=>obtain ⟨t,rfl⟩:=rx;exact SeqAt.EqAt.int_int a t' b t
  |str b=>obtain ⟨t,rfl⟩:=rx;exact SeqAt.EqAt.int_str a t' b t
  |_=>exact absurd (show false=true from fx) AV
 |str a=>
  obtain ⟨t',rfl⟩:=ry;cases x with
  |non=>cases rx;exact SeqAt.EqAt.str_none a t'
  |bl b=>cases rx;exact SeqAt.EqAt.str_bool a t' b
  |int b=>obtain ⟨t,rfl⟩:=rx;exact SeqAt.EqAt.str_int a t' b t
  |str b=>obtain ⟨t,rfl⟩:=rx;exact SeqAt.EqAt.str_str a t' b t
  |_=>exact absurd (show false=true from fx) AV
 |_=>exact absurd (show false=true from fy) AV
def sj (x:V) (u:Value):Bool:=match u with
 | .none=>tT .non x
 | .bool b=>tT (.bl b) x
 | .int i _=>tT (.int i) x
 | .str z _=>tT (.str z) x
 |_=>false
theorem qb {x y:V} {u:Value} (r:RelV y u) (f:d9 y=true):sj x u=tT y x:=by
 cases y with
 |non=>cases r;rfl
 |bl b=>cases r;rfl
 |int i=>obtain ⟨t,rfl⟩:=r;rfl
 |str z=>obtain ⟨t,rfl⟩:=r;rfl
 |_=>exact absurd (show false=true from f) AV
theorem iU {x:V}:∀{xs:List V} {us:CD},aM xs us->xs.all d9=true->us.any (sj x)=xs.any fun y=>tT y x
 |_,_,.nil,_=>rfl
 |y::xs,u::us,.cons r t,f=>by
  rw[C6,BP] at f;rw[List.any_cons,List.any_cons,qb r f.1,iU t f.2]
theorem gj {A:Around} {s:Shared} {x:V} {v:Value} (rx:RelV x v) (fx:d9 x=true):∀{xs:List V} {us:CD},aM xs us->xs.all d9=true->∀u∈us,SeqAt.EqAt A s u v (sj x u)
 |_,_,.nil,_=>fun u hu=>by cases hu
 |y::xs,u::us,.cons r t,f=>fun u' hu=>by
  rw[C6,BP] at f;rcases AU.mp hu with rfl|hu
  ·rw[qb r f.1];exact uC r rx f.1 fx
  ·exact gj rx fx t f.2 u' hu
def v3 (x:V) (xs:List V):Bool:=xs.any fun y=>tT y x
def yi (K:A4) (neg:Bool):R2:=fun x y H Q=>∃p xs,y= .ref p/\(aP K H p xs∨bF K H p xs)/\d9 x=true/\xs.all d9=true/\Q (.bl (if neg then !v3 x xs else v3 x xs)) H
theorem iV:dX X (compareOp .NotIn) (yi X.K true):=by
 intro pins s σ H x y v u Q I rx ry h;obtain ⟨p,xs,rfl,hq,fx,fs,q⟩:=h;cases ry;rcases hq with hq|hq
 ·obtain ⟨its,r,pl,hz⟩:=I.list hq;refine SeqAt.notIn_listAt (sj x) pl.isList (fun w hw=>gj rx fx r fs w (by simpa using hw)) ⟨.bl _,H,I,rfl,?_⟩
  rw[show its.toArray.any (sj x)=its.any (sj x) by simp,iU r fs]
  exact q
 ·obtain ⟨its,r,pl,hz⟩:=I.tuple hq;refine SeqAt.notIn_tupleAt (sj x) pl (fun w hw=>gj rx fx r fs w (by simpa using hw)) ⟨.bl _,H,I,rfl,?_⟩
  rw[show its.toArray.any (sj x)=its.any (sj x) by simp,iU r fs]
  exact q
theorem aY:cK X (.builtin "len") (fun xs H Q=>∃p ys,xs= [.ref p]/\(aP X.K H p ys∨bF X.K H p ys)/\Q (.int ys.length) H):=by
 intro pins s σ H xs us Q I r h;obtain ⟨p,ys,rfl,hq,q⟩:=h;obtain ⟨u,rfl,rx⟩:=vals1 r;cases rx;have hn:=gh;rcases hq with hq|hq
 ·obtain ⟨its,r',pl,hz⟩:=I.list hq;have hlen:=r'.length;exact Calls.call_len_list pl.isList (by simp only[AW]<;>omega) ⟨.int ys.length,H,I.tok _,⟨s.toks+1,by rw[AW,hlen]⟩,q⟩
 ·obtain ⟨its,r',pl,hz⟩:=I.tuple hq;have hlen:=r'.length;exact len_tuple pl (by simp only[AW]<;>omega) ⟨.int ys.length,H,I.tok _,⟨s.toks+1,by rw[AW,hlen]⟩,q⟩
theorem bR:cK X (.type "list") (fun xs H Q=>∃p ys,xs= [.ref p]/\(aP X.K H p ys∨bF X.K H p ys)/\∀l,H l=none->Q (.ref l) (aL H l (.lst ys))):=by
 intro pins s σ H xs us Q I r h;obtain ⟨p,ys,rfl,hq,q⟩:=h;obtain ⟨u,rfl,rx⟩:=vals1 r;cases rx;have fin:∀(its:CD),aM ys its->ys.length<=sizeLine->∀(h':Heap) (c':Nat),(∀b o',s.heap.get? b=some o'->h'.get? b=some o')->
   h'.get? s.heap.objs.size=some {cls:= .type "list",dict:=none,data:= .seq its.toArray c',slots:= #[]}->EP X pins σ Q (.ref s.heap.objs.size) {s with heap:=h'}:=fun its r' hz h' c' kp e=>
  ⟨.ref s.heap.objs.size,_,I.laid (t':=s.toks) kp (A7 _) (show bO X.prog X.w _ h' _ (.lst ys) from ⟨hz,its,c',r',e⟩),rfl,q _ (I.hok.fresh (A7 _))⟩
 rcases hq with hq|hq
 ·obtain ⟨its,r',pl,hz⟩:=I.list hq;have hlen:=r'.length;obtain ⟨o,ho,hc,n,hd⟩:=pl.isList;exact call_list_seq p (.inl rfl) ho hc hd (fun h' c' kp e=>fin its r' hz h' c' kp e) (by simp only[AW]<;>omega)
 ·obtain ⟨its,r',pl,hz⟩:=I.tuple hq;have hlen:=r'.length;obtain ⟨o,ho,hc,n,hd⟩:=pl;exact call_list_seq p (.inr rfl) ho hc hd (fun h' c' kp e=>fin its r' hz h' c' kp e) (by simp only[AW]<;>omega)
def yj (K:A4) (T:String) (x:V) (H:Hp):Prop:=match x with
 | .str _=>T= "str"
 | .int _=>T= "int"
 | .ref p=>(T= "list" /\∃xs,aP K H p xs)∨(T= "tuple" /\∃o,K.lookup p=some o/\o.cls= .type "tuple" /\o.dict=none)∨
   (T= "dict" /\((∃kvs,H p=some (.dK kvs))∨∃kvs,H p=some (.dT kvs)))∨(T= "set" /\∃S n,H p=some (.set S n))
 |_=>False
theorem uD {pins:Cz} {σ:St} {H:Hp} {s:Shared} {T:String} {x:V} {v:Value} (I:aB X pins σ H s) (r:RelV x v) (ty:yj X.K T x H):
  s.TypeIs v T/\∀a,v= .ref a->∃ob,s.heap.get? a=some ob/\ob.dict=none:=by
 cases x with
 |str z=>
  obtain ⟨t,rfl⟩:=r;cases (show T= "str" from ty)
  exact ⟨typeIs_str s z t,fun _ e=>nomatch e⟩
 |int i=>
  obtain ⟨t,rfl⟩:=r;cases (show T= "int" from ty)
  exact ⟨typeIs_int s i t,fun _ e=>nomatch e⟩
 |ref p=>
  cases r;rcases ty with ⟨rfl,xs,hq⟩|⟨rfl,o,hk,hc,hd⟩|⟨rfl,hk⟩|⟨rfl,S,n,hk⟩
  ·obtain ⟨its,_,pl,_⟩:=I.list hq;refine ⟨pl.isList.typeIs,fun a e=>?_⟩
   cases e;obtain ⟨o,n,e,c,hd,_⟩:=pl;exact ⟨o,e,hd⟩
  ·refine ⟨⟨o,I.kIn p o hk,hc⟩,fun a e=>?_⟩
   cases e;exact ⟨o,I.kIn _ o hk,hd⟩
  ·have z:∃o,s.heap.get? p=some o/\o.ExactDict:=by
    rcases hk with ⟨kvs,hk⟩|⟨kvs,hk⟩
    ·obtain ⟨_,_,_,_,o,_,_,e,ex,_⟩:=I.hok p _ hk;exact ⟨o,e,ex⟩
    ·obtain ⟨_,_,_,_,o,_,_,e,ex,_⟩:=I.hok p _ hk;exact ⟨o,e,ex⟩
   obtain ⟨o,e,ex⟩:=z;refine ⟨⟨o,e,ex.1⟩,fun a e2=>?_⟩
   cases e2;exact ⟨o,e,ex.2.1⟩
  ·obtain ⟨o,_,_,_,e,ex,_⟩:=I.hok p _ hk;refine ⟨⟨o,e,ex.1⟩,fun a e2=>?_⟩
   cases e2;exact ⟨o,e,ex.2.1⟩
 |_=>exact False.elim ty
def yC (K:A4) (T:String) (r:V->List V->Hp->VK->Prop) (to:TE) (t:TA):TE:=fun σ H Q=>to σ H fun x H1=>yj K T x H1/\t σ H1 fun xs H2=>r x xs H2 Q
variable {o e:Expr} {es:List Expr} {to:TE} {t:TA} {name:Str} {apos cpos:Pos} {T id:String} {r:V->List V->Hp->VK->Prop}
theorem dL (pa:PlainAttrs T) (slot:Slot T name id) (hty:typeOf (.builtin id)=pure (.type "method_descriptor")) (hm:yB X id r) (ho:PE X o to) (ha:PA X (e::es) t)
  (hbase:attributeBase o name X.env (eval o X.env)=eval o X.env:=by rfl)
  (hfew:((backTo cpos (starEach (e::es) X.env)).all (fun x=> !x.1)&&(backToKw cpos (keywordEach [] X.env)).all (fun x=>x.1.isSome)
   &&decide ((e::es).length+([]:List Keyword).length+(if ([]:List Keyword).isEmpty then 0 else 1)<30))=true:=by rfl)
  (hline:(apos.endLine==cpos.line)=true:=by rfl) (hs:starEach (e::es) X.env=(false,eval e X.env)::starEach es X.env:=by rfl) (hplain:(backTo cpos (starEach es X.env)).any (·.1)=false:=by rfl):
  PE X (.Call (.Attribute o name apos) (e::es) [] cpos) (yC X.K T r to t):=by
 intro pins s σ H Q I h;refine wpAny_Call_method_late hbase hfew hline rfl (aZ (ho pins s σ H _ I h) fun v s1 ⟨x,H1,I1,r1,ty,q1⟩=>?_)
 obtain ⟨h1,h2⟩:=uD I1 r1 ty;refine ⟨T,id,pa,slot,hty,h1,h2,?_⟩;have hA:=ha cpos pins s1 σ H1 _ I1 q1;rw[hs] at hA⊢;refine Calls.callWith_builtin (by show (false||(backTo cpos (starEach es X.env)).any (·.1))=false;rw[hplain]<;>rfl) (Calls.evalArgs_plain ?_)
 exact aZ hA fun us s2 ⟨vs,H2,I2,r2,q2⟩=>hm pins s2 σ H2 x vs v us Q I2 r1 r2 q2
end
def yk (X:Cx) (id:String) (r:V->List V->Hp->VK->Prop):Prop:=
 ∀(pins:Cz) (s:Shared) (σ:St) (H:Hp) (x:V) (xs:List V) (v:Value) (us:CD) (Q:VK),aB X pins σ H s->RelV x v->aM xs us->r x xs H Q->
  wpAny (model X.prog X.w) X.A (call (.builtin id) (v::us)) (EP X pins σ Q) X.xe s
theorem aM.one:∀{x:V} {us:CD},aM [x] us->∃u,us= [u]/\RelV x u
 |_,_,.cons r .nil=>⟨_,rfl,r⟩
section
variable {X:Cx} {pins:Cz} {σ:St} {H:Hp} {s:Shared} {l b:Addr} {xs ys zs:List V}
theorem aB.lset {its its':CD} {n:Nat} {f:Array Value->Array Value} {t':Nat} (I:aB X pins σ H s) (hH:H l=some (.lst xs))
  (e:s.heap.get? l=some {cls:= .type "list",data:= .seq its.toArray n}) (hf:f its.toArray=its'.toArray) (hv:aM ys its') (hz:ys.length<=sizeLine):
  aB X pins σ (aL H l (.lst ys)) {s with heap:=s.heap.update l (Obj.mapSeq f),toks:=t'}:=by
 have q:=PySem.IsL.update e f;rw[hf] at q;refine I.write (x:=l) (e:=l) (by rw[hH];exact trivial) (.inl rfl) (fun b' u hb hu=>(Heap.get?_update_other s.heap (Obj.mapSeq f) (Ne.symm hb)).trans hu) ⟨_,q⟩ ?_
 exact ⟨hz,its',_,hv,q⟩
theorem aB.lstM (I:aB X pins σ H s) (hH:H l=some (.lst xs)):xs.length<=sizeLine/\∃(its:CD) (n:Nat),aM xs its/\xs.length=its.length/\s.heap.get? l=some {cls:= .type "list",data:= .seq its.toArray n}:=by
 obtain ⟨z,its,n,r,e⟩:=I.hok l _ hH;exact ⟨z,its,n,r,r.length,e⟩
theorem qc {n:Nat} (h:n<=sizeLine):Builtin.List.listTooLong n=false:=by
 unfold Builtin.List.listTooLong;exact decide_eq_false (by omega)
end
variable {X:Cx}
def su:V->List V->Hp->VK->Prop:=fun x vs H Q=>∃l xs y,x= .ref l/\vs= [y]/\H l=some (.lst xs)/\xs.length<sizeLine/\Q .non (aL H l (.lst (xs++ [y])))
theorem a8:yk X "list.append" su:=by
 intro pins s σ H x vs v us Q I rx rv h;obtain ⟨l,xs,y,rfl,rfl,hH,hz,q⟩:=h;cases rx;obtain ⟨u,rfl,ru⟩:=rv.one;obtain ⟨z,its,n,r,hl,e⟩:=I.lstM hH;refine call_meets F.slot_list_append ⟨_,e,rfl⟩ F.entry_list_append (F.args_list_append_2 _ _) (PySem.list_append l its.toArray n u (by rw[AW];omega)) ⟨e,?_⟩
 refine ⟨.non,_,I.lset (its':=its++ [u]) hH e (by simp) (r.append (.cons ru .nil)) ?_,rfl,q⟩
 rw[AB,List.length_singleton];omega
def sw:V->List V->Hp->VK->Prop:=fun x vs H Q=>∃l b xs zs,x= .ref l/\vs= [.ref b]/\H l=some (.lst xs)/\H b=some (.lst zs)/\xs.length+zs.length<=sizeLine/\Q .non (aL H l (.lst (xs++zs)))
theorem oi:yk X "list.extend" sw:=by
 intro pins s σ H x vs v us Q I rx rv h;obtain ⟨l,b,xs,zs,rfl,rfl,hH,hB,hz,q⟩:=h;cases rx;obtain ⟨u,rfl,ru⟩:=rv.one;cases ru;obtain ⟨z,its,n,r,hl,e⟩:=I.lstM hH;obtain ⟨z2,its2,n2,r2,hl2,e2⟩:=I.lstM hB;have hsz:its.toArray.size+its2.toArray.size<=sizeLine:=by rw[AW,AW];omega
 have hlong:¬(!its.toArray.isEmpty&&Builtin.List.listTooLong (its.toArray.size+its2.toArray.size))=true:=by
  rw[qc hsz,BR];exact AV
 refine call_meets F.slot_list_extend ⟨_,e,rfl⟩ F.entry_list_extend (F.args_list_extend_2 _ _)
  (AutoSeq1.list_extend_list_list_0 l its.toArray n b its2.toArray n2 hlong (by rw[AW];omega) (by omega)) ⟨e,e2,?_⟩
 refine ⟨.non,_,I.lset (its':=its++its2) hH e (by simp) (r.append r2) ?_,rfl,q⟩
 rw[AB];omega
theorem v4 {P:Program} {w:World} {k:Key} {u:Value} (r:RelV (kV k) u):(aq P w).is k u=true:=by
 cases k with
 |inl i=>obtain ⟨t,e⟩:=(show ∃t,u=Value.int i t from r);subst e;exact jw P w i t
 |inr x=>obtain ⟨t,e⟩:=(show ∃t,u=Value.str x t from r);subst e;exact jx P w x t
end L2
namespace Att
open PySem PySem.W PySem.Calls PyProof.Rows
theorem fU {P:Params} {h:Heap}:∀(ns:List Int) (vs:CD),WellAll P h vs (ns.map WData.int)->IntsAre vs ns:=by
 intro ns
 induction ns with
 |nil=>
  intro vs w;rw[List.map_nil] at w;cases w;exact .nil
 |cons n ns ih=>
  intro vs w;rw[Ai] at w;cases w with
  |cons a b=>
   cases a;exact .cons _ _ (ih _ b)
theorem oj {l:OpenLaw} {n:Nat} (hn:l.most=some n) {P:Params} {h:Heap} {args:List WData} {vals:CD}
  (hpre:l.row.toRowW.claim.pre args=true) (hwl:WellAll P h vals args):
  ∃a vs ns,vals= [Value.ref a]/\args= [WData.list (ns.map WData.int)]/\h.get? a=some {cls:= .type "list",data:= .seq vs.toArray}/\IntsAre vs ns/\ns.length<=n:=by
 have hsh:WShape.hasAll [] args [.list .int]=true:=(pre_splitW hpre).1;have hc:l.pre.holds [] {args:=args}=true:=(pre_splitW hpre).2;obtain ⟨d,r,rfl,h1,h2⟩:=hasAllW_cons hsh;obtain rfl:=hasAllW_nil h2;obtain ⟨xs,rfl,h3⟩:=hasW_list h1;obtain ⟨ns,rfl⟩:=items_int h3;have hlen:ns.length<=n:=by
  unfold OpenLaw.pre at hc;have h4:(WTm.not (.lt (.lit (.int (n:Int))) (.len (.arg 0)))).holds [] {args:= [.list (ns.map .int)]}=true:=by
   have h4:=(holds_andW hc).1;rw[hn] at h4;exact h4
  have h5:=condW_of h4 (w_not (w_lt w_lit (w_len_list (w_arg rfl))));rw[A5] at h5;refine Nat.le_of_not_lt fun q=>?_
  have q':(n:Int)<((ns.length:Nat):Int):=by omega
  first
   |(rw[decide_eq_true q'] at h5;exact absurd h5 (by decide))
   |(simp at h5;omega)
 cases hwl with
 |cons w1 w2=>
  cases w2;cases w1 with
  |list ho hall=>exact ⟨_,_,ns,rfl,rfl,ho,fU ns _ hall,hlen⟩
theorem ol (l:OpenLaw) (args:List WData):l.row.toRowW.claim.post args (.bool true) args=true:=
 postW_of (r:=l.row.toRowW) (X:=(true==true))
  (show WShape.has [] (.bool true) .bool=true by first|rfl|decide|simp[WShape.has,WShape.arms,WShape.armsAll])
  (show (WTm.eq .res (.lit (.bool true))).value [] {args:=args,res:=some (.bool true),after:=args}=some (.bool (true==true)) from w_eq_bool (w_res rfl) w_lit) rfl
theorem jI {l:OpenLaw} {n:Nat} {q:Program} {loose:CB} {XP:Cy->Heap->Prop} {YP:World->Heap->Prop} {d:DefRec}
  (hn:l.most=some n) (hdf:d.params.defaults= [])
  (call:∀(w:World) (s₀ s₁:Shared) (mg mb:Cy) (fa:Addr) (o:Obj) (pm cd doc:Value) (a:Addr) (vs:CD) (ns:List Int),
   Ground q loose [] XP w s₀ mg mb s₁.heap->YP w s₁.heap->
   s₁.heap.get? fa=some o->o.data= .func (docDef d.name d.params d.body d.scope pm cd doc)->s₁.heap.CodeRec cd d.name->mg d.name=some (.ref fa)->
   s₁.heap.get? a=some {cls:= .type "list",data:= .seq vs.toArray}->IntsAre vs ns->ns.length<=n->s₁.gens= #[]->
   codeAny (model l.prog w) callerA (.call (.ref fa) ⟨[.ref a],[]⟩) (fun r s'=>r= .ok (.ret (.bool true))/\OldK s₁.heap s'.heap/\s'.os=s₁.os/\AllBare s'.gens) s₁):
  WalkO q loose XP YP l.row.toRowW d [] (fun f vs=>PySem.call f vs):=by
 intro w s₀ s₁ mg mb G Y fa o pm cd doc dV kV ho hd hcd hD hmg hg args vals as hpre hlay hrd hwl hlo;obtain rfl:dV= .none:=Dflts.none hD hdf;obtain rfl:kV= .none:=Dflts.noKw hD;obtain ⟨a,vs,ns,rfl,rfl,hobj,hints,hlen⟩:=oj hn hpre hwl;refine enter_call (codeAny_mono (call w s₀ s₁ mg mb fa o pm cd doc a vs ns G Y ho (fd_plain hd) hcd hmg hobj hints hlen hg) fun r s' hq=>?_)
 obtain ⟨rfl,h2,h3,h4⟩:=hq;exact ⟨.inl ⟨.bool true,.bool true,[],rfl,fun _=>rfl,.bool true,ol l _,fun _=>⟨C2,fun _ hm=>(nomatch hm)⟩⟩,h2,h3,h4⟩
end Att
namespace L2
open PySem PySem.Spec PyProof.Rows
theorem ip:∀{vs:CD} {ns:List Int},IntsAre vs ns->aM (ns.map V.int) vs
 |_,_,.nil=> .nil
 |_,_,.cons n t h=> .cons ⟨t,rfl⟩ (ip h)
def uE (H:Hp):Prop:=∀b,H b=none∨∃o xs,H b=some (.frz o (.lst xs))
theorem qd {P:Program} {w:World} {K:A4} {mg mb:Cy} {CX:lB} {k:Nat} {fa a:Addr} {fd:FuncData} {x:Str} {sp:Sp} {s₁:Shared} {vs:CD} {ns:List Int}
  (KX:K.In s₁.heap) (hns:s₁.heap.Ns mainGlobals mg) (hb:s₁.heap.Ns builtinsNs mb) (hbb:∀x:Str,x≠ "__name__" ->mb x=bootBuiltins x) (hlim:s₁.heap.NoLimit) (hg:s₁.gens= #[])
  (ha:s₁.heap.get? a=some {cls:= .type "list",data:= .seq vs.toArray}) (hi:IntsAre vs ns) (hl:ns.length<=sizeLine) (hr:bx k callerA)
  (F:∀base:Heap,K.In base->base.Ns mainGlobals mg->a7 P w K mg base CX k fa fd [x] sp) (hbind:∀(s:Shared) (u:Value),BindsTo s fd ⟨[u],[]⟩ [(x,u)])
  (hsp:∀H:Hp,uE H->aP K H a (ns.map V.int)->sp [.ref a] H (fun v _=>v= .bl true) fun _ _ _=>False)
  (hCX:∀H e s',CX [] H s₁ (fun _ _ _=>False) e s'->False):
  codeAny (model P w) callerA (.call (.ref fa) ⟨[.ref a],[]⟩) (fun r s'=>r= .ok (.ret (.bool true))/\OldK s₁.heap s'.heap/\s'.os=s₁.os/\AllBare s'.gens) s₁:=by
 have rv:=ip hi;have lenV:=hi.length;have core:∀H:Hp,uE H->aP K H a (ns.map V.int)->dI P w H s₁.heap->(∀b,H b≠none->b=a)->(H a≠none->K.lookup a=none)->
   codeAny (model P w) callerA (.call (.ref fa) ⟨[.ref a],[]⟩) (fun r s'=>r= .ok (.ret (.bool true))/\OldK s₁.heap s'.heap/\s'.os=s₁.os/\AllBare s'.gens) s₁:=by
  intro H hO hS hok hA hK;have base_of:∀{b:Addr} {o:Obj},s₁.heap.get? b=some o->H b=none->(iQ s₁.heap H).get? b=some o:=fun e n=>pO e n
  have noA:∀{b:Addr} {o:Obj} {es:Array DictEntry} {ep:Nat},s₁.heap.get? b=some o->o.data= .dict es ep->H b=none:=fun {b o es ep} e d=>by
   cases q:H b with
   |none=>rfl
   |some u=>
    have e':b=a:=hA b (by rw[q];simp)
    subst e';rw[ha] at e;cases e;have d':Data.seq vs.toArray _=Data.dict es ep:=d;cases d'
  have nsK:∀{b:Addr} {m:Cy},s₁.heap.Ns b m->(iQ s₁.heap H).Ns b m:=fun {b m} ⟨o,es,ep,e,d,r⟩=>⟨o,es,ep,base_of e (noA e d),d,r⟩
  have hKb:K.In (iQ s₁.heap H):=fun b o e=>base_of (KX b o e) (by
   cases q:H b with
   |none=>rfl
   |some u=>
    have e':b=a:=hA b (by rw[q];simp)
    subst e';rw[hK (by rw[q];simp)] at e;cases e)
  have hM:Mod K mg (iQ s₁.heap H):=⟨hKb,nsK hns,⟨mb,nsK hb,hbb⟩,let ⟨mc,h1,h2⟩:=hlim;⟨mc,nsK h1,h2⟩⟩;have e0:lC P w K mg (iQ s₁.heap H) callerA [] s₁ H:=⟨rfl,hM,fun b o e=>rV e,Nat.le_of_eq (nY _ _),trivial,fun b hb=>absurd (show b∈([]:CC) from hb) (by simp),hok,.of_eq hg⟩
  refine codeAny_mono ((F _ hKb (nsK hns)).run callerA [] s₁ H ⟨[.ref a],[]⟩ [.ref a] [.ref a] _ _ hr e0 (hbind s₁ (.ref a)) (.cons rfl .nil) (hsp H hO hS)) fun r s' h=>?_
  cases r with
  |error e=>exact (hCX H e s' h).elim
  |ok fl=>
   cases fl with
   |next=>exact False.elim h
   |brk=>exact False.elim h
   |cont=>exact False.elim h
   |ret u=>
    obtain ⟨v,H',os,bare,un,hok',r',q⟩:=h;have q':v= .bl true:=q;subst q';obtain rfl:u=Value.bool true:=r';refine ⟨rfl,OldK.of_keep fun b o e=>?_,os,bare⟩
    cases q:H b with
    |none=>exact un.keep b o e q (by intro z;exact absurd (show b∈([]:CC) from z) (by simp)) (by simp)
    |some u=>
     rcases hO b with z|⟨ob,xs,z⟩
     ·rw[q] at z;cases z
     ·have z2:=un.frzs b ob _ z;obtain ⟨e1,_⟩:=hok b _ z;obtain ⟨e2,_⟩:=hok' b _ z2;rw[e] at e1;cases e1;exact e2
 cases hk:K.lookup a with
 |some o=>
  have e:=KX a o hk;rw[ha] at e;cases e;refine core (fun _=>none) (fun _=> .inl rfl) (.inr ⟨_,vs.toArray,_,hk,rfl,rfl,rfl,by rw[AW,lenV];exact hl,by simpa using rv⟩) (fun b u z=>by have z':(none:Option HO)=some u:=z;cases z') (fun b z=>absurd rfl z) fun z=>absurd rfl z
 |none=>
  refine core (fun b=>if b=a then some (.frz {cls:= .type "list",data:= .seq vs.toArray} (.lst (ns.map V.int))) else none) (fun b=>?_) (.inl (.inr ⟨{cls:= .type "list",data:= .seq vs.toArray},if_pos rfl⟩)) (fun b u z=>?_) (fun b z=>?_) fun _=>hk
  ·by_cases hb:b=a
   ·exact .inr ⟨_,_,if_pos hb⟩
   ·exact .inl (if_neg hb)
  ·by_cases hb:b=a
   ·have z':=(if_pos hb).symm.trans z;cases z';subst hb;exact ⟨ha,by rw[A5];exact hl,vs,_,rv,ha⟩
   ·have z':=(if_neg hb).symm.trans z;cases z'
  ·by_cases hb:b=a
   ·exact hb
   ·exact absurd (if_neg hb) z
theorem sC {l:PySem.W.OpenLaw} {n k:Nat} {q:Program} {loose:CB} {XP:Cy->Heap->Prop} {YP:World->Heap->Prop} {d:DefRec} {K:Params->A4} {CX:World->lB} {sp:World->Sp} {x:Str}
  (hn:l.most=some n) (hn2:n<=sizeLine) (hdf:d.params.defaults= []) (hr:bx k callerA)
  (hY:∀(w:World) (h:Heap),YP w h->(K w.params).In h)
  (F:∀(w:World) (mg:Cy) (fa:Addr) (h:Heap),(K w.params).In h->h.Ns mainGlobals mg->mg d.name=some (.ref fa)->
   ∃fd:FuncData,(∀(s:Shared) (u:Value),BindsTo s fd ⟨[u],[]⟩ [(x,u)])/\
    ∀base:Heap,(K w.params).In base->base.Ns mainGlobals mg->a7 l.prog w (K w.params) mg base (CX w) k fa fd [x] (sp w))
  (hsp:∀(w:World) (H:Hp) (a:Addr) (ns:List Int),ns.length<=n->uE H->aP (K w.params) H a (ns.map V.int)->sp w [.ref a] H (fun v _=>v= .bl true) fun _ _ _=>False)
  (hCX:∀(w:World) (H:Hp) (s:Shared) (e:Value) (s':Shared),CX w [] H s (fun _ _ _=>False) e s'->False):
  PySem.W.WalkO q loose XP YP l.row.toRowW d [] (fun f vs=>PySem.call f vs):=by
 refine Att.jI hn hdf fun w s₀ s₁ mg mb fa o pm cd doc a vs ns G Y ho hd hcd hmg hobj hints hlen hg=>?_
 have KX:=hY w _ Y;obtain ⟨fd,hb,hF⟩:=F w mg fa _ KX G.T.g hmg;exact qd KX G.T.g G.T.b G.T.builtins G.T.nolimit hg hobj hints (B4 hlen hn2) hr hF hb (fun H hO hS=>hsp w H a ns hlen hO hS) fun H e s'=>hCX w H s₁ e s'
def cx (s:Stmt):Arguments:=match s with
 | .FunctionDef _ a _ _ _ _ _ _ _ _=>a
 |_=>{posonlyargs:= [],args:= [],vararg:=none,kwonlyargs:= [],kw_defaults:= [],kwarg:=none,defaults:= []}
def bS (s:Stmt):List Stmt:=match s with
 | .FunctionDef _ _ b _ _ _ _ _ _ _=>b
 |_=> []
def ar (s:Stmt):Scope:=match s with
 | .FunctionDef _ _ _ _ _ _ sc _ _ _=>sc
 |_=>{kind:= .function,names:= [],isGenerator:=false,isCoroutine:=false}
abbrev ba:lB:=fun _ _ _ _ _ _=>False
abbrev E0:XK:=fun _ _ _=>False
theorem iq {X:Cx}:gi ba X E0:=fun _ _ _ _ _ _ _ h=>h.elim
variable {X:Cx}
theorem pv (i:Nat) {x:Str} {pos:Pos} (hN:X.N[i]?=some x:=by rfl) (hv:xc X.env.scope x:=by first|exact Or.inl rfl|exact Or.inr (Or.inl rfl)|exact Or.inr (Or.inr rfl)) (hd:(x==("__debug__" :Str))=false:=by decide)
  (hcd:(x==("__classdict__" :Str))=false:=by decide):PE X (.Name x pos) (vN i):=uj hN hv hd hcd
theorem eU {A B:Prop} (h:B):if false=true then A else B:=by
 rw[if_neg AV];exact h
theorem om {A B:Prop} (h:A):if true=true then A else B:=by
 rw[if_pos rfl];exact h
def au (H H':Hp):Prop:=∀b o,H b=some o->H' b=some o
theorem au.refl (H:Hp):au H H:=fun _ _ h=>h
theorem au.trans {H H1 H2:Hp} (a:au H H1) (b:au H1 H2):au H H2:=fun c o h=>b c o (a c o h)
theorem au.free {H H':Hp} (e:au H H') {l:Addr} (h:H' l=Option.none):H l=Option.none:=by
 cases q:H l with
 |none=>rfl
 |some o=>
  rw[e l o q] at h;cases h
theorem au.seq {K:A4} {H H':Hp} {a:Addr} {xs:List V} (e:au H H') (h:aP K H a xs):aP K H' a xs:=by
 rcases h with (h|⟨o,h⟩)|h
 ·exact .inl (.inl (e _ _ h))
 ·exact .inl (.inr ⟨o,e _ _ h⟩)
 ·exact .inr h
theorem bv:dX X (binaryOp .Mult) (rI (fun i j=>IntMulOk i j) fun i j=> .int (i*j)):=wX fun _ _ _ _ _ _ _ hc q=>mul_int q hc
theorem aH:dX X (binaryOp .FloorDiv) (rI (fun i j=>j≠0/\Builtin.divisionGoesByPylong i j=false) fun i j=> .int (i.fdiv j)):=wX fun _ _ _ _ _ _ _ hc q=>floordiv_int hc.1 q (.inl hc.2)
theorem mW:dX X (binaryOp .Pow) (rI (fun i j=>0<=j/\(Builtin.Int.intBits i:Int)*j<=2^27) fun i j=> .int (i^j.toNat)):=wX fun _ _ _ _ _ _ _ hc q=>pow_int hc.1 hc.2 q
theorem jJ:cK X (.builtin "isinstance") (fun xs H Q=>∃i,xs= [.int i,.ty "int"]/\Q (.bl true) H):=by
 intro pins s σ H xs us Q I r h;obtain ⟨i,rfl,q⟩:=h;obtain ⟨u,w',rfl,⟨t,rfl⟩,e2⟩:=vals2 r;cases e2;exact PySem.call_isinstance (PySem.isinstance_true (Tx:= "int") PySem.F.isi_meta_int PySem.F.isi_self_int) ⟨rfl,⟨.bl true,H,I,rfl,q⟩⟩
theorem iW:cK X (.builtin "isinstance") (fun xs H Q=>∃i,xs= [.int i,.ty "bool"]/\Q (.bl false) H):=by
 intro pins s σ H xs us Q I r h;obtain ⟨i,rfl,q⟩:=h;obtain ⟨u,w',rfl,⟨t,rfl⟩,e2⟩:=vals2 r;cases e2;exact PySem.call_isinstance (PySem.isinstance_false_int (T:= "bool") (by decide) PySem.F.isi_meta_bool PySem.F.sub_int_bool) ⟨.bl false,H,I.tok _,rfl,q⟩
theorem jK:cK X (.builtin "isinstance") (fun xs H Q=>∃i,xs= [.bl i,.ty "bool"]/\Q (.bl true) H):=by
 intro pins s σ H xs us Q I r h;obtain ⟨i,rfl,q⟩:=h;obtain ⟨u,w',rfl,e1,e2⟩:=vals2 r;cases e1;cases e2;exact PySem.call_isinstance (PySem.isinstance_true (Tx:= "bool") PySem.F.isi_meta_bool PySem.F.isi_self_bool) ⟨rfl,⟨.bl true,H,I,rfl,q⟩⟩
theorem jL:cK X (.builtin "isinstance") (fun xs H Q=>∃a ys,xs= [.ref a,.ty "tuple"]/\bF X.K H a ys/\Q (.bl true) H):=by
 intro pins s σ H xs us Q I r h;obtain ⟨a,ys,rfl,hs,q⟩:=h;obtain ⟨u,w',rfl,e1,e2⟩:=vals2 r;cases e1;cases e2;obtain ⟨its,_,p1,_⟩:=I.tuple hs;exact PySem.call_isinstance (PySem.isinstance_true (Tx:= "tuple") PySem.F.isi_meta_tuple PySem.F.isi_self_tuple) ⟨p1.typeIs,⟨.bl true,H,I,rfl,q⟩⟩
end L2
namespace Sw
open PySem
def Bd (n:Nat) (x:Int):Prop:=x.natAbs<2^n
theorem Bd.mono {m n:Nat} {x:Int} (h:Bd m x) (e:m<=n):Bd n x:=AZ h (Nat.pow_le_pow_right (by decide) e)
theorem Bd.of_le {n:Nat} {x y:Int} (h:Bd n y) (e:x.natAbs<=y.natAbs):Bd n x:=Bj e h
theorem Bd.neg {n:Nat} {x:Int} (h:Bd n x):Bd n (-x):=h.of_le (by omega)
theorem Bd.mul {m n:Nat} {x y:Int} (h:Bd m x) (g:Bd n y):Bd (m+n) (x*y):=by
 unfold Bd at*;rw[Int.natAbs_mul,Nat.pow_add];exact Nat.mul_lt_mul_of_lt_of_le h (Nat.le_of_lt g) (Bj (Ar _) g)
theorem Bd.add {k:Nat} {x y:Int} (h:Bd k x) (g:Bd k y):Bd (k+1) (x+y):=by
 unfold Bd at*;rw[C0];generalize 2^k=p at h g⊢;omega
theorem Bd.ok {m n:Nat} {x y:Int} (h:Bd m x) (g:Bd n y) (e:m+n<=134217728:=by decide):IntMulOk x y:=
 IntMulOk.of_le (intBits_le_iff.mpr h) (intBits_le_iff.mpr g) e
theorem Bd.div {n:Nat} {x y:Int} (h:Bd n y) (y0:y≠0) (e:n<=9000:=by decide):Builtin.divisionGoesByPylong x y=false:=by
 refine PyProof.noPylong_of_log2 ((Nat.log2_lt (by omega)).mpr ?_)
 exact AZ h (Nat.pow_le_pow_right (by decide) e)
theorem Bd.one:Bd 1 1:=by unfold Bd;decide
def bJ (a b:Int):Int:=((Int.gcd a b:Nat):Int)
theorem sD (a b:Int):0<=bJ a b:=Int.natCast_nonneg _
theorem lG (a b:Int):bJ (-a) b=bJ a b:=by unfold bJ;rw[Int.neg_gcd]
theorem lH (a b:Int):bJ a (-b)=bJ a b:=by unfold bJ;rw[Int.gcd_neg]
theorem oo {g l:Int} (hl:0<l):bJ l (g.fmod l)=bJ g l:=by
 unfold bJ;have e:g.fmod l=g-(g.fdiv l)*l:=by rw[Int.fmod_def,Int.mul_comm]
 rw[e,Int.gcd_comm l,Int.gcd_sub_mul_right_left]
def qe (i:Int):Int:=if i<0 then-i else i
theorem mX (i:Int):0<=qe i:=by unfold qe;split<;>omega
theorem qf (a b:Int):bJ (qe a) (qe b)=bJ a b:=by
 unfold qe
 split<;>split<;>simp only[lG,lH]
theorem oq {g:Int} (h:0<=g):bJ g 0=g:=by
 unfold bJ;rw[Int.gcd_zero_right];omega
theorem ee {a b:Int} (h:bJ a b=0):a=0/\b=0:=by
 unfold bJ at h;exact Int.gcd_eq_zero_iff.mp (by omega)
theorem gk (a b:Int):bJ a b∣a:=Int.gcd_dvd_left ..
theorem dP (a b:Int):bJ a b∣b:=Int.gcd_dvd_right ..
structure Fr (p q a b:Int):Prop where
 pos:0<q
 low:bJ p q=1
 same:p*b=a*q
 bt:p.natAbs<=a.natAbs
 bb:q.natAbs<=b.natAbs
def ir (a b:Int):Int:=if b<0 then-bJ a b else bJ a b
theorem qg {a b:Int} (h:b≠0):ir a b≠0:=by
 have g:bJ a b≠0:=fun z=>h (ee z).2
 unfold ir;split<;>omega
theorem v5 {a b:Int} (h:b≠0):Fr (a.fdiv (ir a b)) (b.fdiv (ir a b)) a b:=by
 have g:bJ a b≠0:=fun z=>h (ee z).2
 have p:0<bJ a b:=by have:=sD a b;omega
 have c0:=qg (a:=a) h;have da:ir a b∣a:=by
  unfold ir;split
  ·exact Int.neg_dvd.mpr (gk a b)
  ·exact gk a b
 have db:ir a b∣b:=by
  unfold ir;split
  ·exact Int.neg_dvd.mpr (dP a b)
  ·exact dP a b
 obtain ⟨x,hx⟩:=da;obtain ⟨y,hy⟩:=db;have ex:a.fdiv (ir a b)=x:=by
  conv=>lhs;arg 1;rw[hx]
  exact Int.mul_fdiv_cancel_left x c0
 have ey:b.fdiv (ir a b)=y:=by
  conv=>lhs;arg 1;rw[hy]
  exact Int.mul_fdiv_cancel_left y c0
 rw[ex,ey];have yp:0<y:=by
  have e:=hy;unfold ir at e;rcases (by omega:y<0∨y=0∨0<y) with q|q|q
  ·exfalso
   split at e
   ·rename_i hb;have:=Int.mul_neg_of_pos_of_neg p q;rw[Int.neg_mul] at e;omega
   ·have:=Int.mul_neg_of_pos_of_neg p q;omega
  ·rw[q] at hy;omega
  ·exact q
 have lowx:bJ x y=1:=by
  have m:bJ (ir a b*x) (ir a b*y)=bJ a b*bJ x y:=by
   show ((Int.gcd _ _:Nat):Int)=_*((Int.gcd x y:Nat):Int);rw[Int.gcd_mul_left,Int.natCast_mul]
   congr 1
   unfold ir;split<;>omega
  rw[<-hx,<-hy] at m;exact Int.eq_one_of_mul_eq_self_right g m.symm
 refine ⟨yp,lowx,?_,?_,?_⟩
 ·conv=>lhs;rw[hy]
  conv=>rhs;rw[hx]
  rw[<-Int.mul_assoc,Int.mul_comm x]
 ·have:a.natAbs=(ir a b).natAbs*x.natAbs:=by conv=>lhs;rw[hx];rw[Int.natAbs_mul]
  rw[this];exact Nat.le_mul_of_pos_left _ (by omega)
 ·have:b.natAbs=(ir a b).natAbs*y.natAbs:=by conv=>lhs;rw[hy];rw[Int.natAbs_mul]
  rw[this];exact Nat.le_mul_of_pos_left _ (by omega)
end Sw
namespace L2
open PySem
inductive v6 (K:A4) (H:Hp):V->String->Bool->Prop where
 |ii (i:Int):v6 K H (.int i) "int" true
 |ib (i:Int):v6 K H (.int i) "bool" false
 |bb (b:Bool):v6 K H (.bl b) "bool" true
 |tt (a:Addr) (ys:List V) (h:bF K H a ys):v6 K H (.ref a) "tuple" true
theorem jM {X:Cx}:cK X (.builtin "isinstance") (fun xs H Q=>∃x T b,xs= [x,.ty T]/\v6 X.K H x T b/\Q (.bl b) H):=by
 intro pins s σ H xs us Q I r h;obtain ⟨x,T,b,rfl,i,q⟩:=h;cases i with
 |ii i=>exact jJ pins s σ H _ us Q I r ⟨i,rfl,q⟩
 |ib i=>exact iW pins s σ H _ us Q I r ⟨i,rfl,q⟩
 |bb i=>exact jK pins s σ H _ us Q I r ⟨i,rfl,q⟩
 |tt a ys h=>exact jL pins s σ H _ us Q I r ⟨a,ys,rfl,h,q⟩
end L2
namespace Sw
open PySem L2
theorem dT {p A B:Prop} [Decidable p] (h:p) (a:A):if decide p=true then A else B:=by rw[if_pos (decide_eq_true h)];exact a
theorem dF {p A B:Prop} [Decidable p] (h:¬p) (b:B):if decide p=true then A else B:=by rw[if_neg (by simp[h])];exact b
theorem d2 {p A B:Prop} [Decidable p] (h1:p->A) (h2:¬p->B):if decide p=true then A else B:=by
 by_cases h:p
 ·exact dT h (h1 h)
 ·exact dF h (h2 h)
theorem nT {p A B:Prop} [Decidable p] (h:¬p) (a:A):if (!decide p)=true then A else B:=by rw[if_pos (by simp[h])];exact a
theorem nF {p A B:Prop} [Decidable p] (h:p) (b:B):if (!decide p)=true then A else B:=by rw[if_neg (by simp[h])];exact b
theorem vi {a b:Int} (h:a=b):V.int a=V.int b:=by rw[h]
theorem vj {a b:Int} (h:V.int a=V.int b):a=b:=by cases h;rfl
theorem rP {a b:Int} {A B:Prop} (h1:a=b->A) (h2:a≠b->B):if decide (V.int a=V.int b)=true then A else B:=d2 (fun h=>h1 (vj h)) fun h=>h2 fun e=>h (vi e)
theorem yD {a b:Int} {A B:Prop} (h1:a≠b->A) (h2:a=b->B):if (!decide (V.int a=V.int b))=true then A else B:=by
 by_cases h:a=b
 ·exact nF (vi h) (h2 h)
 ·exact nT (fun e=>h (vj e)) (h1 h)
theorem yE {a b:Int} {A B:Prop} (h:a≠b) (x:B):if decide (V.int a=V.int b)=true then A else B:=dF (fun e=>h (vj e)) x
def tU:Sp:=fun vs H Q _=>∃a b:Int,vs= [.int a,.int b]/\Q (.int (bJ a b)) H
def lI (K:A4):Sp:=fun vs H Q _=>∃(a:Addr) (ns:List Int) (k:Int),vs= [.ref a,.int k]/\aP K H a (ns.map V.int)/\0<=k/\∀v:Int,Q (.int v) H
def mY:Sp:=fun vs H Q _=>∃v:Int,vs= [.int v]/\Q (.bl true) H
def mZ (K:A4):Sp:=fun vs H Q _=>∃(a:Addr) (ns:List Int),vs= [.ref a]/\aP K H a (ns.map V.int)/\ns.length<=63/\∀H',Q (.bl true) H'
theorem sE {ns:List Int} {k:Int} (h0:0<=k) (h:k<(((ns.map V.int).length:Nat):Int)):∃v:Int,d8 (ns.map V.int) k=some (.int v):=by
 rw[A5] at h;have hk:k.toNat<ns.length:=by omega
 have ek:k=((k.toNat:Nat):Int):=by omega
 have q:d8 (ns.map V.int) ((k.toNat:Nat):Int)=some (.int ns[k.toNat]):=bI (by rw[A9,A0 hk]<;>rfl)
 rw[<-ek] at q;exact ⟨_,q⟩
theorem cut {t u:TS} {D:Ends} {σ:L2.St} {H:Hp} (I:L2.St->Hp->Prop) (h1:∀N:L2.St->Hp->Prop,(∀σ H,I σ H->N σ H)->t {D with nx:=N} σ H) (h2:∀σ H,I σ H->u D σ H):jA t u D σ H:=h1 _ h2
theorem v7 {K:A4} {H H':Hp} {a:Addr} {xs:List V} (e:au H H') (h:bF K H a xs):bF K H' a xs:=by
 rcases h with (h|⟨o,h⟩)|h
 ·exact .inl (.inl (e _ _ h))
 ·exact .inl (.inr ⟨o,e _ _ h⟩)
 ·exact .inr h
theorem ao {H:Hp} {p:Addr} (h:H p=none) (o:HO):au H (aL H p o):=fun b u q=>by rw[am (aF q h)];exact q
theorem uF {n:Nat} {a b:Int} (b0:b≠0) (h:Bd n b):Bd n (ir a b):=by
 have d:bJ a b∣b:=dP a b;have k:=Nat.le_of_dvd (by omega) (Int.natAbs_dvd_natAbs.mpr d)
 refine h.of_le ?_;unfold ir
 split<;>omega
def Pair (H:Hp) (Q:VK) (p q:Int):Prop:=∀(t:Addr) (H':Hp),au H H'->H' t=some (.tup [.int p,.int q])->Q (.ref t) H'
def lJ:Sp:=fun vs H Q _=>∃a b:Int,vs= [.int a,.int b]/\b≠0/\Bd 8500 b/\∀p q:Int,Fr p q a b->Pair H Q p q
structure bX (K:A4) (n:Nat) (H:Hp) (t:Addr) (p q:Int):Prop where
 at_:bF K H t [.int p,.int q]
 pos:0<q
 bp:Bd n p
 bq:Bd n q
theorem bX.same {K:A4} {n:Nat} {H H':Hp} {t:Addr} {p q:Int} (h:bX K n H t p q) (e:au H H'):bX K n H' t p q:=⟨v7 e h.at_,h.pos,h.bp,h.bq⟩
theorem bX.mono {K:A4} {m n:Nat} {H:Hp} {t:Addr} {p q:Int} (h:bX K m H t p q) (e:m<=n):bX K n H t p q:=⟨h.at_,h.pos,h.bp.mono e,h.bq.mono e⟩
theorem bX.of {K:A4} {n:Nat} {H:Hp} {t:Addr} {p q a b:Int} (f:Fr p q a b) (ha:Bd n a) (hb:Bd n b) (e:H t=some (.tup [.int p,.int q])):bX K n H t p q:=⟨bF.of e,f.pos,ha.of_le f.bt,hb.of_le f.bb⟩
def uG (K:A4):Sp:=fun vs H Q _=>∃(t:Addr) (p q:Int),vs= [.ref t]/\bX K 8000 H t p q/\Q (.int (-((-p).fdiv q))) H
theorem jN {p q:Int} (h:0<q):p.fdiv q*q<=p/\p<(p.fdiv q+1)*q:=by
 have e:=Int.fmod_def p q;have h1:=AJ p h;have h2:=AY p h;have e2:p.fdiv q*q=q*p.fdiv q:=Int.mul_comm ..;have e3:(p.fdiv q+1)*q=q*p.fdiv q+q:=by rw[Int.add_mul,e2,Int.one_mul]
 omega
theorem iu {p q:Int} (h:0<q):p<= -((-p).fdiv q)*q/\(-((-p).fdiv q)-1)*q<p:=by
 have b:=jN (p:= -p) h;have e1: -((-p).fdiv q)*q= -((-p).fdiv q*q):=Int.neg_mul ..;have e2:(-((-p).fdiv q)-1)*q= -(((-p).fdiv q+1)*q):=by rw[<-Int.neg_mul];congr 1;omega
 omega
theorem m7 {n:Nat} {p q:Int} (h:Bd n p):Bd n (p.fdiv q):=h.of_le (natAbs_fdiv_le p q)
structure a9 (K:A4) (x qual:Str) (st:Stmt) (dV:Value) (f:Addr) (fd:FuncData):Prop where
 ex:∃(oc:Value) (od:CF) (kV doc pm:Value) (an:CF) (cdv ct:Value) (osl:CA),
  fd=BB x qual (cx st) (bS st) (ar st) dV kV doc pm an cdv ct/\K.lookup f=some ⟨oc,od,.func fd,osl⟩/\PySem.W.codeIn K cdv qual=true
 kp:BC K (.ref f)=true
section
variable {P:Program} {w:World} {K:A4} {mg:Cy} {base:Heap}
theorem a9.ok {x qual:Str} {st:Stmt} {dV:Value} {f:Addr} {fd:FuncData} {N ps:CB} {k:Nat} {sp:Sp} (F:a9 K x qual st dV f fd) (S:aD N ps (ar st)) (len:∀vs H Q E,sp vs H Q E->vs.length=ps.length)
  (hbody:∀(cdv:Value) (A:Around) (outer:List Env) (s:Shared) (H:Hp) (vs:List V) (Q:VK) (E:XK),bx k (A.deeper (PyProof.Rows.envOfC qual (ar st) s.heap.objs.size f cdv))->sp vs H Q E->
   ∃t,hU (fS ba P w K mg base N qual (ar st) f cdv A outer s H E).nox (bS st) t/\t {nx:=fun _ H'=>Q .non H',rt:=Q} (start N vs) H):a7 P w K mg base ba (k+1) f fd ps sp:=by
 obtain ⟨oc,od,kV,doc,pm,an,cdv,ct,osl,rfl,lk,hcd⟩:=F.ex;refine tR lk hcd S len fun A outer s H vs Q E hr hsp=>?_
 obtain ⟨t,h,q⟩:=hbody cdv A outer s H vs Q E hr hsp;exact ⟨t,h.nox,q⟩
theorem a9.binds {x qual:Str} {st:Stmt} {T:Addr} {f:Addr} {fd:FuncData} {ps:CB} {o:Obj} {items:Array Value} {n:Nat} {ds:CD} (F:a9 K x qual st (.ref T) f fd) (ho:K.lookup T=some o) (hs:o.data= .seq items n)
  (h:∀(kV doc pm:Value) (an:CF) (cdv ct:Value) (us:CD),(us++ds).length=ps.length->∃k:Option (Array Value)->Sem (List (Str×Value)),bindArgs (BB x qual (cx st) (bS st) (ar st) (.ref T) kV doc pm an cdv ct) ⟨us,[]⟩=seqItems? (.ref T)>>=k/\k (some items)=pure (ps.zip (us++ds))):Binds K fd ps ds:=by
 obtain ⟨oc,od,kV,doc,pm,an,cdv,ct,osl,rfl,lk,hcd⟩:=F.ex;intro s us KX hl;obtain ⟨k,h1,h2⟩:=h kV doc pm an cdv ct us hl;exact PySem.W.binds_K KX rfl ho hs h1 h2
theorem a9.binds0 {x qual:Str} {st:Stmt} {dV:Value} {f:Addr} {fd:FuncData} {ps:CB} (F:a9 K x qual st dV f fd)
  (h:∀(kV doc pm:Value) (an:CF) (cdv ct:Value) (us:CD),us.length=ps.length->bindArgs (BB x qual (cx st) (bS st) (ar st) dV kV doc pm an cdv ct) ⟨us,[]⟩=pure (ps.zip us)):Binds K fd ps []:=by
 obtain ⟨oc,od,kV,doc,pm,an,cdv,ct,osl,rfl,lk,hcd⟩:=F.ex;exact .all (h kV doc pm an cdv ct)
theorem dB {x qual:Str} {st:Stmt} {f:Addr} {oc dV:Value} {od an:CF} {osl:CA} {kV doc pm cdv ct:Value} (l:K.lookup f=some ⟨oc,od,.func (BB x qual (cx st) (bS st) (ar st) dV kV doc pm an cdv ct),osl⟩)
  (c:PySem.W.codeIn K cdv qual=true) (k:BC K (.ref f)=true):a9 K x qual st dV f (BB x qual (cx st) (bS st) (ar st) dV kV doc pm an cdv ct):=⟨⟨oc,od,kV,doc,pm,an,cdv,ct,osl,rfl,l,c⟩,k⟩
end
def lL (K:A4):Sp:=fun vs H Q _=>∃(t t':Addr) (p q p' q':Int),vs= [.ref t,.ref t']/\bX K 4000 H t p q/\bX K 4000 H t' p' q'/\∀r s:Int,Fr r s (p*p') (q*q')->Pair H Q r s
def qh (K:A4):Sp:=fun vs H Q _=>∃(t t':Addr) (p q p' q':Int),vs= [.ref t,.ref t']/\bX K 4000 H t p q/\bX K 4000 H t' p' q'/\p'≠0/\∀r s:Int,Fr r s (p*q') (q*p')->Pair H Q r s
theorem uH {x y k:Int} (h:x*k=y*k) (k0:k≠0):x=y:=Int.eq_of_mul_eq_mul_right k0 h
theorem uI {x y:Int} (h:0<x) (g:0<y):x*y≠0:=by have:=Int.mul_pos h g;omega
end Sw
namespace XH
open PySem
structure Mv (fs ch:CC) (h h':Heap):Prop where
 keep:∀b o,b∉fs->b∉ch->h.get? b=some o->h'.get? b=some o
 slot:∀b o,b∈fs->b∉ch->h.get? b=some o->∃sl,h'.get? b=some {o with slots:=sl}
 there:∀b o,h.get? b=some o->∃o',h'.get? b=some o'
theorem Mv.refl (fs ch:CC) (h:Heap):Mv fs ch h h:=⟨fun _ _ _ _ q=>q,fun _ o _ _ q=>⟨o.slots,q⟩,fun _ o q=>⟨o,q⟩⟩
theorem Mv.trans {fs c1 c2 ch:CC} {h h1 h2:Heap} (x:Mv fs c1 h h1) (y:Mv fs c2 h1 h2) (k1:∀b,b∈c1->b∈ch) (k2:∀b,b∈c2->b∈ch):Mv fs ch h h2 where
 keep:=fun b o hf hc q=>y.keep b o hf (fun z=>hc (k2 b z)) (x.keep b o hf (fun z=>hc (k1 b z)) q)
 slot:=fun b o hf hc q=>by
  obtain ⟨sl,q1⟩:=x.slot b o hf (fun z=>hc (k1 b z)) q
  obtain ⟨sl2,q2⟩:=y.slot b _ hf (fun z=>hc (k2 b z)) q1
  exact ⟨sl2,q2⟩
 there:=fun b o q=>by
  obtain ⟨o1,q1⟩:=x.there b o q;exact y.there b o1 q1
inductive tV where
 |new
 |fl (v:Value)
def tV.Is (F:Addr->Prop) (h:Heap) (e:Addr) (vs:Array Value):tV->Prop
 | .new=>vs[1]?=some .none
 | .fl v=>∃T oT ts,vs[1]?=some (.ref T)/\F T/\T≠e/\h.get? T=some oT/\oT.data= .fields ts/\ts[3]?=some v
def Fz (vs:Array Value):Prop:=1<vs.size/\vs[2]?=some .none
theorem Fz.set {vs:Array Value} (h:Fz vs) (v:Value):Fz (vs.setIfInBounds 1 v):=⟨by simpa using h.1,by rw[Array.getElem?_setIfInBounds];simp[h.2]⟩
structure XO (F:Addr->Prop) (h:Heap) (e:Addr) (cls:Value) (dx:CF) (st:tV):Prop where
 ex:∃oe vs,h.get? e=some oe/\oe.cls=cls/\oe.dict=dx/\oe.data= .fields vs/\Fz vs/\st.Is F h e vs
 fr:F e
theorem XO.mono {F G:Addr->Prop} {h:Heap} {e:Addr} {cls:Value} {dx:CF} {st:tV} (x:XO F h e cls dx st) (k:∀b,F b->G b):XO G h e cls dx st:=by
 obtain ⟨⟨oe,vs,a,b,c,d,f,g⟩,fr⟩:=x;refine ⟨⟨oe,vs,a,b,c,d,f,?_⟩,k _ fr⟩;cases st with
 |new=>exact g
 |fl v=>
  obtain ⟨T,oT,ts,g1,g2,g3⟩:=g;exact ⟨T,oT,ts,g1,k _ g2,g3⟩
theorem iw (o:Obj) (f:Array Value->Array Value):(o.mapFields f).dict=o.dict:=by
 obtain ⟨c,d,dt,sl⟩:=o;cases dt<;>rfl
section
variable {M:Model} {A:Around} {E:Cw} {s:Shared}
theorem jO {base:Heap} {env:Env} {outer:List Env} {L e:Addr} {oe:Obj} {vs:Array Value} {head:Value} {had:Bool} {Q:Unit->Shared->Prop}
  (hfr:A.frames=some (env::outer)) (hl:s.heap.FunFrames base (env::outer)) (hf:env.frame=some L) (he:s.heap.get? e=some oe) (hd:oe.data= .fields vs) (hsz:1<vs.size)
  (h:∀h' T,Mv ((env::outer).filterMap (·.frame)) [e] s.heap h'->s.heap.get? T=none->T≠e->h'.get? e=some (oe.mapFields (·.setIfInBounds 1 (.ref T)))->
   (∃oT ts,h'.get? T=some oT/\oT.data= .fields ts/\ts[3]?=some (rawInt L))->Q () {s with heap:=h'}):
  wpAny M A (do let a<-frameOf env;let pl<-entryPlaceOf L had;let b<-EntryCells.newEntry head a .none (rawInt L) .none pl;setField (.ref e) 1 b) Q E s:=by
 have hne:e∉(env::outer).filterMap (·.frame):=by
  intro hm;obtain ⟨_,o,ho,hnf⟩:=hl.mem hm;rw[he] at ho;cases ho;exact hnf vs hd
 apply wpAny_bind;apply wpAny_frameOf_fun hfr hl hf;intro h1 hs;apply wpAny_bind;apply wpAny_entryPlaceOf;intro pl hpl;unfold EntryCells.newEntry newFields;apply wpAny_bind;refine wpAny_newObj_type ?_ (hpl.sizeOk5 ..);have e1:h1.get? e=some oe:=(hs.2.1 e hne).trans he;generalize hob:({cls:= .type "traceback",dict:=none,data:= .fields ([head,.ref L,.none,rawInt L,.none]++(if pl.isEmpty then List.replicate 6 Value.none else pl)).toArray}:Obj)=ob
 have e2:=Heap.get?_push_of_some (h:=h1) ob e1;refine wpAny_setField e2 hd hsz ?_;have hTe:h1.objs.size≠e:=Nat.ne_of_gt (Heap.lt_size e1);have d3:=Obj.data_mapFields hd (·.setIfInBounds 1 (Value.ref h1.objs.size));have e3:=Heap.get?_update_self (Obj.mapFields (·.setIfInBounds 1 (Value.ref h1.objs.size))) e2 (Obj.isFreed_of_fields d3);have kp:∀b o,b≠e->h1.get? b=some o->((h1.push ob).update e (Obj.mapFields (·.setIfInBounds 1 (Value.ref h1.objs.size)))).get? b=some o:=by
  intro b o hb q;rw[Heap.get?_update_other _ _ (Ne.symm hb)];exact Heap.get?_push_of_some _ q
 have t3:((h1.push ob).update e (Obj.mapFields (·.setIfInBounds 1 (Value.ref h1.objs.size)))).get? h1.objs.size=some ob:=by
  rw[Heap.get?_update_other _ _ (Ne.symm hTe)];exact Heap.get?_push_size h1 (by rw[<-hob];rfl)
 refine h _ h1.objs.size ⟨?_,?_,?_⟩ ?_ hTe e3 ?_
 ·intro b o hb hc q;exact kp b o (fun z=>hc (by rw[z];exact AS.mpr rfl)) ((hs.2.1 b hb).trans q)
 ·intro b o hb hc q;obtain ⟨sl,q1⟩:=hs.2.2 b o q;exact ⟨sl,kp b _ (fun z=>hc (by rw[z];exact AS.mpr rfl)) q1⟩
 ·intro b o q
  by_cases hb:b=e
  ·subst hb;exact ⟨_,e3⟩
  ·obtain ⟨sl,q1⟩:=hs.2.2 b o q;exact ⟨_,kp b _ hb q1⟩
 ·exact Heap.get?_none_of_le (by rw[hs.1];exact A7 _)
 ·subst hob;refine ⟨_,_,t3,rfl,?_⟩;rcases hpl with rfl|⟨_,_,_,_,_,_,_,rfl⟩<;>simp
theorem ou {F:Addr->Prop} {e:Addr} {cls v:Value} {dx fl:CF} {Q:Unit->Shared->Prop} (x:XO F s.heap e cls dx (.fl v))
  (h:∀h' T,F T->Mv [] [T] s.heap h'->XO F h' e cls dx (.fl (fl.elim .none fun f=>rawInt f))->Q () {s with heap:=h'}):wpAny M A (setFlight (.ref e) fl) Q E s:=by
 obtain ⟨⟨oe,vs,he,hc,hdx,hd,hsz,T,oT,ts,h1,hF,hTe,hT,hdT,h3⟩,fr⟩:=x;have z3:3<ts.size:=(Aj.mp h3).1;have oth:∀b,b≠T->(s.heap.update T (Obj.mapFields (·.setIfInBounds 3 (fl.elim Value.none fun f=>rawInt f)))).get? b=s.heap.get? b:=fun b hb=>Heap.get?_update_other _ _ (Ne.symm hb)
 have t4:=Heap.get?_update_self (Obj.mapFields (·.setIfInBounds 3 (fl.elim Value.none fun f=>rawInt f))) hT (Obj.isFreed_of_fields (Obj.data_mapFields hdT _))
 unfold setFlight;apply wpAny_bind;apply wpAny_field he hd h1;rw[if_pos (by simp)]
 apply wpAny_setField hT hdT z3;refine h _ T hF ⟨?_,fun b o hb=>absurd hb (by simp),?_⟩ ⟨⟨oe,vs,(oth e (Ne.symm hTe)).trans he,hc,hdx,hd,hsz,T,_,_,h1,hF,hTe,t4,Obj.data_mapFields hdT _,by simp[z3]⟩,fr⟩
 ·intro b o _ hb q;exact (oth b (fun z=>hb (by rw[z];exact AS.mpr rfl))).trans q
 ·intro b o q
  by_cases hb:b=T
  ·subst hb;exact ⟨_,t4⟩
  ·exact ⟨o,(oth b hb).trans q⟩
theorem sF {F:Addr->Prop} {base:Heap} {env:Env} {outer:List Env} {L e:Addr} {cls:Value} {dx:CF} {st:tV} {Q:Unit->Shared->Prop}
  (hfr:A.frames=some (env::outer)) (hl:s.heap.FunFrames base (env::outer)) (hf:env.frame=some L) (x:XO F s.heap e cls dx st)
  (h:∀h' ch,(∀b∈ch,F b)->Mv ((env::outer).filterMap (·.frame)) ch s.heap h'->XO (fun b=>F b∨s.heap.get? b=none) h' e cls dx (.fl (rawInt L))->Q () {s with heap:=h'}):wpAny M A (noteFrame (.ref e) env) Q E s:=by
 obtain ⟨⟨oe,vs,he,hc,hdx,hd,hsz,hst⟩,fr⟩:=x;unfold noteFrame;simp only[hf];cases st with
 |new=>
  apply wpAny_bind;apply wpAny_field he hd hst;rw[if_neg (by decide)]
  refine jO hfr hl hf he hd hsz.1 fun h' T mv tn tne he' ⟨oT,ts,hT,hdT,h3⟩=>?_
  refine h h' [e] (fun b hb=>by rw[AS.mp hb];exact fr) mv ⟨⟨_,_,he',?_,?_,Obj.data_mapFields hd _,hsz.set _,T,oT,ts,by simp[hsz.1],.inr tn,tne,hT,hdT,h3⟩,.inl fr⟩
  ·rw[Obj.cls_mapFields];exact hc
  ·rw[iw];exact hdx
 |fl v=>
  obtain ⟨T,oT,ts,h1,hF,hTe,hT,hdT,h3⟩:=hst;have z3:3<ts.size:=(Aj.mp h3).1;apply wpAny_bind;apply wpAny_field he hd h1;rw[if_pos (by simp)]
  apply wpAny_bind;apply wpAny_field hT hdT h3
  by_cases hv:(v==rawInt L)=true
  ·rw[if_pos hv];have ev:v=rawInt L:=beq_iff_eq.mp hv;subst ev;refine wpAny_pure (h s.heap [] (fun b hb=>absurd hb (by simp)) (.refl ..) ⟨⟨oe,vs,he,hc,hdx,hd,hsz,T,oT,ts,h1,.inl hF,hTe,hT,hdT,h3⟩,.inl fr⟩)
  ·rw[if_neg hv];apply wpAny_bind;apply wpAny_setField hT hdT z3;have oth:∀b,b≠T->(s.heap.update T (Obj.mapFields (·.setIfInBounds 3 Value.none))).get? b=s.heap.get? b:=fun b hb=>Heap.get?_update_other _ _ (Ne.symm hb)
   have t4:=Heap.get?_update_self (Obj.mapFields (·.setIfInBounds 3 Value.none)) hT (Obj.isFreed_of_fields (Obj.data_mapFields hdT _));have nrec:∀b o,s.heap.get? b=some o->(∀vs,o.data≠ .fields vs)->b≠T:=by
    intro b o hb hn z;rw[z,hT] at hb;cases hb;exact hn ts hdT
   have mv1:Mv ((env::outer).filterMap (·.frame)) [T] s.heap (s.heap.update T (Obj.mapFields (·.setIfInBounds 3 Value.none))):=by
    refine ⟨fun b o _ hb q=>(oth b (fun z=>hb (by rw[z];exact AS.mpr rfl))).trans q,fun b o _ hb q=>⟨o.slots,(oth b (fun z=>hb (by rw[z];exact AS.mpr rfl))).trans q⟩,fun b o q=>?_⟩
    by_cases hb:b=T
    ·subst hb;exact ⟨_,t4⟩
    ·exact ⟨o,(oth b hb).trans q⟩
   refine jO (s:={s with heap:=s.heap.update T (Obj.mapFields (·.setIfInBounds 3 Value.none))}) hfr (hl.of_keeps fun b o hb hn=>⟨o,(oth b (nrec b o hb hn)).trans hb,rfl⟩) hf ((oth e (Ne.symm hTe)).trans he) hd hsz.1 fun h' T2 mv tn tne he' ⟨oT2,ts2,hT2,hdT2,h32⟩=>?_
   refine h h' [T,e] ?_ (mv1.trans mv (fun b hb=>by simp at hb;simp[hb]) (fun b hb=>by simp at hb;simp[hb])) ⟨⟨_,_,he',?_,?_,Obj.data_mapFields hd _,hsz.set _,T2,oT2,ts2,by simp[hsz.1],.inr ?_,tne,hT2,hdT2,h32⟩,.inl fr⟩
   ·intro b hb;simp at hb;rcases hb with rfl|rfl
    ·exact hF
    ·exact fr
   ·rw[Obj.cls_mapFields];exact hc
   ·rw[iw];exact hdx
   ·cases q:s.heap.get? T2 with
    |none=>rfl
    |some o=>
     obtain ⟨o',q'⟩:=mv1.there T2 o q;rw[q'] at tn;cases tn
end
end XH
namespace L2
open PySem PySem.Spec PyProof.Rows XH
structure dQ (P:Program) (w:World) (outer:List Env) (H:Hp) (s:Shared) (a:Addr) (H':Hp) (cls:Value) (dx:CF) (st:tV) (s':Shared):Prop where
 os:s'.os=s.os
 bare:AllBare s'.gens
 un:Un (fV outer) [] H H' s.heap s'.heap
 hok:dI P w H' s'.heap
 xo:XO (fun b=>s.heap.get? b=none/\H' b=none) s'.heap a cls dx st
def jt (P:Program) (w:World):lB:=fun outer H s E e s'=>∃a H' cls dx st,e= .ref a/\dQ P w outer H s a H' cls dx st s'/\E cls dx H'
section
variable {P:Program} {w:World} {H H':Hp} {h h' h0:Heap} {fs ch:CC} {a:Addr} {o:HO}
theorem bO.there (x:bO P w H h a o):∃u,h.get? a=some u:=by
 cases o with
 |lst xs=>obtain ⟨_,_,_,_,e⟩:=x;exact ⟨_,e⟩
 |tup xs=>obtain ⟨_,_,_,_,e,_⟩:=x;exact ⟨_,e⟩
 |dK kvs=>obtain ⟨_,_,_,_,_,_,_,e,_⟩:=x;exact ⟨_,e⟩
 |dT kvs=>obtain ⟨_,_,_,_,_,_,_,e,_⟩:=x;exact ⟨_,e⟩
 |set S n=>obtain ⟨_,_,_,_,e,_⟩:=x;exact ⟨_,e⟩
 |ins C dx fs=>obtain ⟨_,_,_,e,_⟩:=x;exact ⟨_,e⟩
 |own y=>exact x
 |xd fs=>obtain ⟨_,⟨_,_,_,e,_⟩,_⟩:=x;exact ⟨_,e⟩
 |rng lo hi=>obtain ⟨_,_,_,e⟩:=x;exact ⟨_,e⟩
 |frz ob u=>obtain ⟨e,_⟩:=x;exact ⟨_,e⟩
 |tbl ps=>exact ⟨_,show h.get? a=some _ from x⟩
 |met f y=>exact ⟨_,show h.get? a=some _ from x⟩
 |ext φ=>obtain ⟨_,⟨_,e⟩,_⟩:=x;exact ⟨_,e⟩
theorem dI.none_of (k:dI P w H h) (q:h.get? a=none):H a=none:=by
 cases r:H a with
 |none=>rfl
 |some o=>
  obtain ⟨u,e⟩:=(k a o r).there;rw[q] at e;cases e
theorem tW (u:Un fs [] H H' h0 h) (m:Mv fs ch h h') (hc:∀b∈ch,h0.get? b=none):Un fs [] H H' h0 h' where
 keep:=fun b o q n hb hx=>m.keep b o hb (fun z=>by rw[hc b z] at q;cases q) (u.keep b o q n hb hx)
 slot:=fun b o q n hb hx=>by
  obtain ⟨sl,q1⟩:=u.slot b o q n hb hx;obtain ⟨sl2,q2⟩:=m.slot b _ hb (fun z=>by rw[hc b z] at q;cases q) q1
  exact ⟨sl2,q2⟩
 free:=u.free
 there:=fun b o q hx=>by
  obtain ⟨o1,q1⟩:=u.there b o q hx;exact m.there b o1 q1
 tups:=u.tups
 frzs:=u.frzs
 tbls:=u.tbls
theorem qi (k:dI P w H h) (m:Mv fs ch h h') (hc:∀b∈ch,H b=none) (hf:∀b∈fs,H b=none):dI P w H h':=fun a o e=>
 (k a o e).stay (fun b u hb q=>by
  have t:H b≠none:=by
   rcases hb with z|z
   ·rw[z,e];exact fun y=>nomatch y
   ·rw[z];exact fun y=>nomatch y
  exact m.keep b u (fun z=>t (hf b z)) (fun z=>t (hc b z)) q) (fun _ q=>q) fun _ _ q=>q
theorem _root_.XH.Mv.wider (m:Mv [] ch h h'):Mv fs ch h h':=⟨fun b o _ hc q=>m.keep b o (by simp) hc q,fun b o _ hc q=>⟨o.slots,m.keep b o (by simp) hc q⟩,m.there⟩
theorem m9 {base:Heap} (u:Un fs [] H H' h h'):∀{l:List Env},h.FunFrames base l->(∀b∈fV l,b∈fs/\H b=none)->h'.FunFrames base l
 | [],_,_=>trivial
 |env::r,⟨hk,⟨L,o,hf,hn,ho,hd⟩,hr⟩,hs=>by
  have hL:L∈fV (env::r):=by unfold fV;rw[BL,hf];exact Ae
  obtain ⟨sl,e⟩:=u.slot L o ho (hs L hL).2 (hs L hL).1 (by simp)
  exact ⟨hk,⟨L,_,hf,hn,e,hd⟩,m9 u hr fun b hb=>hs b (by unfold fV;rw[BL,hf];exact AM _ hb)⟩
end
section
variable {P:Program} {w:World} {H H':Hp} {s s':Shared} {a L:Addr} {cls v:Value} {dx:CF} {st:tV} {env:Env} {outer:List Env} {base:Heap} {M:Model} {A:Around} {Z:Cw} {Q:Unit->Shared->Prop}
theorem dQ.frees (c:dQ P w outer H s a H' cls dx st s') (hl:s.heap.FunFrames base outer) (hH:∀b∈fV outer,H b=none):∀b∈fV outer,H' b=none:=fun b hb=>by
 obtain ⟨_,o,ho,_⟩:=hl.mem hb;exact c.un.free b o ho (hH b hb) (by simp)
theorem dQ.note (c:dQ P w (env::outer) H s a H' cls dx st s') (hfr:A.frames=some (env::outer)) (hf:env.frame=some L) (hl:s.heap.FunFrames base (env::outer)) (hH:∀b∈fV (env::outer),H b=none)
  (h:∀s'',dQ P w (env::outer) H s a H' cls dx (.fl (rawInt L)) s''->Q () s''):wpAny M A (noteFrame (.ref a) env) Q Z s':=by
 refine sF hfr (m9 c.un hl fun b hb=>⟨hb,hH b hb⟩) hf c.xo fun h' ch hch mv x=>h _ ?_
 refine ⟨c.os,c.bare,tW c.un mv fun b hb=>(hch b hb).1,qi c.hok mv (fun b hb=>(hch b hb).2) (c.frees hl hH),x.mono ?_⟩
 rintro b (q|q)
 ·exact q
 ·refine ⟨?_,c.hok.none_of q⟩;cases r:s.heap.get? b with
  |none=>rfl
  |some o=>
   obtain ⟨o',r'⟩:=c.un.there b o r (by simp)
   rw[r'] at q;cases q
theorem dQ.flight {fl:CF} (c:dQ P w outer H s a H' cls dx (.fl v) s') (hl:s.heap.FunFrames base outer) (hH:∀b∈fV outer,H b=none)
  (h:∀s'',dQ P w outer H s a H' cls dx (.fl (fl.elim .none fun f=>rawInt f)) s''->Q () s''):wpAny M A (setFlight (.ref a) fl) Q Z s':=by
 refine ou c.xo fun h' T hT mv x=>h _ ⟨c.os,c.bare,tW c.un mv.wider fun b hb=>?_,qi c.hok (mv.wider (fs:=fV outer)) (fun b hb=>?_) (c.frees hl hH),x⟩
 ·rw[AS.mp hb];exact hT.1
 ·rw[AS.mp hb];exact hT.2
end
def XS (X:Cx) (E:St->XK):Value->Shared->Prop:=fun e s'=>∃σ H0 s0,aB X [] σ H0 s0/\jt X.prog X.w X.stack H0 s0 (E σ) e s'
def jP (X:Cx) (E:St->XK):Prop:=∀(pins:Cz) (σ:St) (H:Hp) (s:Shared) (e:Value) (s':Shared),aB X pins σ H s->jt X.prog X.w X.stack H s (E σ) e s'->X.xe e s'
theorem tX {X:Cx} {E:St->XK}:jP (X.wish (XS X E)) E:=fun pins σ H s e s' I c=>⟨σ,H,s,I.unwish.pins_of (fun p hp=>absurd hp (by simp)),c⟩
def qj (sp:Sp) (dvs:List V) (E:St->XK) (t:TA):TE:=fun σ H Q=>t σ H fun vs H1=>sp (vs++dvs) H1 Q (E σ)
section
variable {X:Cx} {k:Nat} {f C:Addr} {fd:FuncData} {ps:CB} {sp:Sp} {dvs:List V} {ds:CD} {E:St->XK} {x m:Str} {p pos apos:Pos} {e o:Expr} {es:List Expr} {ta:TE} {t:TA}
theorem sG {pins:Cz} {σ:St} {H:Hp} {s:Shared} {Q:VK} {us:CD} {vs:List V} (F:a7 X.prog X.w X.K X.mg X.base (jt X.prog X.w) k f fd ps sp) (hr:bx k X.A) (hb:Binds X.K fd ps ds) (hd:aM dvs ds) (hx:jP X E)
  (I:aB X pins σ H s) (r:aM vs us) (h:sp (vs++dvs) H Q (E σ)):wpAny (model X.prog X.w) X.A (call (.ref f) us) (EP X pins σ Q) X.xe s:=by
 have r2:aM (vs++dvs) (us++ds):=r.append hd;have hl:(us++ds).length=ps.length:=by rw[<-r2.length];exact F.len _ _ _ _ h
 refine wpAny_call (codeAny_mono (F.run X.A X.stack s H ⟨us,[]⟩ (us++ds) (vs++dvs) Q (E σ) hr I.env0 (hb s us I.kIn hl) r2 h) fun r s' hq=>?_)
 cases r with
 |error e=>exact hx pins σ H s e s' I hq
 |ok fl=>
  cases fl with
  |ret u=>exact I.after hq
  |next=>exact False.elim hq
  |brk=>exact False.elim hq
  |cont=>exact False.elim hq
theorem qk (F:a7 X.prog X.w X.K X.mg X.base (jt X.prog X.w) k f fd ps sp) (hr:bx k X.A) (hg:Gl X x) (hm:X.mg x=some (.ref f)) (hk:BC X.K (.ref f)=true) (hb:Binds X.K fd ps ds) (hd:aM dvs ds) (hx:jP X E)
  (ha:PA X (e::es) t) (hdb:(x==("__debug__" :Str))=false:=by decide) (he:starEach (e::es) X.env=(false,eval e X.env)::starEach es X.env:=by rfl) (hpl:(backTo pos (starEach es X.env)).any (·.1)=false:=by rfl):
  PE X (.Call (.Name x p) (e::es) [] pos) (qj sp dvs E t):=by
 intro pins s σ H Q I h;refine wpAny_Call_Name_kw (c4 I hg hm ?_ hdb);refine C5 (h₀:=X.base) I.ok.mod.kin hk (aZ (ha pos pins s σ H _ I h) fun us s1 ⟨vs,H1,I1,r,q⟩=>⟨I1.kIn,?_⟩) he hpl
 exact sG F hr hb hd hx I1 r q
end
theorem hU.toX {X:Cx} {E':Cw} {st:List Stmt} {t:TS} (h:hU (X.wish E') st t) (k:∀e s,E' e s->X.xe e s):hU X st t:=fun pins s σ H D I hw=>
 wpAny_mono (h pins s σ H D (I.wish _) hw) (fun _ _ q=>q.unwish) fun e s z=>k e s z
section
variable {P:Program} {w:World} {K:A4} {mg:Cy} {base:Heap}
theorem qm {N:CB} {qual:Str} {scope:Scope} {f:Addr} {cd:Value} {A:Around} {outer:List Env} {s:Shared} {H:Hp} {E:XK} {e:Value} {s':Shared}
  (h:XS (fS (jt P w) P w K mg base N qual scope f cd A outer s H E) (fun _=>E) e s'):(fS (jt P w) P w K mg base N qual scope f cd A outer s H E).xe e s':=by
 obtain ⟨σ,H0,s0,I,a,H',cls,dx,st,rfl,c,hE⟩:=h;show wpAny (model P w) (A.deeper (envOfC qual scope s.heap.objs.size f cd)) (leaving (envOfC qual scope s.heap.objs.size f cd) (.ref a)) (fun _ s''=>jt P w outer H s E (.ref a) s'') (fun e' s''=>jt P w outer H s E e' s'') s'
 unfold leaving;apply wpAny_bind;refine c.note (L:=s.heap.objs.size) I.ok.frames rfl I.stack I.stkFree fun s1 c1=>?_
 refine c1.flight I.stack I.stkFree fun s2 c2=>?_
 have J:=I.call' c2.os c2.un c2.hok c2.bare (fun b z=>absurd z (by simp))
 refine ⟨a,H',cls,dx,_,rfl,⟨J.os,c2.bare,J.base,c2.hok,c2.xo.mono fun b q=>⟨?_,q.2⟩⟩,hE⟩
 cases r:s.heap.get? b with
 |none=>rfl
 |some o=>
  obtain ⟨o',r'⟩:=I.base.there b o r (fun z=>absurd (show b∈([]:CC) from z) (by simp))
  rw[q.1] at r';cases r'
theorem uJ {k:Nat} {f:Addr} {name qual:Str} {params:Arguments} {body:List Stmt} {scope:Scope} {dV kV doc pm cdv ct oc:Value} {an od:CF}
  {osl:CA} {N ps:CB} {sp:Sp} (lk:K.lookup f=some ⟨oc,od,.func (BB name qual params body scope dV kV doc pm an cdv ct),osl⟩) (hcd:PySem.W.codeIn K cdv qual=true) (S:aD N ps scope)
  (len:∀vs H Q E,sp vs H Q E->vs.length=ps.length)
  (hbody:∀(A:Around) (outer:List Env) (s:Shared) (H:Hp) (vs:List V) (Q:VK) (E:XK),bx k (A.deeper (envOfC qual scope s.heap.objs.size f cdv))->sp vs H Q E->
   ∃t,hU ((fS (jt P w) P w K mg base N qual scope f cdv A outer s H E).wish (XS (fS (jt P w) P w K mg base N qual scope f cdv A outer s H E) fun _=>E)) body t/\t {nx:=fun _ H'=>Q .non H',rt:=Q} (start N vs) H):
  a7 P w K mg base (jt P w) (k+1) f (BB name qual params body scope dV kV doc pm an cdv ct) ps sp:=by
 refine tR lk hcd S len fun A outer s H vs Q E hr hsp=>?_
 obtain ⟨t,h,q⟩:=hbody A outer s H vs Q E hr hsp;exact ⟨t,h.toX fun e s' z=>qm z,q⟩
end
abbrev Cx.tried (X:Cx) (pins:Cz):Cx:={X with pn:=X.pn++pins}
abbrev Cx.suite (X:Cx) (pins:Cz) (a:Addr):Cx:={X with A:=X.A.mark (some (.ref a)),calm:=false,pn:=X.pn++pins,xe:=fun _ _=>False}
def sH (n:Bool) (a:Addr) (cls:Value) (dx:CF):HO:= .ext fun h=>∃ox vs,h.get? a=some ox/\ox.cls=cls/\ox.dict=dx/\ox.data= .fields vs/\vs[2]?=some .none/\(n=true->1<vs.size/\vs[1]?=some .none)
abbrev v8:=sH false
theorem sI {P:Program} {w:World} {H:Hp} {h:Heap} {n:Bool} {a:Addr} {cls:Value} {dx:CF} {ox:Obj} {vs:Array Value} (h1:h.get? a=some ox) (h2:ox.cls=cls) (h3:ox.dict=dx) (h4:ox.data= .fields vs) (h6:vs[2]?=some .none) (h5:n=true->1<vs.size/\vs[1]?=some .none):bO P w H h a (sH n a cls dx):=
 ⟨⟨ox,vs,h1,h2,h3,h4,h6,h5⟩,⟨ox,h1⟩,fun _ _ ⟨oy,ws,q,r⟩ kp=>⟨oy,ws,kp _ q,r⟩⟩
abbrev TH:=Ends->St->Value->CF->Hp->Addr->Prop
def PH (X:Cx) (hs:List ExceptHandler) (th:TH):Prop:=
 ∀(pins:Cz) (σ:St) (H0:Hp) (s0:Shared) (D:Ends) (a:Addr) (H':Hp) (cls v:Value) (dx:CF) (s':Shared),aB X pins σ H0 s0->dQ X.prog X.w X.stack H0 s0 a H' cls dx (.fl v) s'->th D σ cls dx H' a->
  wpAny (model X.prog X.w) X.A (handleBy (.ref a) X.env hs) (SP X pins D) X.xe s'
variable {X:Cx} {pins:Cz} {σ:St} {H H':Hp} {s s':Shared}
theorem aB.tried (I:aB X pins σ H s):aB (X.tried pins) [] σ H s:=
 ⟨⟨I.ok.mod,I.ok.kind,I.ok.glob,I.ok.blt,I.ok.above,I.ok.inj,I.ok.has,I.ok.cab,I.ok.hd,I.ok.frames,I.ok.stk,I.ok.exf,I.ok.bs,I.ok.bsz,I.ok.noex,I.ok.exfs,I.ok.funs,I.ok.frf⟩,
  I.os,I.bare,I.base,I.loc,I.cell,I.free,I.freeC,fun p hp=>I.pin p (by simpa using hp),I.hok,I.len⟩
theorem aB.untried (I:aB (X.tried pins) [] σ H s):aB X pins σ H s:=
 ⟨⟨I.ok.mod,I.ok.kind,I.ok.glob,I.ok.blt,I.ok.above,I.ok.inj,I.ok.has,I.ok.cab,I.ok.hd,I.ok.frames,I.ok.stk,I.ok.exf,I.ok.bs,I.ok.bsz,I.ok.noex,I.ok.exfs,I.ok.funs,I.ok.frf⟩,
  I.os,I.bare,I.base,I.loc,I.cell,I.free,I.freeC,fun p hp=>I.pin p (by simpa using hp),I.hok,I.len⟩
theorem aB.insuite (I:aB X pins σ H s) (a:Addr):aB (X.suite pins a) [] σ H s:=
 ⟨⟨I.ok.mod,I.ok.kind,I.ok.glob,I.ok.blt,I.ok.above,I.ok.inj,I.ok.has,I.ok.cab,fun z=>(Bool.noConfusion z),I.ok.frames,I.ok.stk,I.ok.exf,I.ok.bs,I.ok.bsz,I.ok.noex,I.ok.exfs,I.ok.funs,I.ok.frf⟩,
  I.os,I.bare,I.base,I.loc,I.cell,I.free,I.freeC,fun p hp=>I.pin p (by simpa using hp),I.hok,I.len⟩
theorem aB.outsuite {a:Addr} (ok:X.Ok) (I:aB (X.suite pins a) [] σ H s):aB X pins σ H s:=
 ⟨ok,I.os,I.bare,I.base,I.loc,I.cell,I.free,I.freeC,fun p hp=>I.pin p (by simpa using hp),I.hok,I.len⟩
theorem qo {fs:CC} {h0 h:Heap} {a:Addr} {o:HO} (u:Un fs [] H H' h0 h) (n0:h0.get? a=none) (na:H' a=none):Un fs [] H (aL H' a o) h0 h where
 keep:=u.keep
 slot:=u.slot
 free:=fun b ob q n hx=>by
  have:b≠a:=fun z=>by rw[z,n0] at q;cases q
  rw[am this];exact u.free b ob q n hx
 there:=u.there
 tups:=fun b xs e=>by
  have q:=u.tups b xs e;rw[am (aF q na)];exact q
 frzs:=fun b o' w' e=>by
  have q:=u.frzs b o' w' e;rw[am (aF q na)];exact q
 tbls:=fun b ps e=>by
  obtain ⟨mo,q⟩:=u.tbls b ps e;exact ⟨mo,by rw[am (aF q na)];exact q⟩
theorem oz {P:Program} {w:World} {h:Heap} {a:Addr} {o:HO} (k:dI P w H h) (na:H a=none) (new:bO P w (aL H a o) h a o):dI P w (aL H a o) h:=fun b u e=>by
 by_cases hb:b=a
 ·subst hb;rw[af] at e;cases e;exact new
 ·rw[am hb] at e;exact (k b u e).stay (fun c v _ q=>q) (fun c q=>by rw[am (aF q na)];exact q) fun c xs q=>by rw[am (aF q na)];exact q
theorem dQ.caught {a:Addr} {cls:Value} {dx:CF} {st:tV} (I:aB X pins σ H s) (c:dQ X.prog X.w X.stack H s a H' cls dx st s'):aB X pins σ (aL H' a (v8 a cls dx)) s':=by
 obtain ⟨⟨oe,vs,he,hc,hd,hda,hz,_⟩,n0,na⟩:=c.xo;refine I.call' c.os (qo c.un n0 na) (oz c.hok na (sI he hc hd hda hz.2 fun z=>nomatch z)) c.bare fun b z=>absurd z (by simp)
section
variable {body:List Stmt} {h₀:ExceptHandler} {hs:List ExceptHandler} {pos:Pos} {th:TH}
def xC (tb:(St->XK)->TS) (th:TH):TS:=fun D σ H=>tb (fun σ' cls dx H'=>∀a,H' a=none->th D σ' cls dx H' a) D σ H
theorem SP.untried {pins:Cz} {E:Cw} {D:Ends} {f:Flow} {s':Shared} (h:SP ((X.tried pins).wish E) [] D f s'):SP X pins D f s':=by
 cases f with
 |next=>obtain ⟨σ',H',I,q⟩:=h;exact ⟨σ',H',I.unwish.untried,q⟩
 |brk=>obtain ⟨σ',H',I,q⟩:=h;exact ⟨σ',H',I.unwish.untried,q⟩
 |cont=>obtain ⟨σ',H',I,q⟩:=h;exact ⟨σ',H',I.unwish.untried,q⟩
 |ret u=>obtain ⟨v,σ',H',I,r,q⟩:=h;exact ⟨v,σ',H',I.unwish.untried,r,q⟩
theorem uK {tb:(St->XK)->TS} (hstk:X.stack=X.env::X.outer) (hfm:X.env.frame=some X.env.locals)
  (hb:∀(pins:Cz) (E:St->XK),hU ((X.tried pins).wish (XS (X.tried pins) E)) body (tb E)) (hh:PH X (h₀::hs) th):PS X (.Try body (h₀::hs) [] [] pos) (xC tb th):=by
 intro pins s σ H D I h;refine wpAny_Try_except ?_;refine wpAny_mono (hb pins _ [] s σ H D (I.tried.wish _) h) (fun f s1 q=>?_) fun e s1 hx=>?_
 ·have q:=q.untried;cases f with
  |next=>exact wpAny_execs_nil q
  |brk=>exact q
  |cont=>exact q
  |ret u=>exact q
 ·obtain ⟨σ',H0,s0,I0,a,H',cls,dx,st,rfl,c,hE⟩:=hx;have c':dQ X.prog X.w (X.env::X.outer) H0 s0 a H' cls dx st s1:=hstk▸c;have J:=I0.untried;have fr:X.A.frames=some (X.env::X.outer):=by rw[<-hstk];exact J.ok.frames
  have st1:s0.heap.FunFrames X.base (X.env::X.outer):=by rw[<-hstk];exact J.stack
  have sf:∀b∈fV (X.env::X.outer),H0 b=none:=by rw[<-hstk];exact J.stkFree
  refine c'.note fr hfm st1 sf fun s2 c2=>?_
  refine c2.flight st1 sf fun s3 c3=>?_
  exact hh pins σ' H0 s0 D a H' cls _ dx s3 J (hstk▸c3) (hE a c3.xo.fr.2)
theorem uL:PH X [] (fun _ _ _ _ _ _=>False):=fun _ _ _ _ _ _ _ _ _ _ _ _ _ h=>h.elim
end
structure XT (K:A4) (C:Addr):Prop where
 ty:PySem.W.typeIn K (.ref C)=some (.type "type")
 cl:(PySem.W.clsIn K C).isSome=true
 ex:PySem.W.subIn K (.ref C) (.type "BaseException")=some true
theorem iX {K:A4} {M:Model} {h:Heap} {C:Addr} (X:K.In h) (e:(PySem.W.clsIn K C).isSome=true):PySem.W.Looks M h (isType (.ref C)) true:=by
 unfold PySem.W.clsIn at e
 split at e
 ·rename_i ho;intro A' Q' E' s' k q;unfold isType loadHead;exact wpAny_bind (wpAny_loadPart (k _ _ (X _ _ ho)) (wpAny_pure q))
 ·cases e
structure XG (K:A4) (C:Addr):Prop where
 ga:Aw K (.ref C) "__getattribute__" =some (some (.builtin "BaseException.__getattribute__"))
 gt:Aw K (.ref C) "__getattr__" =some none
 be:PySem.W.mroIn K C (.type "BaseException")=some true
section
variable {prog:Program} {w:World} {A:Around} {E:Cw} {K:A4}
theorem lM {h:Heap} {g:Array GenState} {d:Drawn} {t:Nat} {os:OsState} {e C C':Addr} {oe:Obj} {b:Bool} {Q:Bool->Shared->Prop} (KX:K.In h) (he:h.get? e=some oe) (hc:oe.cls= .ref C) (T:XT K C')
  (hsub:PySem.W.subIn K (.ref C) (.ref C')=some b) (hq:Q b ⟨h,g,d,t,os⟩):wpAny (model prog w) A (excMatches (.ref e) (.ref C')) Q E ⟨h,g,d,t,os⟩:=by
 have l1:=PySem.W.looks_typeIn (M:=model prog w) KX T.ty;have l2:=PySem.W.looks_subIn (M:=model prog w) KX T.ex;have l3:=PySem.W.looks_subIn (M:=model prog w) KX hsub;have l4:=iX (M:=model prog w) KX T.cl;have l5:PySem.W.Looks (model prog w) h (isInstance (.ref C') (.type "tuple")) false:=l1.andThen (PySem.W.Looks.of_pure tc_notTuple);have l6:PySem.W.Looks (model prog w) h (isExcClass (.ref C')) true:=by
  unfold isExcClass;refine l4.andThen ?_;exact l2
 unfold excMatches
 repeat (first|with_reducible refine wpAny_bind (l5.at ?_)|with_reducible refine wpAny_bind (l6.at ?_)|with_reducible refine wpAny_bind (l3.at ?_)|(with_reducible refine wpAny_loadPart_at he ?_;rw[hc])|wp_step)
 cases b<;>(wp_walk;exact hq)
end
def xD (K:A4) (C':Addr) (t:TS) (r:TH):TH:=fun D σ cls dx H a=>∃C b,cls= .ref C/\PySem.W.subIn K (.ref C) (.ref C')=some b/\
 if b=true then t D σ (aL H a (v8 a cls dx)) else r D σ cls dx H a
section
variable {x n:Str} {np pos:Pos} {b0:Stmt} {suite:List Stmt} {rest:List ExceptHandler} {i:Nat} {C':Addr} {t:TS} {th:TH}
theorem SP.outsuite {pins:Cz} {a:Addr} {D:Ends} {f:Flow} {s:Shared} (ok:X.Ok) (h:SP (X.suite pins a) [] D f s):SP X pins D f s:=by
 cases f with
 |next=>obtain ⟨σ',H',I,q⟩:=h;exact ⟨σ',H',I.outsuite ok,q⟩
 |brk=>obtain ⟨σ',H',I,q⟩:=h;exact ⟨σ',H',I.outsuite ok,q⟩
 |cont=>obtain ⟨σ',H',I,q⟩:=h;exact ⟨σ',H',I.outsuite ok,q⟩
 |ret u=>obtain ⟨v,σ',H',I,r,q⟩:=h;exact ⟨v,σ',H',I.outsuite ok,r,q⟩
theorem v9 (T:XT X.K C') (hg:Gl X x) (hm:X.mg x=some (.ref C'))
  (hs:∀(pins:Cz) (a:Addr),hU (X.suite pins a) (b0::suite) t) (hrest:PH X rest th) (hd:(x==("__debug__" :Str))=false:=by decide):
  PH X (.ExceptHandler (some (.Name x np)) none (b0::suite) pos::rest) (xD X.K C' t th):=by
 intro pins σ H0 s0 D a H' cls v dx s' I c h;obtain ⟨C,b,rfl,hsub,h⟩:=h;have J:aB X pins σ H' s':=I.call' c.os c.un c.hok c.bare (fun b z=>absurd z (by simp))
 obtain ⟨oe,vs,he,hc,_,_,_⟩:=c.xo.ex;refine wpAny_handleBy_cons (codeAny_handlers_test (c4 (X:=X.suite pins a) (J.insuite a) hg hm ?_ hd)) (by intro q;cases q)
 have KX:=J.kIn;obtain ⟨hh,g,d,tk,os⟩:=s';refine lM KX he hc T hsub ?_;cases b with
 |false=>exact hrest pins σ H0 s0 D a H' _ v dx _ I c h
 |true=>
  refine codeAny_handlers_suite ?_;refine c.flight I.stack I.stkFree fun s2 c2=>?_
  have J2:=(c2.caught I).insuite a;refine wpAny_mono (hs pins a [] s2 _ _ _ J2 h) (fun f s4 q=>?_) fun _ _ z=>z.elim
  exact q.outsuite I.ok
theorem qp {E:St->XK} (hstk:X.stack=X.env::X.outer) (hfm:X.env.frame=some X.env.locals):PassesOwn (model X.prog X.w) X.A X.env (XS X E):=by
 intro e s1 hx;obtain ⟨σ',H0,s0,J,a,H',cls,dx,st,rfl,c,hE⟩:=hx;have c':dQ X.prog X.w (X.env::X.outer) H0 s0 a H' cls dx st s1:=hstk▸c;have fr:X.A.frames=some (X.env::X.outer):=by rw[<-hstk];exact J.ok.frames
 have st1:s0.heap.FunFrames X.base (X.env::X.outer):=by rw[<-hstk];exact J.stack
 have sf:∀b∈fV (X.env::X.outer),H0 b=none:=by rw[<-hstk];exact J.stkFree
 unfold notedBy;refine c'.note fr hfm st1 sf fun s2 c2=>?_
 unfold cameBackBy;obtain ⟨oe,vs,he,_,_,hd,_,T,_,_,h1,_⟩:=c2.xo.ex;apply wpAny_bind;apply wpAny_field he hd h1;rw[if_neg (by simp)]
 refine c2.flight st1 sf fun s3 c3=>?_
 exact ⟨σ',H0,s0,J,a,H',cls,dx,_,rfl,hstk▸c3,hE⟩
end
def xE:CD:= [.type "ValueError",.type "Exception",.type "BaseException",.type "object"]
theorem uM {K:A4} {h:Heap} {C:Addr} {bmB:CD} {nw:String} (X:K.In h) (q:PySem.W.excIn K C bmB nw=true):
  ∃bm N nm qn bs hdct sn sub ab col dd k0 k1 k2 k3 k5 mN,h.get? C=some (excClassObj nm qn C N bs bm hdct sn sub ab col dd k0 k1 k2 k3 k5 nw)/\h.Ns N mN/\mN "__init__" =none/\OwnTail h bmB bm:=by
 unfold PySem.W.excIn at q
 split at q
 ·rename_i dd cd sl ho
  split at q
  ·rename_i C' bm k0 k1 k2 k3 n k5 hm hs;simp only[BP,beq_iff_eq,Bool.not_eq_true'] at q;obtain ⟨⟨⟨⟨⟨e1,e2⟩,hdel⟩,ht⟩,hok⟩,hni⟩:=q;subst e1 e2;obtain ⟨nm,bs,mro,ns,qn,hd,sn,sub,ab,col,del⟩:=cd;dsimp only at hm hdel hok hni;subst hm hdel;obtain ⟨l⟩:=sl;have hl:l= [k0,k1,k2,k3,some (.builtin n),k5]:=hs;subst hl;exact ⟨bm,ns,nm,qn,bs,hd,sn,sub,ab,col,dd,k0,k1,k2,k3,k5,_,X _ _ ho,.of_isNs (PySem.W.isNs_of_in X hok),PySem.W.nsMap_none_of_in X hok hni,PySem.W.tail_of_in X ht⟩
  ·cases q
 ·cases q
def uN (C:Addr) (E:St->XK) (t:TA):TS:=fun _ σ H=>t σ H fun vs H1=>vs.length<=sizeLine/\E σ (.ref C) none H1
section
variable {x:Str} {np cpos pos:Pos} {e₀:Expr} {rest:List Expr} {C:Addr} {t:TA} {E:St->XK}
theorem sJ {pins:Cz} {σ:St} {H:Hp} {s:Shared} {h':Heap} {e:Addr} {us:CD} (I:aB X pins σ H s) (mk:Heap.MadeExcOf s.heap h' e (.ref C) us):dQ X.prog X.w X.stack H s e H (.ref C) none .new {s with heap:=h'}:=by
 obtain ⟨t,ht,_,_⟩:=mk.there;exact ⟨rfl,I.bare,Un.kept mk.keeps,I.hok.kept mk.keeps,⟨⟨_,_,ht,rfl,rfl,rfl,⟨by show 1<6;decide,rfl⟩,rfl⟩,mk.new,I.hok.none_of mk.new⟩⟩
theorem qr (q:PySem.W.excIn X.K C xE "ValueError.__new__" =true) (hg:Gl X x) (hm:X.mg x=some (.ref C)) (hc:X.calm=true) (hp:jP X E) (ha:PA X (e₀::rest) t) (hd:(x==("__debug__" :Str))=false:=by decide)
  (he:starEach (e₀::rest) X.env=(false,eval e₀ X.env)::starEach rest X.env:=by rfl) (hpl:(backTo cpos (starEach rest X.env)).any (·.1)=false:=by rfl):
  PS X (.Raise (some (.Call (.Name x np) (e₀::rest) [] cpos)) none pos) (uN C E t):=by
 intro pins s σ H D I h;obtain ⟨bm,N,nm,qn,bs,hdct,sn,sub,ab,col,dd,k0,k1,k2,k3,k5,mN,hC,hN,hni,TL⟩:=uM I.ok.mod.kin q;have F:=PySem.F.excBase_ValueError;have W:=ha cpos pins s σ H _ I h;refine wpAny_Raise_call_subT (C:=C) (nm:=nm) (q:=qn) (N:=N) (bs:=bs) (bm:=bm) (hdct:=hdct) (sn:=sn) (sub:=sub) (ab:=ab) (col:=col) (dd:=dd) (k0:=k0) (k1:=k1) (k2:=k2) (k3:=k3) (k5:=k5) (mN:=mN)
  F (TL.hasType F.hasBase) (I.ok.hd hc) (by rw[he];exact hpl) hni (c4 I hg hm ⟨rfl,?_⟩ hd)
 rw[he] at W⊢;refine Calls.evalArgs_plain (aZ W fun us s2 ⟨vs,H1,I1,r,hl,z⟩=>⟨rfl,by rw[<-r.length];exact hl,I1.bk _ _ hC,hN.keeps I1.bk,TL.keeps I1.bk,fun h' e mk=>?_⟩)
 exact hp pins σ H1 s2 _ _ I1 ⟨e,H1,.ref C,none,.new,rfl,sJ I1 mk,z⟩
end
structure XI (K:A4) (C:Addr):Prop where
 gg:XG K C
 cl:(PySem.W.clsIn K C).isSome=true
 at_:Aw K (.ref C) "__class__" =some (some (.builtin "object.__class__"))
 gt:PySem.W.specialIn K (.builtin "object.__class__") "__get__" =some (some (.builtin "getset_descriptor.__get__"))
 tk:PySem.W.takesIn K (.builtin "object.__class__")=some true
 ob:PySem.W.mroIn K C (.type "object")=some true
abbrev Cx.block (X:Cx) (scope:Scope) (cl:List (Str×Addr)) (C:Addr) (N:CB) (own:Str) (fp:CC) (s:Shared) (H:Hp):Cx:=
 {X with env:=compEnvC scope cl C X.env,N:=N,s₀:=s,H₀:=H,outer:=X.stack,stack:=X.stack,ex:=fp,fn:=fun y=>y==own,pn:= [],xe:=fun _ _=>False}
structure eV (X:Cx) (scope:Scope) (cl:List (Str×Addr)) (own:Str) (ys:CB) (js:List Nat):Prop where
 clos:closureFor scope X.env=pure cl
 nocell:(scope.names.all fun p=> !(p.2== .cell))=true
 kind:scope.kind= .function
 loc:(scope.names.all fun p=> !(p.2== .local)||scope.names.lookup p.1==some .local)=true
 ownL:scope.names.lookup own=some .local
 sub:∀p∈cl,X.env.cells.lookup p.1=some p.2
 has:((relabel scope X.env).names.all fun p=> !(p.2== .cell||p.2== .free)||(cl.lookup p.1).isSome)=true
 noown:cl.lookup own=none
 nd:(own::ys).Nodup
 at_:∀(i:Nat) (y:Str),ys[i]?=some y->∃j:Nat,js[i]?=some j/\X.N[j]?=some y/\(X.env.scope.names.lookup y=some .cell∨X.env.scope.names.lookup y=some .free)/\((relabel scope X.env).names.lookup y=some .cell∨(relabel scope X.env).names.lookup y=some .free)
 len:js.length=ys.length
def aO (js:List Nat) (σ:St):St:=js.map fun j=>(σ[j]?).getD none
def jQ (js:List Nat) (te:TE) (σ:St) (Q:VK):It->Hp->Prop:=fun J H1=>∀p,H1 p=none->∃W:Nat->Nat->List V->Hp->Prop,(∃m,W 0 m [] (aL H1 p (.lst [])))/\
 ∀i m ys H2,W i m ys H2->H2 p=some (.lst ys)/\((J.stop i H2/\Q (.ref p) H2)∨(J.go i H2/\ys.length<sizeLine/\∀x H3,J.yld i H2 x H3->te (some x::aO js σ) H3 fun y H4=>H4 p=some (.lst ys)/\∃m',m'<m/\W (i+1) m' (ys++ [y]) (aL H4 p (.lst (ys++ [y])))))
def qs (wi:TI) (js:List Nat) (te:TE):TE:=fun σ H Q=>wi σ H (jQ js te σ Q)
theorem lookup_all {α:Type} {f:Str×α->Bool} {x:Str} {a:α}:∀{l:List (Str×α)},l.all f=true->l.lookup x=some a->f (x,a)=true:=by
 intro l h e;exact B2.mp h _ (Ax e)
section
variable {prog:Program} {w:World} {A:Around} {R:Result->Shared->Prop}
theorem c8 {elt target iter:Expr} {scope:Scope} {pos:Pos} {it acc:Value} {env:Env} (I:Nat->Shared->Prop)
  (turn:∀n s,I n s->wpAny (model prog w) A (pyNext it) (fun r s1=>match r with
   |none=>R (.ok .next) s1
   |some v=>wpAny (model prog w) A (letOwnedTupleGo target it v) (fun _ s2=>wpAny (model prog w) A (assign target env v) (fun _ s3=>wpAny (model prog w) A (eval elt env) (fun x s4=>
     wpAny (model prog w) A (call (.builtin "list.append") [acc,x]) (fun _ s5=>∃m,m<n/\I m s5) (fun _ _=>False) s4) (fun _ _=>False) s3) (fun _ _=>False) s2) (fun _ _=>False) s1) (fun _ _=>False) s)
  (n:Nat) (h:I n s):codeAny (model prog w) A (.compLoop (.ListComp elt [⟨target,iter,[],0⟩] scope pos) 0 it acc env) R s:=by
 apply codeAny_loop rfl I ?_ n h;intro n s hI;show wpAny _ _ ((compTurn (.ListComp elt [⟨target,iter,[],0⟩] scope pos) 0 it acc env).onRaise _) _ _ s;apply wpAny_noted;rw[compTurn_list1];apply wpAny_bind;apply wpAny_standAt;apply wpAny_bind;refine wpAny_mono (turn n s hI) (fun r s1 h1=>?_) fun _ _ z=>z.elim
 cases r with
 |none=>exact wpAny_pure h1
 |some v=>
  apply wpAny_bind;refine wpAny_mono h1 (fun _ s2 h2=>?_) fun _ _ z=>z.elim
  apply wpAny_bind;refine wpAny_mono h2 (fun _ s3 h3=>?_) fun _ _ z=>z.elim
  apply wpAny_bind;apply wpAny_bind;refine wpAny_mono h3 (fun x s4 h4=>?_) fun _ _ z=>z.elim
  apply wpAny_bind;refine wpAny_mono h4 (fun _ s5 h5=>?_) fun _ _ z=>z.elim
  exact wpAny_pure (wpAny_pure ⟨rfl,h5⟩)
end
section
variable {scope:Scope} {cl:List (Str×Addr)} {own:Str} {ys:CB} {js:List Nat} {fp:CC} {s4:Shared}
theorem cL {h1:Heap} (ok:eV X scope cl own ys js) (I:aB X pins σ H s) (hf:∀b∈fp,cS X pins H b) (hlt:∀b∈fp,b<s.heap.objs.size) (hns:h1.Ns s.heap.objs.size (fun _=>none))
  (hk:∀b o,s.heap.get? b=some o->h1.get? b=some o) (tk:Nat):
  aB (X.block scope cl s.heap.objs.size (own::ys) own fp s H) [] (none::aO js σ) H {s with heap:=h1,toks:=tk}:=by
 have sub:∀y c,cl.lookup y=some c->X.env.cells.lookup y=some c:=fun y c e=>ok.sub (y,c) (Ax e)
 refine ⟨⟨I.ok.mod,ok.kind,I.ok.glob,I.ok.blt,A7 _,fun x y c e1 e2=>I.ok.inj x y c (sub x c e1) (sub y c e2),fun x hx=>?_,fun x c e1 e2=>?_,I.ok.hd,I.ok.frames,.inl rfl,fun b hb=>⟨AE (hlt b hb),fun x c e=>(hf b hb).2.2.2.2.1 x c (sub x c e)⟩,
  I.bs,B4 I.ok.bsz I.sz,fun b o e hb=>?_,fun b hb z=>?_,I.stack,I.stkFree⟩,rfl,I.bare,Un.kept hk,⟨_,hns,fun i y v e1 e2 e3=>?_⟩,fun y c e=>?_,I.hok.fresh (A7 _),fun y c e=>I.freeC y c (sub y c e),fun p hp=>absurd (show p∈([]:Cz) from hp) (by simp),I.hok.kept hk,?_⟩
 ·have hx':(relabel scope X.env).names.lookup x=some .cell∨(relabel scope X.env).names.lookup x=some .free:=hx;rcases hx' with z|z
  ·have q:=lookup_all ok.has z;simp only[beq_self_eq_true,Bool.true_or,B1,Bool.false_or] at q;exact Ba.mp q
  ·have q:=lookup_all ok.has z;simp only[beq_self_eq_true,Bool.or_true,B1,Bool.false_or] at q;exact Ba.mp q
 ·have e1':(x==own)=true:=e1;have e:x=own:=beq_iff_eq.mp e1';have e2':cl.lookup x=some c:=e2;rw[e,ok.noown] at e2';cases e2'
 ·rcases (hf b hb).2.2.2.1 with z|z
  ·exact I.ok.noex b o e z
  ·exact absurd (AZ (Heap.lt_size (I.ok.bs b o e).1) z) (Nat.lt_irrefl _)
 ·rcases AU.mp (I.stkSub b z) with q|q
  ·exact (hf b hb).2.1 q
  ·exact (hf b hb).2.2.1 q
 ·cases i with
  |zero=>cases e2
  |succ i=>
   have e1':ys[i]?=some y:=e1;obtain ⟨j,hj,hN,hX,hc⟩:=ok.at_ i y e1';have e2':(aO js σ)[i]?=some (some v):=e2;unfold aO at e2';rw[A9,hj] at e2';have hs:σ[j]?=some (some v):=by
    cases q:σ[j]? with
    |none=>rw[Option.map_some,q] at e2';cases e2'
    |some o=>rw[Option.map_some,q] at e2';exact e2'
   obtain ⟨m,hn,hl⟩:=I.loc;obtain ⟨u,r,l⟩:=hl j y v hN hs (hX.elim (fun z=> .inr (.inl z)) fun z=> .inr (.inr z))
   refine ⟨u,r,.inr ⟨hc,?_⟩⟩;rcases l with ⟨k,_⟩|⟨k,c,hcl,hcell⟩
   ·have k':X.env.scope.names.lookup y=some .local:=k;rcases hX with z|z<;>(rw[z] at k';cases k')
   ·have ex:∃c',cl.lookup y=some c':=by
     rcases hc with z|z
     ·have q:=lookup_all ok.has z;simp only[beq_self_eq_true,Bool.true_or,B1,Bool.false_or] at q;exact Ba.mp q
     ·have q:=lookup_all ok.has z;simp only[beq_self_eq_true,Bool.or_true,B1,Bool.false_or] at q;exact Ba.mp q
    obtain ⟨c',hc'⟩:=ex;have e:=sub y c' hc';rw[hcl] at e;cases e;obtain ⟨oc,hoc,hd⟩:=hcell;exact ⟨c,hc',oc,hk _ _ hoc,hd⟩
 ·obtain ⟨v,oc,hoc,hd⟩:=I.cell y c (sub y c e);exact ⟨v,oc,hk _ _ hoc,hd⟩
 ·show (none::aO js σ).length=(own::ys).length;simp[aO,ok.len]
theorem dC {H':Hp} {h':Heap} {σ':St} (I:aB X pins σ H s) (hf:∀b∈fp,cS X pins H b) (J:aB (X.block scope cl s.heap.objs.size (own::ys) own fp s H) [] σ' H' s4) (hs:Heap.SameBut s.heap.objs.size s4.heap h'):
  aB X pins σ H' {s4 with heap:=h'}:=by
 have low:∀b o,s.heap.get? b=some o->b≠s.heap.objs.size:=fun b o e=>AE (Heap.lt_size e)
 have B:=J.base;have u:Un (fV X.stack) fp H H' s.heap h':={
  keep:=fun b o q n hb hx=>(hs.2 b (low b o q)).trans (B.keep b o q n hb hx)
  slot:=fun b o q n hb hx=>by
   obtain ⟨sl,e⟩:=B.slot b o q n hb hx;exact ⟨sl,(hs.2 b (low b o q)).trans e⟩
  free:=B.free
  there:=fun b o q hx=>by
   obtain ⟨o',e⟩:=B.there b o q hx;exact ⟨o',(hs.2 b (low b o q)).trans e⟩
  tups:=B.tups
  frzs:=B.frzs
  tbls:=B.tbls}
 have hn:H' s.heap.objs.size=none:=J.free;have hk:dI X.prog X.w H' h':=fun a o e=>(J.hok a o e).stay (fun b v hb q=>(hs.2 b (by
  intro z;rcases hb with z'|z'
  ·rw[<-z',z,hn] at e;cases e
  ·rw[z,hn] at z';cases z')).trans q) (fun _ q=>q) fun _ _ q=>q
 exact I.call' (s':={s4 with heap:=h'}) (ch:=fp) J.os u hk J.bare fun b hb=>⟨(hf b hb).2.2.2.1,(hf b hb).2.1,(hf b hb).2.2.2.2.1,(hf b hb).2.2.2.2.2⟩
end
open PySem.Builtin PySem.Builtin.ObjectAttr
theorem gS:entryFor table "proto.unchain" =some Builtin.«proto.unchain» :=entryFor_of_fast (by kernel_rfl)
def iY (hd:CG) (H:Hp):Prop:=∀v,hd=some v->∃a n cls dx,v= .ref a/\H a=some (sH n a cls dx)
theorem iY.no {H:Hp}:iY none H:=fun _ z=>nomatch z
section
variable {prog:Program} {w:World} {A:Around} {E:Cw}
theorem lN {it hx:Addr} {ox:Obj} {vs:Array Value} {x left step:Int} {Q:CG->Shared->Prop} (hh:A.handled=some (.ref hx)) (ho:s.heap.get? hx=some ox) (hd:ox.data= .fields vs) (h2:vs[2]?=some .none)
  (hit:IsRangeIter s.heap it x left step) (hleft:left<=0) (hQ:∀h',Heap.ExtBut it s.heap h'->Q none {s with heap:=h'}):wpAny (model prog w) A (pyNext (.ref it)) Q E s:=by
 have hT:s.TypeIs (.ref it) "range_iterator" :=⟨_,hit,rfl⟩;unfold pyNext;refine wpAny_bind (wpAny_attempt (wpAny_callSpecial?_slot (name:=Str.ofString "__next__") hT F.slot_range_iterator_next
  (wpAny_call_entry F.slot_range_iterator_next hT F.entry_range_iterator_next ?_ (F.args_range_iterator_next_1 _))))
 show wpAny _ _ (field (.ref it) 0>>=_) _ _ s;refine wpAny_bind (wpAny_field hit rfl (x:=rawInt x) rfl ?_);show wpAny _ _ (field (.ref it) 1>>=_) _ _ s;refine wpAny_bind (wpAny_field hit rfl (x:=rawInt left) rfl ?_);show wpAny _ _ (field (.ref it) 2>>=_) _ _ s;refine wpAny_bind (wpAny_field hit rfl (x:=rawInt step) rfl ?_);show wpAny _ _ (if left<=0 then _ else _) _ _ s
 rw[if_pos hleft];refine wpAny_bind (wpAny_rule ?_);refine wpAny_bind ?_;show wpAny _ _ (newExc (.type "StopIteration") []>>=_) _ _ _;refine wpAny_bind ?_;simp only[newExc,newTuple];refine wpAny_bind (wpAny_newObj_type ?_ (by size_fits))
 refine wpAny_bind (m:=firstArgMember _ _) (wpAny_of_eq (a:=Value.none) (by first|rfl|(simp only[firstArgMember];rfl)) ?_)
 refine wpAny_newObj_type ?_ (by size_fits)
 simp only[raiseNew];refine wpAny_bind (wpAny_handled ?_);rw[show A.in1.handled=some (.ref hx) from hh]
 have g0:s.heap.get? (s.heap.push {cls:= .type "tuple",dict:=none,data:= .seq ([]:CD).toArray}).objs.size=none:=Heap.get?_none_of_le (by rw[Heap.size_push];omega)
 have ne:hx≠(s.heap.push {cls:= .type "tuple",dict:=none,data:= .seq ([]:CD).toArray}).objs.size:=fun z=>by
  rw[z,g0] at ho;cases ho
 dsimp only;rw[if_pos (bne_iff_ne.mpr fun z=>ne (Value.ref.inj z))]
 refine wpAny_bind (wpAny_holding (wpAny_runValue (codeAny_builtin gS ?_)));show wpAny _ _ (field (.ref hx) 2>>=_) _ _ _;refine wpAny_bind (wpAny_field (Heap.get?_push_of_some _ (Heap.get?_push_of_some _ ho)) hd h2 ?_);rw[if_pos (by rfl)]
 refine wpAny_bind (wpAny_pure (wpAny_pure ?_));refine wpAny_bind (m:=updateField _ 2 _) (wpAny_setField (Heap.get?_push_size _ rfl) rfl (by show 2<6;decide) ?_)
 refine wpAny_throw ?_;refine wpAny_bind (wpAny_isInstance (T:= "StopIteration") (b:=true) ⟨_,Heap.get?_update_self _ (Heap.get?_push_size _ rfl) rfl,rfl⟩ isSubtype_stop ?_);refine wpAny_pure (hQ _ fun b o hb e=>?_)
 rw[Heap.get?_update_other _ _ (by
  intro z;rw[z] at g0;rw[g0] at e;cases e)]
 exact Heap.get?_push_of_some _ (Heap.get?_push_of_some _ e)
end
structure tY (hd:CG) (P:Program) (w:World) (K:A4) (tg:Expr) (J:It) (fp:CC) (it:Addr) (tn:Nat->Heap->Prop):Prop where
 mem:it∈fp
 obj:∀i h,tn i h->∀b∈fp,∃o,h.get? b=some o/\∀v,o.data≠ .cell v
 keep:∀i h h',tn i h->(∀b∈fp,∀o,h.get? b=some o->h'.get? b=some o)->tn i h'
 item:∀(X:Cx),X.prog=P->X.w=w->X.K=K->X.A.handled=hd->∀(i:Nat) (pins:Cz) (s:Shared) (σ:St) (H:Hp) (E:Cw),aB X pins σ H s->(∀b∈fp,cS X pins H b)->tn i s.heap->J.go i H->
  wpAny (model P w) X.A (pyNext (.ref it)) (fun r s1=>∃u,r=some u/\
   wpAny (model P w) X.A (letOwnedTupleGo tg (.ref it) u) (fun _ s2=>∃x H',aB X pins σ H' s2/\RelV x u/\J.yld i H x H'/\tn (i+1) s2.heap/\∀b∈fp,H' b=none) E s1) E s
 done:∀(X:Cx),X.prog=P->X.w=w->X.K=K->X.A.handled=hd->∀(i:Nat) (pins:Cz) (s:Shared) (σ:St) (H:Hp) (E:Cw),aB X pins σ H s->(∀b∈fp,cS X pins H b)->tn i s.heap->J.stop i H->
  wpAny (model P w) X.A (pyNext (.ref it)) (fun r s1=>r=none/\aB X pins σ H s1) E s
 self:∀(A:Around) (i:Nat) (s:Shared) (Q:Cw) (E:Cw),tn i s.heap->Q (.ref it) s->wpAny (model P w) A (pyIter (.ref it)) Q E s
def wb (hd:CG) (X:Cx) (pins:Cz) (σ:St) (tg:Expr) (R:It->Hp->Prop) (itv:Value) (s2:Shared):Prop:=
 ∃(it:Addr) (fp:CC) (tn:Nat->Heap->Prop) (J:It) (H':Hp),itv= .ref it/\aB X pins σ H' s2/\tY hd X.prog X.w X.K tg J fp it tn/\tn 0 s2.heap/\(∀b∈fp,cS X pins H' b)/\R J H'
def xF (hd:CG) (X:Cx) (tg iter:Expr) (wi:TI):Prop:=
 ∀(pins:Cz) (s:Shared) (σ:St) (H:Hp) (R:It->Hp->Prop),aB X pins σ H s->wi σ H R->
  wpAny (model X.prog X.w) X.A (eval iter X.env) (fun v s1=>wpAny (model X.prog X.w) X.A (pyIter v) (wb hd X pins σ tg R) X.xe s1) X.xe s
def qt (hd:CG) (lo:Int) (n:Nat):It:=⟨fun i _=>i<n,fun i H x H'=>H'=H/\x= .int (lo+i),fun i H=>n<=i/\iY hd H⟩
theorem jR {hd:CG} {P:Program} {w:World} {K:A4} {tg:Expr} (it:Addr) (lo:Int) (n:Nat):tY hd P w K tg (qt hd lo n) [it] it (fun i h=>IsRangeIter h it (lo+(i:Nat)*1) ((n:Int)-(i:Nat)) 1) where
 mem:=by simp
 obj:=fun i h st b hb=>by
  have e:b=it:=by simpa using hb
  subst e;exact ⟨_,st,fun v z=>by
   have z':Data.fields _=Data.cell v:=z;cases z'⟩
 keep:=fun i h h' st k=>k it (by simp) _ st
 item:=by
  intro X hP hw hK hA i pins s σ H E I hf st hg;subst hP hw hK;obtain ⟨f0,f1,f2,f3,f4,f5⟩:=hf it (by simp)
  have hg':i<n:=hg;refine wpAny_pyNext_range_item st (by omega) fun h' st' sb=>?_
  have I1:aB X pins σ H {s with heap:=h',toks:=s.toks+1}:=I.turned (fun b o hb e=>(sb.2 b hb).trans e) f0 f1 f3 f4 f5
  have st2:IsRangeIter h' it (lo+((i+1:Nat):Int)*1) ((n:Int)-((i+1:Nat):Int)) 1:=by
   have e1:lo+((i+1:Nat):Int)*1=lo+(i:Int)*1+1:=by push_cast;omega
   have e2:(n:Int)-((i+1:Nat):Int)=(n:Int)-(i:Int)-1:=by push_cast;omega
   rw[e1,e2];exact st'
  refine ⟨_,rfl,pU (s:={s with heap:=h',toks:=s.toks+1}) (n:= "range_iterator") st2 rfl rfl (by decide) ⟨.int (lo+i),H,I1,⟨s.toks,?_⟩,⟨rfl,rfl⟩,st2,fun b hb=>(hf b hb).1⟩⟩
  rw[Int.mul_one]
 done:=by
  intro X hP hw hK hA i pins s σ H E I hf st hg;subst hP hw hK;obtain ⟨f0,f1,f2,f3,f4,f5⟩:=hf it (by simp)
  obtain ⟨hl,hk⟩:=hg;cases hd with
  |none=>exact wpAny_pyNext_range_end hA st (by omega) fun h' eb=>⟨rfl,I.turned (t':=s.toks) (fun b o hb e=>eb b o hb e) f0 f1 f3 f4 f5⟩
  |some v=>
   obtain ⟨a,m,cls,dx,rfl,e⟩:=hk v rfl;obtain ⟨⟨ox,vs,h1,h2,h3,h4,h6,h5⟩,_⟩:=(show bO X.prog X.w H s.heap a (sH m a cls dx) from I.hok a _ e)
   exact lN hA h1 h4 h6 st (by omega) fun h' eb=>⟨rfl,I.turned (t':=s.toks) (fun b o hb e=>eb b o hb e) f0 f1 f3 f4 f5⟩
 self:=fun _ _ _ _ _ st h=>wpAny_pyIter_rangeiter st h
def wc (hd:CG) (ta:TA):TI:=fun σ H R=>ta σ H fun vs H1=>∃j:Int,vs= [.int j]/\ -(2^62)<=j/\j<2^62/\R (qt hd 0 j.toNat) H1
section
variable {tg:Expr} {hd:CG}
theorem oA {pins:Cz} {σ:St} {H:Hp} {s:Shared} {R:It->Hp->Prop} {E:Cw} {lo hi:Int} {t u v:Tok} {tk:Nat} (I:aB X pins σ H s) (h1: -(2^62)<=lo) (h2:lo<2^62) (h3: -(2^62)<=hi) (h4:hi<2^62)
  (q:R (qt hd lo (hi-lo).toNat) H):wpAny (model X.prog X.w) X.A (pyIter (.ref s.heap.objs.size)) (wb hd X pins σ tg R) E {s with heap:=s.heap.push {cls:= .type "range",data:= .fields #[.int lo t,.int hi u,.int 1 v]},toks:=tk}:=by
 refine wpAny_pyIter_range (IsRange.new ..) (small_one h1 h2 h3 h4) ?_;have I1:aB X pins σ H {s with heap:=s.heap.push {cls:= .type "range",data:= .fields #[.int lo t,.int hi u,.int 1 v]},toks:=tk}:=I.kept fun b o e=>Heap.get?_push_of_some _ e
 refine ⟨(s.heap.push {cls:= .type "range",data:= .fields #[.int lo t,.int hi u,.int 1 v]}).objs.size,[(s.heap.push {cls:= .type "range",data:= .fields #[.int lo t,.int hi u,.int 1 v]}).objs.size],_,_,H,rfl,
  I1.kept (t':=tk) fun b o e=>Heap.get?_push_of_some _ e,jR _ lo (hi-lo).toNat,?_,fun b hb=>?_,q⟩
 ·have e1:lo+((0:Nat):Int)*1=lo:=by simp
  have e2:(((hi-lo).toNat:Nat):Int)-((0:Nat):Int)=Builtin.Range.rangeSize lo hi 1:=by rw[rangeSize_one];split<;>omega
  show IsRangeIter _ _ (lo+((0:Nat):Int)*1) ((((hi-lo).toNat:Nat):Int)-((0:Nat):Int)) 1;rw[e1,e2];exact Heap.get?_push_size _ rfl
 ·have e:b=(s.heap.push {cls:= .type "range",data:= .fields #[.int lo t,.int hi u,.int 1 v]}).objs.size:=by simpa using hb
  subst e;exact I1.fpOk (A7 _) (I1.hok.fresh (A7 _))
theorem iy {a:Expr} {ta:TA} {p pos:Pos} (hg:Gl X "range") (hm:X.mg "range" =none) (ha:PA X [a] ta) (hs:starEach [a] X.env= [(false,eval a X.env)]:=by rfl):xF hd X tg (.Call (.Name "range" p) [a] [] pos) (wc hd ta):=by
 intro pins s σ H R I h;refine Call_ (di I hg hm boot_range (BJ (aZ (ha pos pins s σ H _ I h) fun us s1 ⟨vs,H1,I1,r1,q1⟩=>?_) hs rfl))
 obtain ⟨j,e,q1,q2,q⟩:=q1;subst e;cases r1 with
 |cons r rr=>
  cases rr;obtain ⟨t,rfl⟩:=r;exact call_range_1 (oA I1 (by omega) (by omega) q1 q2 (by simpa using q))
end
section
variable {scope:Scope} {cl:List (Str×Addr)} {own:Str} {ys:CB} {js:List Nat} {elt iter:Expr} {px pos:Pos} {wi:TI} {te:TE} {hd:CG}
theorem qu (hA:X.A.handled=hd) (ok:eV X scope cl own ys js) (hi:xF hd X (.Name own px) iter wi)
  (he:∀(C:Addr) (fp:CC) (s:Shared) (H:Hp),PE (X.block scope cl C (own::ys) own fp s H) elt te)
  (hs:∀x,foldedSetIterable iter X.env x=pure x:=by intro _;rfl):PE X (.ListComp elt [⟨.Name own px,iter,[],0⟩] scope pos) (qs wi js te):=by
 intro pins s σ H Q I h;rw[eval_ListComp];have ncell:∀y∈scope.names,y.2≠ .cell:=fun y hy z=>by
  have q:=B2.mp ok.nocell y hy;rw[z] at q;simp at q
 have nloc:∀y∈scope.names,y.2= .local->scope.names.lookup y.1=some .local:=fun y hy z=>by
  have q:=B2.mp ok.loc y hy;rw[z] at q
  simpa using q
 refine wpAny_comprehension_free (use:=none) rfl hs ok.clos ok.kind nloc (aZ (hi pins s σ H _ I h) fun v s1 h1=>aZ h1 fun itv s2 h2=>?_)
 obtain ⟨it,fp,tn,J,H2,rfl,I2,T,st2,f2,q2⟩:=h2;obtain ⟨W,⟨m0,w0⟩,turn⟩:=q2 s2.heap.objs.size (I2.hok.fresh (A7 _));refine wpAny_newObj_type (wpAny_newFunctionEnv ncell (by intro y hy;simp at hy) (fun h1 hns hsb=>?_) ok.kind)
 have I3:=I2.laid (a:=s2.heap.objs.size) (o:= .lst []) (h':=s2.heap.push {cls:= .type "list",dict:=none,data:= .seq ([]:CD).toArray}) (t':=s2.toks) (fun b u q=>Heap.get?_push_of_some _ q) (A7 _)
  ⟨Ar _,[],0,.nil,Heap.get?_push_size _ rfl⟩
 have fpo:∀b∈fp,b<s2.heap.objs.size:=fun b hb=>by
  obtain ⟨o,e,_⟩:=T.obj 0 _ st2 b hb;exact Heap.lt_size e
 have f3:∀b∈fp,cS X pins (aL H2 s2.heap.objs.size (.lst [])) b:=fun b hb=>⟨by rw[am (AE (fpo b hb))];exact (f2 b hb).1,(f2 b hb).2⟩
 generalize hs3:({s2 with heap:=s2.heap.push {cls:= .type "list",dict:=none,data:= .seq ([]:CD).toArray},toks:=s2.toks}:Shared)=s3 at I3
 have e3:s3.heap=s2.heap.push {cls:= .type "list",dict:=none,data:= .seq ([]:CD).toArray}:=by rw[<-hs3]
 have lt3:∀b∈fp,b<s3.heap.objs.size:=fun b hb=>by rw[e3,Heap.size_push];exact Am (fpo b hb)
 dsimp only at hns hsb⊢;rw[<-e3] at hns hsb;have hk:∀b o,s3.heap.get? b=some o->h1.get? b=some o:=fun b o e=>hsb.extBut b o (AE (Heap.lt_size e)) (Heap.get?_push_of_some _ e)
 have J0:=cL (h1:=h1) ok I3 f3 lt3 hns hk (s2.toks+0);have t0:tn 0 h1:=T.keep 0 _ _ st2 fun b hb o e=>hk b o (by rw[e3];exact Heap.get?_push_of_some _ e)
 have fpB:∀{H':Hp},(∀b∈fp,H' b=none)->∀b∈fp,cS (X.block scope cl s3.heap.objs.size (own::ys) own fp s3 (aL H2 s2.heap.objs.size (.lst []))) [] H' b:=fun {H'} hn b hb=>
  ⟨hn b hb,AE (lt3 b hb),fun z=>(AU.mp (I3.stkSub b z)).elim (f3 b hb).2.1 (f3 b hb).2.2.1,.inl hb,fun x c e=>(f3 b hb).2.2.2.2.1 x c (ok.sub (x,c) (Ax e)),fun p hp=>absurd (show p∈([]:Cz) from hp) (by simp)⟩
 have loop:codeAny (model X.prog X.w) X.A (.compLoop (.ListComp elt [⟨.Name own px,iter,[],0⟩] scope pos) 0 (.ref it) (.ref s2.heap.objs.size) (compEnvC scope cl s3.heap.objs.size X.env))
   (compPost (model X.prog X.w) X.A X.xe none (EP X pins σ Q) (.ref s2.heap.objs.size) s3.heap.objs.size) {s3 with heap:=h1,toks:=s2.toks+0}:=by
  refine c8 (fun n s'=>∃i zs o0 H',aB (X.block scope cl s3.heap.objs.size (own::ys) own fp s3 (aL H2 s2.heap.objs.size (.lst []))) [] (o0::aO js σ) H' s'/\tn i s'.heap/\(∀b∈fp,H' b=none)/\W i n zs H') ?_ m0
   ⟨0,[],none,_,J0,t0,fun b hb=>(f3 b hb).1,w0⟩
  rintro n s5 ⟨i,zs,o0,H5,I5,t5,n5,w5⟩;obtain ⟨hD,hw⟩:=turn i n zs H5 w5;rcases hw with ⟨stop,qn⟩|⟨go,hz,step⟩
  ·refine aZ (T.done (X.block scope cl s3.heap.objs.size (own::ys) own fp s3 (aL H2 s2.heap.objs.size (.lst []))) rfl rfl rfl hA i [] s5 _ H5 (fun _ _=>False) I5 (fpB n5) t5 stop) fun r s6 ⟨hr,I6⟩=>?_
   subst hr;obtain ⟨m,hn,_⟩:=id I6.loc;exact ⟨m,hn,fun h' hs'=>⟨V.ref s2.heap.objs.size,H5,dC I3 f3 I6 hs',rfl,qn⟩⟩
  ·refine aZ (T.item (X.block scope cl s3.heap.objs.size (own::ys) own fp s3 (aL H2 s2.heap.objs.size (.lst []))) rfl rfl rfl hA i [] s5 _ H5 (fun _ _=>False) I5 (fpB n5) t5 go) fun r s6 ⟨u,hr,h6⟩=>?_
   subst hr;refine aZ h6 fun _ s7 ⟨x,H7,I7,r7,y7,t7,n7⟩=>?_
   have I7':=I7.pinned (fpB n7) (T.obj _ _ t7);have hst:=step x H7 y7;have own':(relabel scope X.env).names.lookup own=some .local:=lookup_relabel_local ok.ownL;refine aZ (c5 (X:=X.block scope cl s3.heap.objs.size (own::ys) own fp s3 (aL H2 s2.heap.objs.size (.lst []))) (i:=0) (x:=own) (pos:=px) ok.nd rfl (.inl own') (.inr own') _ s7 _ H7 x u (fun σ' H'=>σ'=some x::aO js σ/\H'=H7) I7' r7 ⟨rfl,rfl⟩) fun _ s8 ⟨σ8,H8,I8,e8,eH8⟩=>?_
   subst e8 eH8;refine aZ (he _ _ _ _ _ s8 _ H8 _ I8 hst) fun yv s9 ⟨y,H9,I9,r9,hD9,m',hm,w9⟩=>?_
   refine aZ (a8 _ s9 _ H9 (.ref s2.heap.objs.size) [y] (.ref s2.heap.objs.size) [yv] (fun _ H'=>H'=aL H9 s2.heap.objs.size (.lst (zs++ [y]))) I9 rfl (.cons r9 .nil) ⟨_,zs,y,rfl,rfl,hD9,hz,rfl⟩) fun _ s10 ⟨_,H10,I10,_,e10⟩=>?_
   subst e10;refine ⟨m',hm,i+1,zs++ [y],some x,_,I10.unpinned,T.keep _ _ _ t7 fun b hb o e=>(I10.pin (b,o) (AD _ (AD _ (bo hb e)))).1,fun b hb=>?_,w9⟩
   obtain ⟨o,e,d⟩:=T.obj _ _ t7 b hb;exact (I10.pin (b,o) (AD _ (AD _ (bo hb e)))).2.1
 subst hs3;exact codeAny_compStart_list loop (T.self _ 0 _ _ _ t0 loop)
theorem qw {i:Nat} {y:Str} {py spos:Pos} (hN:X.N.Nodup) (hi':X.N[i]?=some y) (hy:X.env.scope.names.lookup y=some .local) (hA:X.A.handled=hd) (ok:eV X scope cl own ys js) (hi:xF hd X (.Name own px) iter wi)
  (he:∀(C:Addr) (fp:CC) (s:Shared) (H:Hp),PE (X.block scope cl C (own::ys) own fp s H) elt te)
  (hsw:swapsWith (.ListComp elt [⟨.Name own px,iter,[],0⟩] scope pos) (some (.Name y py)) spos.line X.env=pure true:=by rfl) (hs:∀x,foldedSetIterable iter X.env x=pure x:=by intro _;rfl):
  PS X (.Assign [.Name y py] (.ListComp elt [⟨.Name own px,iter,[],0⟩] scope pos) spos) (k7 (qs wi js te) (b9 i)):=by
 intro pins s σ H D I h;have ncell:∀y∈scope.names,y.2≠ .cell:=fun y hy z=>by
  have q:=B2.mp ok.nocell y hy;rw[z] at q;simp at q
 have nloc:∀y∈scope.names,y.2= .local->scope.names.lookup y.1=some .local:=fun y hy z=>by
  have q:=B2.mp ok.loc y hy;rw[z] at q
  simpa using q
 show wpAny _ _ (exec _ X.env) _ _ _;rw[exec_Assign_Name_used _ _ _ _ hsw];refine wpAny_bind (wpAny_standAt (wpAny_bind ?_));show wpAny _ X.A (do let _<-comprehension (.ListComp elt [⟨.Name own px,iter,[],0⟩] scope pos) scope X.env _ (newList []) false (eval iter X.env) (some (assign (.Name y py) X.env))) _ _ s
 refine wpAny_bind (wpAny_mono (wpAny_comprehension_free (use:=some (assign (.Name y py) X.env)) (Q:=fun _ s'=>SP X pins D .next s') rfl hs ok.clos ok.kind nloc (aZ (hi pins s σ H _ I h) fun v s1 h1=>aZ h1 fun itv s2 h2=>?_)) (fun _ s' hq=>wpAny_pure (wpAny_pure hq)) fun _ _ e=>e)
 obtain ⟨it,fp,tn,J,H2,rfl,I2,T,st2,f2,q2⟩:=h2;obtain ⟨W,⟨m0,w0⟩,turn⟩:=q2 s2.heap.objs.size (I2.hok.fresh (A7 _));refine wpAny_newObj_type (wpAny_newFunctionEnv ncell (by intro y hy;simp at hy) (fun h1 hns hsb=>?_) ok.kind)
 have I3:=I2.laid (a:=s2.heap.objs.size) (o:= .lst []) (h':=s2.heap.push {cls:= .type "list",dict:=none,data:= .seq ([]:CD).toArray}) (t':=s2.toks) (fun b u q=>Heap.get?_push_of_some _ q) (A7 _)
  ⟨Ar _,[],0,.nil,Heap.get?_push_size _ rfl⟩
 have fpo:∀b∈fp,b<s2.heap.objs.size:=fun b hb=>by
  obtain ⟨o,e,_⟩:=T.obj 0 _ st2 b hb;exact Heap.lt_size e
 have f3:∀b∈fp,cS X pins (aL H2 s2.heap.objs.size (.lst [])) b:=fun b hb=>⟨by rw[am (AE (fpo b hb))];exact (f2 b hb).1,(f2 b hb).2⟩
 generalize hs3:({s2 with heap:=s2.heap.push {cls:= .type "list",dict:=none,data:= .seq ([]:CD).toArray},toks:=s2.toks}:Shared)=s3 at I3
 have e3:s3.heap=s2.heap.push {cls:= .type "list",dict:=none,data:= .seq ([]:CD).toArray}:=by rw[<-hs3]
 have lt3:∀b∈fp,b<s3.heap.objs.size:=fun b hb=>by rw[e3,Heap.size_push];exact Am (fpo b hb)
 dsimp only at hns hsb⊢;rw[<-e3] at hns hsb;have hk:∀b o,s3.heap.get? b=some o->h1.get? b=some o:=fun b o e=>hsb.extBut b o (AE (Heap.lt_size e)) (Heap.get?_push_of_some _ e)
 have J0:=cL (h1:=h1) ok I3 f3 lt3 hns hk (s2.toks+0);have t0:tn 0 h1:=T.keep 0 _ _ st2 fun b hb o e=>hk b o (by rw[e3];exact Heap.get?_push_of_some _ e)
 have fpB:∀{H':Hp},(∀b∈fp,H' b=none)->∀b∈fp,cS (X.block scope cl s3.heap.objs.size (own::ys) own fp s3 (aL H2 s2.heap.objs.size (.lst []))) [] H' b:=fun {H'} hn b hb=>
  ⟨hn b hb,AE (lt3 b hb),fun z=>(AU.mp (I3.stkSub b z)).elim (f3 b hb).2.1 (f3 b hb).2.2.1,.inl hb,fun x c e=>(f3 b hb).2.2.2.2.1 x c (ok.sub (x,c) (Ax e)),fun p hp=>absurd (show p∈([]:Cz) from hp) (by simp)⟩
 have loop:codeAny (model X.prog X.w) X.A (.compLoop (.ListComp elt [⟨.Name own px,iter,[],0⟩] scope pos) 0 (.ref it) (.ref s2.heap.objs.size) (compEnvC scope cl s3.heap.objs.size X.env))
   (compPost (model X.prog X.w) X.A X.xe (some (assign (.Name y py) X.env)) (fun _ s'=>SP X pins D .next s') (.ref s2.heap.objs.size) s3.heap.objs.size) {s3 with heap:=h1,toks:=s2.toks+0}:=by
  refine c8 (fun n s'=>∃i zs o0 H',aB (X.block scope cl s3.heap.objs.size (own::ys) own fp s3 (aL H2 s2.heap.objs.size (.lst []))) [] (o0::aO js σ) H' s'/\tn i s'.heap/\(∀b∈fp,H' b=none)/\W i n zs H') ?_ m0
   ⟨0,[],none,_,J0,t0,fun b hb=>(f3 b hb).1,w0⟩
  rintro n s5 ⟨i,zs,o0,H5,I5,t5,n5,w5⟩;obtain ⟨hD,hw⟩:=turn i n zs H5 w5;rcases hw with ⟨stop,qn⟩|⟨go,hz,step⟩
  ·refine aZ (T.done (X.block scope cl s3.heap.objs.size (own::ys) own fp s3 (aL H2 s2.heap.objs.size (.lst []))) rfl rfl rfl hA i [] s5 _ H5 (fun _ _=>False) I5 (fpB n5) t5 stop) fun r s6 ⟨hr,I6⟩=>?_
   subst hr;obtain ⟨m,hn,_⟩:=id I6.loc;have J:aB X pins σ H5 s6:=dC (h':=s6.heap) I3 f3 I6 (Heap.SameBut.refl _ _);have fC:=I3.fpOk (A7 _) (show H5 s3.heap.objs.size=none from I6.free)
   obtain ⟨k0,k1,k2,k3,k4,k5⟩:=fC;show wpAny _ X.A (assign (.Name y py) X.env (.ref s2.heap.objs.size)) _ _ _;refine wpAny_assign_Name (eN (v:= .ref s2.heap.objs.size) J hN hi' (.inl hy) rfl (fun s7 I7 hsb=>?_) (.inr hy))
   obtain ⟨a',sb,ha⟩:=hsb;have ne:s3.heap.objs.size≠a':=by
    rcases ha with z|z
    ·rw[z];exact k1
    ·exact fun w=>k4 _ _ z w.symm
   exact ⟨m,hn.sameBut sb ne,fun h' hs'=>⟨_,H5,I7.turned (t':=s7.toks) (fun b o hb e=>(hs'.2 b hb).trans e) k0 k1 k3 k4 k5,qn⟩⟩
  ·refine aZ (T.item (X.block scope cl s3.heap.objs.size (own::ys) own fp s3 (aL H2 s2.heap.objs.size (.lst []))) rfl rfl rfl hA i [] s5 _ H5 (fun _ _=>False) I5 (fpB n5) t5 go) fun r s6 ⟨u,hr,h6⟩=>?_
   subst hr;refine aZ h6 fun _ s7 ⟨x,H7,I7,r7,y7,t7,n7⟩=>?_
   have I7':=I7.pinned (fpB n7) (T.obj _ _ t7);have hst:=step x H7 y7;have own':(relabel scope X.env).names.lookup own=some .local:=lookup_relabel_local ok.ownL;refine aZ (c5 (X:=X.block scope cl s3.heap.objs.size (own::ys) own fp s3 (aL H2 s2.heap.objs.size (.lst []))) (i:=0) (x:=own) (pos:=px) ok.nd rfl (.inl own') (.inr own') _ s7 _ H7 x u (fun σ' H'=>σ'=some x::aO js σ/\H'=H7) I7' r7 ⟨rfl,rfl⟩) fun _ s8 ⟨σ8,H8,I8,e8,eH8⟩=>?_
   subst e8 eH8;refine aZ (he _ _ _ _ _ s8 _ H8 _ I8 hst) fun yv s9 ⟨y,H9,I9,r9,hD9,m',hm,w9⟩=>?_
   refine aZ (a8 _ s9 _ H9 (.ref s2.heap.objs.size) [y] (.ref s2.heap.objs.size) [yv] (fun _ H'=>H'=aL H9 s2.heap.objs.size (.lst (zs++ [y]))) I9 rfl (.cons r9 .nil) ⟨_,zs,y,rfl,rfl,hD9,hz,rfl⟩) fun _ s10 ⟨_,H10,I10,_,e10⟩=>?_
   subst e10;refine ⟨m',hm,i+1,zs++ [y],some x,_,I10.unpinned,T.keep _ _ _ t7 fun b hb o e=>(I10.pin (b,o) (AD _ (AD _ (bo hb e)))).1,fun b hb=>?_,w9⟩
   obtain ⟨o,e,d⟩:=T.obj _ _ t7 b hb;exact (I10.pin (b,o) (AD _ (AD _ (bo hb e)))).2.1
 subst hs3;exact codeAny_compStart_list loop (T.self _ 0 _ _ _ t0 loop)
end
end L2
namespace Sw
open PySem L2 XH
structure Dx (P:Program) (w:World) (K:A4) (mg:Cy) (base:Heap) (CX:lB) (k:Nat) (x:Str) (ps:CB) (dvs:List V) (sp:Sp) where
 f:Addr
 fd:FuncData
 ok:a7 P w K mg base CX k f fd ps sp
 m:mg x=some (.ref f)
 q:BC K (.ref f)=true
 b:Binds K fd ps []
 bd:∃ds,Binds K fd ps ds/\aM dvs ds
section
variable {X:Cx} {k j:Nat} {x:Str} {ps:CB} {sp:Sp} {p pos:Pos} {e:Expr} {es:List Expr} {t:TA} {dvs:List V} {E:St->XK}
theorem uO (D:Dx X.prog X.w X.K X.mg X.base ba k x ps dvs sp) (hr:bx j X.A) (hk:k<=j) (hg:Gl X x) (ha:PA X (e::es) t) (hdb:(x==("__debug__" :Str))=false:=by decide)
  (he:starEach (e::es) X.env=(false,eval e X.env)::starEach es X.env:=by rfl) (hpl:(backTo pos (starEach es X.env)).any (·.1)=false:=by rfl):
  PE X (.Call (.Name x p) (e::es) [] pos) (jG sp [] E0 t):=
 mR D.ok (hr.mono hk) hg D.m D.q D.b .nil iq ha hdb he hpl
theorem ng (D:Dx X.prog X.w X.K X.mg X.base ba k x ps dvs sp) (hr:bx j X.A) (hk:k<=j) (hg:Gl X x) (ha:PA X (e::es) t) (hdb:(x==("__debug__" :Str))=false:=by decide)
  (he:starEach (e::es) X.env=(false,eval e X.env)::starEach es X.env:=by rfl) (hpl:(backTo pos (starEach es X.env)).any (·.1)=false:=by rfl):
  PE X (.Call (.Name x p) (e::es) [] pos) (jG sp dvs E0 t):=by
 obtain ⟨ds,hb,hv⟩:=D.bd;exact mR D.ok (hr.mono hk) hg D.m D.q hb hv iq ha hdb he hpl
theorem uP (D:Dx X.prog X.w X.K X.mg X.base (jt X.prog X.w) k x ps dvs sp) (hr:bx j X.A) (hk:k<=j) (hg:Gl X x) (hx:jP X E) (ha:PA X (e::es) t) (hdb:(x==("__debug__" :Str))=false:=by decide)
  (he:starEach (e::es) X.env=(false,eval e X.env)::starEach es X.env:=by rfl) (hpl:(backTo pos (starEach es X.env)).any (·.1)=false:=by rfl):
  PE X (.Call (.Name x p) (e::es) [] pos) (qj sp [] E t):=
 qk D.ok (hr.mono hk) hg D.m D.q D.b .nil hx ha hdb he hpl
end
theorem a9.okX {P:Program} {w:World} {K:A4} {mg:Cy} {base:Heap} {x qual:Str} {st:Stmt} {dV:Value} {f:Addr} {fd:FuncData} {N ps:CB} {k:Nat} {sp:Sp} (F:a9 K x qual st dV f fd) (S:aD N ps (ar st)) (len:∀vs H Q E,sp vs H Q E->vs.length=ps.length)
  (hbody:∀(cdv:Value) (A:Around) (outer:List Env) (s:Shared) (H:Hp) (vs:List V) (Q:VK) (E:XK),bx k (A.deeper (PyProof.Rows.envOfC qual (ar st) s.heap.objs.size f cdv))->sp vs H Q E->
   ∃t,hU ((fS (jt P w) P w K mg base N qual (ar st) f cdv A outer s H E).wish (XS (fS (jt P w) P w K mg base N qual (ar st) f cdv A outer s H E) fun _=>E)) (bS st) t/\t {nx:=fun _ H'=>Q .non H',rt:=Q} (start N vs) H):a7 P w K mg base (jt P w) (k+1) f fd ps sp:=by
 obtain ⟨oc,od,kV,doc,pm,an,cdv,ct,osl,rfl,lk,hcd⟩:=F.ex;exact uJ lk hcd S len fun A outer s H vs Q E hr hsp=>hbody cdv A outer s H vs Q E hr hsp
end Sw
namespace L2
open PySem PySem.Spec PyProof.Rows XH
end L2
namespace Sw
open PySem L2 XH
end Sw
namespace L2
open PySem PySem.Spec PyProof.Rows XH
def yn:V->Prop
 | .bl _=>True
 | .int _=>True
 | .str _=>True
 | .non=>True
 |_=>False
theorem qx {A:Around} {s:Shared} {v:V} {u w:Value} (h:yn v) (r1:RelV v u) (r2:RelV v w):SeqAt.EqAt A s u w true:=by
 cases v with
 |bl b=>
  cases r1;cases r2;have z:=SeqAt.EqAt.bool_bool (A:=A) (s:=s) b b;rw[beq_self_eq_true] at z;exact z
 |int i=>
  obtain ⟨t,rfl⟩:=r1;obtain ⟨t',rfl⟩:=r2;have z:=SeqAt.EqAt.int_int (A:=A) (s:=s) i t i t';rw[beq_self_eq_true] at z;exact z
 |str i=>
  obtain ⟨t,rfl⟩:=r1;obtain ⟨t',rfl⟩:=r2;have z:=SeqAt.EqAt.str_str (A:=A) (s:=s) i t i t';rw[beq_self_eq_true] at z;exact z
 |non=>
  cases r1;cases r2;exact SeqAt.EqAt.same _
 |_=>exact absurd h (fun z=>z)
end L2
namespace Sw
open PySem L2 XH PyProof.Rows
theorem qy {hd:CG} {H H':Hp} (h:iY hd H) (g:au H H'):iY hd H':=fun v e=>by
 obtain ⟨a,n,cls,dx,e1,e2⟩:=h v e;exact ⟨a,n,cls,dx,e1,g _ _ e2⟩
theorem dE {H H':Hp} {p:Addr} (g:au H H') (h:H p=none) (o:HO):au H (aL H' p o):=fun b u q=>by
 rw[am (aF q h)];exact g b u q
theorem sK {hd:CG} {n:Nat} {js:List Nat} {te:TE} {σ:L2.St} {H1:Hp} {Q:VK} (P:Nat->V->Prop) (hok:iY hd H1) (hn:n<=sizeLine)
  (step:∀i,i<n->∀H3,au H1 H3->∀Q':VK,(∀y H4,P i y->au H3 H4->Q' y H4)->te (some (.int (0+(i:Int)))::aO js σ) H3 Q')
  (fin:∀p ys H',H1 p=none->ys.length=n->(∀i y,ys[i]?=some y->P i y)->au H1 H'->H' p=some (.lst ys)->Q (.ref p) H'):
  jQ js te σ Q (qt hd 0 n) H1:=by
 intro p hp;refine ⟨fun i m ys H2=>i<=n/\m=n-i/\ys.length=i/\(∀j y,ys[j]?=some y->P j y)/\au H1 H2/\H2 p=some (.lst ys),⟨n,Ar _,rfl,rfl,fun j y e=>by simp at e,ao hp _,af⟩,?_⟩
 rintro i m ys H2 ⟨hi,rfl,hl,hP,g,e⟩;refine ⟨e,?_⟩
 by_cases hin:i<n
 ·refine .inr ⟨hin,by omega,fun x H3 hy=>?_⟩
  obtain ⟨rfl,rfl⟩:=hy;refine step i hin H3 g _ fun y H4 py g4=>⟨g4 _ _ e,n-(i+1),by omega,hin,rfl,by simp[hl],fun j z ez=>?_,dE (g.trans g4) hp _,af⟩
  by_cases hj:j<ys.length
  ·rw[A8 hj] at ez;exact hP j z ez
  ·rw[A6 (by omega)] at ez
   have h0:j-ys.length=0:=by
    rcases Nat.eq_zero_or_pos (j-ys.length) with q|q
    ·exact q
    ·rw[List.getElem?_eq_none (by simp;omega)] at ez;cases ez
   rw[h0] at ez;have hji:j=i:=by omega
   subst hji;cases ez;exact py
 ·have e2:i=n:=by omega
  subst e2;exact .inl ⟨⟨A7 _,qy hok g⟩,fin p ys H2 hp hl hP g e⟩
def iZ (X:Cx) (scope:Scope) (ys:CB) (js:List Nat):Prop:=∀(i:Nat) (y:Str),ys[i]?=some y->∃j:Nat,js[i]?=some j/\X.N[j]?=some y/\(X.env.scope.names.lookup y=some .cell∨X.env.scope.names.lookup y=some .free)/\((relabel scope X.env).names.lookup y=some .cell∨(relabel scope X.env).names.lookup y=some .free)
theorem rR {X:Cx} {scope:Scope}:iZ X scope [] []:=fun i y h=>by simp at h
theorem jS {X:Cx} {scope:Scope} {ys:CB} {js:List Nat} {y:Str} {j:Nat} (t:iZ X scope ys js) (h1:X.N[j]?=some y:=by rfl) (h2:X.env.scope.names.lookup y=some .cell∨X.env.scope.names.lookup y=some .free:=by first|exact Or.inl rfl|exact Or.inr rfl)
  (h3:(relabel scope X.env).names.lookup y=some .cell∨(relabel scope X.env).names.lookup y=some .free:=by first|exact Or.inl rfl|exact Or.inr rfl):iZ X scope (y::ys) (j::js):=fun i z h=>by
 cases i with
 |zero=>
  cases h;exact ⟨j,rfl,h1,h2,h3⟩
 |succ i=>exact t i z h
inductive oB (X:Cx):List (Str×Addr)->Prop where
 |nil:oB X []
 |cons {y:Str} {c:Addr} {cl:List (Str×Addr)} (h:X.env.cells.lookup y=some c) (t:oB X cl):oB X ((y,c)::cl)
theorem oB.all {X:Cx} {cl:List (Str×Addr)} (h:oB X cl):∀p∈cl,X.env.cells.lookup p.1=some p.2:=by
 induction h with
 |nil=>intro p hp;simp at hp
 |cons h _ ih=>
  intro p hp;rcases AU.mp hp with e|e
  ·rw[e];exact h
  ·exact ih p e
theorem rS {X:Cx} {scope:Scope} {cl:List (Str×Addr)} {own:Str} {ys:CB} {js:List Nat} (a:iZ X scope ys js) (s:oB X cl) (nd:(own::ys).Nodup) (len:js.length=ys.length) (clos:closureFor scope X.env=pure cl) (nocell:(scope.names.all fun p=> !(p.2== .cell))=true) (kind:scope.kind= .function)
  (loc:(scope.names.all fun p=> !(p.2== .local)||scope.names.lookup p.1==some .local)=true) (ownL:scope.names.lookup own=some .local) (has:((relabel scope X.env).names.all fun p=> !(p.2== .cell||p.2== .free)||(cl.lookup p.1).isSome)=true) (noown:cl.lookup own=none):eV X scope cl own ys js:=
 ⟨clos,nocell,kind,loc,ownL,s.all,has,noown,nd,a,len⟩
structure ju (P:Program) (w:World) (K:A4) (mg:Cy) (base:Heap) (CX:lB) (k:Nat) (f:Addr) (ps:CB) (dvs:List V) (sp:Sp) where
 fd:FuncData
 ok:a7 P w K mg base CX k f fd ps sp
 b:Binds K fd ps []
 bd:∃ds,Binds K fd ps ds/\aM dvs ds
def qz (K:A4) (m:Str) (f:Addr) (sp:Sp) (dvs:List V) (ta:TE) (t:TA):TE:=fun σ H Q=>ta σ H fun x H1=>∃a C dx fs,x= .ref a/\H1 a=some (.ins C dx fs)/\eT K C/\bu K C m f/\fs.lookup m=none/\
 t σ H1 fun vs H2=>sp (x::(vs++dvs)) H2 Q E0
structure uQ (K:A4) (C:Addr) (m:Str) (f:Addr):Prop where
 sp:PySem.W.specialIn K (.ref C) "__getattribute__" =some (some (.builtin "type.__getattribute__"))
 rd:PySem.W.readsIn K C (.type "type")=true
 fc:PySem.W.findCls K (.ref C) (.type "type") m=some (.val (.ref f))
 kp:BC K (.ref f)=true
section
variable {X:Cx} {k j:Nat} {f C:Addr} {ps:CB} {sp:Sp} {dvs:List V} {x m:Str} {p pos apos:Pos} {e o:Expr} {es:List Expr} {ta tb:TE} {t:TA}
theorem uR (M:Mk X.K C f) (D:ju X.prog X.w X.K X.mg X.base ba k f ps dvs sp) (hr:bx j X.A) (hk:k+1<=j) (hg:Gl X x) (hm:X.mg x=some (.ref C)) (ha:PA X (e::es) t) (hdb:(x==("__debug__" :Str))=false:=by decide)
  (he:starEach (e::es) X.env=(false,eval e X.env)::starEach es X.env:=by rfl) (hpl:(backTo pos (starEach es X.env)).any (·.1)=false:=by rfl):PE X (.Call (.Name x p) (e::es) [] pos) (p9 C sp [] E0 t):=
 mS M D.ok (hr.mono hk) hg hm D.b .nil iq ha hdb he hpl
theorem i3 (M:Mk X.K C f) (D:ju X.prog X.w X.K X.mg X.base ba k f ps dvs sp) (hr:bx j X.A) (hk:k+1<=j) (hg:Gl X x) (hm:X.mg x=some (.ref C)) (ha:PA X (e::es) t) (hdb:(x==("__debug__" :Str))=false:=by decide)
  (he:starEach (e::es) X.env=(false,eval e X.env)::starEach es X.env:=by rfl) (hpl:(backTo pos (starEach es X.env)).any (·.1)=false:=by rfl):PE X (.Call (.Name x p) (e::es) [] pos) (p9 C sp dvs E0 t):=by
 obtain ⟨ds,hb,hv⟩:=D.bd;exact mS M D.ok (hr.mono hk) hg hm hb hv iq ha hdb he hpl
theorem qA {pins:Cz} {σ:L2.St} {H1:Hp} {s1:Shared} {Q:VK} {a dx:Addr} {fs:List (Str×V)} {pl:Sem Bool} {ds:CD} (F:a7 X.prog X.w X.K X.mg X.base ba k f fd ps sp) (hr:bx k X.A) (hb:Binds X.K fd ps ds) (hd:aM dvs ds) (ha:PA X (e::es) t)
  (hst:starEach (e::es) X.env=(false,eval e X.env)::starEach es X.env) (hpl:(backTo pos (starEach es X.env)).any (·.1)=false)
  (I1:aB X pins σ H1 s1) (ea:H1 a=some (.ins C dx fs)) (c:eT X.K C) (hm:bu X.K C m f) (l:fs.lookup m=none) (q:t σ H1 fun vs H2=>sp (.ref a::(vs++dvs)) H2 Q E0):
  wpAny (model X.prog X.w) X.A (getMethod (.ref a) m pl) (fun fx s2=>wpAny (model X.prog X.w) X.A (callWith pos fx.1 fx.2 (backTo pos (starEach (e::es) X.env)) (backToKw pos (keywordEach [] X.env))) (EP X pins σ Q) X.xe s2) X.xe s1:=by
 refine lq I1 ea c hm l ?_;refine C5 (first:= [.ref a]) (h₀:=X.base) I1.ok.mod.kin hm.kp (aZ (ha pos pins s1 σ H1 _ I1 q) fun us s2 ⟨vs,H2,I2,r,q2⟩=>⟨I2.kIn,?_⟩) hst hpl
 exact lD (us:= .ref a::us) (vs:= .ref a::vs) F hr hb hd iq I2 (.cons rfl r) q2
theorem eW {pl:Sem Bool} (he:PE X o ta) (D:ju X.prog X.w X.K X.mg X.base ba k f ps dvs sp) (hr:bx j X.A) (hk:k<=j) (ha:PA X (e::es) t)
  (hst:starEach (e::es) X.env=(false,eval e X.env)::starEach es X.env:=by rfl) (hpl:(backTo pos (starEach es X.env)).any (·.1)=false:=by rfl)
  (ht:eval (.Call (.Attribute o m apos) (e::es) [] pos) X.env=(do
   let ov<-eval o X.env
   standAt apos.atName
   let (f,first)<-holding [ov] (getMethod ov m pl)
   callWith pos f first (backTo pos (starEach (e::es) X.env)) (backToKw pos (keywordEach [] X.env))):=by rfl):
  PE X (.Call (.Attribute o m apos) (e::es) [] pos) (qz X.K m f sp [] ta t):=by
 intro pins s σ H Q I h;refine PySem.W.methodCall_KW (pl:=pl) (aZ (he pins s σ H _ I h) fun u s1 ⟨x,H1,I1,rx,a,C,dx,fs,ex,ea,c,hm,l,q⟩=>?_) ht
 subst ex;obtain rfl:u=Value.ref a:=rx;exact qA D.ok (hr.mono hk) D.b .nil ha hst hpl I1 ea c hm l q
theorem we {pl:Sem Bool} (M:uQ X.K C m f) (D:ju X.prog X.w X.K X.mg X.base ba k f ps dvs sp) (hr:bx j X.A) (hk:k<=j) (hg:Gl X x) (hm:X.mg x=some (.ref C)) (ha:PA X (e::es) t) (hdb:(x==("__debug__" :Str))=false:=by decide)
  (hst:starEach (e::es) X.env=(false,eval e X.env)::starEach es X.env:=by rfl) (hpl:(backTo pos (starEach es X.env)).any (·.1)=false:=by rfl)
  (ht:eval (.Call (.Attribute (.Name x p) m apos) (e::es) [] pos) X.env=(do
   let ov<-eval (.Name x p) X.env
   standAt apos.atName
   let (f,first)<-holding [ov] (getMethod ov m pl)
   callWith pos f first (backTo pos (starEach (e::es) X.env)) (backToKw pos (keywordEach [] X.env))):=by rfl):
  PE X (.Call (.Attribute (.Name x p) m apos) (e::es) [] pos) (jG sp [] E0 t):=by
 intro pins s σ H Q I h;refine PySem.W.methodCall_KW (pl:=pl) (c4 I hg hm ?_ hdb) ht;refine PySem.W.method_cls I.kIn M.sp (PySem.W.cls_value I.kIn M.rd M.fc rfl ?_);have I1:=I.tok (s.toks+1);refine C5 (first:= []) (h₀:=X.base) I.ok.mod.kin M.kp (aZ (ha pos pins _ σ H _ I1 h) fun us s2 ⟨vs,H2,I2,r,q2⟩=>⟨I2.kIn,?_⟩) hst hpl
 exact lD D.ok (hr.mono hk) D.b .nil iq I2 r q2
theorem iz {e:Expr} (h1:PE X e ta) (h2:PE X e tb):PE X e (fun σ H Q=>ta σ H Q∨tb σ H Q):=fun pins s σ H Q I h=>h.elim (h1 pins s σ H Q I) (h2 pins s σ H Q I)
end
end Sw
namespace L2
open PySem PySem.Spec PyProof.Rows
variable {X:Cx} {pins:Cz} {σ:St} {H:Hp} {s:Shared} {h':Heap}
theorem aB.turnedNew {ch:CC} {T:Addr} {o:HO} {t':Nat} (I:aB X pins σ H s) (hf:∀b∈ch,cS X pins H b) (k:∀b u,b∉ch->s.heap.get? b=some u->h'.get? b=some u) (hp:s.heap.objs.size<=T) (new:bO X.prog X.w (aL H T o) h' T o):
  aB X pins σ (aL H T o) {s with heap:=h',toks:=t'}:=by
 have nT:H T=none:=I.hok.fresh hp;have ne:∀b u,H b=some u->b≠T:=fun b u e z=>by rw[z,nT] at e;cases e
 have nch:∀b u,H b=some u->b∉ch:=fun b u e z=>by rw[(hf b z).1] at e;cases e
 have up:∀b u,H b=some u->aL H T o b=some u:=fun b u e=>by rw[am (ne b u e)];exact e
 refine I.step (g':=s.gens) (d':=s.drawn) (ch:=ch) (fun b hb=>?_) (fun b u _ _ hc e _=>k b u hc e) (fun b u _ _ hc e _=>⟨u.slots,k b u hc e⟩) (fun b u _ e n=>?_)
  (fun b u hc e=>⟨u,k b u hc e⟩) (fun b xs e=>up b _ e) (fun b u v e=>up b _ e) (fun b ps e=>⟨#[],by rw[up b _ e];simp⟩) (fun m hm=>?_) (fun b u e=>?_) I.bare
 ·obtain ⟨f0,f1,f2,f3,f4,f5⟩:=hf b hb;exact ⟨f3,f1,f4,f5⟩
 ·have:b≠T:=AE (AZ (Heap.lt_size e) hp);rw[am this];exact n
 ·obtain ⟨u,es,ep,ho,r⟩:=hm;exact ⟨u,es,ep,k _ u (fun z=>(hf _ z).2.1 rfl) ho,r⟩
 ·by_cases c:b=T
  ·subst c;rw[af] at e;cases e;exact new
  ·rw[am c] at e;refine (I.hok b u e).stay (fun c' v hc q=>k c' v ?_ q) (fun _ q=>up _ _ q) fun _ _ q=>up _ _ q
   rcases hc with z|z
   ·rw[z];exact nch b u e
   ·exact nch c' _ z
theorem aB.turnedAll {ch:CC} {t':Nat} (I:aB X pins σ H s) (hf:∀b∈ch,cS X pins H b) (k:∀b u,b∉ch->s.heap.get? b=some u->h'.get? b=some u):aB X pins σ H {s with heap:=h',toks:=t'}:=by
 have nch:∀b u,H b=some u->b∉ch:=fun b u e z=>by rw[(hf b z).1] at e;cases e
 refine I.step (g':=s.gens) (d':=s.drawn) (ch:=ch) (fun b hb=>?_) (fun b u _ _ hc e _=>k b u hc e) (fun b u _ _ hc e _=>⟨u.slots,k b u hc e⟩) (fun b u _ e n=>n)
  (fun b u hc e=>⟨u,k b u hc e⟩) (fun b xs e=>e) (fun b u v e=>e) (fun b ps e=>⟨#[],by rw[e];simp⟩) (fun m hm=>?_) (fun b u e=>?_) I.bare
 ·obtain ⟨f0,f1,f2,f3,f4,f5⟩:=hf b hb;exact ⟨f3,f1,f4,f5⟩
 ·obtain ⟨u,es,ep,ho,r⟩:=hm;exact ⟨u,es,ep,k _ u (fun z=>(hf _ z).2.1 rfl) ho,r⟩
 ·refine (I.hok b u e).stay (fun c' v hc q=>k c' v ?_ q) (fun _ q=>q) fun _ _ q=>q
  rcases hc with z|z
  ·rw[z];exact nch b u e
  ·exact nch c' _ z
def wf (K:A4) (l:Addr):It:=
 ⟨fun i H=>∃xs x,aP K H l xs/\xs[i]?=some x,fun i H v H'=>∃(T:Addr) (x:V),v= .ref T/\H T=none/\(∀xs,aP K H l xs->xs[i]?=some x)/\H'=aL H T (.tup [.int i,x]),fun i H=>∃xs,aP K H l xs/\xs.length<=i⟩
theorem oC {P:Program} {w:World} {K:A4} {elts:List Expr} {k:Nat} {pos:Pos} (l e it:Addr) (ne:e≠it):Turn P w K (.Tuple elts k pos) (wf K l) [e,it] e (fun i h=>(∃old,IsEnum h e it i old)/\h.IsListIter it l i) where
 mem:=by simp
 obj:=fun i h st b hb=>by
  obtain ⟨⟨old,he⟩,o,e1,c,d⟩:=st;rcases AU.mp hb with z|z
  ·subst z;exact ⟨_,he,fun v z=>by cases z⟩
  ·rw[AS.mp z];exact ⟨o,e1,fun v z=>by rw[d] at z;cases z⟩
 keep:=fun i h h' st k=>⟨let ⟨old,he⟩:=st.1;⟨old,k e (by simp) _ he⟩,st.2.at fun o q=>k it (by simp) o q⟩
 item:=by
  intro X hP hw hK hc i pins s σ H E I hf st hg;subst hP hw hK;obtain ⟨xs,x,hq,hx⟩:=hg;obtain ⟨its,rv,p,hz⟩:=I.list hq;obtain ⟨u,hu,ru⟩:=rv.get hx;obtain ⟨⟨old,he⟩,hit⟩:=st;refine wpAny_pyNext_enum_item he hit p.isList (x:=u) (by simpa using hu) ne fun h1 ho hit' hT hsz hk=>?_
  refine ⟨_,rfl,wpAny_letOwnedTupleGo_enum (s:={s with heap:=h1,toks:=s.toks+1}) ho fun h2 he2 hs2=>?_⟩
  have nT:H s.heap.objs.size=none:=I.hok.fresh (A7 _);have el:e<s.heap.objs.size:=Heap.lt_size he;have il:it<s.heap.objs.size:=by obtain ⟨_,q,_⟩:=hit;exact Heap.lt_size q
  have hT2:h2.get? s.heap.objs.size=some {cls:= .type "tuple",data:= .seq #[.int i s.toks,u]}:=(hs2.2 _ (Nat.ne_of_gt el)).trans hT;have kp:∀b o,b∉ [e,it]->s.heap.get? b=some o->h2.get? b=some o:=fun b o hb q=>by
   simp at hb;exact (hs2.2 b hb.1).trans (hk b o hb.1 hb.2 q)
  refine ⟨.ref s.heap.objs.size,aL H s.heap.objs.size (.tup [.int i,x]),I.turnedNew (t':=s.toks+1) (ch:= [e,it]) hf kp (A7 _) ⟨by show 2<=sizeLine;decide,[.int i s.toks,u],.cons ⟨_,rfl⟩ (.cons ru .nil),⟨_,hT2,rfl,0,rfl⟩⟩,rfl,
   ⟨_,x,rfl,nT,fun ys hy=>by rw[I.list_inj hy hq];exact hx,rfl⟩,⟨⟨u,?_⟩,?_⟩,fun b hb=>?_⟩
  ·simpa using he2
  ·exact hit'.at fun o q=>(hs2.2 it (Ne.symm ne)).trans q
  ·have bl:b≠s.heap.objs.size:=by
    rcases AU.mp hb with z|z
    ·rw[z];exact AE el
    ·rw[AS.mp z];exact AE il
   rw[am bl];exact (hf b hb).1
 done:=by
  intro X hP hw hK hc i pins s σ H E I hf st hg;subst hP hw hK;obtain ⟨xs,hq,hx⟩:=hg;obtain ⟨its,rv,p,hz⟩:=I.list hq;obtain ⟨⟨old,he⟩,hit⟩:=st;have hl:=rv.length;exact wpAny_pyNext_enum_end (I.ok.hd hc) he hit p.isList (by simp;omega) fun h' eb=>⟨rfl,I.turnedAll (t':=s.toks) (ch:= [e,it]) hf fun b o hb q=>eb b o (fun z=>hb (by simp[z])) q⟩
 self:=fun _ _ _ _ _ st h=>let ⟨_,he⟩:=st.1;wpAny_pyIter_enum he h
def wg (K:A4) (ta:TA):TI:=fun σ H R=>ta σ H fun vs H1=>∃l:Addr,vs= [.ref l]/\(∃xs,aP K H1 l xs)/\R (wf K l) H1
theorem boot_enumerate:bootBuiltins "enumerate" =some (.type "enumerate"):=by kernel_rfl
theorem sL {X:Cx} {a:Expr} {ta:TA} {elts:List Expr} {k:Nat} {tp p pos:Pos} (hg:Gl X "enumerate") (hm:X.mg "enumerate" =none) (ha:PA X [a] ta) (hs:starEach [a] X.env= [(false,eval a X.env)]:=by rfl):PI X (.Tuple elts k tp) (.Call (.Name "enumerate" p) [a] [] pos) (wg X.K ta):=by
 intro pins s σ H R I h;refine Call_ (di I hg hm boot_enumerate (BJ (aZ (ha pos pins s σ H _ I h) fun us s1 ⟨vs,H1,I1,r1,q1⟩=>?_) hs rfl))
 obtain ⟨l,e,⟨xs,hq⟩,q⟩:=q1;subst e;cases r1 with
 |cons r rr=>
  cases rr;cases r;obtain ⟨its,rv,p1,hz⟩:=I1.list hq;refine call_enumerate_list p1.isList fun h' he hit hsz hk=>?_
  refine wpAny_pyIter_enum (s:={s1 with heap:=h'}) he ?_
  have I2:aB X pins σ H1 {s1 with heap:=h'}:=I1.kept (t':=s1.toks) hk
  refine ⟨s1.heap.objs.size+1,[s1.heap.objs.size+1,s1.heap.objs.size],_,_,H1,rfl,I2,oC l _ _ (Nat.succ_ne_self _),⟨⟨_,by simpa using he⟩,hit⟩,fun b hb=>?_,q⟩
  have bl:s1.heap.objs.size<=b:=by
   rcases AU.mp hb with z|z
   ·rw[z];exact Nat.le_succ _
   ·rw[AS.mp z];exact A7 _
  exact I1.fpOk bl (I1.hok.fresh bl)
theorem qB {K:A4} {a:Addr} {xs:List V} {g:TG} {tb:TS} {D:Ends} {σ:St} {H:Hp} (Pv:Nat->St->Hp->Prop) (h0:Pv 0 σ H) (hl:∀i σ H,i<=xs.length->Pv i σ H->aP K H a xs)
  (hs:∀i x σ H (T:Addr),xs[i]?=some x->Pv i σ H->H T=none->g (.ref T) σ (aL H T (.tup [.int i,x])) fun σ2 H2=>tb {D with nx:=Pv (i+1),ct:=Pv (i+1),bk:=D.nx} σ2 H2) (hd:∀σ H,Pv xs.length σ H->D.nx σ H):
  ∃W:Nat->Nat->St->Hp->Prop,(∃m,W 0 m σ H)/\∀i m σ H,W i m σ H->
   ((wf K a).stop i H/\D.nx σ H)∨((wf K a).go i H/\∃N:St->Hp->Prop,(∀σ' H',N σ' H'->∃m',m'<m/\W (i+1) m' σ' H')/\∀x H',(wf K a).yld i H x H'->g x σ H' fun σ2 H2=>tb {D with nx:=N,ct:=N,bk:=D.nx} σ2 H2):=by
 refine ⟨fun i m σ H=>m=xs.length-i/\i<=xs.length/\Pv i σ H,⟨xs.length,by simp,Ar _,h0⟩,?_⟩
 rintro i m σ H ⟨rfl,hi,p⟩;have q:=hl i σ H hi p
 by_cases hlt:i<xs.length
 ·refine .inr ⟨⟨xs,xs[i],q,by simp[hlt]⟩,Pv (i+1),fun σ' H' p'=>⟨xs.length-(i+1),by omega,rfl,hlt,p'⟩,fun x H' y=>?_⟩
  obtain ⟨T,z,rfl,nT,hz,rfl⟩:=y;exact hs i z σ H T (hz xs q) p nT
 ·have e:i=xs.length:=by omega
  subst e;exact .inl ⟨⟨xs,q,A7 _⟩,hd σ H p⟩
open XH
def gl (x:Str) (lo hi:Option Int):Str:=⟨((x.cps.toList.drop (HT.dk x.length 0 lo)).take (HT.dk x.length x.length hi-HT.dk x.length 0 lo)).toArray⟩
theorem wj (lo hi:Option Int) (n:Nat):Builtin.Str.strSliceIndices lo hi 1 n=(Ac (HT.dk n n hi-HT.dk n 0 lo)).map (HT.dk n 0 lo+ ·):=by
 have h1:(match lo with|none=>(0:Int)|some i=>max 0 (min (if i<0 then i+(n:Int) else i) n))=((HT.dk n 0 lo:Nat):Int):=by
  cases lo with
  |none=>simp[HT.dk]
  |some i=>
   simp only[HT.dk]
   by_cases h:i<0
   ·simp only[h,if_true]<;>omega
   ·simp only[h,if_false]<;>omega
 have h2:(match hi with|none=>(n:Int)|some i=>max 0 (min (if i<0 then i+(n:Int) else i) n))=((HT.dk n n hi:Nat):Int):=by
  cases hi with
  |none=>simp[HT.dk]
  |some i=>
   simp only[HT.dk]
   by_cases h:i<0
   ·simp only[h,if_true]<;>omega
   ·simp only[h,if_false]<;>omega
 rw[<-sliceRange_one,<-h1,<-h2];cases lo<;>cases hi<;>rfl
theorem jT (x:Str) (l u:Option (Int×Tok)):(⟨((slicePicked x l u none).filterMap (x.cps[·]?)).toArray⟩:Str)=gl x (l.map (·.1)) (u.map (·.1)):=by
 show (⟨((Builtin.Str.strSliceIndices (l.map (·.1)) (u.map (·.1)) 1 x.length).filterMap (x.cps[·]?)).toArray⟩:Str)=_;rw[wj,pick_run]
 rfl
theorem cM (x:Str) (lo hi:Option Int):(gl x lo hi).length<=x.length:=by
 show ((x.cps.toList.drop _).take _).toArray.size<=x.cps.size;rw[AW,AN,List.length_drop];simp only[AK];omega
theorem lP (x:Str) (l u:Option (Int×Tok)) (h:(slicePicked x l u none).length=x.length):gl x (l.map (·.1)) (u.map (·.1))=x:=by
 have h':(Builtin.Str.strSliceIndices (l.map (·.1)) (u.map (·.1)) 1 x.length).length=x.length:=h;rw[wj,A5,B7] at h';have hs:HT.dk x.length x.length (u.map (·.1))<=x.length∨x.length<HT.dk x.length x.length (u.map (·.1)):=by omega
 have hu:HT.dk x.length x.length (u.map (·.1))<=x.length:=by
  cases u with
  |none=>exact A7 _
  |some p=>
   show (if p.1<0 then (p.1+(x.length:Int)).toNat else min p.1.toNat x.length)<=x.length
   by_cases hp:p.1<0
   ·rw[if_pos hp];omega
   ·rw[if_neg hp];omega
 unfold gl
 by_cases hx:x.length=0
 ·have e:x.cps.toList= []:=by
   have:x.cps.toList.length=0:=by rw[AK];exact hx
   exact Aq this
  rw[e,List.drop_nil,List.take_nil];obtain ⟨c⟩:=x;have e':c= #[]:=Bb.mp (by simpa using e)
  rw[e']
 ·have h0:HT.dk x.length 0 (l.map (·.1))=0:=by omega
  rw[h0,List.drop_zero,Ad (by rw[AK];show x.length<=_;omega)]
theorem part_of {v:Value} {o:Option Int} (p:IsPart v o):∃l:Option (Int×Tok),partValue l=v/\l.map (·.1)=o:=by
 cases p with
 |none=>exact ⟨none,rfl,rfl⟩
 |int i t=>exact ⟨some (i,t),rfl,rfl⟩
theorem dR {X:Cx}:xz X (fun x lo hi H Q=>∃z,x= .str z/\z.length<=sizeLine/\Q (.str (gl z lo hi)) H):=by
 intro pins s σ H x v vl vu lo hi sl Q I rx hs pl pu h;obtain ⟨z,rfl,hz,q⟩:=h;obtain ⟨t,rfl⟩:=rx;obtain ⟨l,rfl,rfl⟩:=part_of pl;obtain ⟨u,rfl,rfl⟩:=part_of pu;refine ⟨"str",_,slot_str_getitem.lookup,typeIs_str s z t,?_⟩;refine wpAny_getItem_str_slice (l:=l) (u:=u) (st:=none) hs rfl ?_;unfold sliceMade
 by_cases hw:(slicePicked z l u none).length=z.length
 ·rw[if_pos (by simp[hw])]
  refine ⟨.str (gl z (l.map (·.1)) (u.map (·.1))),H,I,⟨t,by rw[lP z l u hw]⟩,q⟩
 ·rw[if_neg (by simp[hw])]
  rw[jT];exact ⟨B4 (cM _ _ _) hz,.str (gl z (l.map (·.1)) (u.map (·.1))),H,I.tok _,⟨_,rfl⟩,q⟩
end L2
namespace Sw
open PySem PySem.NumText
end Sw
namespace L2
open PySem PySem.Spec PyProof.Rows XH
section
variable {X:Cx} {a b e o:Expr} {es:List Expr} {t te to:TE} {ta:TA} {pos apos cpos:Pos} {x y:Str}
theorem nh:∀{ns:List Int} {us:CD},aM (ns.map V.int) us->IntsAre us ns
 | [],_,h=>by cases h;exact .nil
 |n::ns,_,h=>by
  cases h with
  |cons r rr=>
   obtain ⟨t,rfl⟩:=r;exact .cons _ _ (nh rr)
theorem qC {i:Int} {p:Pos} (hg:Gl X x) (h:∃t,X.mg x=some (.int i t)) (hd:(x==("__debug__" :Str))=false:=by decide):PE X (.Name x p) (tC (.int i)):=by
 obtain ⟨t,h⟩:=h;exact rW hg h ⟨t,rfl⟩ hd
end
section
variable {X:Cx} {a b c d:Expr} {ta tb tc td:TE} {pos:Pos}
def sM (r r' r'':R2) (ta tb tc td:TE):TE:=fun σ H Q=>ta σ H fun x H1=>tb σ H1 fun y H2=>r x y H2 fun z H3=>∃k,z= .bl k/\
 (if k=true then tc σ H3 fun w H4=>r' y w H4 fun z' H5=>∃k',z'= .bl k'/\(if k'=true then td σ H5 fun v H6=>r'' w v H6 Q else Q (.bl false) H5) else Q (.bl false) H3)
theorem oE {o1 o2 o3:CmpOp} {r r' r'':R2} (h1:dX X (compareOp o1) r) (h2:dX X (compareOp o2) r') (h3:dX X (compareOp o3) r'') (ha:PE X a ta) (hb:PE X b tb) (hc:PE X c tc) (hd:PE X d td)
  (hm:lastMarks [o1,o2,o3] [b,c,d]=false:=by with_unfolding_all rfl):PT X (.Compare a [o1,o2,o3] [b,c,d] pos) (pZ (sM r r' r'' ta tb tc td)):=by
 intro pins s σ H Q I h;refine isTrue_chain (aZ (ha pins s σ H _ I h) fun v s1 ⟨x,H1,I1,r1,q1⟩=>test_link (aZ (hb pins s1 σ H1 _ I1 q1) fun u s2 ⟨y,H2,I2,r2,q2⟩=>
  aZ (h1 pins s2 σ H2 x y v u _ I2 r1 r2 q2) fun e1 s3 ⟨z,H3,I3,r3,k,e,q3⟩=>?_)) hm
 subst e;cases r3;refine wpAny_truthy_bool ?_;cases k with
 |false=>
  obtain ⟨k',e',q'⟩:=q3;cases e';exact ite_ff ⟨H3,I3,q'⟩
 |true=>
  refine ite_tt (test_link (aZ (hc pins s3 σ H3 _ I3 q3) fun w' s4 ⟨z',H4,I4,r4,q4⟩=>aZ (h2 pins s4 σ H4 y z' u w' _ I4 r2 r4 q4) fun d' s5 ⟨z2,H5,I5,r5,k2,e2,q5⟩=>?_))
  subst e2;cases r5;refine wpAny_truthy_bool ?_;cases k2 with
  |false=>
   obtain ⟨k',e',q'⟩:=q5;cases e';exact ite_ff ⟨H5,I5,q'⟩
  |true=>
   refine ite_tt (test_last (aZ (hd pins s5 σ H5 _ I5 q5) fun w2 s6 ⟨z3,H6,I6,r6,q6⟩=>aZ (h3 pins s6 σ H6 z' z3 w' w2 _ I6 r4 r6 q6) fun d2 s7 ⟨z4,H7,I7,r7,k3,e3,q7⟩=>?_))
   subst e3;cases r7;exact wpAny_truthy_bool ⟨H7,I7,q7⟩
end
end L2
namespace So
open PySem PyProof.Rows
def eA:Bool->Keyed->Array Keyed->Nat->Nat->Nat->StateT SortSt Sem (Option Nat):=sortPriv% PySem.Builtin.gallop
def jU:Array Keyed->Array Keyed->StateT SortSt Sem (Array Keyed):=sortPriv% PySem.Builtin.mergeLo
def jV:Array Keyed->Array Keyed->StateT SortSt Sem (Array Keyed):=sortPriv% PySem.Builtin.mergeHi
def kk (κ:KeyKind) (p:Keyed):κ.α:=(κ.keyOf p.1).getD κ.dflt
def Kd (κ:KeyKind) (p:Keyed):Prop:=∃a,κ.keyOf p.1=some a
def gU (prog:Program) (w:World) (A:Around) (E:Cw) (s:Shared) (κ:KeyKind) (kd:SortKind):Prop:=∀(st:SortSt) (x y:Keyed) (Q:Option Bool->SortSt->Prop),kindOf st=kd->Kd κ x->Kd κ y->Q (some (κ.blt (kk κ x) (kk κ y))) st->wpS (model prog w) A E s (lt' x y) Q st
section
variable {prog:Program} {w:World} {A:Around} {E:Cw} {s:Shared} {κ:KeyKind} {kd:SortKind}
theorem ci {α β:Type} {st:SortSt} {x:StateT SortSt Sem α} {f:α->StateT SortSt Sem β} {Q:β->SortSt->Prop} (h:wpS (model prog w) A E s (x>>=f) Q st):wpS (model prog w) A E s (x>>=f) Q st:=h
theorem eZ (hO:gU prog w A E s κ kd) {st:SortSt} {x y:Keyed} {Q:Option Bool->SortSt->Prop} (hk:kindOf st=kd) (hx:Kd κ x) (hy:Kd κ y) (h:Q (some (κ.blt (kk κ x) (kk κ y))) st):wpS (model prog w) A E s (lt' x y) Q st:=hO st x y Q hk hx hy h
theorem aA {st:SortSt} {arr:Array Keyed} {i:Nat} {p:Keyed} {Q:Keyed->SortSt->Prop} (e:arr[i]?=some p) (h:Q p st):wpS (model prog w) A E s (elem' arr i) Q st:=by
 rw[elem'_eq,e];exact wpS_pure h
def bq (κ:KeyKind) (left:Bool) (key x:Keyed):Bool:=if left=true then κ.blt (kk κ x) (kk κ key) else !κ.blt (kk κ key) (kk κ x)
theorem lQ (hO:gU prog w A E s κ kd) {st:SortSt} {arr:Array Keyed} {i:Nat} {left:Bool} {key x:Keyed} {Q:Option Bool->SortSt->Prop} (hk:kindOf st=kd) (e:arr[i]?=some x) (hx:Kd κ x) (hy:Kd κ key) (h:Q (some (bq κ left key x)) st):
  wpS (model prog w) A E s (elem' arr i>>=fun x=>if left=true then lt' x key else lt' key x>>=fun r=>pure (Option.map (fun x=> !x) r)) Q st:=by
 refine wpS_bind (aA e ?_);cases left with
 |true=>
  rw[if_pos rfl];exact eZ hO hk hx hy h
 |false=>
  rw[if_neg (by decide)]
  exact wpS_bind (eZ hO hk hy hx (wpS_pure h))
theorem dS (hO:gU prog w A E s κ kd) {st:SortSt} {left:Bool} {key:Keyed} {arr:Array Keyed} {base n hint:Nat} {Q:Option Nat->SortSt->Prop} (hk:kindOf st=kd) (hy:Kd κ key) (f:Nat->Bool)
  (seg:∀i,i<n->∃x,arr[base+i]?=some x/\Kd κ x/\bq κ left key x=f i) (anti:∀i j,i<=j->j<n->f j=true->f i=true) (hh:hint<n)
  (h:∀k,k<=n->(∀i,i<k->f i=true)->(∀i,k<=i->i<n->f i=false)->Q (some k) st):wpS (model prog w) A E s (eA left key arr base n hint) Q st:=by
 have bey:∀{i:Nat} {Q:Option Bool->SortSt->Prop},i<n->Q (some (f i)) st->wpS (model prog w) A E s (elem' arr (base+i)>>=fun x=>if left=true then lt' x key else lt' key x>>=fun r=>pure (Option.map (fun x=> !x) r)) Q st:=fun {i Q} hi hq=>by
  obtain ⟨x,e,hx,hf⟩:=seg i hi;exact lQ hO hk e hx hy (by rw[hf];exact hq)
 have anti':∀i j,i<=j->j<n->f i=false->f j=false:=fun i j hij hj hf=>by
  cases hc:f j with
  |false=>rfl
  |true=>rw[anti i j hij hj hc] at hf;cases hf
 unfold eA;refine ci ?_;dsimp only;refine wpS_bind (bey hh ?_);dsimp only;cases hf:f hint with
 |true=>
  rw[if_pos rfl];refine wpS_bind (wpS_mono (wpS_forRange (I:=fun x c st'=>st'=st/\∃l o,c=(none,l,o)/\hint+l<n/\f (hint+l)=true/\l<o/\x+1<=o)
   (Q:=fun c st'=>st'=st/\∃l o,c=(none,l,o)/\hint+l<n/\f (hint+l)=true/\l<o/\(n-hint<=o∨f (hint+o)=false)) ?s1 ?e1 ⟨rfl,0,1,rfl,hh,hf,by omega,by omega⟩) ?p1)
  case e1=>
   rintro c st' ⟨rfl,l,o,rfl,h1,h2,h3,h4⟩;exact ⟨rfl,l,o,rfl,h1,h2,h3,.inl (by omega)⟩
  case s1=>
   rintro x c st' _ hx ⟨rfl,l,o,rfl,h1,h2,h3,h4⟩;dsimp only
   by_cases c:o≥n-hint
   ·rw[if_pos c];exact wpS_pure ⟨rfl,l,o,rfl,h1,h2,h3,.inl c⟩
   ·rw[if_neg c];refine wpS_bind (bey (by omega) ?_)
    dsimp only;cases hg:f (hint+o) with
    |true=>exact wpS_pure ⟨rfl,o,2*o+1,rfl,by omega,hg,by omega,by omega⟩
    |false=>exact wpS_pure ⟨rfl,l,o,rfl,h1,h2,h3,.inr hg⟩
  case p1=>
   rintro c st' ⟨rfl,l,o,rfl,h1,h2,h3,h4⟩;dsimp only;refine wpS_bind (wpS_mono (wpS_forRange (I:=fun x c st''=>st''=st'/\∃l o,c=(none,l,o)/\l<=o/\o<=n/\(∀i,i<l->f i=true)/\(∀i,o<=i->i<n->f i=false)/\o-l+x<=n)
    (Q:=fun c st''=>st''=st'/\∃k,c=(none,k,k)/\k<=n/\(∀i,i<k->f i=true)/\(∀i,k<=i->i<n->f i=false)) ?s2 ?e2 ⟨rfl,_,_,rfl,by omega,by omega,fun i hi=>anti i (hint+l) (by omega) h1 h2,fun i hi hn=>?q2,by omega⟩) ?p2)
   case q2=>
    rcases h4 with h4|h4
    ·omega
    ·exact anti' (hint+o) i (by omega) hn h4
   case e2=>
    rintro c st'' ⟨rfl,l,o,rfl,g1,g2,g3,g4,g5⟩;have:l=o:=by omega
    subst this;exact ⟨rfl,l,rfl,g2,g3,g4⟩
   case s2=>
    rintro x c st'' _ hx ⟨rfl,l,o,rfl,g1,g2,g3,g4,g5⟩;dsimp only
    by_cases c:l≥o
    ·rw[if_pos c];have:l=o:=by omega
     subst this;exact wpS_pure ⟨rfl,l,rfl,g2,g3,g4⟩
    ·rw[if_neg c];refine wpS_bind (bey (by omega) ?_)
     dsimp only;cases hg:f (l+(o-l)/2) with
     |true=>exact wpS_pure ⟨rfl,_,_,rfl,by omega,g2,fun i hi=>anti i _ (by omega) (by omega) hg,g4,by omega⟩
     |false=>exact wpS_pure ⟨rfl,_,_,rfl,by omega,by omega,g3,fun i hi hn=>anti' _ i (by omega) hn hg,by omega⟩
   case p2=>
    rintro c st'' ⟨rfl,k,rfl,g1,g2,g3⟩;exact wpS_pure (h k g1 g2 g3)
 |false=>
  rw[if_neg (by decide)]
  refine wpS_bind (wpS_mono (wpS_forRange (I:=fun x c st'=>st'=st/\∃l o,c=(none,l,o)/\l<=hint/\f (hint-l)=false/\l<o/\x+1<=o)
   (Q:=fun c st'=>st'=st/\∃l o,c=(none,l,o)/\l<=hint/\f (hint-l)=false/\l<o/\(hint+1<=o∨f (hint-o)=true)) ?us1 ?ue1 ⟨rfl,0,1,rfl,by omega,hf,by omega,by omega⟩) ?up1)
  case ue1=>
   rintro c st' ⟨rfl,l,o,rfl,h1,h2,h3,h4⟩;exact ⟨rfl,l,o,rfl,h1,h2,h3,.inl (by omega)⟩
  case us1=>
   rintro x c st' _ hx ⟨rfl,l,o,rfl,h1,h2,h3,h4⟩;dsimp only
   by_cases c:o≥hint+1
   ·rw[if_pos c];exact wpS_pure ⟨rfl,l,o,rfl,h1,h2,h3,.inl c⟩
   ·rw[if_neg c];refine wpS_bind (bey (by omega) ?_)
    dsimp only;cases hg:f (hint-o) with
    |false=>exact wpS_pure ⟨rfl,o,2*o+1,rfl,by omega,hg,by omega,by omega⟩
    |true=>exact wpS_pure ⟨rfl,l,o,rfl,h1,h2,h3,.inr hg⟩
  case up1=>
   rintro c st' ⟨rfl,l,o,rfl,h1,h2,h3,h4⟩;dsimp only;refine wpS_bind (wpS_mono (wpS_forRange (I:=fun x c st''=>st''=st'/\∃l o,c=(none,l,o)/\l<=o/\o<=n/\(∀i,i<l->f i=true)/\(∀i,o<=i->i<n->f i=false)/\o-l+x<=n)
    (Q:=fun c st''=>st''=st'/\∃k,c=(none,k,k)/\k<=n/\(∀i,i<k->f i=true)/\(∀i,k<=i->i<n->f i=false)) ?us2 ?ue2 ⟨rfl,_,_,rfl,by omega,by omega,fun i hi=>?uq2,fun i hi hn=>anti' _ i hi hn h2,by omega⟩) ?up2)
   case uq2=>
    rcases h4 with h4|h4
    ·omega
    ·exact anti i (hint-o) (by omega) (by omega) h4
   case ue2=>
    rintro c st'' ⟨rfl,l,o,rfl,g1,g2,g3,g4,g5⟩;have:l=o:=by omega
    subst this;exact ⟨rfl,l,rfl,g2,g3,g4⟩
   case us2=>
    rintro x c st'' _ hx ⟨rfl,l,o,rfl,g1,g2,g3,g4,g5⟩;dsimp only
    by_cases c:l≥o
    ·rw[if_pos c];have:l=o:=by omega
     subst this;exact wpS_pure ⟨rfl,l,rfl,g2,g3,g4⟩
    ·rw[if_neg c];refine wpS_bind (bey (by omega) ?_)
     dsimp only;cases hg:f (l+(o-l)/2) with
     |true=>exact wpS_pure ⟨rfl,_,_,rfl,by omega,g2,fun i hi=>anti i _ (by omega) (by omega) hg,g4,by omega⟩
     |false=>exact wpS_pure ⟨rfl,_,_,rfl,by omega,by omega,g3,fun i hi hn=>anti' _ i (by omega) hn hg,by omega⟩
   case up2=>
    rintro c st'' ⟨rfl,k,rfl,g1,g2,g3⟩;exact wpS_pure (h k g1 g2 g3)
end
def setG (st:SortSt) (g:Nat):SortSt:=SortSt.mk' (kindOf st) (arrOf st) (pendingOf st) g (failedOf st)
def gW:Nat->StateT SortSt Sem Unit:=sortPriv% PySem.Builtin.setMinGallop
def lR (st st':SortSt):Prop:=kindOf st'=kindOf st/\arrOf st'=arrOf st/\pendingOf st'=pendingOf st/\failedOf st'=failedOf st
theorem lR.refl (st:SortSt):lR st st:=⟨rfl,rfl,rfl,rfl⟩
theorem lR.set {st st':SortSt} (h:lR st st') (g:Nat):lR st (setG st' g):=⟨h.1,h.2.1,h.2.2.1,h.2.2.2⟩
def Lq (κ:KeyKind) (p q:Keyed):Prop:=κ.kle (kk κ p) (kk κ q)
section
variable {κ:KeyKind} {kd:SortKind} {a b out:Array Keyed} {ia ib:Nat}
structure Mg (κ:KeyKind) (a b out:Array Keyed) (ia ib:Nat):Prop where
 perm:(out.toList++(a.toList.drop ia++b.toList.drop ib)).Perm (a.toList++b.toList)
 srt:out.toList.Pairwise (Lq κ)
 lea:∀x∈out.toList,∀y∈a.toList.drop ia,Lq κ x y
 leb:∀x∈out.toList,∀y∈b.toList.drop ib,Lq κ x y
def fh (κ:KeyKind) (a b r:Array Keyed):Prop:=r.toList.Perm (a.toList++b.toList)/\r.toList.Pairwise (Lq κ)
theorem Mg.pushB (h:Mg κ a b out ia ib) (sb:b.toList.Pairwise (Lq κ)) {y:Keyed} (e:b[ib]?=some y) (hy:∀z∈a.toList.drop ia,Lq κ y z):Mg κ a b (out.push y) ia (ib+1):=by
 have e':b.toList[ib]?=some y:=by simpa using e
 have dr:b.toList.drop ib=y::b.toList.drop (ib+1):=by
  obtain ⟨l,g⟩:=A3.mp e';rw[BH l,g]
 have sb':(y::b.toList.drop (ib+1)).Pairwise (Lq κ):=by rw[<-dr];exact sb.drop
 have sb2:=List.pairwise_cons.mp sb';have lb:=h.leb;have pm:=h.perm;rw[dr] at lb pm;refine ⟨?_,?_,?_,?_⟩
 ·rw[BW,AQ];refine Bz.trans (Al _ ?_) pm;show (y::(List.drop ia a.toList++List.drop (ib+1) b.toList)).Perm _;exact (List.perm_middle).symm
 ·rw[BW,AA];refine ⟨h.srt,by simp,fun x hx z hz=>?_⟩
  simp at hz;rw[hz];exact lb x hx y (by simp)
 ·intro x hx z hz;rw[BW] at hx;rcases AI.mp hx with k|k
  ·exact h.lea x k z hz
  ·simp at k;rw[k];exact hy z hz
 ·intro x hx z hz;rw[BW] at hx;rcases AI.mp hx with k|k
  ·exact lb x k z (by simp[hz])
  ·simp at k;rw[k];exact sb2.1 z hz
theorem Mg.runA (h:Mg κ a b out ia ib) (sa:a.toList.Pairwise (Lq κ)) {k:Nat} (hy:∀x∈(a.toList.drop ia).take k,∀z∈b.toList.drop ib,Lq κ x z):Mg κ a b (out++a.extract ia (ia+k)) (ia+k) ib:=by
 have ex:(a.extract ia (ia+k)).toList=(a.toList.drop ia).take k:=by
  rw[Aa,Af,B9]
 have dr:a.toList.drop ia=(a.toList.drop ia).take k++a.toList.drop (ia+k):=by
  rw[<-List.drop_drop,AL]
 have sa':((a.toList.drop ia).take k++a.toList.drop (ia+k)).Pairwise (Lq κ):=by rw[<-dr];exact sa.drop
 have sa2:=AA.mp sa';have la:=h.lea;have pm:=h.perm;rw[dr] at la pm;refine ⟨?_,?_,?_,?_⟩
 ·rw[AH,ex]
  simpa [AQ] using pm
 ·rw[AH,ex,AA];exact ⟨h.srt,sa2.1,fun x hx z hz=>la x hx z (by simp[hz])⟩
 ·intro x hx z hz;rw[AH,ex] at hx;rcases AI.mp hx with k|k
  ·exact la x k z (by simp[hz])
  ·exact sa2.2.2 x k z hz
 ·intro x hx z hz;rw[AH,ex] at hx;rcases AI.mp hx with k|k
  ·exact h.leb x k z hz
  ·exact hy x k z hz
theorem Mg.pushA (h:Mg κ a b out ia ib) (sa:a.toList.Pairwise (Lq κ)) {x:Keyed} (e:a[ia]?=some x) (hy:∀z∈b.toList.drop ib,Lq κ x z):Mg κ a b (out.push x) (ia+1) ib:=by
 have e':a.toList[ia]?=some x:=by simpa using e
 have dr:a.toList.drop ia=x::a.toList.drop (ia+1):=by
  obtain ⟨l,g⟩:=A3.mp e';rw[BH l,g]
 have q:=h.runA sa (k:=1) (by
  rw[dr];intro u hu;simp at hu;rw[hu];exact hy)
 have ex:out++a.extract ia (ia+1)=out.push x:=by
  apply Bb.mp;rw[AH,BW,Aa,Af,B9,dr]
  rfl
 rw[ex] at q;exact q
theorem Mg.runB (h:Mg κ a b out ia ib) (sb:b.toList.Pairwise (Lq κ)) {k:Nat} (hy:∀x∈(b.toList.drop ib).take k,∀z∈a.toList.drop ia,Lq κ x z):Mg κ a b (out++b.extract ib (ib+k)) ia (ib+k):=by
 have ex:(b.extract ib (ib+k)).toList=(b.toList.drop ib).take k:=by
  rw[Aa,Af,B9]
 have dr:b.toList.drop ib=(b.toList.drop ib).take k++b.toList.drop (ib+k):=by
  rw[<-List.drop_drop,AL]
 have sb':((b.toList.drop ib).take k++b.toList.drop (ib+k)).Pairwise (Lq κ):=by rw[<-dr];exact sb.drop
 have sb2:=AA.mp sb';have lb:=h.leb;have pm:=h.perm;rw[dr] at lb pm;refine ⟨?_,?_,?_,?_⟩
 ·rw[AH,ex];refine Bz.trans ?_ pm;rw[AQ];refine Al _ ?_;rw[<-AQ,<-AQ];exact B5 _ List.perm_append_comm
 ·rw[AH,ex,AA];exact ⟨h.srt,sb2.1,fun x hx z hz=>lb x hx z (by simp[hz])⟩
 ·intro x hx z hz;rw[AH,ex] at hx;rcases AI.mp hx with k|k
  ·exact h.lea x k z hz
  ·exact hy x k z hz
 ·intro x hx z hz;rw[AH,ex] at hx;rcases AI.mp hx with k|k
  ·exact lb x k z (by simp[hz])
  ·exact sb2.2.2 x k z hz
theorem Mg.done (h:Mg κ a b out ia ib) (sa:a.toList.Pairwise (Lq κ)) (sb:b.toList.Pairwise (Lq κ)) (c:a.size<=ia∨b.size<=ib):fh κ a b (out++a.extract ia++b.extract ib):=by
 have xa:(a.extract ia).toList=a.toList.drop ia:=by
  rw[Aa,Af,Ad (by simp)]
 have xb:(b.extract ib).toList=b.toList.drop ib:=by
  rw[Aa,Af,Ad (by simp)]
 refine ⟨?_,?_⟩
 ·rw[AH,AH,xa,xb,AQ];exact h.perm
 ·rw[AH,AH,xa,xb,AQ,AA,AA];refine ⟨h.srt,⟨sa.drop,sb.drop,fun x hx z hz=>?_⟩,fun x hx z hz=>?_⟩
  ·rcases c with c|c
   ·rw[List.drop_of_length_le (by simpa using c)] at hx
    simp at hx
   ·rw[List.drop_of_length_le (by simpa using c)] at hz
    simp at hz
  ·rcases AI.mp hz with k|k
   ·exact h.lea x hx z k
   ·exact h.leb x hx z k
theorem Mg.lastA (h:Mg κ a b out ia ib) (sa:a.toList.Pairwise (Lq κ)) (sb:b.toList.Pairwise (Lq κ)) (hl:∀y∈b.toList,∀x∈a.toList.drop (a.size-1),Lq κ y x) (c:ia+1=a.size):fh κ a b (out++b.extract ib++a.extract ia):=by
 have xa:(a.extract ia).toList=a.toList.drop ia:=by
  rw[Aa,Af,Ad (by simp)]
 have xb:(b.extract ib).toList=b.toList.drop ib:=by
  rw[Aa,Af,Ad (by simp)]
 have ca:a.size-1=ia:=by omega
 rw[ca] at hl;refine ⟨?_,?_⟩
 ·rw[AH,AH,xa,xb,AQ];exact Bz.trans (Al _ List.perm_append_comm) h.perm
 ·rw[AH,AH,xa,xb,AQ,AA,AA];refine ⟨h.srt,⟨sb.drop,sa.drop,fun x hx z hz=>hl x (List.mem_of_mem_drop hx) z hz⟩,fun x hx z hz=>?_⟩
  rcases AI.mp hz with k|k
  ·exact h.leb x hx z k
  ·exact h.lea x hx z k
theorem bK {xs:Array Keyed} (sx:xs.toList.Pairwise (Lq κ)) {i:Nat} {x y:Keyed} (e:xs[i]?=some x) (h:Lq κ y x):∀z∈xs.toList.drop i,Lq κ y z:=by
 have e':xs.toList[i]?=some x:=by simpa using e
 have dr:xs.toList.drop i=x::xs.toList.drop (i+1):=by
  obtain ⟨l,g⟩:=A3.mp e';rw[BH l,g]
 have sx':(x::xs.toList.drop (i+1)).Pairwise (Lq κ):=by rw[<-dr];exact sx.drop
 have sx2:=List.pairwise_cons.mp sx';intro z hz;rw[dr] at hz;rcases AU.mp hz with k|k
 ·rw[k];exact h
 ·exact KeyOrd.kle_trans h (sx2.1 z k)
theorem lS {xs:Array Keyed} (sx:xs.toList.Pairwise (Lq κ)) {i j:Nat} {x y:Keyed} (hij:i<=j) (e1:xs[i]?=some x) (e2:xs[j]?=some y):Lq κ x y:=by
 refine bK sx e1 (KeyOrd.kle_refl _) y ?_;have e':xs.toList[j]?=some y:=by simpa using e2
 have:(xs.toList.drop i)[j-i]?=some y:=by
  rw[BS,<-e']
  congr 1
  omega
 exact AR this
end
section
variable {prog:Program} {w:World} {A:Around} {E:Cw} {s:Shared} {κ:KeyKind} {kd:SortKind}
theorem eB {st:SortSt} {g:Nat} {Q:Unit->SortSt->Prop} (h:Q () (setG st g)):wpS (model prog w) A E s (gW g) Q st:=wpS_modify (f:=fun st=>setG st g) h
theorem cG {st:SortSt} {r:String} {Q:Unit->SortSt->Prop} (h:Q () st):wpS (model prog w) A E s (liftM (rule r):StateT SortSt Sem Unit) Q st:=wpS_lift (wpAny_rule ⟨rfl,h⟩)
theorem fJ (hO:gU prog w A E s κ kd) {st:SortSt} {key:Keyed} {arr:Array Keyed} {base hint n:Nat} {Q:Option Nat->SortSt->Prop} (hk:kindOf st=kd) (hy:Kd κ key) (ka:∀x∈arr.toList,Kd κ x) (sa:arr.toList.Pairwise (Lq κ)) (hn:base+n<=arr.size) (hh:hint<n)
  (h:∀k,k<=n->(∀i x,i<k->arr[base+i]?=some x->Lq κ x key)->(∀i x,k<=i->i<n->arr[base+i]?=some x->Lq κ key x)->Q (some k) st):wpS (model prog w) A E s (eA false key arr base n hint) Q st:=by
 have get:∀i,i<n->∃x,arr[base+i]?=some x/\Kd κ x:=fun i hi=>by
  have l:base+i<arr.size:=by omega
  exact ⟨arr[base+i],AF l,ka _ (by simp)⟩
 refine dS hO hk hy (fun i=>match arr[base+i]? with|some x=>bq κ false key x|none=>false) (fun i hi=>?_) (fun i j hij hj hf=>?_) hh (fun k hk h1 h2=>h k hk (fun i x hi e=>?_) (fun i x hi hn e=>?_))
 ·obtain ⟨x,e,kx⟩:=get i hi;exact ⟨x,e,kx,by rw[e]⟩
 ·obtain ⟨x,e,_⟩:=get i (by omega)
  obtain ⟨y,e2,_⟩:=get j hj;try dsimp only at hf⊢
  rw[e];rw[e2] at hf;have l:=lS sa (show base+i<=base+j by omega) e e2
  have hf':(!κ.blt (kk κ key) (kk κ y))=true:=hf;show (!κ.blt (kk κ key) (kk κ x))=true;have f1:κ.blt (kk κ key) (kk κ y)=false:=by simpa using hf'
  have f2:κ.blt (kk κ key) (kk κ x)=false:=KeyOrd.kle_trans l f1;rw[f2]
  rfl
 ·have q:=h1 i hi;try dsimp only at q
  rw[e] at q;have q':(!κ.blt (kk κ key) (kk κ x))=true:=q;show κ.blt (kk κ key) (kk κ x)=false
  simpa using q'
 ·have q:=h2 i hi hn;try dsimp only at q
  rw[e] at q;have q':(!κ.blt (kk κ key) (kk κ x))=false:=q;exact KeyOrd.kle_of_klt (show κ.blt (kk κ key) (kk κ x)=true by simpa using q')
theorem cN (hO:gU prog w A E s κ kd) {st:SortSt} {key:Keyed} {arr:Array Keyed} {base hint n:Nat} {Q:Option Nat->SortSt->Prop} (hk:kindOf st=kd) (hy:Kd κ key) (ka:∀x∈arr.toList,Kd κ x) (sa:arr.toList.Pairwise (Lq κ)) (hn:base+n<=arr.size) (hh:hint<n)
  (h:∀k,k<=n->(∀i x,i<k->arr[base+i]?=some x->Lq κ x key)->(∀i x,k<=i->i<n->arr[base+i]?=some x->Lq κ key x)->Q (some k) st):wpS (model prog w) A E s (eA true key arr base n hint) Q st:=by
 have get:∀i,i<n->∃x,arr[base+i]?=some x/\Kd κ x:=fun i hi=>by
  have l:base+i<arr.size:=by omega
  exact ⟨arr[base+i],AF l,ka _ (by simp)⟩
 refine dS hO hk hy (fun i=>match arr[base+i]? with|some x=>bq κ true key x|none=>false) (fun i hi=>?_) (fun i j hij hj hf=>?_) hh (fun k hk h1 h2=>h k hk (fun i x hi e=>?_) (fun i x hi hn e=>?_))
 ·obtain ⟨x,e,kx⟩:=get i hi;exact ⟨x,e,kx,by rw[e]⟩
 ·obtain ⟨x,e,_⟩:=get i (by omega)
  obtain ⟨y,e2,_⟩:=get j hj;try dsimp only at hf⊢
  rw[e];rw[e2] at hf;have l:=lS sa (show base+i<=base+j by omega) e e2
  exact KeyOrd.klt_of_kle_of_klt l hf
 ·have q:=h1 i hi;try dsimp only at q
  rw[e] at q;exact KeyOrd.kle_of_klt q
 ·have q:=h2 i hi hn;try dsimp only at q
  rw[e] at q;exact q
theorem i5 {xs:Array Keyed} {key:Keyed} {base k:Nat} (h:∀i x,i<k->xs[base+i]?=some x->Lq κ x key):∀x∈(xs.toList.drop base).take k,Lq κ x key:=fun x hx=>by
 obtain ⟨i,hi⟩:=Ab.mp hx;have il:i<k:=by
  have:=(A3.mp hi).1;rw[AN] at this;omega
 rw[B3 il,BS] at hi;exact h i x il (by simpa using hi)
structure Go (κ:KeyKind) (a b:Array Keyed) (m:Nat) (out:Array Keyed) (ia ib:Nat):Prop where
 mg:Mg κ a b out ia ib
 la:ia+1<a.size
 lb:ib<b.size
 far:m<=ia+ib
theorem jW (hO:gU prog w A E s κ kd) {st:SortSt} {a b:Array Keyed} {Q:Array Keyed->SortSt->Prop} (hk:kindOf st=kd) (ka:∀x∈a.toList,Kd κ x) (kb:∀x∈b.toList,Kd κ x)
  (sa:a.toList.Pairwise (Lq κ)) (sb:b.toList.Pairwise (Lq κ)) (na:0<a.size) (nb:0<b.size) (h0:∀x y,a[0]?=some x->b[0]?=some y->Lq κ y x) (hl:∀y∈b.toList,∀x∈a.toList.drop (a.size-1),Lq κ y x)
  (h:∀r st',fh κ a b r->lR st st'->Q r st'):wpS (model prog w) A E s (jU a b) Q st:=by
 have getA:∀{i:Nat},i<a.size->∃x,a[i]?=some x/\Kd κ x:=fun {i} hi=>⟨a[i],AF hi,ka _ (by simp)⟩
 have getB:∀{i:Nat},i<b.size->∃x,b[i]?=some x/\Kd κ x:=fun {i} hi=>⟨b[i],AF hi,kb _ (by simp)⟩
 obtain ⟨x0,ex0,kx0⟩:=getA na;obtain ⟨y0,ey0,ky0⟩:=getB nb;have M0:Mg κ a b #[] 0 0:=⟨by simp,by simp,by simp,by simp⟩
 have M1:Mg κ a b #[y0] 0 1:=M0.pushB sb ey0 (bK sa ex0 (h0 _ _ ex0 ey0));unfold jU;refine ci ?_;try dsimp only
 refine wpS_bind (cG (wpS_bind (aA ey0 ?_)))
 by_cases c1:1=b.size
 ·rw[if_pos (beq_iff_eq.mpr c1)];exact wpS_pure (h _ _ (M1.done sa sb (.inr (by omega))) (.refl _))
 rw[if_neg (fun z=>c1 (beq_iff_eq.mp z))]
 by_cases c2:0+1=a.size
 ·rw[if_pos (beq_iff_eq.mpr c2)];exact wpS_pure (h _ _ (M1.lastA sa sb hl (by omega)) (.refl _))
 rw[if_neg (fun z=>c2 (beq_iff_eq.mp z))]
 refine wpS_bind (wpS_get ?_);try dsimp only
 refine wpS_bind (wpS_mono (wpS_forRange
  (I:=fun x c st'=>lR st st'/\∃out ia ib g,c=(none,out,ia,ib,g)/\Go κ a b (x+1) out ia ib)
  (Q:=fun c st'=>lR st st'/\∃r q,c=(some r,q)/\fh κ a b r) ?s1 ?e1 ⟨.refl _,_,_,_,_,rfl,⟨M1,by omega,by omega,by omega⟩⟩) ?p1)
 case e1=>
  rintro c st' ⟨ge,out,ia,ib,g,rfl,go⟩;have:=go.la;have:=go.lb;have:=go.far;omega
 case p1=>
  rintro c st' ⟨ge,r,q,rfl,f⟩;exact wpS_pure (h _ _ f ge)
 case s1=>
  rintro x c st1 _ hx ⟨ge,out,ia,ib,g,rfl,go⟩;have hk1:kindOf st1=kd:=ge.1.trans hk;try dsimp only
  refine wpS_bind (wpS_mono (wpS_forRange
   (I:=fun x' c st'=>st'=st1/\∃out ia ib ac bc,c=(none,out,ia,ib,ac,bc)/\Go κ a b (x+1+x') out ia ib)
   (Q:=fun c st'=>st'=st1/\((∃r q,c=(some r,q)/\fh κ a b r)∨∃out ia ib ac bc,c=(none,out,ia,ib,ac,bc)/\Go κ a b (x+1+1) out ia ib)) ?s2 ?e2 ⟨rfl,_,_,_,_,_,rfl,go⟩) ?p2)
  case e2=>
   rintro c st' ⟨_,out,ia,ib,ac,bc,rfl,go⟩;have:=go.la;have:=go.lb;have:=go.far;omega
  case s2=>
   rintro x' c st' _ hx' ⟨rfl,out,ia,ib,ac,bc,rfl,go⟩;have l1:=go.la;have l2:=go.lb;have l3:=go.far;obtain ⟨xa,exa,kxa⟩:=getA (show ia<a.size by omega)
   obtain ⟨yb,eyb,kyb⟩:=getB l2;try dsimp only
   refine wpS_bind (aA eyb (wpS_bind (aA exa (wpS_bind (eZ hO hk1 kyb kxa ?_)))));try dsimp only
   cases cc:κ.blt (kk κ yb) (kk κ xa) with
   |true=>
    rw[if_pos rfl];have M2:=go.mg.pushB sb eyb (bK sa exa (KeyOrd.kle_of_klt cc));refine wpS_bind (aA eyb ?_)
    by_cases d1:ib+1=b.size
    ·rw[if_pos (beq_iff_eq.mpr d1)];exact wpS_pure ⟨rfl,.inl ⟨_,_,rfl,M2.done sa sb (.inr (by omega))⟩⟩
    rw[if_neg (fun z=>d1 (beq_iff_eq.mp z))]
    by_cases d2:bc+1≥g
    ·rw[if_pos d2];exact wpS_pure ⟨rfl,.inr ⟨_,_,_,_,_,rfl,⟨M2,l1,by omega,by omega⟩⟩⟩
    ·rw[if_neg d2];exact wpS_pure ⟨rfl,_,_,_,_,_,rfl,⟨M2,l1,by omega,by omega⟩⟩
   |false=>
    rw[if_neg (by decide)]
    have M2:=go.mg.pushA sa exa (bK sb eyb cc);refine wpS_bind (aA exa ?_)
    by_cases d1:ia+1+1=a.size
    ·rw[if_pos (beq_iff_eq.mpr d1)];exact wpS_pure ⟨rfl,.inl ⟨_,_,rfl,M2.lastA sa sb hl d1⟩⟩
    rw[if_neg (fun z=>d1 (beq_iff_eq.mp z))]
    by_cases d2:ac+1≥g
    ·rw[if_pos d2];exact wpS_pure ⟨rfl,.inr ⟨_,_,_,_,_,rfl,⟨M2,by omega,l2,by omega⟩⟩⟩
    ·rw[if_neg d2];exact wpS_pure ⟨rfl,_,_,_,_,_,rfl,⟨M2,by omega,l2,by omega⟩⟩
  case p2=>
   rintro c st' ⟨rfl,⟨r,q,rfl,f⟩|⟨out,ia,ib,ac,bc,rfl,go⟩⟩
   ·exact wpS_pure ⟨ge,_,_,rfl,f⟩
   try dsimp only
   refine wpS_bind (cG ?_);refine wpS_bind (wpS_mono (wpS_forRange
    (I:=fun x' c st'=>lR st st'/\∃out ia ib g ac bc,c=(none,out,ia,ib,g,ac,bc)/\Go κ a b (x+1+1+x') out ia ib)
    (Q:=fun c st'=>lR st st'/\((∃r q,c=(some r,q)/\fh κ a b r)∨∃out ia ib g ac bc,c=(none,out,ia,ib,g,ac,bc)/\Go κ a b (x+1+1) out ia ib)) ?s3 ?e3 ⟨ge,_,_,_,_,_,_,rfl,go⟩) ?p3)
   case e3=>
    rintro c st' ⟨_,out,ia,ib,g,ac,bc,rfl,go⟩;have:=go.la;have:=go.lb;have:=go.far;omega
   case p3=>
    rintro c st' ⟨ge,⟨r,q,rfl,f⟩|⟨out,ia,ib,g,ac,bc,rfl,go⟩⟩
    ·exact wpS_pure ⟨ge,_,_,rfl,f⟩
    ·exact wpS_bind (eB (wpS_pure ⟨ge.set _,_,_,_,_,rfl,go⟩))
   case s3=>
    rintro x' c st2 _ hx' ⟨ge2,out,ia,ib,g,ac,bc,rfl,go⟩;have l1:=go.la;have l2:=go.lb;have l3:=go.far;try dsimp only
    obtain ⟨yb,eyb,kyb⟩:=getB l2
    by_cases cg:g>1
    all_goals
     first
      |rw[if_pos cg]
      |rw[if_neg cg]
     refine wpS_bind (eB (wpS_bind (aA eyb (wpS_bind (fJ hO (ge2.1.trans hk) kyb ka sa (by omega) (by omega) fun k hkn p1 p2=>?_)))))
     try dsimp only
     have ge3:=ge2.set (st':=st2)
     by_cases ck:k>0
     ·rw[if_pos ck];have M1:=go.mg.runA sa (k:=k) (fun u hu z hz=>bK sb eyb (i5 p1 u hu) z hz)
      by_cases d1:ia+k+1=a.size
      ·rw[if_pos (beq_iff_eq.mpr d1)];exact wpS_pure ⟨ge3 _,.inl ⟨_,_,rfl,M1.lastA sa sb hl d1⟩⟩
      rw[if_neg (fun z=>d1 (beq_iff_eq.mp z))]
      by_cases d2:ia+k=a.size
      ·rw[if_pos (beq_iff_eq.mpr d2)];exact wpS_pure ⟨ge3 _,.inl ⟨_,_,rfl,M1.done sa sb (.inl (by omega))⟩⟩
      rw[if_neg (fun z=>d2 (beq_iff_eq.mp z))]
      obtain ⟨xa,exa,kxa⟩:=getA (show ia+k<a.size by omega)
      have M2:=M1.pushB sb eyb (bK sa exa (p2 k xa (by omega) (by omega) exa))
      refine wpS_bind (aA eyb ?_)
      by_cases d3:ib+1=b.size
      ·rw[if_pos (beq_iff_eq.mpr d3)];exact wpS_pure ⟨ge3 _,.inl ⟨_,_,rfl,M2.done sa sb (.inr (by omega))⟩⟩
      rw[if_neg (fun z=>d3 (beq_iff_eq.mp z))]
      refine wpS_bind (aA exa (wpS_bind (cN hO (ge2.1.trans hk) kxa kb sb (by omega) (by omega) fun k1 hk1n r1 r2=>?_)))
      try dsimp only
      by_cases ck1:k1>0
      ·rw[if_pos ck1];have M3:=M2.runB sb (k:=k1) (fun u hu z hz=>bK sa exa (i5 r1 u hu) z hz)
       by_cases d4:ib+1+k1=b.size
       ·rw[if_pos (beq_iff_eq.mpr d4)];exact wpS_pure ⟨ge3 _,.inl ⟨_,_,rfl,M3.done sa sb (.inr (by omega))⟩⟩
       rw[if_neg (fun z=>d4 (beq_iff_eq.mp z))]
       obtain ⟨y2,ey2,ky2⟩:=getB (show ib+1+k1<b.size by omega)
       have M4:=M3.pushA sa exa (bK sb ey2 (r2 k1 y2 (by omega) (by omega) ey2))
       refine wpS_bind (aA exa ?_)
       by_cases d5:ia+k+1+1=a.size
       ·rw[if_pos (beq_iff_eq.mpr d5)];exact wpS_pure ⟨ge3 _,.inl ⟨_,_,rfl,M4.lastA sa sb hl d5⟩⟩
       rw[if_neg (fun z=>d5 (beq_iff_eq.mp z))]
       split
       ·exact wpS_pure ⟨ge3 _,.inr ⟨_,_,_,_,_,_,rfl,⟨M4,by omega,by omega,by omega⟩⟩⟩
       ·exact wpS_pure ⟨ge3 _,_,_,_,_,_,_,rfl,⟨M4,by omega,by omega,by omega⟩⟩
      ·rw[if_neg ck1];obtain ⟨y2,ey2,ky2⟩:=getB (show ib+1<b.size by omega)
       have M4:=M2.pushA sa exa (bK sb ey2 (r2 0 y2 (by omega) (by omega) ey2))
       refine wpS_bind (aA exa ?_)
       by_cases d5:ia+k+1+1=a.size
       ·rw[if_pos (beq_iff_eq.mpr d5)];exact wpS_pure ⟨ge3 _,.inl ⟨_,_,rfl,M4.lastA sa sb hl d5⟩⟩
       rw[if_neg (fun z=>d5 (beq_iff_eq.mp z))]
       split
       ·exact wpS_pure ⟨ge3 _,.inr ⟨_,_,_,_,_,_,rfl,⟨M4,by omega,by omega,by omega⟩⟩⟩
       ·exact wpS_pure ⟨ge3 _,_,_,_,_,_,_,rfl,⟨M4,by omega,by omega,by omega⟩⟩
     ·rw[if_neg ck];obtain ⟨xa,exa,kxa⟩:=getA (show ia<a.size by omega)
      have M2:=go.mg.pushB sb eyb (bK sa exa (p2 0 xa (by omega) (by omega) exa))
      refine wpS_bind (aA eyb ?_)
      by_cases d3:ib+1=b.size
      ·rw[if_pos (beq_iff_eq.mpr d3)];exact wpS_pure ⟨ge3 _,.inl ⟨_,_,rfl,M2.done sa sb (.inr (by omega))⟩⟩
      rw[if_neg (fun z=>d3 (beq_iff_eq.mp z))]
      refine wpS_bind (aA exa (wpS_bind (cN hO (ge2.1.trans hk) kxa kb sb (by omega) (by omega) fun k1 hk1n r1 r2=>?_)))
      try dsimp only
      by_cases ck1:k1>0
      ·rw[if_pos ck1];have M3:=M2.runB sb (k:=k1) (fun u hu z hz=>bK sa exa (i5 r1 u hu) z hz)
       by_cases d4:ib+1+k1=b.size
       ·rw[if_pos (beq_iff_eq.mpr d4)];exact wpS_pure ⟨ge3 _,.inl ⟨_,_,rfl,M3.done sa sb (.inr (by omega))⟩⟩
       rw[if_neg (fun z=>d4 (beq_iff_eq.mp z))]
       obtain ⟨y2,ey2,ky2⟩:=getB (show ib+1+k1<b.size by omega)
       have M4:=M3.pushA sa exa (bK sb ey2 (r2 k1 y2 (by omega) (by omega) ey2))
       refine wpS_bind (aA exa ?_)
       by_cases d5:ia+1+1=a.size
       ·rw[if_pos (beq_iff_eq.mpr d5)];exact wpS_pure ⟨ge3 _,.inl ⟨_,_,rfl,M4.lastA sa sb hl d5⟩⟩
       rw[if_neg (fun z=>d5 (beq_iff_eq.mp z))]
       split
       ·exact wpS_pure ⟨ge3 _,.inr ⟨_,_,_,_,_,_,rfl,⟨M4,by omega,by omega,by omega⟩⟩⟩
       ·exact wpS_pure ⟨ge3 _,_,_,_,_,_,_,rfl,⟨M4,by omega,by omega,by omega⟩⟩
      ·rw[if_neg ck1];obtain ⟨y2,ey2,ky2⟩:=getB (show ib+1<b.size by omega)
       have M4:=M2.pushA sa exa (bK sb ey2 (r2 0 y2 (by omega) (by omega) ey2))
       refine wpS_bind (aA exa ?_)
       by_cases d5:ia+1+1=a.size
       ·rw[if_pos (beq_iff_eq.mpr d5)];exact wpS_pure ⟨ge3 _,.inl ⟨_,_,rfl,M4.lastA sa sb hl d5⟩⟩
       rw[if_neg (fun z=>d5 (beq_iff_eq.mp z))]
       split
       ·exact wpS_pure ⟨ge3 _,.inr ⟨_,_,_,_,_,_,rfl,⟨M4,by omega,by omega,by omega⟩⟩⟩
       ·exact wpS_pure ⟨ge3 _,_,_,_,_,_,_,rfl,⟨M4,by omega,by omega,by omega⟩⟩
end
section
variable {κ:KeyKind} {kd:SortKind} {a b out:Array Keyed} {na nb:Nat}
structure Mh (κ:KeyKind) (a b out:Array Keyed) (na nb:Nat):Prop where
 perm:(a.toList.take na++(b.toList.take nb++out.toList.reverse)).Perm (a.toList++b.toList)
 srt:out.toList.reverse.Pairwise (Lq κ)
 gea:∀x∈out.toList,∀y∈a.toList.take na,Lq κ y x
 geb:∀x∈out.toList,∀y∈b.toList.take nb,Lq κ y x
theorem Mh.runA (h:Mh κ a b out na nb) (sa:a.toList.Pairwise (Lq κ)) {k:Nat} (hk:k<=na) (hy:∀x∈(a.toList.take na).drop k,∀z∈b.toList.take nb,Lq κ z x):Mh κ a b (out++(a.extract k na).reverse) k nb:=by
 have ex:(a.extract k na).toList=(a.toList.take na).drop k:=by
  rw[Aa,Af,List.drop_take]
 have dr:a.toList.take na=a.toList.take k++(a.toList.take na).drop k:=by
  have e:=(AL k (a.toList.take na)).symm;rw[List.take_take,Bk hk] at e;exact e
 have sa':(a.toList.take k++(a.toList.take na).drop k).Pairwise (Lq κ):=by rw[<-dr];exact sa.take
 have sa2:=AA.mp sa';have to:(out++(a.extract k na).reverse).toList=out.toList++((a.toList.take na).drop k).reverse:=by rw[AH,BX,ex]
 have tr:(out++(a.extract k na).reverse).toList.reverse=(a.toList.take na).drop k++out.toList.reverse:=by rw[to,List.reverse_append,List.reverse_reverse]
 have ga:=h.gea;have pm:=h.perm;rw[dr] at pm;have ga':∀x∈out.toList,∀y∈(a.toList.take k++(a.toList.take na).drop k),Lq κ y x:=by rw[<-dr];exact ga
 refine ⟨?_,?_,?_,?_⟩
 ·rw[tr];refine Bz.trans ?_ pm;rw[AQ];refine Al _ ?_;rw[<-AQ,<-AQ];exact B5 _ List.perm_append_comm
 ·rw[tr,AA];exact ⟨sa2.2.1,h.srt,fun x hx z hz=>ga' z (by simpa using hz) x (AD _ hx)⟩
 ·intro x hx z hz;rw[to] at hx;rcases AI.mp hx with c|c
  ·exact ga' x c z (BZ _ hz)
  ·exact sa2.2.2 z hz x (BI.mp c)
 ·intro x hx z hz;rw[to] at hx;rcases AI.mp hx with c|c
  ·exact h.geb x c z hz
  ·exact hy x (BI.mp c) z hz
theorem Mh.runB (h:Mh κ a b out na nb) (sb:b.toList.Pairwise (Lq κ)) {k:Nat} (hk:k<=nb) (hy:∀x∈(b.toList.take nb).drop k,∀z∈a.toList.take na,Lq κ z x):Mh κ a b (out++(b.extract k nb).reverse) na k:=by
 have ex:(b.extract k nb).toList=(b.toList.take nb).drop k:=by
  rw[Aa,Af,List.drop_take]
 have dr:b.toList.take nb=b.toList.take k++(b.toList.take nb).drop k:=by
  have e:=(AL k (b.toList.take nb)).symm;rw[List.take_take,Bk hk] at e;exact e
 have sb':(b.toList.take k++(b.toList.take nb).drop k).Pairwise (Lq κ):=by rw[<-dr];exact sb.take
 have sb2:=AA.mp sb';have to:(out++(b.extract k nb).reverse).toList=out.toList++((b.toList.take nb).drop k).reverse:=by rw[AH,BX,ex]
 have tr:(out++(b.extract k nb).reverse).toList.reverse=(b.toList.take nb).drop k++out.toList.reverse:=by rw[to,List.reverse_append,List.reverse_reverse]
 have pm:=h.perm;rw[dr] at pm;have gb':∀x∈out.toList,∀y∈(b.toList.take k++(b.toList.take nb).drop k),Lq κ y x:=by rw[<-dr];exact h.geb
 refine ⟨?_,?_,?_,?_⟩
 ·rw[tr];refine Bz.trans ?_ pm;rw[AQ]
 ·rw[tr,AA];exact ⟨sb2.2.1,h.srt,fun x hx z hz=>gb' z (by simpa using hz) x (AD _ hx)⟩
 ·intro x hx z hz;rw[to] at hx;rcases AI.mp hx with c|c
  ·exact h.gea x c z hz
  ·exact hy x (BI.mp c) z hz
 ·intro x hx z hz;rw[to] at hx;rcases AI.mp hx with c|c
  ·exact gb' x c z (BZ _ hz)
  ·exact sb2.2.2 z hz x (BI.mp c)
theorem i7 {xs:Array Keyed} {n:Nat} {x:Keyed} (e:xs[n]?=some x):xs.extract n (n+1)= #[x]/\(xs.toList.take (n+1)).drop n= [x]:=by
 have e':xs.toList[n]?=some x:=by simpa using e
 obtain ⟨l,g⟩:=A3.mp e';have q:(xs.toList.take (n+1)).drop n= [x]:=by
  rw[List.drop_take,B9,BH l,g]
  rfl
 refine ⟨?_,q⟩;apply Bb.mp;rw[Aa,Af,<-List.drop_take,q]
theorem Mh.pushA (h:Mh κ a b out (na+1) nb) (sa:a.toList.Pairwise (Lq κ)) {x:Keyed} (e:a[na]?=some x) (hy:∀z∈b.toList.take nb,Lq κ z x):Mh κ a b (out.push x) na nb:=by
 have q:=h.runA sa (k:=na) (by omega) (by
  rw[(i7 e).2];intro u hu;simp at hu;rw[hu];exact hy)
 rw[(i7 e).1] at q;have ex:out++(#[x]:Array Keyed).reverse=out.push x:=by
  apply Bb.mp;simp
 rw[ex] at q;exact q
theorem Mh.pushB (h:Mh κ a b out na (nb+1)) (sb:b.toList.Pairwise (Lq κ)) {x:Keyed} (e:b[nb]?=some x) (hy:∀z∈a.toList.take na,Lq κ z x):Mh κ a b (out.push x) na nb:=by
 have q:=h.runB sb (k:=nb) (by omega) (by
  rw[(i7 e).2];intro u hu;simp at hu;rw[hu];exact hy)
 rw[(i7 e).1] at q;have ex:out++(#[x]:Array Keyed).reverse=out.push x:=by
  apply Bb.mp;simp
 rw[ex] at q;exact q
theorem Mh.popA (h:Mh κ a b out na nb) (sa:a.toList.Pairwise (Lq κ)) (hn:0<na) {x:Keyed} (e:a[na-1]?=some x) (hy:∀z∈b.toList.take nb,Lq κ z x):Mh κ a b (out.push x) (na-1) nb:=by
 have en:na=na-1+1:=by omega
 rw[en] at h;exact h.pushA sa e hy
theorem Mh.popB (h:Mh κ a b out na nb) (sb:b.toList.Pairwise (Lq κ)) (hn:0<nb) {x:Keyed} (e:b[nb-1]?=some x) (hy:∀z∈a.toList.take na,Lq κ z x):Mh κ a b (out.push x) na (nb-1):=by
 have en:nb=nb-1+1:=by omega
 rw[en] at h;exact h.pushB sb e hy
theorem jX (xs:Array Keyed) (n:Nat):(xs.extract 0 n).toList=xs.toList.take n:=by
 rw[Aa,Af];simp
theorem Mh.done (h:Mh κ a b out na nb) (sa:a.toList.Pairwise (Lq κ)) (sb:b.toList.Pairwise (Lq κ)) (c:na=0∨nb=0):fh κ a b (a.extract 0 na++b.extract 0 nb++out.reverse):=by
 refine ⟨?_,?_⟩
 ·rw[AH,AH,jX,jX,BX,AQ];exact h.perm
 ·rw[AH,AH,jX,jX,BX,AQ,AA,AA];refine ⟨sa.take,⟨sb.take,h.srt,fun x hx z hz=>h.geb z (BI.mp hz) x hx⟩,fun x hx z hz=>?_⟩
  rcases AI.mp hz with k|k
  ·rcases c with c|c
   ·rw[c] at hx;simp at hx
   ·rw[c] at k;simp at k
  ·exact h.gea z (BI.mp k) x hx
theorem Mh.firstB (h:Mh κ a b out na nb) (sa:a.toList.Pairwise (Lq κ)) (sb:b.toList.Pairwise (Lq κ)) (hf:∀x∈b.toList.take 1,∀z∈a.toList,Lq κ x z) (c:nb=1):fh κ a b (b.extract 0 nb++a.extract 0 na++out.reverse):=by
 subst c;refine ⟨?_,?_⟩
 ·rw[AH,AH,jX,jX,BX];have pm:=h.perm;rw[<-AQ] at pm;exact Bz.trans (B5 _ List.perm_append_comm) pm
 ·rw[AH,AH,jX,jX,BX,AQ,AA,AA];refine ⟨sb.take,⟨sa.take,h.srt,fun x hx z hz=>h.gea z (BI.mp hz) x hx⟩,fun x hx z hz=>?_⟩
  rcases AI.mp hz with k|k
  ·exact hf x hx z (Bu k)
  ·exact h.geb z (BI.mp k) x hx
theorem fX {xs:Array Keyed} {n:Nat} {z:Keyed} (h:z∈xs.toList.take n):∃i,i<n/\xs[i]?=some z:=by
 obtain ⟨i,hi⟩:=Ab.mp h;have il:=(A3.mp hi).1;rw[AN] at il;rw[B3 (by omega)] at hi
 exact ⟨i,by omega,by simpa using hi⟩
theorem lT {xs:Array Keyed} {n k:Nat} {z:Keyed} (h:z∈(xs.toList.take n).drop k):∃i,k<=i/\i<n/\xs[i]?=some z:=by
 obtain ⟨i,hi⟩:=Ab.mp h;rw[BS] at hi;obtain ⟨j,hj,e⟩:∃j,j=k+i/\(xs.toList.take n)[j]?=some z:=⟨_,rfl,hi⟩;have il:=(A3.mp e).1;rw[AN] at il;rw[B3 (by omega)] at e
 exact ⟨j,by omega,by omega,by simpa using e⟩
theorem dm {xs:Array Keyed} (sx:xs.toList.Pairwise (Lq κ)) {n:Nat} {x y:Keyed} (hn:0<n) (e:xs[n-1]?=some x) (h:Lq κ x y):∀z∈xs.toList.take n,Lq κ z y:=fun z hz=>by
 obtain ⟨i,hi,ez⟩:=fX hz;exact KeyOrd.kle_trans (lS sx (by omega) ez e) h
end
structure Gh (κ:KeyKind) (a b:Array Keyed) (m:Nat) (out:Array Keyed) (na nb:Nat):Prop where
 mh:Mh κ a b out na nb
 la:0<na
 lb:1<nb
 ha:na<=a.size
 hb:nb<=b.size
 far:na+nb+m<=a.size+b.size
section
variable {prog:Program} {w:World} {A:Around} {E:Cw} {s:Shared} {κ:KeyKind} {kd:SortKind}
theorem jY (hO:gU prog w A E s κ kd) {st:SortSt} {a b:Array Keyed} {Q:Array Keyed->SortSt->Prop} (hk:kindOf st=kd) (ka:∀x∈a.toList,Kd κ x) (kb:∀x∈b.toList,Kd κ x)
  (sa:a.toList.Pairwise (Lq κ)) (sb:b.toList.Pairwise (Lq κ)) (pa:0<a.size) (pb:0<b.size) (h0:∀x∈b.toList.take 1,∀z∈a.toList,Lq κ x z) (hl:∀y∈b.toList,∀x,a[a.size-1]?=some x->Lq κ y x)
  (h:∀r st',fh κ a b r->lR st st'->Q r st'):wpS (model prog w) A E s (jV a b) Q st:=by
 have getA:∀{i:Nat},i<a.size->∃x,a[i]?=some x/\Kd κ x:=fun {i} hi=>⟨a[i],AF hi,ka _ (by simp)⟩
 have getB:∀{i:Nat},i<b.size->∃x,b[i]?=some x/\Kd κ x:=fun {i} hi=>⟨b[i],AF hi,kb _ (by simp)⟩
 obtain ⟨x0,ex0,kx0⟩:=getA (show a.size-1<a.size by omega)
 have M0:Mh κ a b #[] (a.size-1+1) b.size:=⟨by
  rw[Ad (by simp;omega),Ad (by simp)]
  simp,by simp,by simp,by simp⟩
 have M1:Mh κ a b #[x0] (a.size-1) b.size:=M0.pushA sa ex0 (fun z hz=>hl z (Bu hz) x0 ex0)
 unfold jV;refine ci ?_;try dsimp only
 refine wpS_bind (cG (wpS_bind (aA ex0 ?_)))
 by_cases c1:a.size-1=0
 ·rw[if_pos (beq_iff_eq.mpr c1)];exact wpS_pure (h _ _ (M1.done sa sb (.inl c1)) (.refl _))
 rw[if_neg (fun z=>c1 (beq_iff_eq.mp z))]
 by_cases c2:b.size=1
 ·rw[if_pos (beq_iff_eq.mpr c2)];exact wpS_pure (h _ _ (M1.firstB sa sb h0 c2) (.refl _))
 rw[if_neg (fun z=>c2 (beq_iff_eq.mp z))]
 refine wpS_bind (wpS_get ?_);try dsimp only
 refine wpS_bind (wpS_mono (wpS_forRange
  (I:=fun x c st'=>lR st st'/\∃out na nb g,c=(none,na,nb,out,g)/\Gh κ a b (x+1) out na nb)
  (Q:=fun c st'=>lR st st'/\∃r q,c=(some r,q)/\fh κ a b r) ?s1 ?e1 ⟨.refl _,_,_,_,_,rfl,⟨M1,by omega,by omega,by omega,by omega,by omega⟩⟩) ?p1)
 case e1=>
  rintro c st' ⟨ge,out,na,nb,g,rfl,go⟩;have:=go.la;have:=go.lb;have:=go.far;omega
 case p1=>
  rintro c st' ⟨ge,r,q,rfl,f⟩;exact wpS_pure (h _ _ f ge)
 case s1=>
  rintro x c st1 _ hx ⟨ge,out,na,nb,g,rfl,go⟩;have hk1:kindOf st1=kd:=ge.1.trans hk;try dsimp only
  refine wpS_bind (wpS_mono (wpS_forRange
   (I:=fun x' c st'=>st'=st1/\∃out na nb ac bc,c=(none,na,nb,out,ac,bc)/\Gh κ a b (x+1+x') out na nb)
   (Q:=fun c st'=>st'=st1/\((∃r q,c=(some r,q)/\fh κ a b r)∨∃out na nb ac bc,c=(none,na,nb,out,ac,bc)/\Gh κ a b (x+1+1) out na nb)) ?s2 ?e2 ⟨rfl,_,_,_,_,_,rfl,go⟩) ?p2)
  case e2=>
   rintro c st' ⟨_,out,na,nb,ac,bc,rfl,go⟩;have:=go.la;have:=go.lb;have:=go.far;omega
  case s2=>
   rintro x' c st' _ hx' ⟨rfl,out,na,nb,ac,bc,rfl,go⟩;have l1:=go.la;have l2:=go.lb;have l3:=go.far;have l4:=go.ha;have l5:=go.hb;obtain ⟨xa,exa,kxa⟩:=getA (show na-1<a.size by omega)
   obtain ⟨yb,eyb,kyb⟩:=getB (show nb-1<b.size by omega)
   try dsimp only
   refine wpS_bind (aA eyb (wpS_bind (aA exa (wpS_bind (eZ hO hk1 kyb kxa ?_)))));try dsimp only
   cases cc:κ.blt (kk κ yb) (kk κ xa) with
   |true=>
    rw[if_pos rfl];have M2:=go.mh.popA sa l1 exa (dm sb (by omega) eyb (KeyOrd.kle_of_klt cc))
    refine wpS_bind (aA exa ?_)
    by_cases d1:na-1=0
    ·rw[if_pos (beq_iff_eq.mpr d1)];exact wpS_pure ⟨rfl,.inl ⟨_,_,rfl,M2.done sa sb (.inl d1)⟩⟩
    rw[if_neg (fun z=>d1 (beq_iff_eq.mp z))]
    by_cases d2:ac+1≥g
    ·rw[if_pos d2];exact wpS_pure ⟨rfl,.inr ⟨_,_,_,_,_,rfl,⟨M2,by omega,l2,by omega,l5,by omega⟩⟩⟩
    ·rw[if_neg d2];exact wpS_pure ⟨rfl,_,_,_,_,_,rfl,⟨M2,by omega,l2,by omega,l5,by omega⟩⟩
   |false=>
    rw[if_neg (by decide)]
    have M2:=go.mh.popB sb (by omega) eyb (dm sa l1 exa cc)
    refine wpS_bind (aA eyb ?_)
    by_cases d1:nb-1=1
    ·rw[if_pos (beq_iff_eq.mpr d1)];exact wpS_pure ⟨rfl,.inl ⟨_,_,rfl,M2.firstB sa sb h0 d1⟩⟩
    rw[if_neg (fun z=>d1 (beq_iff_eq.mp z))]
    by_cases d2:bc+1≥g
    ·rw[if_pos d2];exact wpS_pure ⟨rfl,.inr ⟨_,_,_,_,_,rfl,⟨M2,l1,by omega,l4,by omega,by omega⟩⟩⟩
    ·rw[if_neg d2];exact wpS_pure ⟨rfl,_,_,_,_,_,rfl,⟨M2,l1,by omega,l4,by omega,by omega⟩⟩
  case p2=>
   rintro c st' ⟨rfl,⟨r,q,rfl,f⟩|⟨out,na,nb,ac,bc,rfl,go⟩⟩
   ·exact wpS_pure ⟨ge,_,_,rfl,f⟩
   try dsimp only
   refine wpS_bind (cG ?_);refine wpS_bind (wpS_mono (wpS_forRange
    (I:=fun x' c st'=>lR st st'/\∃out na nb g ac bc,c=(none,na,nb,out,g,ac,bc)/\Gh κ a b (x+1+1+x') out na nb)
    (Q:=fun c st'=>lR st st'/\((∃r q,c=(some r,q)/\fh κ a b r)∨∃out na nb g ac bc,c=(none,na,nb,out,g,ac,bc)/\Gh κ a b (x+1+1) out na nb)) ?s3 ?e3 ⟨ge,_,_,_,_,_,_,rfl,go⟩) ?p3)
   case e3=>
    rintro c st' ⟨_,out,na,nb,g,ac,bc,rfl,go⟩;have:=go.la;have:=go.lb;have:=go.far;omega
   case p3=>
    rintro c st' ⟨ge,⟨r,q,rfl,f⟩|⟨out,na,nb,g,ac,bc,rfl,go⟩⟩
    ·exact wpS_pure ⟨ge,_,_,rfl,f⟩
    ·exact wpS_bind (eB (wpS_pure ⟨ge.set _,_,_,_,_,rfl,go⟩))
   case s3=>
    rintro x' c st2 _ hx' ⟨ge2,out,na,nb,g,ac,bc,rfl,go⟩;have l1:=go.la;have l2:=go.lb;have l3:=go.far;have l4:=go.ha;have l5:=go.hb;try dsimp only
    obtain ⟨yb,eyb,kyb⟩:=getB (show nb-1<b.size by omega)
    have z0:∀i:Nat,0+i=i:=fun i=>Nat.zero_add i
    by_cases cg:g>1
    all_goals
     first
      |rw[if_pos cg]
      |rw[if_neg cg]
     refine wpS_bind (eB (wpS_bind (aA eyb (wpS_bind (fJ hO (ge2.1.trans hk) kyb ka sa (by omega) (by omega) fun k hkn p1 p2=>?_)))))
     simp only[z0] at p1 p2;try dsimp only
     have ge3:=ge2.set (st':=st2);have pA:∀z∈a.toList.take k,Lq κ z yb:=fun z hz=>by
      obtain ⟨i,hi,ez⟩:=fX hz;exact p1 i z hi ez
     by_cases ck:na-k>0
     ·rw[if_pos ck];have M1:=go.mh.runA sa (k:=k) hkn (fun u hu z hz=>by
       obtain ⟨i,h1,h2,e⟩:=lT hu;exact dm sb (by omega) eyb (p2 i u h1 h2 e) z hz)
      by_cases d1:k=0
      ·rw[if_pos (beq_iff_eq.mpr d1)];exact wpS_pure ⟨ge3 _,.inl ⟨_,_,rfl,M1.done sa sb (.inl d1)⟩⟩
      rw[if_neg (fun z=>d1 (beq_iff_eq.mp z))]
      have M2:=M1.popB sb (by omega) eyb pA
      refine wpS_bind (aA eyb ?_)
      by_cases d3:nb-1=1
      ·rw[if_pos (beq_iff_eq.mpr d3)];exact wpS_pure ⟨ge3 _,.inl ⟨_,_,rfl,M2.firstB sa sb h0 d3⟩⟩
      rw[if_neg (fun z=>d3 (beq_iff_eq.mp z))]
      obtain ⟨xa,exa,kxa⟩:=getA (show k-1<a.size by omega)
      refine wpS_bind (aA exa (wpS_bind (cN hO (ge2.1.trans hk) kxa kb sb (by omega) (by omega) fun k1 hk1n r1 r2=>?_)))
      simp only[z0] at r1 r2;try dsimp only
      have pB:∀z∈b.toList.take k1,Lq κ z xa:=fun z hz=>by
       obtain ⟨i,hi,ez⟩:=fX hz;exact r1 i z hi ez
      by_cases ck1:nb-1-k1>0
      ·rw[if_pos ck1];have M3:=M2.runB sb (k:=k1) hk1n (fun u hu z hz=>by
        obtain ⟨i,h1,h2,e⟩:=lT hu;exact dm sa (by omega) exa (r2 i u h1 h2 e) z hz)
       by_cases d4:k1=1
       ·rw[if_pos (beq_iff_eq.mpr d4)];exact wpS_pure ⟨ge3 _,.inl ⟨_,_,rfl,M3.firstB sa sb h0 d4⟩⟩
       rw[if_neg (fun z=>d4 (beq_iff_eq.mp z))]
       by_cases d6:k1=0
       ·rw[if_pos (beq_iff_eq.mpr d6)];exact wpS_pure ⟨ge3 _,.inl ⟨_,_,rfl,M3.done sa sb (.inr d6)⟩⟩
       rw[if_neg (fun z=>d6 (beq_iff_eq.mp z))]
       have M4:=M3.popA sa (by omega) exa pB
       refine wpS_bind (aA exa ?_)
       by_cases d5:k-1=0
       ·rw[if_pos (beq_iff_eq.mpr d5)];exact wpS_pure ⟨ge3 _,.inl ⟨_,_,rfl,M4.done sa sb (.inl d5)⟩⟩
       rw[if_neg (fun z=>d5 (beq_iff_eq.mp z))]
       split
       ·exact wpS_pure ⟨ge3 _,.inr ⟨_,_,_,_,_,_,rfl,⟨M4,by omega,by omega,by omega,by omega,by omega⟩⟩⟩
       ·exact wpS_pure ⟨ge3 _,_,_,_,_,_,_,rfl,⟨M4,by omega,by omega,by omega,by omega,by omega⟩⟩
      ·rw[if_neg ck1];have ek:k1=nb-1:=by omega
       have M4:=M2.popA sa (by omega) exa (by rw[<-ek];exact pB)
       refine wpS_bind (aA exa ?_)
       by_cases d5:k-1=0
       ·rw[if_pos (beq_iff_eq.mpr d5)];exact wpS_pure ⟨ge3 _,.inl ⟨_,_,rfl,M4.done sa sb (.inl d5)⟩⟩
       rw[if_neg (fun z=>d5 (beq_iff_eq.mp z))]
       split
       ·exact wpS_pure ⟨ge3 _,.inr ⟨_,_,_,_,_,_,rfl,⟨M4,by omega,by omega,by omega,by omega,by omega⟩⟩⟩
       ·exact wpS_pure ⟨ge3 _,_,_,_,_,_,_,rfl,⟨M4,by omega,by omega,by omega,by omega,by omega⟩⟩
     ·rw[if_neg ck];have ekn:k=na:=by omega
      have M2:=go.mh.popB sb (by omega) eyb (by rw[<-ekn];exact pA)
      refine wpS_bind (aA eyb ?_)
      by_cases d3:nb-1=1
      ·rw[if_pos (beq_iff_eq.mpr d3)];exact wpS_pure ⟨ge3 _,.inl ⟨_,_,rfl,M2.firstB sa sb h0 d3⟩⟩
      rw[if_neg (fun z=>d3 (beq_iff_eq.mp z))]
      obtain ⟨xa,exa,kxa⟩:=getA (show na-1<a.size by omega)
      refine wpS_bind (aA exa (wpS_bind (cN hO (ge2.1.trans hk) kxa kb sb (by omega) (by omega) fun k1 hk1n r1 r2=>?_)))
      simp only[z0] at r1 r2;try dsimp only
      have pB:∀z∈b.toList.take k1,Lq κ z xa:=fun z hz=>by
       obtain ⟨i,hi,ez⟩:=fX hz;exact r1 i z hi ez
      by_cases ck1:nb-1-k1>0
      ·rw[if_pos ck1];have M3:=M2.runB sb (k:=k1) hk1n (fun u hu z hz=>by
        obtain ⟨i,h1,h2,e⟩:=lT hu;exact dm sa (by omega) exa (r2 i u h1 h2 e) z hz)
       by_cases d4:k1=1
       ·rw[if_pos (beq_iff_eq.mpr d4)];exact wpS_pure ⟨ge3 _,.inl ⟨_,_,rfl,M3.firstB sa sb h0 d4⟩⟩
       rw[if_neg (fun z=>d4 (beq_iff_eq.mp z))]
       by_cases d6:k1=0
       ·rw[if_pos (beq_iff_eq.mpr d6)];exact wpS_pure ⟨ge3 _,.inl ⟨_,_,rfl,M3.done sa sb (.inr d6)⟩⟩
       rw[if_neg (fun z=>d6 (beq_iff_eq.mp z))]
       have M4:=M3.popA sa (by omega) exa pB
       refine wpS_bind (aA exa ?_)
       by_cases d5:na-1=0
       ·rw[if_pos (beq_iff_eq.mpr d5)];exact wpS_pure ⟨ge3 _,.inl ⟨_,_,rfl,M4.done sa sb (.inl d5)⟩⟩
       rw[if_neg (fun z=>d5 (beq_iff_eq.mp z))]
       split
       ·exact wpS_pure ⟨ge3 _,.inr ⟨_,_,_,_,_,_,rfl,⟨M4,by omega,by omega,by omega,by omega,by omega⟩⟩⟩
       ·exact wpS_pure ⟨ge3 _,_,_,_,_,_,_,rfl,⟨M4,by omega,by omega,by omega,by omega,by omega⟩⟩
      ·rw[if_neg ck1];have ek:k1=nb-1:=by omega
       have M4:=M2.popA sa (by omega) exa (by rw[<-ek];exact pB)
       refine wpS_bind (aA exa ?_)
       by_cases d5:na-1=0
       ·rw[if_pos (beq_iff_eq.mpr d5)];exact wpS_pure ⟨ge3 _,.inl ⟨_,_,rfl,M4.done sa sb (.inl d5)⟩⟩
       rw[if_neg (fun z=>d5 (beq_iff_eq.mp z))]
       split
       ·exact wpS_pure ⟨ge3 _,.inr ⟨_,_,_,_,_,_,rfl,⟨M4,by omega,by omega,by omega,by omega,by omega⟩⟩⟩
       ·exact wpS_pure ⟨ge3 _,_,_,_,_,_,_,rfl,⟨M4,by omega,by omega,by omega,by omega,by omega⟩⟩
end
section
variable {prog:Program} {w:World} {A:Around} {E:Cw} {s:Shared} {κ:KeyKind} {kd:SortKind}
theorem fK (hO:gU prog w A E s κ kd) {st:SortSt} {left:Bool} {key:Keyed} {arr:Array Keyed} {P X S:List Keyed} {hint:Nat} {Q:Option Nat->SortSt->Prop} (hk:kindOf st=kd) (hy:Kd κ key) (ka:∀x∈arr.toList,Kd κ x) (e:arr.toList=P++(X++S)) (sx:X.Pairwise (Lq κ)) (hh:hint<X.length)
  (h:∀X1 X2,X=X1++X2->(∀x∈X1,Lq κ x key)->(∀x∈X2,Lq κ key x)->Q (some X1.length) st):wpS (model prog w) A E s (eA left key arr P.length X.length hint) Q st:=by
 have at_:∀i,i<X.length->arr[P.length+i]?=X[i]?:=fun i hi=>by
  have:arr.toList[P.length+i]?=X[i]?:=by
   rw[e,A6 (by omega),B9,A8 hi]
  simpa using this
 have get:∀i,i<X.length->∃x,X[i]?=some x/\Kd κ x:=fun i hi=>⟨X[i],A0 hi,ka _ (by rw[e];simp)⟩
 have mono:∀{i j:Nat} {x y:Keyed},i<=j->X[i]?=some x->X[j]?=some y->Lq κ x y:=fun {i j x y} hij h1 h2=>by
  rcases Nat.lt_or_ge i j with c|c
  ·obtain ⟨l1,g1⟩:=A3.mp h1;obtain ⟨l2,g2⟩:=A3.mp h2;have:=C3.mp sx i j l1 l2 c;rw[g1,g2] at this;exact this
  ·have:i=j:=by omega
   subst this;rw[h1] at h2;cases h2;exact KeyOrd.kle_refl _
 refine dS hO hk hy (fun i=>match X[i]? with|some x=>bq κ left key x|none=>false) (fun i hi=>?_) (fun i j hij hj hf=>?_) hh (fun k hkn h1 h2=>?_)
 ·obtain ⟨x,ex,kx⟩:=get i hi;exact ⟨x,(at_ i hi).trans ex,kx,by rw[ex]⟩
 ·obtain ⟨x,ex,_⟩:=get i (by omega)
  obtain ⟨y,ey,_⟩:=get j hj;try dsimp only at hf⊢
  rw[ex];rw[ey] at hf;have l:=mono hij ex ey;cases left with
  |true=>exact KeyOrd.klt_of_kle_of_klt l hf
  |false=>
   have hf':(!κ.blt (kk κ key) (kk κ y))=true:=hf;have f1:κ.blt (kk κ key) (kk κ y)=false:=by simpa using hf'
   have f2:κ.blt (kk κ key) (kk κ x)=false:=KeyOrd.kle_trans l f1;show (!κ.blt (kk κ key) (kk κ x))=true;rw[f2]
   rfl
 ·have tl:(X.take k).length=k:=by rw[AN];omega
  have q:=h (X.take k) (X.drop k) (AL k X).symm (fun x hx=>?_) (fun x hx=>?_)
  ·rw[tl] at q;exact q
  ·obtain ⟨i,hi⟩:=Ab.mp hx;have il:=(A3.mp hi).1;rw[tl] at il;rw[B3 il] at hi;have q:=h1 i il;try dsimp only at q
   rw[hi] at q;cases left with
   |true=>exact KeyOrd.kle_of_klt q
   |false=>
    have q':(!κ.blt (kk κ key) (kk κ x))=true:=q;show κ.blt (kk κ key) (kk κ x)=false
    simpa using q'
  ·obtain ⟨i,hi⟩:=Ab.mp hx;rw[BS] at hi;have il:=(A3.mp hi).1;have q:=h2 (k+i) (by omega) il
   try dsimp only at q
   rw[hi] at q;cases left with
   |true=>exact q
   |false=>
    have q':(!κ.blt (kk κ key) (kk κ x))=false:=q;exact KeyOrd.kle_of_klt (show κ.blt (kk κ key) (kk κ x)=true by simpa using q')
end
theorem writes (P:Nat):∀(l:List Keyed) (c:Nat) (arr:Array Keyed),P+c+l.length<=arr.size->
  ((l.zipIdx c).foldl (fun (a:Array Keyed) (q:Keyed×Nat)=>a.setIfInBounds (P+q.2) q.1) arr).toList=arr.toList.take (P+c)++l++arr.toList.drop (P+c+l.length)
 | [],c,arr,h=>by simp
 |x::l,c,arr,h=>by
  have hl:P+c<arr.size:=by simp at h;omega
  rw[List.zipIdx_cons,List.foldl_cons,writes P l (c+1) _ (by rw[Array.size_setIfInBounds];simp at h⊢;omega)]
  have e:(arr.setIfInBounds (P+c) x).toList=arr.toList.set (P+c) x:=by simp
  dsimp only;rw[e];have e1:P+(c+1)=P+c+1:=by omega
  rw[e1];have hl':P+c<arr.toList.length:=by simpa using hl
  have t1:(arr.toList.set (P+c) x).take (P+c+1)=arr.toList.take (P+c)++ [x]:=by
   rw[List.take_succ,List.take_set_of_le (A7 _),List.getElem?_set_self hl']
   rfl
  have t2:(arr.toList.set (P+c) x).drop (P+c+1+l.length)=arr.toList.drop (P+c+(x::l).length):=by
   rw[List.drop_set_of_lt (by omega)]
   congr 1
   simp;omega
  rw[t1,t2];simp
theorem uS {κ:KeyKind} {X1 X2 Y1 Y2 r:List Keyed} (sx:(X1++X2).Pairwise (Lq κ)) (sy:(Y1++Y2).Pairwise (Lq κ)) (h1:∀x∈X1,∀y∈Y1++Y2,Lq κ x y) (h2:∀x∈X1++X2,∀y∈Y2,Lq κ x y) (pr:r.Perm (X2++Y1)) (sr:r.Pairwise (Lq κ)):(X1++(r++Y2)).Pairwise (Lq κ):=by
 have x:=AA.mp sx;have y:=AA.mp sy;rw[AA,AA];refine ⟨x.1,⟨sr,y.2.1,fun u hu v hv=>?_⟩,fun u hu v hv=>?_⟩
 ·rcases AI.mp (pr.mem_iff.mp hu) with k|k
  ·exact h2 u (AD _ k) v hv
  ·exact y.2.2 u k v hv
 ·rcases AI.mp hv with k|k
  ·rcases AI.mp (pr.mem_iff.mp k) with k|k
   ·exact x.2.2 u hu v k
   ·exact h1 u hu v (BZ _ k)
  ·exact h1 u hu v (AD _ k)
theorem uT {X1 X2 Y1 Y2 r:List Keyed} (pr:r.Perm (X2++Y1)):(X1++(r++Y2)).Perm ((X1++X2)++(Y1++Y2)):=by
 have:(X1++X2)++(Y1++Y2)=X1++((X2++Y1)++Y2):=by simp
 rw[this];exact Al _ (B5 _ pr)
theorem sN {M:Model} {A:Around} {E:Cw} {s:Shared} {σ:Type} {st st':σ} {Q:PUnit->σ->Prop} (h:Q ⟨⟩ st'):wpS M A E s (set st':StateT σ Sem PUnit) Q st:=by
 unfold wpS;rw[StateT.run_set];exact wpAny_pure ⟨rfl,h⟩
section
variable {prog:Program} {w:World} {A:Around} {E:Cw} {s:Shared} {κ:KeyKind} {kd:SortKind}
theorem jZ (hO:gU prog w A E s κ kd) {st:SortSt} {i:Nat} {P X Y S:List Keyed} {pa pb:Nat} {Q:Bool->SortSt->Prop} (hk:kindOf st=kd) (hf:failedOf st=none) (ka:∀x∈(arrOf st).toList,Kd κ x)
  (e:(arrOf st).toList=P++(X++(Y++S))) (sx:X.Pairwise (Lq κ)) (sy:Y.Pairwise (Lq κ)) (nx:0<X.length) (ny:0<Y.length)
  (p1:(pendingOf st)[i]?=some (P.length,X.length,pa)) (p2:(pendingOf st)[i+1]?=some (P.length+X.length,Y.length,pb))
  (h:∀st' Z,Z.Perm (X++Y)->Z.Pairwise (Lq κ)->kindOf st'=kd->failedOf st'=none->(arrOf st').toList=P++(Z++S)->pendingOf st'=((pendingOf st).setIfInBounds i (P.length,X.length+Y.length,pa)).eraseIdxIfInBounds (i+1)->Q true st'):
  wpS (model prog w) A E s (mergeAt' i) Q st:=by
 unfold mergeAt';refine ci ?_;try dsimp only
 have ix:∀{U V:List Keyed} {v:Keyed},(arrOf st).toList=U++v::V->(arrOf st)[U.length]?=some v:=fun {U V v} q=>by
  have:(arrOf st).toList[U.length]?=some v:=by rw[q];simp
  simpa using this
 have sub:∀{U V W:List Keyed},(arrOf st).toList=U++(V++W)->((arrOf st).extract U.length (U.length+V.length)).toList=V:=fun {U V W} q=>by
  rw[Aa,Af,q];simp
 obtain ⟨y0,Y',rfl⟩:∃y0 Y',Y=y0::Y':=by
  cases Y with
  |nil=>simp at ny
  |cons y Y=>exact ⟨y,Y,rfl⟩
 have sy':=List.pairwise_cons.mp sy;have ey:(arrOf st)[P.length+X.length]?=some y0:=by
  have:=ix (U:=P++X) (V:=Y'++S) (v:=y0) (by rw[e];simp)
  rwa [AB] at this
 have mem:∀x∈X++(y0::Y'),x∈(arrOf st).toList:=fun x hx=>by
  rw[e];rcases AI.mp hx with k|k
  ·simp[k]
  ·simp at k⊢;rcases k with k|k
   ·simp[k]
   ·simp[k]
 refine wpS_bind (wpS_get ?_);rw[p1,p2];try dsimp only
 refine wpS_bind (sN (wpS_bind (aA ey (wpS_bind (fK (P:=P) (X:=X) (S:=(y0::Y')++S) hO hk (ka _ (mem y0 (by simp))) ka e sx nx fun X1 X2 eX q1 q2=>?_)))))
 try dsimp only
 subst eX;have lx:(X1++X2).length=X1.length+X2.length:=AB;have leY:∀{x:Keyed},Lq κ x y0->∀y∈y0::Y',Lq κ x y:=fun {x} l y hy=>by
  rcases AU.mp hy with k|k
  ·rw[k];exact l
  ·exact KeyOrd.kle_trans l (sy'.1 y k)
 by_cases c1:(X1++X2).length-X1.length=0
 ·rw[if_pos (beq_iff_eq.mpr c1)];have x2:X2= []:=Aq (by omega)
  subst x2;refine wpS_pure (h _ ((X1++ [])++(y0::Y')) (C8 _) ?_ hk hf (by rw[show arrOf _=arrOf st from rfl,e];simp) rfl)
  rw[AA];exact ⟨sx,sy,fun x hx y hy=>leY (q1 x (by simpa using hx)) y hy⟩
 rw[if_neg (fun z=>c1 (beq_iff_eq.mp z))]
 obtain ⟨X3,xl,rfl⟩:∃X3 xl,X2=X3++ [xl]:=by
  rcases List.eq_nil_or_concat X2 with z|⟨a,b,z⟩
  ·subst z;simp at c1
  ·exact ⟨a,b,by rw[z,List.concat_eq_append]⟩
 have lx3:(X3++ [xl]).length=X3.length+1:=by simp
 have exl:(arrOf st)[P.length+X1.length+((X1++(X3++ [xl])).length-X1.length)-1]?=some xl:=by
  have:=ix (U:=P++(X1++X3)) (V:=(y0::Y')++S) (v:=xl) (by rw[e];simp)
  rw[AB,AB] at this;rw[<-this]
  congr 1
  omega
 have lexl:∀x∈X1++(X3++ [xl]),Lq κ x xl:=fun x hx=>by
  have q:((X1++X3)++ [xl]).Pairwise (Lq κ):=by rw[AQ];exact sx
  have q':=AA.mp q;rw[<-AQ] at hx;rcases AI.mp hx with k|k
  ·exact q'.2.2 x k xl (by simp)
  ·simp at k;rw[k];exact KeyOrd.kle_refl _
 have g2:=fun (st2:SortSt) (hk2:kindOf st2=kd) (Q2:Option Nat->SortSt->Prop) hh=>fK (prog:=prog) (w:=w) (A:=A) (E:=E) (s:=s) (st:=st2) (left:=true) (key:=xl) (arr:=arrOf st) (P:=P++(X1++(X3++ [xl]))) (X:=y0::Y') (S:=S) (hint:=(y0::Y').length-1) (Q:=Q2) hO hk2 (ka _ (mem xl (by simp))) ka (by rw[e];simp) sy (by simp) hh
 rw[show (P++(X1++(X3++ [xl]))).length=P.length+(X1++(X3++ [xl])).length from AB] at g2
 refine wpS_bind (aA exl (wpS_bind (g2 _ (by exact hk) _ fun Y1 Y2 eY r1 r2=>?_)))
 try dsimp only
 have l2:∀x∈X1++(X3++ [xl]),∀y∈Y2,Lq κ x y:=fun x hx y hy=>KeyOrd.kle_trans (lexl x hx) (r2 y hy)
 by_cases c2:Y1.length=0
 ·rw[if_pos (beq_iff_eq.mpr c2)];have y1:Y1= []:=Aq c2;subst y1;have eY':Y2=y0::Y':=by simpa using eY.symm
  refine wpS_pure (h _ ((X1++(X3++ [xl]))++(y0::Y')) (C8 _) ?_ hk hf (by rw[show arrOf _=arrOf st from rfl,e];simp) rfl)
  rw[AA];exact ⟨sx,sy,fun x hx y hy=>l2 x hx y (by rw[eY'];exact hy)⟩
 rw[if_neg (fun z=>c2 (beq_iff_eq.mp z))]
 have xx:((arrOf st).extract (P.length+X1.length) (P.length+(X1++(X3++ [xl])).length)).toList=X3++ [xl]:=by
  have:=sub (U:=P++X1) (V:=X3++ [xl]) (W:=(y0::Y')++S) (by rw[e];simp)
  rw[AB] at this;have l:P.length+(X1++(X3++ [xl])).length=P.length+X1.length+(X3++ [xl]).length:=by rw[AB];omega
  rw[l];exact this
 have yy:((arrOf st).extract (P.length+(X1++(X3++ [xl])).length) (P.length+(X1++(X3++ [xl])).length+Y1.length)).toList=Y1:=by
  have:=sub (U:=P++(X1++(X3++ [xl]))) (V:=Y1) (W:=Y2++S) (by rw[e,eY];simp)
  rw[AB] at this;exact this
 generalize (arrOf st).extract (P.length+X1.length) (P.length+(X1++(X3++ [xl])).length)=ax at xx⊢;generalize (arrOf st).extract (P.length+(X1++(X3++ [xl])).length) (P.length+(X1++(X3++ [xl])).length+Y1.length)=ay at yy⊢;have sX:=AA.mp sx;have sY:(Y1++Y2).Pairwise (Lq κ):=by rw[<-eY];exact sy
 have sY1:=(AA.mp sY).1;have kX:∀x∈ax.toList,Kd κ x:=fun x hx=>by
  rw[xx] at hx;exact ka x (mem x (BZ _ (AD _ hx)))
 have kY:∀x∈ay.toList,Kd κ x:=fun x hx=>by
  rw[yy] at hx;exact ka x (mem x (by rw[eY];simp[hx]))
 have zx:ax.size=X3.length+1:=by
  have:=congrArg Bt xx
  simpa using this
 have zy:ay.size=Y1.length:=by
  have:=congrArg Bt yy
  simpa using this
 have y1c:∃Y3,Y1=y0::Y3:=by
  cases Y1 with
  |nil=>simp at c2
  |cons y Y3=>
   have:y0=y:=by
    have:=congrArg List.head? eY
    simpa using this
   exact ⟨Y3,by rw[this]⟩
 obtain ⟨Y3,eY3⟩:=y1c;have last:∀y∈ay.toList,Lq κ y xl:=fun y hy=>r1 y (by rw[<-yy];exact hy)
 have axl:∀x,ax[ax.size-1]?=some x->x=xl:=fun x hx=>by
  have hx':ax.toList[ax.size-1]?=some x:=by simpa using hx
  rw[xx,zx,Nat.add_sub_cancel,A6 (A7 _)] at hx'
  simpa using hx'.symm
 have fin:∀(r:Array Keyed) (st2:SortSt),fh κ ax ay r->kindOf st2=kd->failedOf st2=none->arrOf st2=arrOf st->pendingOf st2=((pendingOf st).setIfInBounds i (P.length,(X1++(X3++ [xl])).length+(y0::Y').length,pa)).eraseIdxIfInBounds (i+1)->
   Q true (SortSt.mk' (kindOf st2) (List.foldl (fun (a:Array Keyed) (x:Keyed×Nat)=>a.setIfInBounds (P.length+X1.length+x.snd) x.fst) (arrOf st2) r.toList.zipIdx) (pendingOf st2) (gallopOf st2) (failedOf st2)):=by
  rintro r st2 ⟨pr,sr⟩ h1 h2 h3 h4;rw[xx,yy] at pr;have rl:r.toList.length=X3.length+1+Y1.length:=by
   rw[pr.length_eq];simp;omega
  refine h _ (X1++(r.toList++Y2)) ?_ (uS sx sY (fun x hx y hy=>leY (q1 x hx) y (by rw[eY];exact hy)) l2 pr sr) h1 h2 ?_ h4
  ·rw[eY];exact uT pr
  ·show (List.foldl (fun (a:Array Keyed) (x:Keyed×Nat)=>a.setIfInBounds (P.length+X1.length+x.snd) x.fst) (arrOf st2) r.toList.zipIdx).toList=_
   rw[h3];have sz:(arrOf st).size=P.length+X1.length+(X3.length+1)+(Y1.length+Y2.length)+S.length:=by
    have:=congrArg Bt e;rw[eY] at this;simp at this;omega
   have w:=writes (P.length+X1.length) r.toList 0 (arrOf st) (by rw[rl];omega)
   rw[w,rl,e,eY];have t:P++(X1++(X3++ [xl])++(Y1++Y2++S))=(P++X1)++((X3++ [xl]++Y1)++(Y2++S)):=by simp
   rw[t];have l1:P.length+X1.length+0=(P++X1).length:=by simp
   have l3:P.length+X1.length+0+(X3.length+1+Y1.length)=(P++X1).length+(X3++ [xl]++Y1).length:=by simp;omega
   have d:∀(A B C:List Keyed),(A++(B++C)).drop (A.length+B.length)=C:=fun A B C=>by rw[<-AQ,<-AB,List.drop_left]
   rw[l3,l1,d,List.take_left];simp
 by_cases c3:(X1++(X3++ [xl])).length-X1.length<=Y1.length
 ·rw[if_pos c3];refine wpS_bind (jW hO (by exact hk) kX kY (by rw[xx];exact sX.2.1) (by rw[yy];exact sY1) (by omega) (by omega) (fun x y hx hy=>?_) (fun y hy x hx=>?_) fun r st2 mf ge=>?_)
  ·have hx':ax.toList[0]?=some x:=by simpa using hx
   have hy':ay.toList[0]?=some y:=by simpa using hy
   rw[yy,eY3] at hy';simp at hy';rw[<-hy'];rw[xx] at hx';exact q2 x (AR hx')
  ·rw[xx,zx,Nat.add_sub_cancel,List.drop_left'] at hx
   ·simp at hx;rw[hx];exact last y hy
   ·rfl
  ·refine wpS_bind (wpS_modify (wpS_bind (wpS_get (wpS_pure ?_))));have f:=fin r st2 mf (ge.1.trans hk) (ge.2.2.2.trans hf) ge.2.1 ge.2.2.1;have fl:failedOf st2=none:=ge.2.2.2.trans hf;show Q ((failedOf st2).isNone) _;rw[fl];exact f
 ·rw[if_neg c3];refine wpS_bind (jY hO (by exact hk) kX kY (by rw[xx];exact sX.2.1) (by rw[yy];exact sY1) (by omega) (by omega) (fun x hx z hz=>?_) (fun y hy x hx=>?_) fun r st2 mf ge=>?_)
  ·rw[yy,eY3] at hx;simp at hx;rw[hx];rw[xx] at hz;exact q2 z hz
  ·rw[axl x hx];exact last y hy
  ·refine wpS_bind (wpS_modify (wpS_bind (wpS_get (wpS_pure ?_))));have f:=fin r st2 mf (ge.1.trans hk) (ge.2.2.2.trans hf) ge.2.1 ge.2.2.1;have fl:failedOf st2=none:=ge.2.2.2.trans hf;show Q ((failedOf st2).isNone) _;rw[fl];exact f
end
section
variable {prog:Program} {w:World} {A:Around} {E:Cw} {s:Shared} {κ:KeyKind} {kd:SortKind}
theorem sO {arr:Array Keyed} {P R:List Keyed} (e:arr.toList=P++R) {i:Nat} {x:Keyed} (h:R[i]?=some x):arr[P.length+i]?=some x:=by
 have:arr.toList[P.length+i]?=some x:=by rw[e,A6 (by omega),B9];exact h
 simpa using this
theorem eC (hO:gU prog w A E s κ kd) {st:SortSt} {P R:List Keyed} {i j i' j':Nat} {x y:Keyed} {Q:Option Bool->SortSt->Prop} (hk:kindOf st=kd) (ka:∀x∈R,Kd κ x) (e:(arrOf st).toList=P++R)
  (hi:R[i]?=some x) (hj:R[j]?=some y) (ei:i'=P.length+i) (ej:j'=P.length+j) (h:Q (some (κ.blt (kk κ x) (kk κ y))) st):wpS (model prog w) A E s (ltAt' i' j') Q st:=by
 subst ei ej;rw[ltAt'_eq];refine wpS_bind (wpS_get ?_);exact wpS_bind (aA (sO e hi) (wpS_bind (aA (sO e hj) (eZ hO hk (ka x (AR hi)) (ka y (AR hj)) h))))
theorem take_snoc {R:List Keyed} {n:Nat} {x:Keyed} (h:R[n]?=some x):R.take (n+1)=R.take n++ [x]:=by
 rw[List.take_succ,h]
 rfl
theorem xG {R:List Keyed} {n:Nat} {x y:Keyed} (h1:1<=n) (hs:(R.take n).Pairwise (Lq κ)) (hy:R[n-1]?=some y) (hx:R[n]?=some x) (l:Lq κ y x):(R.take (n+1)).Pairwise (Lq κ):=by
 have e1:R.take n=R.take (n-1)++ [y]:=by
  have:=take_snoc hy
  rwa [show n-1+1=n by omega] at this
 rw[take_snoc hx,AA];refine ⟨hs,by simp,fun u hu v hv=>?_⟩
 simp at hv;rw[hv];rw[e1] at hu hs;rcases AI.mp hu with k|k
 ·exact KeyOrd.kle_trans ((AA.mp hs).2.2 u k y (by simp)) l
 ·simp at k;rw[k];exact l
theorem nj {st:SortSt} {R:List Keyed} {n0 N:Nat} (hN:N=R.length) {body:Nat->Option (Option Nat)×Nat->StateT SortSt Sem (ForInStep (Option (Option Nat)×Nat))} {Q:Option (Option Nat)×Nat->SortSt->Prop} (h1:1<=n0) (hn:n0<=R.length) (hs:(R.take n0).Pairwise (Lq κ))
  (hb:∀n x y (i:Nat) (Q':ForInStep (Option (Option Nat)×Nat)->SortSt->Prop),1<=n->R[n]?=some x->R[n-1]?=some y->(κ.blt (kk κ x) (kk κ y)=true->Q' (.done (none,n)) st)->(κ.blt (kk κ x) (kk κ y)=false->Q' (.yield (none,n+1)) st)->wpS (model prog w) A E s (body i (none,n)) Q' st)
  (h:∀n,n0<=n->n<=R.length->(R.take n).Pairwise (Lq κ)->(n=R.length∨∃x y,R[n]?=some x/\R[n-1]?=some y/\κ.blt (kk κ x) (kk κ y)=true)->Q (none,n) st):wpS (model prog w) A E s (forIn [n0:N] (none,n0) body) Q st:=by
 subst hN;refine wpS_forRange (I:=fun i c st'=>st'=st/\c=(none,i)/\n0<=i/\(R.take i).Pairwise (Lq κ)) ?_ ?_ ⟨rfl,rfl,A7 _,hs⟩
 ·rintro i c st' hi1 hi2 ⟨rfl,rfl,h3,h4⟩;have ex:=A0 hi2;have ey:=A0 (show i-1<R.length by omega)
  refine hb i _ _ i _ (by omega) ex ey (fun c=>h i h3 (by omega) h4 (.inr ⟨_,_,ex,ey,c⟩)) (fun c=>⟨rfl,rfl,by omega,xG (by omega) h4 ey ex c⟩)
 ·rintro c st' ⟨rfl,rfl,h3,h4⟩;rw[Nat.max_eq_right hn] at h3 h4⊢;exact h _ h3 (A7 _) h4 (.inl rfl)
theorem fL {arr:Array Keyed} {P D S:List Keyed} (e:arr.toList=P++(D++S)):(mirror arr P.length (P.length+D.length) ((P.length+D.length-P.length)/2)).toList=P++(D.reverse++S):=by
 have sz:arr.size=P.length+(D.length+S.length):=by
  have:=congrArg Bt e
  simpa using this
 apply List.ext_getElem?;intro k;have q:=getElem?_mirror_all (xs:=arr) (i:=P.length) (j:=P.length+D.length) (by omega) k
 have q':(mirror arr P.length (P.length+D.length) ((P.length+D.length-P.length)/2)).toList[k]?=(mirror arr P.length (P.length+D.length) ((P.length+D.length-P.length)/2))[k]?:=by simp
 have ga:∀i,arr[i]?=(P++(D++S))[i]?:=fun i=>by rw[<-e,AT]
 rw[q',q,ga,ga]
 by_cases c:P.length<=k/\k<P.length+D.length
 ·rw[if_pos c,A6 (by omega),A8 (by omega),A6 (by omega),A8 (by rw[Bc];omega),List.getElem?_reverse (by omega)]
  congr 1
  omega
 ·rw[if_neg c]
  by_cases c2:k<P.length
  ·rw[A8 c2,A8 c2]
  ·rw[A6 (by omega),A6 (by omega),A6 (by omega),A6 (by rw[Bc];omega),Bc]
structure Kp (st st':SortSt):Prop where
 kind:kindOf st'=kindOf st
 failed:failedOf st'=failedOf st
 pend:pendingOf st'=pendingOf st
def NI (κ:KeyKind) (L:List Keyed) (n:Nat):Prop:=((L.map (kk κ)).take n).Pairwise fun a b=>κ.blt a b=false
theorem NI.snoc {L:List Keyed} {n:Nat} {x y:Keyed} (h1:1<=n) (h:NI κ L n) (hy:L[n-1]?=some y) (hx:L[n]?=some x) (l:κ.blt (kk κ y) (kk κ x)=false):NI κ L (n+1):=by
 have ey:(L.map (kk κ))[n-1]?=some (kk κ y):=by rw[A9,hy];rfl
 have ex:(L.map (kk κ))[n]?=some (kk κ x):=by rw[A9,hx];rfl
 unfold NI at h⊢;have e1:(L.map (kk κ)).take n=(L.map (kk κ)).take (n-1)++ [kk κ y]:=by
  have:=List.take_succ (l:=L.map (kk κ)) (i:=n-1);rw[show n-1+1=n by omega,ey] at this
  exact this
 have e2:(L.map (kk κ)).take (n+1)=(L.map (kk κ)).take n++ [kk κ x]:=by
  rw[List.take_succ,ex]
  rfl
 rw[e2,AA];refine ⟨h,by simp,fun u hu v hv=>?_⟩
 simp at hv;rw[hv];rw[e1] at hu h;rcases AI.mp hu with k|k
 ·have q:=(AA.mp h).2.2 u k (kk κ y) (by simp)
  exact KeyOrd.kle_trans (O:=κ.toKeyOrd) l q
 ·simp at k;rw[k];exact l
theorem NI.falls {L:List Keyed} {n:Nat} (h:NI κ L n):(L.take n).Pairwise (fun p q=>Lq κ q p):=by
 unfold NI at h;rw[<-List.map_take,Ay] at h;exact h
def tZ (κ:KeyKind) (L:List Keyed) (n m:Nat):Prop:=∃(D1 D2 S:List Keyed) (a:κ.α),L=D1++(D2++S)/\D1.length+D2.length=n/\D2.length=m+1/\∀x∈D2,kk κ x=a
theorem oF {D:List Keyed} {a:κ.α} (h:∀x∈D,kk κ x=a):D.reverse.map (kk κ)=D.map (kk κ):=by
 have e1:D.map (kk κ)=List.replicate D.length a:=List.eq_replicate_iff.mpr ⟨by simp,fun b hb=>by
  obtain ⟨x,hx,rfl⟩:=AX.mp hb;exact h x hx⟩
 have e2:D.reverse.map (kk κ)=List.replicate D.length a:=List.eq_replicate_iff.mpr ⟨by simp,fun b hb=>by
  obtain ⟨x,hx,rfl⟩:=AX.mp hb;exact h x (BI.mp hx)⟩
 rw[e1,e2]
theorem gm {st:SortSt} {P L:List Keyed} {n m i j:Nat} {Q:Unit->SortSt->Prop} (e:(arrOf st).toList=P++L) (q:tZ κ L n m) (ei:i=P.length+n-(m+1)) (ej:j=P.length+n)
  (h:∀st' L',Kp st st'->(arrOf st').toList=P++L'->L'.Perm L->L'.map (kk κ)=L.map (kk κ)->(∀k,n<=k->L'[k]?=L[k]?)->Q () st'):wpS (model prog w) A E s (reverseSlice' i j) Q st:=by
 obtain ⟨D1,D2,S,a,rfl,l1,l2,al⟩:=q;refine wpS_reverse ?_;have er:(arrOf st).toList=(P++D1)++(D2++S):=by rw[e];simp
 have em:=fL er;have i1:i=(P++D1).length:=by rw[AB];omega
 have j1:j=(P++D1).length+D2.length:=by rw[AB];omega
 rw[i1,j1];refine h (setArr st (mirror (arrOf st) (P++D1).length ((P++D1).length+D2.length) (((P++D1).length+D2.length-(P++D1).length)/2))) (D1++(D2.reverse++S)) ⟨rfl,rfl,rfl⟩ ?_ ?_ ?_ fun k hk=>?_
 ·rw[<-AQ];exact em
 ·exact Al _ (B5 _ (List.reverse_perm _))
 ·simp only[B0];rw[oF al]
 ·rw[A6 (by omega),A6 (by rw[Bc];omega),A6 (by omega),A6 (by omega),Bc]
theorem Kp.trans {a b c:SortSt} (h1:Kp a b) (h2:Kp b c):Kp a c:=⟨h2.kind.trans h1.kind,h2.failed.trans h1.failed,h2.pend.trans h1.pend⟩
theorem i8 {L:List Keyed} {n:Nat} (h:n<L.length):tZ κ L (n+1) 0:=by
 refine ⟨L.take n,[L[n]],L.drop (n+1),kk κ L[n],?_,by rw[AN];simp;omega,rfl,fun x hx=>by simp at hx;rw[hx]⟩
 have:=BH h;rw[List.singleton_append,<-this,AL]
theorem tZ.more {L:List Keyed} {n m:Nat} {x y:Keyed} (h:tZ κ L n m) (hy:L[n-1]?=some y) (hx:L[n]?=some x) (e:kk κ x=kk κ y):tZ κ L (n+1) (m+1):=by
 obtain ⟨D1,D2,S,a,rfl,l1,l2,al⟩:=h;have my:y∈D2:=by
  rw[A6 (by omega),A8 (by omega)] at hy
  exact AR hy
 rw[A6 (by omega),A6 (by omega)] at hx
 have z:n-D1.length-D2.length=0:=by omega
 rw[z] at hx;cases S with
 |nil=>simp at hx
 |cons s S=>
  simp at hx;subst hx;refine ⟨D1,D2++ [s],S,a,by simp,by simp;omega,by simp;omega,fun u hu=>?_⟩
  rcases AI.mp hu with k|k
  ·exact al u k
  ·simp at k;rw[k,e];exact al y my
theorem qD {st st6:SortSt} {P L R:List Keyed} {n:Nat} {f:Unit->StateT SortSt Sem (Option Nat)} {Q:Option Nat->SortSt->Prop} (kp:Kp st st6) (e:(arrOf st6).toList=P++L) (pr:L.Perm R) (hn:n<=R.length) (ni:NI κ L n)
  (h:∀st7 M,Kp st st7->(arrOf st7).toList=P++M->M.Perm R->(M.take n).Pairwise (Lq κ)->wpS (model prog w) A E s (f ()) Q st7):wpS (model prog w) A E s (reverseSlice' P.length (P.length+n)>>=f) Q st6:=by
 have tl:(L.take n).length=n:=by rw[AN,pr.length_eq];omega
 have er:(arrOf st6).toList=P++(L.take n++L.drop n):=by rw[AL];exact e
 have em:=fL er;rw[tl] at em;refine wpS_bind (wpS_reverse (h _ ((L.take n).reverse++L.drop n) ⟨kp.kind,kp.failed,kp.pend⟩ em ?_ ?_))
 ·refine Bz.trans (B5 _ (List.reverse_perm _)) ?_;rw[AL];exact pr
 ·rw[List.take_left' (by rw[Bc,tl]),List.pairwise_reverse]
  exact ni.falls
theorem fM (hO:gU prog w A E s κ kd) {st:SortSt} {P R:List Keyed} {Q:Option Nat->SortSt->Prop} (hk:kindOf st=kd) (ka:∀x∈R,Kd κ x) (e:(arrOf st).toList=P++R) (hR:1<=R.length)
  (h:∀st' X S,Kp st st'->(arrOf st').toList=P++(X++S)->X.Pairwise (Lq κ)->(X++S).Perm R->1<=X.length->Q (some X.length) st'):wpS (model prog w) A E s (countRun' P.length R.length) Q st:=by
 have got:∀n,1<=n->n<=R.length->(R.take n).Pairwise (Lq κ)->Q (some n) st:=fun n h1 h2 h3=>by
  have q:=h st (R.take n) (R.drop n) ⟨rfl,rfl,rfl⟩ (by rw[AL];exact e) h3 (by rw[AL]) (by rw[AN];omega)
  rwa [AN,Bk h2] at q
 unfold countRun';refine ci ?_;try dsimp only
 refine wpS_bind (nj (κ:=κ) (R:=R) rfl (A7 1) hR ?_ (fun n x y i Q' h1 hx hy ht hf=>?_) fun n h1 h2 h3 h4=>?_)
 ·cases R with
  |nil=>simp
  |cons=>simp
 ·refine wpS_bind (eC hO hk ka e hx hy rfl (by omega) ?_)
  cases c:κ.blt (kk κ x) (kk κ y) with
  |true=>exact wpS_pure (ht c)
  |false=>exact wpS_pure (hf c)
 try dsimp only
 by_cases c1:n=R.length
 ·rw[if_pos (beq_iff_eq.mpr c1)];exact wpS_pure (got n h1 h2 h3)
 rw[if_neg (fun z=>c1 (beq_iff_eq.mp z))]
 rcases h4 with h4|⟨x,y,hx,hy,lt⟩
 ·exact absurd h4 c1
 have nl:n<R.length:=by omega
 have all:∀(i j:Nat) (u v:Keyed),i<=j->j<n->R[i]?=some u->R[j]?=some v->Lq κ u v:=fun i j u v hij hj hu hv=>by
  rcases Nat.lt_or_ge i j with c|c
  ·obtain ⟨l1,g1⟩:=A3.mp hu;obtain ⟨l2,g2⟩:=A3.mp hv;have q:=C3.mp h3 i j (by rw[AN];omega) (by rw[AN];omega) c
   rw[List.getElem_take,List.getElem_take,g1,g2] at q;exact q
  ·have:i=j:=by omega
   subst this;rw[hu] at hv;cases hv;exact KeyOrd.kle_refl _
 by_cases c2:n>1
 case' pos=>
  rw[if_pos c2];obtain ⟨x0,hx0⟩:∃x,R[0]?=some x:=⟨_,A0 (by omega)⟩
  refine wpS_bind (eC hO hk ka e hx0 hy rfl (by omega) ?_)
  try dsimp only
  cases rose:κ.blt (kk κ x0) (kk κ y) with
  |true=>exact wpS_pure (got n h1 h2 h3)
  |false=>?_
  try dsimp only
  rw[if_neg (by decide)]
  have al:∀z∈R.take n,kk κ z=kk κ x0:=fun z hz=>by
   obtain ⟨k,hk'⟩:=Ab.mp hz;have kn:k<n:=by
    have:=(A3.mp hk').1;rw[AN] at this;omega
   rw[B3 kn] at hk';have a1:=all 0 k x0 z (by omega) kn hx0 hk'
   have a2:=all k (n-1) z y (by omega) (by omega) hk' hy
   exact KeyOrd.kle_antisymm (O:=κ.toKeyOrd) (KeyOrd.kle_trans (O:=κ.toKeyOrd) a2 rose) a1
  have eq0:tZ κ R n (n-1):=⟨[],R.take n,R.drop n,kk κ x0,by simp,by rw[AN];simp;omega,by rw[AN];omega,al⟩
  have ni0:NI κ R n:=by
   unfold NI;rw[<-List.map_take];refine Ay.mpr (Bl (R:=fun _ _=>True) (fun {u v} hu hv _=>?_) (List.pairwise_of_forall fun _ _=>trivial))
   rw[al u hu,al v hv];exact κ.irrefl _
  have ni1:NI κ R (n+1):=ni0.snoc h1 hy hx (KeyOrd.kle_of_klt lt);refine wpS_bind (gm (κ:=κ) e eq0 (by omega) rfl fun st1 L0 kp1 e1 p1 m1 _=>?_)
  have niL:NI κ L0 (n+1):=by
   unfold NI at ni1⊢;rw[m1];exact ni1
 case' neg=>
  rw[if_neg c2];have n1:n=1:=by omega
  have ni1:NI κ R (n+1):=by
   refine NI.snoc h1 ?_ hy hx (KeyOrd.kle_of_klt lt);rw[n1];unfold NI;cases R with
   |nil=>simp
   |cons=>simp
  have kp1:Kp st st:=⟨rfl,rfl,rfl⟩;have e1:=e;have p1:=C8 R;have niL:=ni1
 all_goals
  refine wpS_bind (cG ?_);have n2:2<=n+1:=by omega
  refine wpS_bind (wpS_mono (wpS_forRange (I:=fun i c st'=>∃L m,c=(none,i,m)/\Kp st st'/\(arrOf st').toList=P++L/\L.Perm R/\NI κ L i/\tZ κ L i m/\2<=i)
   (Q:=fun c st'=>∃n' L m,c=(none,n',m)/\Kp st st'/\(arrOf st').toList=P++L/\L.Perm R/\NI κ L n'/\tZ κ L n' m/\2<=n'/\n'<=R.length) ?ds ?de ⟨_,0,rfl,kp1,e1,p1,niL,?i0,n2⟩) ?dp)
  case i0=>
   exact i8 (by rw[p1.length_eq];omega)
  case de=>
   rintro c st' ⟨L,m,rfl,kp,eL,pL,ni,eq,g1⟩;have:max (n+1) R.length=R.length:=by omega
   rw[this] at ni eq g1⊢;exact ⟨_,L,m,rfl,kp,eL,pL,ni,eq,g1,A7 _⟩
  case ds=>
   rintro i c st' hi1 hi2 ⟨L,m,rfl,kp,eL,pL,ni,eq,g1⟩;have hi3:i<L.length:=by rw[pL.length_eq];exact hi2
   have ex:=A0 hi3;have ey:=A0 (show i-1<L.length by omega)
   have kL:∀x∈L,Kd κ x:=fun x hx=>ka x (pL.mem_iff.mp hx)
   have hk':=kp.kind.trans hk;try dsimp only
   refine wpS_bind (eC hO hk' kL eL ex ey rfl (by omega) ?_)
   try dsimp only
   cases c:κ.blt (kk κ L[i]) (kk κ L[i-1]) with
   |true=>
    rw[if_pos rfl]
    by_cases hm:m>0
    ·rw[if_pos hm];refine wpS_bind (gm (κ:=κ) eL eq rfl rfl fun st6 L6 kp6 e6 p6 m6 g6=>wpS_pure ⟨L6,0,rfl,kp.trans kp6,e6,p6.trans pL,?_,i8 (by rw[p6.length_eq];omega),by omega⟩)
     have:=ni.snoc (by omega) ey ex (KeyOrd.kle_of_klt c)
     unfold NI at this⊢;rw[m6];exact this
    ·rw[if_neg hm];exact wpS_pure ⟨L,0,rfl,kp,eL,pL,ni.snoc (by omega) ey ex (KeyOrd.kle_of_klt c),i8 (by omega),by omega⟩
   |false=>
    rw[if_neg (by decide)]
    refine wpS_bind (eC hO hk' kL eL ey ex (by omega) rfl ?_)
    try dsimp only
    cases c':κ.blt (kk κ L[i-1]) (kk κ L[i]) with
    |true=>exact wpS_pure ⟨i,L,m,rfl,kp,eL,pL,ni,eq,g1,by omega⟩
    |false=>exact wpS_pure ⟨L,m+1,rfl,kp,eL,pL,ni.snoc (by omega) ey ex c',eq.more ey ex (κ.total _ _ c c'),by omega⟩
  case dp=>
   rintro c st' ⟨n',L,m,rfl,kp,eL,pL,ni,eq,g1,g2⟩;try dsimp only
   by_cases hm:m>0
   case' pos=>
    rw[if_pos hm];refine wpS_bind (gm (κ:=κ) eL eq rfl rfl fun st6 L6 kp6' e6 p6' m6 g6=>?_)
    have kp6:=kp.trans kp6';have p6:=p6'.trans pL;have ni6:NI κ L6 n':=by
     unfold NI at ni⊢;rw[m6];exact ni
   case' neg=>
    rw[if_neg hm];have kp6:=kp;have e6:=eL;have p6:=pL;have ni6:=ni
   all_goals
    refine qD (κ:=κ) kp6 e6 p6 g2 ni6 fun st7 M kp7 e7 p7 s7=>?_
    have rl:=p7.length_eq;have kM:∀x∈M,Kd κ x:=fun x hx=>ka x (p7.mem_iff.mp hx)
    refine wpS_bind (nj (κ:=κ) (R:=M) rl.symm (by omega) (by omega) s7 (fun m x y i Q' h1 hx hy ht hf=>?_) fun m h1 h2 h3 _=>?_)
    ·try dsimp only
     refine wpS_bind (eC hO (kp7.kind.trans hk) kM e7 hx hy rfl (by omega) ?_)
     cases c:κ.blt (kk κ x) (kk κ y) with
     |true=>exact wpS_pure (ht c)
     |false=>exact wpS_pure (hf c)
    ·have q:=h st7 (M.take m) (M.drop m) kp7 (by rw[AL];exact e7) h3 (by rw[AL];exact p7) (by rw[AN];omega)
     rw[AN,Bk h2] at q;exact wpS_pure q
end
theorem j0 {arr:Array Keyed} {B V W:List Keyed} {x:Keyed} (e:arr.toList=B++(V++x::W)):(bubble arr (B.length+V.length) V.length).toList=B++(x::(V++W)):=by
 have sz:arr.size=B.length+(V.length+(W.length+1)):=by
  have:=congrArg Bt e
  simpa using this
 apply List.ext_getElem?;intro k;have q:=getElem?_bubble (xs:=arr) (src:=B.length+V.length) (by omega) V.length (by omega) k
 rw[Nat.add_sub_cancel] at q;have ga:∀i,arr[i]?=(B++(V++x::W))[i]?:=fun i=>by rw[<-e,AT]
 rw[AT,q,ga,ga,ga]
 by_cases c1:k=B.length
 ·rw[if_pos c1];subst c1;simp
 rw[if_neg c1]
 by_cases c2:B.length<k/\k<=B.length+V.length
 ·rw[if_pos c2,A6 (by omega),A8 (by omega),A6 (by omega)]
  have:k-B.length=(k-1-B.length)+1:=by omega
  rw[this,Bg,A8 (by omega)]
 rw[if_neg c2]
 by_cases c3:k<B.length
 ·rw[A8 c3,A8 c3]
 ·rw[A6 (by omega),A6 (by omega),A6 (by omega)]
  have e1:k-B.length-V.length=(k-B.length-V.length-1)+1:=by omega
  have e2:k-B.length=(k-B.length-1)+1:=by omega
  rw[e1,Bg,e2,Bg,A6 (by omega)]
  congr 1
  omega
section
variable {prog:Program} {w:World} {A:Around} {E:Cw} {s:Shared} {κ:KeyKind} {kd:SortKind}
theorem iA (hO:gU prog w A E s κ kd) {st:SortSt} {P D S:List Keyed} {ok n:Nat} {Q:Bool->SortSt->Prop} (hn:n=D.length) (hk:kindOf st=kd) (ka:∀x∈D,Kd κ x) (e:(arrOf st).toList=P++(D++S)) (h1:1<=ok) (h2:ok<=D.length) (hs:(D.take ok).Pairwise (Lq κ))
  (h:∀st' X,Kp st st'->(arrOf st').toList=P++(X++S)->X.Pairwise (Lq κ)->X.Perm D->Q true st'):wpS (model prog w) A E s (binarySort' P.length n ok) Q st:=by
 subst hn;unfold binarySort';refine ci ?_;try dsimp only
 have mx:max ok 1=ok:=by omega
 rw[mx];refine wpS_bind (wpS_mono (wpS_forRange (I:=fun k c st'=>c=(none,())/\Kp st st'/\∃X,(arrOf st').toList=P++(X++S)/\X.Perm D/\(X.take k).Pairwise (Lq κ))
  (Q:=fun c st'=>c=(none,())/\Kp st st'/\∃X,(arrOf st').toList=P++(X++S)/\X.Perm D/\X.Pairwise (Lq κ)) ?s1 ?e1 ⟨rfl,⟨rfl,rfl,rfl⟩,D,e,C8 _,hs⟩) ?p1)
 case e1=>
  rintro c st' ⟨rfl,kp,X,eX,pX,sX⟩;rw[Nat.max_eq_right h2,Ad (by rw[pX.length_eq];exact A7 _)] at sX
  exact ⟨rfl,kp,X,eX,pX,sX⟩
 case p1=>
  rintro c st' ⟨rfl,kp,X,eX,pX,sX⟩;exact wpS_pure (h st' X kp eX sX pX)
 case s1=>
  rintro k c st' hk1 hk2 ⟨rfl,kp,X,eX,pX,sX⟩;have xl:=pX.length_eq;have kaX:∀x∈X++S,x∈X->Kd κ x:=fun x _ hx=>ka x (pX.mem_iff.mp hx)
  have hkx:k<X.length:=by omega
  have ex:=A0 hkx;generalize X[k]=x at ex;have eX':(arrOf st').toList=P++X++S:=by rw[eX,AQ]
  have lt:∀{i:Nat} {y:Keyed} {Q':Option Bool->SortSt->Prop},X[i]?=some y->Q' (some (κ.blt (kk κ x) (kk κ y))) st'->wpS (model prog w) A E s (ltAt' (P.length+k) (P.length+i)) Q' st':=fun {i y Q'} hy hq=>by
   have il:=(A3.mp hy).1;rw[ltAt'_eq];refine wpS_bind (wpS_get ?_);exact wpS_bind (aA (sO eX (by rw[A8 hkx];exact ex)) (wpS_bind (aA (sO eX (by rw[A8 il];exact hy)) (eZ hO (kp.kind.trans hk) (ka x (pX.mem_iff.mp (AR ex))) (ka y (pX.mem_iff.mp (AR hy))) hq))))
  have mono:∀{i j:Nat} {u v:Keyed},i<=j->j<k->X[i]?=some u->X[j]?=some v->Lq κ u v:=fun {i j u v} hij hj hu hv=>by
   rcases Nat.lt_or_ge i j with c|c
   ·obtain ⟨l1,g1⟩:=A3.mp hu;obtain ⟨l2,g2⟩:=A3.mp hv;have q:=C3.mp sX i j (by rw[AN];omega) (by rw[AN];omega) c
    rw[List.getElem_take,List.getElem_take,g1,g2] at q;exact q
   ·have:i=j:=by omega
    subst this;rw[hu] at hv;cases hv;exact KeyOrd.kle_refl _
  try dsimp only
  refine wpS_bind (wpS_mono (wpS_forRange (I:=fun i c st''=>st''=st'/\∃l r,c=(none,l,r)/\l<=r/\r<=k/\(∀j u,j<l->X[j]?=some u->Lq κ u x)/\(∀j u,r<=j->j<k->X[j]?=some u->Lq κ x u)/\r-l+i<=k)
   (Q:=fun c st''=>st''=st'/\∃l,c=(none,l,l)/\l<=k/\(∀j u,j<l->X[j]?=some u->Lq κ u x)/\(∀j u,l<=j->j<k->X[j]?=some u->Lq κ x u)) ?s2 ?e2 ⟨rfl,0,k,rfl,by omega,by omega,fun j u z=>absurd z (by omega),fun j u z z'=>absurd z' (by omega),by omega⟩) ?p2)
  case e2=>
   rintro c st'' ⟨rfl,l,r,rfl,a1,a2,a3,a4,a5⟩;have:l=r:=by omega
   subst this;exact ⟨rfl,l,rfl,a2,a3,a4⟩
  case s2=>
   rintro i c st'' _ hi ⟨rfl,l,r,rfl,a1,a2,a3,a4,a5⟩;try dsimp only
   by_cases c:l≥r
   ·rw[if_pos c];have:l=r:=by omega
    subst this;exact wpS_pure ⟨rfl,l,rfl,a2,a3,a4⟩
   ·rw[if_neg c];have ml:(l+r)/2<X.length:=by omega
    have em:=A0 ml;refine wpS_bind (lt em ?_);try dsimp only
    cases cc:κ.blt (kk κ x) (kk κ X[(l+r)/2]) with
    |true=>exact wpS_pure ⟨rfl,_,_,rfl,by omega,by omega,a3,fun j u hj hj2 hu=>KeyOrd.kle_trans (KeyOrd.kle_of_klt cc) (mono hj hj2 em hu),by omega⟩
    |false=>exact wpS_pure ⟨rfl,_,_,rfl,by omega,by omega,fun j u hj hu=>KeyOrd.kle_trans (mono (show j<=(l+r)/2 by omega) (by omega) hu em) cc,a4,by omega⟩
  case p2=>
   rintro c st'' ⟨rfl,l,rfl,a2,a3,a4⟩;try dsimp only
   have eX2:X=X.take l++((X.take k).drop l++x::X.drop (k+1)):=by
    obtain ⟨l1,g1⟩:=A3.mp ex;have d1:X.drop k=x::X.drop (k+1):=by rw[BH l1,g1]
    have t1:X.take k=X.take l++(X.take k).drop l:=by
     have q:=(AL l (X.take k)).symm;rw[List.take_take,Bk a2] at q;exact q
    rw[<-d1,<-AQ,<-t1,AL]
   have lv:((X.take k).drop l).length=k-l:=by rw[List.length_drop,AN];omega
   have lu:(X.take l).length=l:=by rw[AN];omega
   have mU:∀u∈X.take l,Lq κ u x:=fun u hu=>by
    obtain ⟨j,hj⟩:=Ab.mp hu;have jl:=(A3.mp hj).1;rw[lu] at jl;rw[B3 jl] at hj;exact a3 j u jl hj
   have mV:∀u∈(X.take k).drop l,Lq κ x u:=fun u hu=>by
    obtain ⟨j,hj⟩:=Ab.mp hu;have jl:=(A3.mp hj).1;rw[lv] at jl;rw[BS,B3 (by omega)] at hj
    exact a4 (l+j) u (by omega) (by omega) hj
   have sUV:(X.take l++(X.take k).drop l).Pairwise (Lq κ):=by
    have q:=(AL l (X.take k)).symm;rw[List.take_take,Bk a2] at q;rw[<-q];exact sX
   generalize X.take l=U at*;generalize (X.take k).drop l=V at*;generalize X.drop (k+1)=W at*;subst eX2;have eb:(arrOf st'').toList=(P++U)++(V++x::(W++S)):=by rw[eX];simp
   have bl:=j0 eb;have l1:(P++U).length+V.length=P.length+k:=by rw[AB];omega
   rw[l1] at bl;have l2:P.length+k-(P.length+l)=V.length:=by omega
   have sp:=AA.mp sUV;refine wpS_bind ?_;show wpS _ _ _ _ (moveDown' (P.length+k) (P.length+l)) _ _;rw[moveDown'_eq];refine wpS_modify (wpS_pure ⟨rfl,⟨kp.kind,kp.failed,kp.pend⟩,U++(x::(V++W)),?_,?_,?_⟩)
   ·show (bubble (arrOf st'') (P.length+k) (P.length+k-(P.length+l))).toList=_;rw[l2,bl];simp
   ·refine Bz.trans (Al _ ?_) pX;exact (List.perm_middle).symm
   ·have t:U++(x::(V++W))=(U++x::V)++W:=by simp
    rw[t,List.take_left' (by simp;omega),AA,List.pairwise_cons]
    refine ⟨sp.1,⟨mV,sp.2.1⟩,fun u hu v hv=>?_⟩
    rcases AU.mp hv with c|c
    ·rw[c];exact mU u hu
    ·exact sp.2.2 u hu v c
end
def Pd (κ:KeyKind):Nat->List (Nat×Nat×Nat)->List (List Keyed)->Prop
 |_,[],[]=>True
 |a,p::ps,r::rs=>p.1=a/\p.2.1=r.length/\1<=r.length/\r.Pairwise (Lq κ)/\Pd κ (a+r.length) ps rs
 |_,_,_=>False
variable {κ:KeyKind} {kd:SortKind}
theorem Pd.len:∀{a:Nat} {ps:List (Nat×Nat×Nat)} {rs:List (List Keyed)},Pd κ a ps rs->ps.length=rs.length
 |_,[],[],_=>rfl
 |_,_::_,_::_,h=>by simp[Pd.len h.2.2.2.2]
 |_,[],_::_,h=>h.elim
 |_,_::_,[],h=>h.elim
theorem Pd.snoc:∀{a:Nat} {ps:List (Nat×Nat×Nat)} {rs:List (List Keyed)} {p:Nat×Nat×Nat} {r:List Keyed},Pd κ a ps rs->p.1=a+rs.flatten.length->p.2.1=r.length->1<=r.length->r.Pairwise (Lq κ)->Pd κ a (ps++ [p]) (rs++ [r])
 |_,[],[],p,r,_,h1,h2,h3,h4=>⟨by simpa using h1,h2,h3,h4,trivial⟩
 |a,q::ps,u::rs,p,r,h,h1,h2,h3,h4=>⟨h.1,h.2.1,h.2.2.1,h.2.2.2.1,Pd.snoc h.2.2.2.2 (by rw[h1];simp;omega) h2 h3 h4⟩
 |_,[],_::_,_,_,h,_,_,_,_=>h.elim
 |_,_::_,[],_,_,h,_,_,_,_=>h.elim
theorem Pd.big:∀{a:Nat} {ps:List (Nat×Nat×Nat)} {rs:List (List Keyed)},Pd κ a ps rs->rs.length<=rs.flatten.length
 |_,[],[],_=>by simp
 |_,_::_,r::rs,h=>by
  have:=Pd.big h.2.2.2.2;have:=h.2.2.1;rw[List.flatten_cons,AB,Ah];omega
 |_,[],_::_,h=>h.elim
 |_,_::_,[],h=>h.elim
theorem Pd.modify (f:Nat×Nat×Nat->Nat×Nat×Nat) (hf:∀x,(f x).1=x.1/\(f x).2.1=x.2.1):∀{a:Nat} {ps:List (Nat×Nat×Nat)} {rs:List (List Keyed)} (i:Nat),Pd κ a ps rs->Pd κ a (ps.modify i f) rs
 |_,[],[],i,h=>by cases i<;>exact h
 |_,p::ps,r::rs,0,h=>by
  rw[List.modify_zero_cons];exact ⟨(hf p).1.trans h.1,(hf p).2.trans h.2.1,h.2.2⟩
 |_,p::ps,r::rs,i+1,h=>by
  rw[List.modify_succ_cons];exact ⟨h.1,h.2.1,h.2.2.1,h.2.2.2.1,Pd.modify f hf i h.2.2.2.2⟩
 |_,[],_::_,_,h=>h.elim
 |_,_::_,[],_,h=>h.elim
theorem Pd.two:∀{a:Nat} {ps:List (Nat×Nat×Nat)} {rs:List (List Keyed)} {i:Nat},Pd κ a ps rs->i+1<rs.length->
  ∃RL X Y RT pa pb,rs=RL++X::Y::RT/\RL.length=i/\ps[i]?=some (a+RL.flatten.length,X.length,pa)/\ps[i+1]?=some (a+RL.flatten.length+X.length,Y.length,pb)/\1<=X.length/\1<=Y.length/\X.Pairwise (Lq κ)/\Y.Pairwise (Lq κ)/\
   ∀Z:List Keyed,Z.length=X.length+Y.length->Z.Pairwise (Lq κ)->Pd κ a ((ps.set i (a+RL.flatten.length,X.length+Y.length,pa)).eraseIdx (i+1)) (RL++Z::RT)
 |_,[],[],i,_,hi=>by simp at hi
 |a,p::q::ps,X::Y::rs,0,h,_=>by
  obtain ⟨h1,h2,h3,h4,h5,h6,h7,h8,h9⟩:=h;refine ⟨[],X,Y,rs,p.2.2,q.2.2,rfl,rfl,?_,?_,h3,h7,h4,h8,fun Z hz sz=>?_⟩
  ·simp;rw[<-h1,<-h2]
  ·simp;rw[<-h5,<-h6]
  ·refine ⟨by simp,hz.symm,by omega,sz,?_⟩
   have:a+Z.length=a+X.length+Y.length:=by omega
   rw[this]
   simpa using h9
 |a,[p],X::Y::rs,_,h,_=>h.2.2.2.2.elim
 |a,p::ps,r::rs,i+1,h,hi=>by
  obtain ⟨RL,X,Y,RT,pa,pb,e1,e2,e3,e4,e5,e6,e7,e8,e9⟩:=Pd.two (i:=i) h.2.2.2.2 (by simpa using hi)
  refine ⟨r::RL,X,Y,RT,pa,pb,by rw[e1];rfl,by simp[e2],?_,?_,e5,e6,e7,e8,fun Z hz sz=>?_⟩
  ·simpa [Nat.add_assoc] using e3
  ·simpa [Nat.add_assoc] using e4
  ·have q:=e9 Z hz sz;refine ⟨h.1,h.2.1,h.2.2.1,h.2.2.2.1,?_⟩
   simpa [Nat.add_assoc] using q
 |_,_::_,[_],0,_,hi=>by simp at hi
 |_,[],_::_,_,h,_=>h.elim
 |_,_::_,[],_,h,_=>h.elim
structure Sv (kd:SortKind) (κ:KeyKind) (a0:List Keyed) (st:SortSt) (rs:List (List Keyed)) (rest:List Keyed):Prop where
 kind:kindOf st=kd
 failed:failedOf st=none
 arr:(arrOf st).toList=rs.flatten++rest
 pd:Pd κ 0 (pendingOf st).toList rs
 perm:(rs.flatten++rest).Perm a0
section
variable {prog:Program} {w:World} {A:Around} {E:Cw} {s:Shared}
theorem Sv.size {a0:List Keyed} {st:SortSt} {rs:List (List Keyed)} {rest:List Keyed} (h:Sv kd κ a0 st rs rest):(pendingOf st).size=rs.length:=by
 have:=h.pd.len
 simpa using this
theorem j4 (hO:gU prog w A E s κ kd) {a0:List Keyed} {st:SortSt} {rs:List (List Keyed)} {rest:List Keyed} {i:Nat} {Q:Bool->SortSt->Prop} (k0:∀x∈a0,Kd κ x) (h:Sv kd κ a0 st rs rest) (hi:i+1<rs.length)
  (q:∀st' rs',Sv kd κ a0 st' rs' rest->rs'.length+1=rs.length->rs'.flatten.length=rs.flatten.length->Q true st'):wpS (model prog w) A E s (mergeAt' i) Q st:=by
 obtain ⟨RL,X,Y,RT,pa,pb,e1,e2,e3,e4,e5,e6,e7,e8,e9⟩:=h.pd.two hi;simp only[Nat.zero_add] at e3 e4 e9;have ea:(arrOf st).toList=RL.flatten++(X++(Y++(RT.flatten++rest))):=by rw[h.arr,e1];simp
 refine jZ hO h.kind h.failed (fun x hx=>k0 x (h.perm.mem_iff.mp (by rw[<-h.arr];exact hx))) ea e7 e8 e5 e6 (by simpa using e3) (by simpa using e4) fun st' Z pz sz hk hf ha hp=>?_
 have zl:Z.length=X.length+Y.length:=by rw[pz.length_eq,AB]
 refine q st' (RL++Z::RT) ⟨hk,hf,by rw[ha];simp,?_,?_⟩ (by rw[e1];simp;omega) (by rw[e1];simp;omega)
 ·rw[hp];have:=e9 Z zl sz
  simpa using this
 ·refine Bz.trans ?_ h.perm;rw[e1];have t1:(RL++Z::RT).flatten++rest=RL.flatten++(Z++(RT.flatten++rest)):=by simp
  have t2:(RL++X::Y::RT).flatten++rest=RL.flatten++((X++Y)++(RT.flatten++rest)):=by simp
  rw[t1,t2];exact Al _ (B5 _ pz)
end
section
variable {prog:Program} {w:World} {A:Around} {E:Cw} {s:Shared}
theorem qE (hO:gU prog w A E s κ kd) {a0:List Keyed} {st:SortSt} {Q:Unit->SortSt->Prop} (hk:kindOf st=kd) (hf:failedOf st=none) (hp:pendingOf st= #[]) (ha:(arrOf st).toList=a0) (k0:∀x∈a0,Kd κ x)
  (h:∀st',(arrOf st').toList.Perm a0->failedOf st'=none->(arrOf st').toList.Pairwise (Lq κ)->Q () st'):wpS (model prog w) A E s sortRuns' Q st:=by
 have S0:Sv kd κ a0 st [] a0:=⟨hk,hf,by simpa using ha,by rw[hp];trivial,by simp⟩
 have sz:(arrOf st).size=a0.length:=by rw[<-ha];simp
 unfold sortRuns';refine ci ?_;refine wpS_bind (wpS_get ?_);dsimp only;rw[sz];generalize (sortPriv% PySem.Builtin.minRun) a0.length a0.length 0=mr;refine wpS_bind (wpS_mono (wpS_forRange (I:=fun x c st'=>∃rs rest,c=(none,rs.flatten.length)/\Sv kd κ a0 st' rs rest/\x<=rs.flatten.length)
  (Q:=fun c st'=>∃rs lo,c=(none,lo)/\Sv kd κ a0 st' rs []) ?s1 ?e1 ⟨[],a0,rfl,S0,by simp⟩) ?p1)
 case e1=>
  rintro c st' ⟨rs,rest,rfl,sv,hx⟩;have l:=sv.perm.length_eq;rw[AB] at l;have:rest= []:=Aq (by omega)
  subst this;exact ⟨rs,_,rfl,sv⟩
 case p1=>
  rintro c st' ⟨rs,lo,rfl,sv⟩;try dsimp only
  refine wpS_bind (wpS_mono (wpS_forRange (I:=fun x c st'=>c=(none,())/\∃rs,Sv kd κ a0 st' rs []/\rs.length+x<=a0.length)
   (Q:=fun c st'=>c=(none,())/\∃rs,Sv kd κ a0 st' rs []/\rs.length<=1) ?s4 ?e4 ⟨rfl,rs,sv,?i4⟩) ?p4)
  case i4=>
   have b:=sv.pd.big;have l:=sv.perm.length_eq;rw[AB] at l;simp only[List.length_nil,Nat.add_zero] at l⊢;omega
  case e4=>
   rintro c st'' ⟨rfl,rs,sv,hx⟩;exact ⟨rfl,rs,sv,by omega⟩
  case p4=>
   rintro c st'' ⟨rfl,rs,sv,hl⟩;refine wpS_pure (h st'' ?_ sv.failed ?_)
   ·rw[sv.arr];exact sv.perm
   ·rw[sv.arr];have pd:=sv.pd;cases rs with
    |nil=>simp
    |cons r rs=>
     have:rs= []:=Aq (by rw[Ah] at hl;omega)
     subst this;cases hq:(pendingOf st'').toList with
     |nil=>rw[hq] at pd;exact pd.elim
     |cons p ps=>
      rw[hq] at pd
      simpa using pd.2.2.2.1
  case s4=>
   rintro x c st'' _ hx ⟨rfl,rs,sv,hl⟩;refine wpS_bind (wpS_get ?_);have ps:=sv.size
   by_cases c1:(pendingOf st'').size<=1
   ·rw[if_pos c1];exact wpS_pure ⟨rfl,rs,sv,by omega⟩
   ·rw[if_neg c1];refine wpS_bind (j4 hO k0 sv ?_ fun st3 rs3 sv3 l3 _=>?_)
    ·have gen:∀b:Bool,(if b=true then (pendingOf st'').size-2-1 else (pendingOf st'').size-2)+1<rs.length:=fun b=>by
      cases b with
      |true=>rw[if_pos rfl];omega
      |false=>rw[if_neg (by decide)];omega
     exact gen _
    ·exact wpS_pure ⟨rfl,rs3,sv3,by omega⟩
 case s1=>
  rintro x c st1 _ hx ⟨rs,rest,rfl,sv,hxl⟩;have l:=sv.perm.length_eq;rw[AB] at l;try dsimp only
  by_cases c1:rs.flatten.length≥a0.length
  ·rw[if_pos c1];have:rest= []:=Aq (by omega)
   subst this;exact wpS_pure ⟨rs,_,rfl,sv⟩
  rw[if_neg c1];have kR:∀x∈rest,Kd κ x:=fun x hx=>k0 x (sv.perm.mem_iff.mp (by simp[hx]))
  have rl:a0.length-rs.flatten.length=rest.length:=by omega
  rw[rl];refine wpS_bind (fM hO sv.kind kR sv.arr (by omega) fun st3 X3 S3 kp3 e3 s3 p3 l3=>?_)
  try dsimp only
  have fin:∀(n:Nat) (st4:SortSt) (rs4:List (List Keyed)) (X S:List Keyed),1<=X.length->n=X.length->X.Pairwise (Lq κ)->kindOf st4=kd->failedOf st4=none->(arrOf st4).toList=rs4.flatten++(X++S)->Pd κ 0 (pendingOf st4).toList rs4->rs4.flatten.length=rs.flatten.length->(rs4.flatten++(X++S)).Perm a0->
    ∃rs' rest',((none:Option Unit),rs.flatten.length+n)=(none,rs'.flatten.length)/\Sv kd κ a0 (setPending st4 ((pendingOf st4).push (rs.flatten.length,n,0))) rs' rest'/\x+1<=rs'.flatten.length:=by
   intro n st4 rs4 X S lX hn sX hk4 hf4 e4 pd4 fl pr;subst hn;have fl2:(rs4++ [X]).flatten.length=rs.flatten.length+X.length:=by
    rw[List.flatten_append,AB,fl];simp
   refine ⟨rs4++ [X],S,by rw[fl2],⟨hk4,hf4,by show (arrOf st4).toList=_;rw[e4];simp,?_,by simpa using pr⟩,by omega⟩
   show Pd κ 0 ((pendingOf st4).push (rs.flatten.length,X.length,0)).toList (rs4++ [X]);rw[BW];exact pd4.snoc (by simp only[Nat.zero_add];exact fl.symm) rfl lX sX
  have sv3:Sv kd κ a0 st3 rs (X3++S3):=⟨kp3.kind.trans sv.kind,kp3.failed.trans sv.failed,e3,by rw[kp3.pend];exact sv.pd,Bz.trans (Al _ p3) sv.perm⟩
  by_cases cm:X3.length<mr
  case' pos=>
   rw[if_pos cm];have fl:min rest.length mr<=(X3++S3).length:=by rw[p3.length_eq];omega
   have lx:X3.length<=min rest.length mr:=by
    have:=p3.length_eq;rw[AB] at this;omega
   refine wpS_bind (cG (wpS_bind (iA hO (P:=rs.flatten) (D:=(X3++S3).take (min rest.length mr)) (S:=(X3++S3).drop (min rest.length mr)) (by rw[AN];omega) sv3.kind (fun x hx=>kR x (p3.mem_iff.mp (Bu hx))) (by rw[AL];exact e3) l3 (by rw[AN];omega) (by rw[List.take_take,Bk lx,List.take_left];exact s3) fun st4 X4 kp4 e4 s4 p4=>?_)))
   have l4:min rest.length mr=X4.length:=by rw[p4.length_eq,AN];omega
   have sv4:Sv kd κ a0 st4 rs (X4++(X3++S3).drop (min rest.length mr)):=⟨kp4.kind.trans sv3.kind,kp4.failed.trans sv3.failed,e4,by rw[kp4.pend];exact sv3.pd,by
    refine Bz.trans (Al _ (B5 _ p4)) ?_;rw[AL];exact sv3.perm⟩
   have l5:1<=X4.length:=by omega
   simp only[B1,AG,if_false];generalize min rest.length mr=n at l4 sv4⊢;generalize (X3++S3).drop n=S4 at sv4⊢
  case' neg=>
   rw[if_neg cm];have l4:X3.length=X3.length:=rfl;have sv4:=sv3;have s4:=s3;have l5:=l3
  all_goals
   refine wpS_bind (wpS_get ?_)
   split
   ·refine wpS_bind (wpS_mono (wpS_forRange (I:=fun _ c st'=>c=(none,())/\∃rs',Sv kd κ a0 st' rs' _/\rs'.flatten.length=rs.flatten.length) (Q:=fun c st'=>c=(none,())/\∃rs',Sv kd κ a0 st' rs' _/\rs'.flatten.length=rs.flatten.length) ?_ (fun _ _ z=>z) ⟨rfl,rs,sv4,rfl⟩) ?_)
    ·rintro y c st5 _ _ ⟨rfl,rs5,sv5,f5⟩;refine wpS_bind (wpS_get ?_);have ps:=sv5.size
     by_cases cp:(pendingOf st5).size>1
     ·rw[if_pos cp]
      split
      ·split
       ·exact wpS_pure ⟨rfl,rs5,sv5,f5⟩
       ·refine wpS_bind (j4 hO k0 sv5 (by show (pendingOf st5).size-2+1<rs5.length;omega) fun st6 rs6 sv6 _ f6=>?_)
        exact wpS_pure ⟨rfl,rs6,sv6,f6.trans f5⟩
      ·exact wpS_pure ⟨rfl,rs5,sv5,f5⟩
     ·rw[if_neg cp];exact wpS_pure ⟨rfl,rs5,sv5,f5⟩
    ·rintro c st5 ⟨rfl,rs5,sv5,f5⟩;try dsimp only
     refine wpS_bind (wpS_modify (wpS_bind (wpS_modify (wpS_pure ?_))));exact fin _ (setPending st5 ((pendingOf st5).modify ((pendingOf st5).size-1) fun x=>(x.fst,x.2.fst,_))) rs5 _ _ l5 l4 s4 sv5.kind sv5.failed sv5.arr (by
      show Pd κ 0 ((pendingOf st5).modify _ _).toList rs5;rw[Array.toList_modify];refine Pd.modify _ ?_ _ sv5.pd;exact fun x=>⟨rfl,rfl⟩) f5 sv5.perm
   ·exact wpS_bind (wpS_modify (wpS_pure (fin _ _ rs _ _ l5 l4 s4 sv4.kind sv4.failed sv4.arr sv4.pd rfl sv4.perm)))
end
section
variable {prog:Program} {w:World} {A:Around} {E:Cw} {s:Shared}
theorem gU.of_one (hO:κ.OneLt):gU prog w A E s κ oneType':=by
 intro st x y Q hk hx hy h;obtain ⟨a,ha⟩:=hx;obtain ⟨b,hb⟩:=hy;have e1:kk κ x=a:=by unfold kk;rw[ha];rfl
 have e2:kk κ y=b:=by unfold kk;rw[hb];rfl
 rw[e1,e2] at h;rw[lt'_eq];refine wpS_bind (wpS_get ?_);rw[hk,keyLt'_oneType];refine wpS_bind (wpS_lift (wpAny_attempt (hO prog w A _ s x.1 y.1 a b ha hb ⟨rfl,?_⟩)));exact wpS_pure h
end
end So
namespace Sw
open PySem L2 XH PySem.NumText
theorem lU {xs:List V} {i:Int} (h0:0<=i) (h:i<(xs.length:Int)):∃v∈xs,d8 xs i=some v:=by
 have hk:i.toNat<xs.length:=by omega
 have ek:i=((i.toNat:Nat):Int):=by omega
 refine ⟨xs[i.toNat],BO hk,?_⟩;have q:d8 xs ((i.toNat:Nat):Int)=some xs[i.toNat]:=bI (A0 hk);rw[<-ek] at q;exact q
theorem sP {xs:List Nat} {i:Int} (h0:0<=i) (h:i<(xs.length:Int)):∃v,d8 xs i=some v:=by
 have hk:i.toNat<xs.length:=by omega
 have ek:i=((i.toNat:Nat):Int):=by omega
 refine ⟨xs[i.toNat],?_⟩;have q:d8 xs ((i.toNat:Nat):Int)=some xs[i.toNat]:=bI (A0 hk);rw[<-ek] at q;exact q
end Sw
namespace L2
open PySem PySem.Spec PyProof.Rows XH
def i9 (js:List Nat) (tc:TT) (te:TE) (σ:St) (Q:VK):It->Hp->Prop:=fun J H1=>∀p,H1 p=none->∃W:Nat->Nat->List V->Hp->Prop,(∃m,W 0 m [] (aL H1 p (.lst [])))/\
 ∀i m ys H2,W i m ys H2->H2 p=some (.lst ys)/\((J.stop i H2/\Q (.ref p) H2)∨(J.go i H2/\ys.length<sizeLine/\∀x H3,J.yld i H2 x H3->tc (some x::aO js σ) H3 fun b H4=>
  if b=true then te (some x::aO js σ) H4 fun y H5=>H5 p=some (.lst ys)/\∃m',m'<m/\W (i+1) m' (ys++ [y]) (aL H5 p (.lst (ys++ [y]))) else ∃m',m'<m/\W (i+1) m' ys H4))
def sQ (wi:TI) (js:List Nat) (tc:TT) (te:TE):TE:=fun σ H Q=>wi σ H (i9 js tc te σ Q)
section
variable {prog:Program} {w:World} {A:Around} {R:Result->Shared->Prop} {s:Shared}
theorem j5 {elt target iter cond:Expr} {scope:Scope} {pos:Pos} {it acc:Value} {env:Env} (I:Nat->Shared->Prop)
  (turn:∀n s,I n s->wpAny (model prog w) A (pyNext it) (fun r s1=>match r with
   |none=>R (.ok .next) s1
   |some v=>wpAny (model prog w) A (letOwnedTupleGo target it v) (fun _ s2=>wpAny (model prog w) A (assign target env v) (fun _ s3=>wpAny (model prog w) A (isTrue cond env (eval cond env)) (fun ok s4=>
     if ok=true then wpAny (model prog w) A (eval elt env) (fun x s5=>wpAny (model prog w) A (call (.builtin "list.append") [acc,x]) (fun _ s6=>∃m,m<n/\I m s6) (fun _ _=>False) s5) (fun _ _=>False) s4
     else ∃m,m<n/\I m s4) (fun _ _=>False) s3) (fun _ _=>False) s2) (fun _ _=>False) s1) (fun _ _=>False) s)
  (n:Nat) (h:I n s):codeAny (model prog w) A (.compLoop (.ListComp elt [⟨target,iter,[cond],0⟩] scope pos) 0 it acc env) R s:=by
 apply codeAny_loop rfl I ?_ n h;intro n s hI;show wpAny _ _ ((compTurn (.ListComp elt [⟨target,iter,[cond],0⟩] scope pos) 0 it acc env).onRaise _) _ _ s;apply wpAny_noted;rw[compTurn_list];apply wpAny_bind;apply wpAny_standAt;apply wpAny_bind;refine wpAny_mono (turn n s hI) (fun r s1 h1=>?_) fun _ _ z=>z.elim
 cases r with
 |none=>exact wpAny_pure h1
 |some v=>
  apply wpAny_bind;refine wpAny_mono h1 (fun _ s2 h2=>?_) fun _ _ z=>z.elim
  apply wpAny_bind;refine wpAny_mono h2 (fun _ s3 h3=>?_) fun _ _ z=>z.elim
  apply wpAny_bind;refine wpAny_mono (wpAny_tests_one h3) (fun ok s4 h4=>?_) fun _ _ z=>z.elim
  cases ok with
  |true=>
   apply wpAny_bind;apply wpAny_bind;refine wpAny_mono h4 (fun x s5 h5=>?_) fun _ _ z=>z.elim
   apply wpAny_bind;refine wpAny_mono h5 (fun _ s6 h6=>?_) fun _ _ z=>z.elim
   exact wpAny_pure (wpAny_pure ⟨rfl,h6⟩)
  |false=>
   have h4':∃m,m<n/\I m s4:=h4;exact wpAny_pure ⟨rfl,h4'⟩
end
section
variable {X:Cx} {scope:Scope} {cl:List (Str×Addr)} {own:Str} {ys:CB} {js:List Nat} {elt iter cond:Expr} {px pos:Pos} {wi:TI} {te:TE} {tc:TT}
theorem bY (hc:X.calm=true) (ok:eV X scope cl own ys js) (hi:PI X (.Name own px) iter wi)
  (hq:∀(C:Addr) (fp:CC) (s:Shared) (H:Hp),PT (X.block scope cl C (own::ys) own fp s H) cond tc)
  (he:∀(C:Addr) (fp:CC) (s:Shared) (H:Hp),PE (X.block scope cl C (own::ys) own fp s H) elt te)
  (hs:∀x,foldedSetIterable iter X.env x=pure x:=by intro _;rfl):PE X (.ListComp elt [⟨.Name own px,iter,[cond],0⟩] scope pos) (sQ wi js tc te):=by
 intro pins s σ H Q I h;rw[eval_ListComp];have ncell:∀y∈scope.names,y.2≠ .cell:=fun y hy z=>by
  have q:=B2.mp ok.nocell y hy;rw[z] at q;simp at q
 have nloc:∀y∈scope.names,y.2= .local->scope.names.lookup y.1=some .local:=fun y hy z=>by
  have q:=B2.mp ok.loc y hy;rw[z] at q
  simpa using q
 refine wpAny_comprehension_free (use:=none) rfl hs ok.clos ok.kind nloc (aZ (hi pins s σ H _ I h) fun v s1 h1=>aZ h1 fun itv s2 h2=>?_)
 obtain ⟨it,fp,tn,J,H2,rfl,I2,T,st2,f2,q2⟩:=h2;obtain ⟨W,⟨m0,w0⟩,turn⟩:=q2 s2.heap.objs.size (I2.hok.fresh (A7 _));refine wpAny_newObj_type (wpAny_newFunctionEnv ncell (by intro y hy;simp at hy) (fun h1 hns hsb=>?_) ok.kind)
 have I3:=I2.laid (a:=s2.heap.objs.size) (o:= .lst []) (h':=s2.heap.push {cls:= .type "list",dict:=none,data:= .seq ([]:CD).toArray}) (t':=s2.toks) (fun b u q=>Heap.get?_push_of_some _ q) (A7 _)
  ⟨Ar _,[],0,.nil,Heap.get?_push_size _ rfl⟩
 have fpo:∀b∈fp,b<s2.heap.objs.size:=fun b hb=>by
  obtain ⟨o,e,_⟩:=T.obj 0 _ st2 b hb;exact Heap.lt_size e
 have f3:∀b∈fp,cS X pins (aL H2 s2.heap.objs.size (.lst [])) b:=fun b hb=>⟨by rw[am (AE (fpo b hb))];exact (f2 b hb).1,(f2 b hb).2⟩
 generalize hs3:({s2 with heap:=s2.heap.push {cls:= .type "list",dict:=none,data:= .seq ([]:CD).toArray},toks:=s2.toks}:Shared)=s3 at I3
 have e3:s3.heap=s2.heap.push {cls:= .type "list",dict:=none,data:= .seq ([]:CD).toArray}:=by rw[<-hs3]
 have lt3:∀b∈fp,b<s3.heap.objs.size:=fun b hb=>by rw[e3,Heap.size_push];exact Am (fpo b hb)
 dsimp only at hns hsb⊢;rw[<-e3] at hns hsb;have hk:∀b o,s3.heap.get? b=some o->h1.get? b=some o:=fun b o e=>hsb.extBut b o (AE (Heap.lt_size e)) (Heap.get?_push_of_some _ e)
 have J0:=cL (h1:=h1) ok I3 f3 lt3 hns hk (s2.toks+0);have t0:tn 0 h1:=T.keep 0 _ _ st2 fun b hb o e=>hk b o (by rw[e3];exact Heap.get?_push_of_some _ e)
 have fpB:∀{H':Hp},(∀b∈fp,H' b=none)->∀b∈fp,cS (X.block scope cl s3.heap.objs.size (own::ys) own fp s3 (aL H2 s2.heap.objs.size (.lst []))) [] H' b:=fun {H'} hn b hb=>
  ⟨hn b hb,AE (lt3 b hb),fun z=>(AU.mp (I3.stkSub b z)).elim (f3 b hb).2.1 (f3 b hb).2.2.1,.inl hb,fun x c e=>(f3 b hb).2.2.2.2.1 x c (ok.sub (x,c) (Ax e)),fun p hp=>absurd (show p∈([]:Cz) from hp) (by simp)⟩
 have loop:codeAny (model X.prog X.w) X.A (.compLoop (.ListComp elt [⟨.Name own px,iter,[cond],0⟩] scope pos) 0 (.ref it) (.ref s2.heap.objs.size) (compEnvC scope cl s3.heap.objs.size X.env))
   (compPost (model X.prog X.w) X.A X.xe none (EP X pins σ Q) (.ref s2.heap.objs.size) s3.heap.objs.size) {s3 with heap:=h1,toks:=s2.toks+0}:=by
  refine j5 (fun n s'=>∃i zs o0 H',aB (X.block scope cl s3.heap.objs.size (own::ys) own fp s3 (aL H2 s2.heap.objs.size (.lst []))) [] (o0::aO js σ) H' s'/\tn i s'.heap/\(∀b∈fp,H' b=none)/\W i n zs H') ?_ m0
   ⟨0,[],none,_,J0,t0,fun b hb=>(f3 b hb).1,w0⟩
  rintro n s5 ⟨i,zs,o0,H5,I5,t5,n5,w5⟩;obtain ⟨hD,hw⟩:=turn i n zs H5 w5;rcases hw with ⟨stop,qn⟩|⟨go,hz,step⟩
  ·refine aZ (T.done (X.block scope cl s3.heap.objs.size (own::ys) own fp s3 (aL H2 s2.heap.objs.size (.lst []))) rfl rfl rfl hc i [] s5 _ H5 (fun _ _=>False) I5 (fpB n5) t5 stop) fun r s6 ⟨hr,I6⟩=>?_
   subst hr;obtain ⟨m,hn,_⟩:=id I6.loc;exact ⟨m,hn,fun h' hs'=>⟨V.ref s2.heap.objs.size,H5,dC I3 f3 I6 hs',rfl,qn⟩⟩
  ·refine aZ (T.item (X.block scope cl s3.heap.objs.size (own::ys) own fp s3 (aL H2 s2.heap.objs.size (.lst []))) rfl rfl rfl hc i [] s5 _ H5 (fun _ _=>False) I5 (fpB n5) t5 go) fun r s6 ⟨u,hr,h6⟩=>?_
   subst hr;refine aZ h6 fun _ s7 ⟨x,H7,I7,r7,y7,t7,n7⟩=>?_
   have I7':=I7.pinned (fpB n7) (T.obj _ _ t7);have hst:=step x H7 y7;have own':(relabel scope X.env).names.lookup own=some .local:=lookup_relabel_local ok.ownL;refine aZ (c5 (X:=X.block scope cl s3.heap.objs.size (own::ys) own fp s3 (aL H2 s2.heap.objs.size (.lst []))) (i:=0) (x:=own) (pos:=px) ok.nd rfl (.inl own') (.inr own') _ s7 _ H7 x u (fun σ' H'=>σ'=some x::aO js σ/\H'=H7) I7' r7 ⟨rfl,rfl⟩) fun _ s8 ⟨σ8,H8,I8,e8,eH8⟩=>?_
   subst e8 eH8;refine aZ (hq _ _ _ _ _ s8 _ H8 _ I8 hst) fun ok s9 ⟨H9,I9,h9⟩=>?_
   have frame:∀{s':Shared} {H':Hp},aB (X.block scope cl s3.heap.objs.size (own::ys) own fp s3 (aL H2 s2.heap.objs.size (.lst []))) ([]++gf fp s7.heap) (some x::aO js σ) H' s'->tn (i+1) s'.heap/\∀b∈fp,H' b=none:=fun {s' H'} I'=>
    ⟨T.keep _ _ _ t7 fun b hb o e=>(I'.pin (b,o) (AD _ (AD _ (bo hb e)))).1,fun b hb=>by
     obtain ⟨o,e,d⟩:=T.obj _ _ t7 b hb;exact (I'.pin (b,o) (AD _ (AD _ (bo hb e)))).2.1⟩
   cases ok with
   |true=>
    refine aZ (he _ _ _ _ _ s9 _ H9 _ I9 h9) fun yv s10 ⟨y,H10,I10,r10,hD10,m',hm,w10⟩=>?_
    refine aZ (a8 _ s10 _ H10 (.ref s2.heap.objs.size) [y] (.ref s2.heap.objs.size) [yv] (fun _ H'=>H'=aL H10 s2.heap.objs.size (.lst (zs++ [y]))) I10 rfl (.cons r10 .nil) ⟨_,zs,y,rfl,rfl,hD10,hz,rfl⟩) fun _ s11 ⟨_,H11,I11,_,e11⟩=>?_
    subst e11;exact ⟨m',hm,i+1,zs++ [y],some x,_,I11.unpinned,(frame I11).1,(frame I11).2,w10⟩
   |false=>
    obtain ⟨m',hm,w10⟩:=h9;exact ⟨m',hm,i+1,zs,some x,_,I9.unpinned,(frame I9).1,(frame I9).2,w10⟩
 subst hs3;exact codeAny_compStart_list loop (T.self _ 0 _ _ _ t0 loop)
end
end L2
namespace Sw
open PySem L2
def dn:Str:= "abcdefghijklmnopqrstuvwxyz"
theorem ja {i:Int} (h0:0<=i) (h:i<26):∃c,d8 dn.cps.toList i=some c:=by
 refine sP h0 ?_;have e:dn.cps.toList.length=26:=by decide
 rw[e];exact h
def j6:Sp:=fun vs H Q _=>∃n m:Int,vs= [.int n,.int m]/\0<=m/\m<=90/\∀(l:Addr) (H':Hp) (zs:CB),au H H'->H' l=some (.lst (zs.map V.str))->(zs.length:Int)=m->Q (.ref l) H'
end Sw
namespace L2
open PySem PySem.Spec PyProof.Rows XH
end L2
namespace Sw
open PySem L2 PyProof.Rows
end Sw
namespace L2
open PySem PySem.Spec PyProof.Rows XH Sw So
end L2
namespace So
open PySem PySem.Spec PyProof.Rows
section
variable {prog:Program} {w:World} {A:Around} {E:Cw} {s:Shared} {κ:KeyKind} {kd:SortKind}
theorem oG (hO:gU prog w A E s κ kd) {a0:List Keyed} {st:SortSt} {Q:Unit->SortSt->Prop} (hk:kindOf st=kd) (hf:failedOf st=none) (hp:pendingOf st= #[]) (ha:(arrOf st).toList=a0) (k0:∀x∈a0,Kd κ x) (h64:a0.length<64)
  (h:∀st',(arrOf st').toList.Perm a0->failedOf st'=none->(arrOf st').toList.Pairwise (Lq κ)->Q () st'):wpS (model prog w) A E s sortRuns' Q st:=by
 have sz:(arrOf st).size=a0.length:=by rw[<-ha];simp
 have mr:minRun' a0.length a0.length 0=a0.length:=by
  cases n:a0.length with
  |zero=>rfl
  |succ m=>
   rw[n] at h64;rw[minRun'_succ,if_pos h64,Nat.add_zero]
 unfold sortRuns';refine ci ?_;refine wpS_bind (wpS_get ?_);dsimp only;rw[sz];change wpS _ _ _ _ (_>>=_) _ _;have mr':(sortPriv% PySem.Builtin.minRun) a0.length a0.length 0=a0.length:=mr;rw[mr'];refine wpS_bind (wpS_mono (wpS_forRange (I:=fun x c st'=>(x=0/\c=(none,0)/\st'=st)∨(c=(none,a0.length)/\(arrOf st').toList.Perm a0/\failedOf st'=none/\(arrOf st').toList.Pairwise (Lq κ)/\(pendingOf st').size<=1))
  (Q:=fun c st'=>∃lo,c=(none,lo)/\(arrOf st').toList.Perm a0/\failedOf st'=none/\(arrOf st').toList.Pairwise (Lq κ)/\(pendingOf st').size<=1) ?s1 ?e1 (.inl ⟨rfl,rfl,rfl⟩)) ?p1)
 case e1=>
  rintro c st' (⟨h0,rfl,rfl⟩|⟨rfl,z⟩)
  ·have z0:a0= []:=Aq (by omega)
   refine ⟨_,rfl,by rw[ha],hf,by rw[ha,z0];exact C2,by rw[hp];decide⟩
  ·exact ⟨_,rfl,z⟩
 case p1=>
  rintro c st' ⟨lo,rfl,p1,p2,p3,p4⟩;try dsimp only
  refine wpS_bind (wpS_mono (wpS_forRange (I:=fun x c st''=>c=(none,())/\st''=st') (Q:=fun c st''=>c=(none,())/\st''=st') ?s4 (fun _ _ z=>z) ⟨rfl,rfl⟩) ?p4)
  case s4=>
   rintro x c st'' _ hx ⟨rfl,rfl⟩;refine wpS_bind (wpS_get ?_);rw[if_pos p4];exact wpS_pure ⟨rfl,rfl⟩
  case p4=>
   rintro c st'' ⟨rfl,rfl⟩;exact wpS_pure (h _ p1 p2 p3)
 case s1=>
  rintro x c st1 _ hx (⟨h0,rfl,rfl⟩|⟨rfl,z⟩)
  ·try dsimp only
   rw[if_neg (by omega)]
   have e0:(arrOf st1).toList= []++a0:=by simpa using ha
   refine wpS_bind (fM hO (P:= []) (R:=a0) hk k0 e0 (by omega) fun st3 X3 S3 kp3 e3 s3 p3 l3=>?_)
   try dsimp only
   have n3:X3.length+S3.length=a0.length:=by rw[<-AB];exact p3.length_eq
   have pe3:pendingOf st3= #[]:=kp3.pend.trans hp
   by_cases cm:X3.length<a0.length
   ·rw[if_pos cm];refine wpS_bind (cG (wpS_bind (iA hO (P:= []) (D:=X3++S3) (S:= []) (by rw[AB,n3];omega) (kp3.kind.trans hk) (fun x hx=>k0 x (p3.mem_iff.mp hx)) (by rw[List.append_nil];exact e3) l3 (by rw[AB];omega) (by rw[List.take_left];exact s3) fun st4 X4 kp4 e4 s4 p4=>?_)))
    simp only[B1,AG,if_false];refine wpS_bind (wpS_get ?_);have pe4:pendingOf st4= #[]:=kp4.pend.trans pe3;have e4':(arrOf st4).toList=X4:=by simpa using e4
    split
    ·rename_i q;have q':(pendingOf st4).back?=some _:=q;rw[pe4] at q';cases q'
    ·refine wpS_bind (wpS_modify (wpS_pure (.inr ⟨?_,?_,?_,?_,?_⟩)))
     ·rw[Nat.zero_add,Nat.sub_zero,Nat.min_self]
     ·show (arrOf st4).toList.Perm a0;rw[e4'];exact p4.trans p3
     ·exact kp4.failed.trans (kp3.failed.trans hf)
     ·show (arrOf st4).toList.Pairwise (Lq κ);rw[e4'];exact s4
     ·show ((pendingOf st4).push _).size<=1;rw[pe4];exact A7 1
   ·rw[if_neg cm];refine wpS_bind (wpS_get ?_);have S0:S3= []:=Aq (by omega)
    subst S0;have e3':(arrOf st3).toList=X3:=by simpa using e3
    split
    ·rename_i q;have q':(pendingOf st3).back?=some _:=q;rw[pe3] at q';cases q'
    ·refine wpS_bind (wpS_modify (wpS_pure (.inr ⟨?_,?_,?_,?_,?_⟩)))
     ·have:X3.length=a0.length:=by simpa using n3
      rw[Nat.zero_add,this]
     ·show (arrOf st3).toList.Perm a0;rw[e3']
      simpa using p3
     ·exact kp3.failed.trans hf
     ·show (arrOf st3).toList.Pairwise (Lq κ);rw[e3'];exact s3
     ·show ((pendingOf st3).push _).size<=1;rw[pe3];exact A7 1
  ·try dsimp only
   rw[if_pos (A7 _)];exact wpS_pure ⟨_,rfl,z⟩
end
end So
namespace L2
open PySem PySem.Spec PyProof.Rows XH Sw So
def bw (nm:Addr->Option Str):PyProof.Rows.KeyKind:={PyProof.Rows.strKind with keyOf:=fun v=>match v with| .ref a=>(nm a).map fun y=>y.cps.toList|_=>none}
theorem nk {nm:Addr->Option Str} {v:Value} {k:List Nat} (h:(bw nm).keyOf v=some k):∃a y,v= .ref a/\nm a=some y/\k=y.cps.toList:=by
 cases v with
 |ref a=>
  cases e:nm a with
  |none=>
   have h':((nm a).map fun y=>y.cps.toList)=some k:=h
   rw[e] at h';cases h'
  |some y=>
   have h':((nm a).map fun y=>y.cps.toList)=some k:=h
   rw[e] at h';cases h';exact ⟨a,y,rfl,e,rfl⟩
 |_=>cases h
structure T3 (h:Heap) (a:Addr) (y:Str) (m k:Int):Prop where
 ex:∃(o:Obj) (n:Nat) (t t1 t2:Tok),h.get? a=some o/\o.cls= .type "tuple" /\o.data= .seq #[.str y t,.int m t1,.int k t2] n
section
variable {prog:Program} {w:World} {A:Around} {E:Cw} {s:Shared}
theorem sR {nm:Addr->Option Str} (inj:∀a b y,nm a=some y->nm b=some y->a=b) (tup:∀a y,nm a=some y->∃m k,T3 s.heap a y m k):gU prog w A E s (bw nm) (tuples' true):=by
 intro st x y Q hk hx hy h;obtain ⟨ka,ha⟩:=hx;obtain ⟨kb,hb⟩:=hy;have e1:kk (bw nm) x=ka:=by unfold kk;rw[ha];rfl
 have e2:kk (bw nm) y=kb:=by unfold kk;rw[hb];rfl
 rw[e1,e2] at h;obtain ⟨a,na,xa,ea,rfl⟩:=nk ha;obtain ⟨b,nb,xb,eb,rfl⟩:=nk hb;obtain ⟨m1,k1,o1,n1,t1,t2,t3,g1,c1,d1⟩:=tup a na ea;obtain ⟨m2,k2,o2,n2,u1,u2,u3,g2,c2,d2⟩:=tup b nb eb;rw[lt'_eq];refine wpS_bind (wpS_get ?_);rw[hk,xa,xb];refine wpS_bind (wpS_lift (wpAny_attempt (PySem.W.kat_lt (b:=true) g1 d1 g2 d2 ?_)))
 by_cases hab:a=b
 ·subst hab;rw[g1] at g2;cases g2;rw[d1] at d2;cases d2;refine PySem.W.kat_cons (SeqAt.EqAt.same _ _ _ _ _ (PySem.W.kat_yes ?_));refine PySem.W.kat_cons (SeqAt.EqAt.same _ _ _ _ _ (PySem.W.kat_yes ?_));refine PySem.W.kat_cons (SeqAt.EqAt.same _ _ _ _ _ (PySem.W.kat_yes ?_));refine PySem.W.kat_nil ⟨rfl,?_⟩;rw[ea] at eb;cases eb;have z:(bw nm).blt na.cps.toList na.cps.toList=false:=(bw nm).irrefl _;rw[z] at h;exact wpS_pure h
 ·have ne:na≠nb:=fun z=>hab (inj a b na ea (z▸eb))
  refine PySem.W.kat_cons ?_;have q:=SeqAt.EqAt.str_str (A:=A) (s:=s) na t1 nb u1;rw[show (na==nb)=false from beq_eq_false_iff_ne.mpr ne] at q
  refine q _ _ _ _ (PySem.W.kat_no ?_);refine strKind_oneLt prog w A _ s (.str na t1) (.str nb u1) na.cps.toList nb.cps.toList rfl rfl ⟨rfl,?_⟩;exact wpS_pure h
theorem j7 {h:Heap}:∀{vs:CD},(∀v∈vs,∃x y m k,v= .ref x/\T3 h x y m k)->∃fs:CD,PySem.W.KatTups h vs fs/\fs.length=vs.length/\∀f∈fs,∃y t,f= .str y t
 | [],_=>⟨[],trivial,rfl,by simp⟩
 |v::vs,hv=>by
  obtain ⟨fs,k1,k2,k3⟩:=j7 (vs:=vs) fun u hu=>hv u (AM _ hu)
  obtain ⟨x,y,m,k,rfl,o,n,t,t1,t2,g,c,d⟩:=hv v (by simp)
  refine ⟨.str y t::fs,⟨⟨x,o,_,n,rfl,g,c,d,rfl⟩,k1⟩,by simp[k2],fun f hf=>?_⟩
  rcases AU.mp hf with e|e
  ·exact ⟨y,t,e⟩
  ·exact k3 f e
theorem oH (M:Model) (h:Heap) (y:Str) (t:Tok):PySem.W.Looks M h (typeOf (.str y t)) (.type "str"):=PySem.W.Looks.of_pure rfl
theorem qF {a:Addr} {vs:CD} {n:Nat} {P:Fin->Shared->Prop} {nm:Addr->Option Str} (ho:s.heap.get? a=some (seqObj "list" vs.toArray n)) (inj:∀a b y,nm a=some y->nm b=some y->a=b)
  (keys:∀v∈vs,∃x y,v= .ref x/\nm x=some y) (tup:∀x y,nm x=some y->∃m k,T3 s.heap x y m k) (nd:vs.Nodup) (hz:vs.length<=sizeLine) (h64:vs.length<64)
  (h:∀st':SortSt,(arrOf st').toList.Perm (pairsOf vs).toList->(arrOf st').toList.Pairwise (Lq (bw nm))->P (.done (.ret .none)) {s with heap:=sortedHeap s.heap a vs ((arrOf st').map (·.2))}):
  wpAny (model prog w) A (Builtin.«list.sort» ⟨[.ref a],[]⟩) P E s:=by
 rw[list_sort_plain];have ha:a<s.heap.objs.size:=Heap.lt_size ho;refine wpAny_bind (listItems_at ho rfl ?_);refine wpAny_bind (listUpdate_at ho rfl ?_);obtain ⟨e1,ho1⟩:∃e1,(s.heap.update a (Obj.mapSeq fun _=> #[])).get? a=some (seqObj "list" #[] e1):=⟨_,get?_update_seq ho (fun _=> #[])⟩
 refine wpAny_bind (seqEpoch_at ho1 rfl (wpAny_bind (wpAny_newTuple (wpAny_bind (wpAny_newList (wpAny_holding ?_))))));have ho6:(((s.heap.update a (Obj.mapSeq fun _=> #[])).push (seqObj "tuple" vs.toArray 0)).push (seqObj "list" #[] 0)).get? a=some (seqObj "list" #[] e1):=by
  rw[Heap.get?_push_ne _ _ _ (by rw[size_push',Heap.size_update];exact AE (Am ha)),Heap.get?_push_ne _ _ _ (by rw[Heap.size_update];exact AE ha)]
  exact ho1
 have old:∀{b:Addr} {o:Obj},b≠a->s.heap.get? b=some o->(((s.heap.update a (Obj.mapSeq fun _=> #[])).push (seqObj "tuple" vs.toArray 0)).push (seqObj "list" #[] 0)).get? b=some o:=fun {b o} hb e=>by
  have bl:=Heap.lt_size e;rw[Heap.get?_push_ne _ _ _ (by rw[size_push',Heap.size_update];exact AE (Am bl)),Heap.get?_push_ne _ _ _ (by rw[Heap.size_update];exact AE bl),Heap.get?_update_other _ _ (Ne.symm hb)]
  exact e
 show wpAny (model prog w) A _ P E {s with heap:=((s.heap.update a (Obj.mapSeq fun _=> #[])).push (seqObj "tuple" vs.toArray 0)).push (seqObj "list" #[] 0)}
 dsimp only;have tna:∀{x:Addr} {y:Str} {m k:Int},T3 s.heap x y m k->x≠a:=fun {x y m k} t z=>by
  obtain ⟨o,n',t1,t2,t3,g,c,d⟩:=t.ex;rw[z,ho] at g;cases g;have c':("list" :String)= "tuple" :=by injection c
  exact absurd c' (by decide)
 have fin:∀st':SortSt,(arrOf st').toList.Perm (pairsOf vs).toList->failedOf st'=none->(arrOf st').toList.Pairwise (Lq (bw nm))->P (.done (.ret .none)) {s with heap:=sortedHeap s.heap a vs ((arrOf st').map (·.2))}/\((arrOf st').map (·.2)).size<=sizeLine+1:=fun st' hp hf hs=>by
  refine ⟨h st' hp hs,?_⟩;have:=hp.length_eq;rw[Az];have e:(pairsOf vs).toList.length=vs.length:=by rw[pairsOf_toList];simp
  rw[e,AK] at this;omega
 by_cases h2:vs.toArray.size<2
 ·rw[if_pos h2,if_pos h2];refine wpAny_bind (wpAny_pure ?_);have st0:=fin (SortSt.mk' general' (vs.toArray.zip vs.toArray) #[] 7 none) (C8 _) rfl (by
   have:(pairsOf vs).toList.length<2:=by rw[pairsOf_toList];simp at h2⊢;exact h2
   match e:(pairsOf vs).toList,this with
   | [],_=>exact C2
   | [x],_=>exact List.pairwise_singleton _ _
   |_::_::_,l=>simp at l;omega)
  refine wpAny_bind (wpAny_pure ?_);dsimp only;refine wpAny_bind (seqEpoch_at ho6 rfl ?_);refine wpAny_bind (listUpdate_at ho6 rfl ?_ (hsz2:=st0.2));simp only[bne_self_eq_false,AG,if_false];exact wpAny_pure st0.1
 ·rw[if_neg h2,if_neg h2];have tup6:∀x y,nm x=some y->∃m k,T3 (((s.heap.update a (Obj.mapSeq fun _=> #[])).push (seqObj "tuple" vs.toArray 0)).push (seqObj "list" #[] 0)) x y m k:=fun x y hx=>by
   obtain ⟨m,k,t⟩:=tup x y hx;have na:=tna t;obtain ⟨o,n',t1,t2,t3,g,c,d⟩:=t.ex;exact ⟨m,k,o,n',t1,t2,t3,old na g,c,d⟩
  obtain ⟨fs,kt,kl,kf⟩:=j7 (h:=((s.heap.update a (Obj.mapSeq fun _=> #[])).push (seqObj "tuple" vs.toArray 0)).push (seqObj "list" #[] 0)) (vs:=vs) fun v hv=>by
   obtain ⟨x,y,rfl,hx⟩:=keys v hv;obtain ⟨m,k,t⟩:=tup6 x y hx;exact ⟨x,y,m,k,rfl,t⟩
  have l2:2<=vs.length:=by simpa using h2
  refine wpAny_bind (PySem.W.kat_kind (T:= .type "str") kt (by omega) (fun v hv=>by obtain ⟨y,t,rfl⟩:=kf v hv;exact oH _ _ _ _) rfl ?_)
  refine wpAny_bind (wpAny_mono (oG (κ:=bw nm) (kd:=tuples' true) (sR inj tup6) (a0:=(pairsOf vs).toList) (st:=SortSt.mk' (tuples' true) (vs.toArray.zip vs.toArray) #[] 7 none)
   (Q:=fun _ st'=>(arrOf st').toList.Perm (pairsOf vs).toList/\failedOf st'=none/\(arrOf st').toList.Pairwise (Lq (bw nm)))
   rfl rfl rfl rfl (fun x hx=>?_) (by rw[pairsOf_toList];simpa using h64) fun st' pr fl sr=>⟨pr,fl,sr⟩) ?_ fun _ _ e=>e)
  ·rw[pairsOf_toList] at hx;have hm:x.1∈vs:=(List.of_mem_zip hx).1;obtain ⟨z,y,e,hy⟩:=keys _ hm;refine ⟨y.cps.toList,?_⟩;rw[e];show ((nm z).map fun y=>y.cps.toList)=_
   rw[hy]
   rfl
  rintro ⟨⟨⟩,st'⟩ s' ⟨rfl,hp,hf,hs⟩;have f:=fin st' hp hf hs;dsimp only;refine wpAny_bind (seqEpoch_at ho6 rfl ?_);refine wpAny_bind (listUpdate_at ho6 rfl ?_ (hsz2:=f.2));rw[hf];simp only[bne_self_eq_false,AG,if_false];exact wpAny_pure f.1
end
theorem nq:∀{as:CC} {us:CD},aM (as.map V.ref) us->us=as.map Value.ref
 | [],_,h=>by cases h;rfl
 |a::as,_,h=>by
  cases h with
  |cons r rr=>
   have e:=nq rr;subst e;cases r
   rfl
theorem cV:∀(as:CC),aM (as.map V.ref) (as.map Value.ref)
 | []=> .nil
 |_::as=> .cons rfl (cV as)
theorem vals3 {x y z:V} {us:CD} (h:aM [x,y,z] us):∃a b c,us= [a,b,c]/\RelV x a/\RelV y b/\RelV z c:=by
 cases h with
 |cons r1 h=>
  cases h with
  |cons r2 h=>
   cases h with
   |cons r3 h=>
    cases h;exact ⟨_,_,_,rfl,r1,r2,r3⟩
theorem oI {α β:Type} {g:α->β} {k:β->α} (hk:∀a,k (g a)=a) {l:List β} {as:List α} (h:l.Perm (as.map g)):∃bs:List α,bs.Perm as/\l=bs.map g:=by
 refine ⟨l.map k,?_,?_⟩
 ·have:=h.map k;rw[BE] at this;have e:as.map (k ∘ g)=as:=by
   conv=>rhs;rw[<-List.map_id as]
   exact List.map_congr_left fun a _=>hk a
  rw[e] at this;exact this
 ·rw[BE]
  conv=>lhs;rw[<-List.map_id l]
  refine List.map_congr_left fun x hx=>?_
  obtain ⟨a,_,rfl⟩:=AX.mp (h.mem_iff.mp hx);show g a=g (k (g a));rw[hk]
theorem j8 {α β:Type} (g:α->β):∀as:List α,(as.map g).zip (as.map g)=as.map fun a=>(g a,g a)
 | []=>rfl
 |a::as=>by
  have:=j8 g as;simp[this]
theorem j9 {prog:Program} {w:World} {A:Around} {E:Cw} {s:Shared} {r:Addr} {its:CD} {n:Nat} {R:CD->Shared->Prop} (hr:s.heap.get? r=some (seqObj "list" its.toArray n)) (hn:its.length<=sizeLine)
  (h:∀h':Heap,s.heap.objs.size<h'.objs.size->(∀b o,s.heap.get? b=some o->h'.get? b=some o)->R its {s with heap:=h'}):wpAny (model prog w) A (collect (.ref r)) R E s:=by
 unfold collect;refine wpAny_bind (wpAny_runValue (codeAny_builtin entry_proto_collect' ?_));rw[Around.under_plainId PySem.F.plain_proto_collect _];show wpAny _ A.in1 (newList []>>=fun l=>again (.builtin "list.__iadd__" ⟨[l,.ref r],[]⟩)) _ _ s
 refine wpAny_bind (wpAny_newObj_type (wpAny_pure ⟨plainId_quiet C7 _,codeAny_builtin entry_list_iadd' ?_⟩));rw[Around.under_plainId C7 _];have fresh:(s.heap.push {cls:= .type "list",data:= .seq ([]:CD).toArray}).get? s.heap.objs.size=some {cls:= .type "list",data:= .seq #[]}:=Heap.get?_push_size _ rfl;show wpAny _ A.in1 (Builtin.List.listExtendWith (.ref s.heap.objs.size) (.ref r) (.ref s.heap.objs.size)) _ _ _;have key:=wpAny_extend_seq (A:=A) (s:={s with heap:=s.heap.push {cls:= .type "list",data:= .seq ([]:CD).toArray}}) (prog:=prog) (w:=w)
  (R:=fun (q:Result) (s':Shared)=>q= .ok (.ret (.ref s.heap.objs.size))/\s'={s with heap:=(s.heap.push {cls:= .type "list",data:= .seq ([]:CD).toArray}).update s.heap.objs.size (Obj.mapSeq (· ++its.toArray))})
  s.heap.objs.size r (.ref s.heap.objs.size) 0 (.inl rfl) fresh (Heap.get?_push_of_some _ hr) rfl rfl ⟨rfl,rfl⟩ (by simpa using hn)
 have at_:=Heap.get?_update_self (Obj.mapSeq (· ++its.toArray)) fresh rfl;have fin:R its {s with heap:=(s.heap.push {cls:= .type "list",data:= .seq ([]:CD).toArray}).update s.heap.objs.size (Obj.mapSeq (· ++its.toArray))}:=by
  refine h _ (by rw[Heap.size_update,Heap.size_push];exact Nat.lt_succ_self _) fun b o e=>?_
  exact (Heap.get?_update_other _ _ (Nat.ne_of_gt (Heap.lt_size e))).trans (Heap.get?_push_of_some _ e)
 have ei:((#[]:Array Value)++its.toArray).toList=its:=by simp
 have fin':R ((#[]:Array Value)++its.toArray).toList {s with heap:=(s.heap.push {cls:= .type "list",data:= .seq ([]:CD).toArray}).update s.heap.objs.size (Obj.mapSeq (· ++its.toArray))}:=by rw[ei];exact fin
 refine wpAny_mono key (fun f s' x=>?_) fun e s' x=>?_
 ·cases f with
  |done f=>
   obtain ⟨e,rfl⟩:=x;cases e;show wpAny _ A (load s.heap.objs.size>>=_) _ _ _;exact wpAny_bind (wpAny_load at_ (wpAny_pure fin'))
  |again c₁=>
   refine ⟨x.1,codeAny_mono x.2 fun q s₂ y=>?_⟩
   obtain ⟨rfl,rfl⟩:=y;show wpAny _ A (load s.heap.objs.size>>=_) _ _ _;exact wpAny_bind (wpAny_load at_ (wpAny_pure fin'))
 ·exact absurd x.1 (by simp)
theorem lV {X:Cx}:cK X (.builtin "sorted") (fun xs H Q=>∃(l:Addr) (as:CC) (f:Addr->Str),xs= [.ref l]/\H l=some (.lst (as.map V.ref))/\(∀a∈as,∃m k:Int,H a=some (.tup [.str (f a),.int m,.int k]))/\(as.map f).Nodup/\as.length<64/\
  ∀(p:Addr) (bs:CC),H p=none->bs.Perm as->sortedS (bs.map f)=true->Q (.ref p) (aL H p (.lst (bs.map V.ref)))):=by
 intro pins s σ H xs us Q I r h;obtain ⟨l,as,f,rfl,hl,ht,nd,h64,q⟩:=h;obtain ⟨u,rfl,ru⟩:=vals1 r;cases ru;obtain ⟨z,its,n,rv,hlen,hg⟩:=I.lstM hl;have ei:=nq rv;subst ei;have z':as.length<=sizeLine:=by simpa using z
 refine Calls.call_function_entry kind_sorted plain_sorted entry_sorted (args_sorted1 _) ?_;unfold Builtin.«sorted»;refine wpAny_bind (m:=checkCount "sorted" 1 1 _) (wpAny_pure ?_);refine wpAny_bind (j9 hg (by simpa using z') fun h' hlt hk=>?_)
 refine wpAny_bind (wpAny_newList ?_ (by simpa using z'))
 have hoL:(h'.push (seqObj "list" (as.map Value.ref).toArray 0)).get? h'.objs.size=some (seqObj "list" (as.map Value.ref).toArray 0):=Heap.get?_push_size _ rfl;have injf:∀a∈as,∀b∈as,f a=f b->a=b:=fun a ha b hb e=>by
  obtain ⟨i,hi⟩:=Ab.mp ha;obtain ⟨j,hj⟩:=Ab.mp hb;have il:=(A3.mp hi).1;have jl:=(A3.mp hj).1;have e1:(as.map f)[i]?=some (f a):=by rw[A9,hi];rfl
  have e2:(as.map f)[j]?=some (f a):=by rw[A9,hj,e];rfl
  have ij:=(List.getElem?_inj (by rw[A5];exact il) nd).mp (e1.trans e2.symm)
  rw[ij,hj] at hi;exact (Av hi).symm
 have nda:as.Nodup:=(Ay.mp nd).imp fun h e=>h (by rw[e])
 have ndv:(as.map Value.ref).Nodup:=Ay.mpr (nda.imp fun h e=>h (by injection e))
 let nm:Addr->Option Str:=fun a=>if a∈as then some (f a) else none
 have nm_of:∀{a:Addr} {y:Str},nm a=some y->a∈as/\f a=y:=fun {a y} e=>by
  by_cases m:a∈as
  ·have e':(if a∈as then some (f a) else none)=some y:=e
   rw[if_pos m] at e';exact ⟨m,Av e'⟩
  ·have e':(if a∈as then some (f a) else none)=some y:=e
   rw[if_neg m] at e';cases e'
 have nm_in:∀{a:Addr},a∈as->nm a=some (f a):=fun {a} m=>by
  show (if a∈as then some (f a) else none)=_
  rw[if_pos m]
 have inj:∀a b y,nm a=some y->nm b=some y->a=b:=fun a b y h1 h2=>injf a (nm_of h1).1 b (nm_of h2).1 ((nm_of h1).2.trans (nm_of h2).2.symm)
 have tup:∀x y,nm x=some y->∃m k,T3 (h'.push (seqObj "list" (as.map Value.ref).toArray 0)) x y m k:=fun x y hx=>by
  obtain ⟨m,k,e⟩:=ht x (nm_of hx).1;rw[(nm_of hx).2] at e;obtain ⟨its,rv,⟨o,e1,c1,n1,d1⟩,_⟩:=I.tuple (bF.of e);obtain ⟨a1,a2,a3,rfl,⟨t1,rfl⟩,⟨t2,rfl⟩,⟨t3,rfl⟩⟩:=vals3 rv;exact ⟨m,k,o,n1,t1,t2,t3,Heap.get?_push_of_some _ (hk _ _ e1),c1,d1⟩
 refine wpAny_bind (wpAny_holding (wpAny_call_entry slot_list_sort ⟨_,hoL,rfl⟩ entry_list_sort (qF (nm:=nm) hoL inj (fun v hv=>?_) tup ndv (by simpa using z') (by simpa using h64) fun st' hp hs=>⟨_,rfl,?_⟩) (args_list_sort _)))
 ·obtain ⟨a,ha,rfl⟩:=AX.mp hv;exact ⟨a,f a,rfl,nm_in ha⟩
 have ez:(pairsOf (as.map Value.ref)).toList=as.map (fun a=>((.ref a:Value),(.ref a:Value))):=by
  rw[pairsOf_toList];exact j8 Value.ref as
 rw[ez] at hp;obtain ⟨bs,hb,eb⟩:=oI (k:=fun p:Keyed=>match p.1 with| .ref a=>a|_=>0) (fun a=>rfl) hp
 have so:sortedS (bs.map f)=true:=by
  refine sortedS_of_pairwise _ (Ay.mpr ?_);rw[eb,Ay] at hs;refine Bl (fun {a b} ha hb' hab=>?_) hs
  have ma:=hb.mem_iff.mp ha;have mb:=hb.mem_iff.mp hb';have k1:kk (bw nm) ((.ref a:Value),(.ref a:Value))=(f a).cps.toList:=by
   show (((nm a).map fun y=>y.cps.toList).getD _)=_
   rw[nm_in ma]
   rfl
  have k2:kk (bw nm) ((.ref b:Value),(.ref b:Value))=(f b).cps.toList:=by
   show (((nm b).map fun y=>y.cps.toList).getD _)=_
   rw[nm_in mb]
   rfl
  have hab':(bw nm).blt (kk (bw nm) ((.ref b:Value),(.ref b:Value))) (kk (bw nm) ((.ref a:Value),(.ref a:Value)))=false:=hab;rw[k1,k2] at hab';rw[ltCps_eq];exact hab'
 have eo:((arrOf st').map (·.2))=(bs.map Value.ref).toArray:=by
  apply Bb.mp;rw[Array.toList_map,eb,BE];simp
 have sl:s.heap.objs.size<=h'.objs.size:=Nat.le_of_lt hlt;refine wpAny_pure ⟨_,rfl,.ref h'.objs.size,_,I.laid (a:=h'.objs.size) (o:= .lst (bs.map V.ref)) (h':=sortedHeap (h'.push (seqObj "list" (as.map Value.ref).toArray 0)) h'.objs.size (as.map Value.ref) ((arrOf st').map (·.2))) (t':=s.toks) (fun b o eo=>?_) sl ?_,rfl,q _ bs (I.hok.fresh sl) hb so⟩
 ·have eo':=hk b o eo;have bl:=Heap.lt_size eo';rw[sortedHeap_old (AE bl) (by rw[size_push'];exact Am bl)]
  exact Heap.get?_push_of_some _ eo'
 ·obtain ⟨e,he⟩:=sortedHeap_at (out:=(arrOf st').map (·.2)) hoL;refine ⟨by rw[A5,hb.length_eq];exact z',bs.map Value.ref,e,cV bs,?_⟩
  rw[<-eo];exact he
end L2
namespace Hm
abbrev Ky:=List Int
def dY:Ky->Ky->Bool
 | [],[]=>false
 | [],_::_=>true
 |_::_,[]=>false
 |a::as,b::bs=>if a=b then dY as bs else decide (a<b)
theorem gs:∀a:Ky,dY a a=false
 | []=>rfl
 |a::as=>by unfold dY;rw[if_pos rfl];exact gs as
theorem fj:∀{a b c:Ky},dY a b=true->dY b c=true->dY a c=true
 | [],[],_,h,_=>by cases h
 | [],_::_,[],_,h=>by cases h
 | [],_::_,_::_,_,_=>rfl
 |_::_,[],_,h,_=>by cases h
 |_::_,_::_,[],_,h=>by cases h
 |a::as,b::bs,c::cs,h1,h2=>by
  unfold dY at h1 h2⊢
  by_cases ab:a=b
  ·subst ab;rw[if_pos rfl] at h1
   by_cases ac:a=c
   ·rw[if_pos ac] at h2⊢;exact fj h1 h2
   ·rw[if_neg ac] at h2⊢;exact h2
  ·rw[if_neg ab] at h1;have l1:=of_decide_eq_true h1
   by_cases bc:b=c
   ·subst bc;rw[if_neg ab];exact h1
   ·rw[if_neg bc] at h2;have l2:=of_decide_eq_true h2;rw[if_neg (by omega)]
    exact decide_eq_true (by omega)
theorem fk:∀{a b:Ky},dY a b=false->dY b a=false->a=b
 | [],[],_,_=>rfl
 | [],_::_,h,_=>by cases h
 |_::_,[],_,h=>by cases h
 |a::as,b::bs,h1,h2=>by
  unfold dY at h1 h2
  by_cases ab:a=b
  ·subst ab;rw[if_pos rfl] at h1 h2;rw[fk h1 h2]
  ·rw[if_neg ab] at h1;rw[if_neg (Ne.symm ab)] at h2;have l1:=of_decide_eq_false h1;have l2:=of_decide_eq_false h2;omega
theorem oJ {a b c:Ky} (h1:dY a b=false) (h2:dY b c=false):dY a c=false:=by
 cases k:dY a c with
 |false=>rfl
 |true=>
  cases m:dY b a with
  |true=>rw[fj m k] at h2;cases h2
  |false=>rw[fk h1 m] at k;rw[k] at h2;cases h2
def Rs (l:List Ky):Prop:=l.Pairwise fun a b=>dY b a=false
open PySem PySem.SeqAt PySem.MeetsSeq
def Nums:List Int->CD->Prop
 | [],[]=>True
 |k::ks,u::us=>(∃t,u= .int k t)/\Nums ks us
 |_,_=>False
theorem Nums.len:∀{ks:List Int} {us:CD},Nums ks us->ks.length=us.length
 | [],[],_=>rfl
 |_::_,_::_,h=>by rw[Ah,Ah,Nums.len h.2]
 | [],_::_,h=>h.elim
 |_::_,[],h=>h.elim
end Hm
namespace L2
open PySem PySem.Spec PyProof.Rows XH Sw So Hm
theorem nr:∀{ks:List Int} {us:CD},aM (ks.map V.int) us->Nums ks us
 | [],_,h=>by cases h;trivial
 |k::ks,_,h=>by
  cases h with
  |cons r t=>exact ⟨r,nr t⟩
theorem sS {i j:Int}:dY [i] [j]=decide (i<j):=by
 unfold dY
 by_cases c:i=j
 ·rw[if_pos c];exact (decide_eq_false (by omega)).symm
 ·rw[if_neg c]
def bC (b:Bool) (nm:Addr->Option Ky):PyProof.Rows.KeyKind where
 α:=Ky
 blt:=dY
 irrefl:=gs
 trans _ _ _:=fj
 negTrans a c d h:=by
  cases k:dY a c with
  |true=>exact .inl rfl
  |false=>
   cases m:dY c d with
   |true=>exact .inr rfl
   |false=>rw[oJ k m] at h;cases h
 total _ _:=fk
 keyOf v:=match b,v with|false,.int i _=>some [i]|true,.ref a=>nm a|_,_=>none
 dflt:= []
theorem qG {nm:Addr->Option Ky} {v:Value} {k:Ky} (h:(bC false nm).keyOf v=some k):∃i t,v= .int i t/\k= [i]:=by
 cases v with
 |int i t=>cases h;exact ⟨i,t,rfl,rfl⟩
 |_=>cases h
theorem qH {nm:Addr->Option Ky} {v:Value} {k:Ky} (h:(bC true nm).keyOf v=some k):∃a,v= .ref a/\nm a=some k:=by
 cases v with
 |ref a=>exact ⟨a,rfl,h⟩
 |_=>cases h
def oK (h:Heap) (a:Addr) (k:Ky):Prop:=∃(o:Obj) (us:CD) (n:Nat),h.get? a=some o/\o.cls= .type "tuple" /\o.data= .seq us.toArray n/\Nums k us
section
variable {prog:Program} {w:World} {A:Around} {E:Cw} {s:Shared}
theorem qI {nm:Addr->Option Ky}:(bC false nm).OneLt:=by
 intro prog w A E s x y a b Q ha hb h;obtain ⟨i,t,rfl,rfl⟩:=qG ha;obtain ⟨j,u,rfl,rfl⟩:=qG hb;have h':Q (dY [i] [j]) s:=h;rw[sS] at h';exact oneLt_int h'
theorem oM {b:Bool} {i j:Int} {t u:Tok} {Q:Bool->Shared->Prop} (h:Q (decide (i<j)) s):wpAny (model prog w) A (oneLt' b (.int i t) (.int j u)) Q E s:=by
 cases b with
 |true=>exact oneLt_int h
 |false=>
  rw[oneLt'_eq,if_neg (by decide)]
  exact wpAny_bind (wpAny_lt_int (wpAny_truthy_bool h))
theorem ke {fin:Bool} {Q:Bool->Shared->Prop}:∀{ks ls:List Int} {us ws:CD} {i:Nat},Nums ks us->Nums ls ws->fin=decide (ks.length<ls.length)->Q (dY ks ls) s->PySem.W.KatLex prog w A true fin Q (us.zip ws) i s
 | [],[],[],[],i,_,n2,hf,q=>by
  have e:fin=dY [] []:=hf;rw[<-e] at q;exact PySem.W.kat_nil q
 | [],l::ls,[],v::ws,i,_,n2,hf,q=>by
  have e:fin=dY [] (l::ls):=by rw[hf];simp[dY]
  rw[<-e] at q;exact PySem.W.kat_nil q
 |k::ks,[],u::us,[],i,n1,n2,hf,q=>by
  have e:fin=dY (k::ks) []:=by rw[hf];simp[dY]
  rw[<-e] at q;exact PySem.W.kat_nil q
 |k::ks,l::ls,u::us,v::ws,i,⟨⟨t,hu⟩,n1⟩,⟨⟨t',hv⟩,n2⟩,hf,q=>by
  subst hu hv;rw[List.zip_cons_cons];refine PySem.W.kat_cons (SeqAt.EqAt.int_int k t l t' _ _ _ _ ?_);unfold dY at q
  by_cases c:k=l
  ·rw[if_pos c] at q;rw[show (k==l)=true from beq_iff_eq.mpr c]
   exact PySem.W.kat_yes (ke n1 n2 (by rw[hf];simp) q)
  ·rw[if_neg c] at q;rw[show (k==l)=false from beq_eq_false_iff_ne.mpr c]
   exact PySem.W.kat_no (oM q)
 |_::_,_,[],_,_,n1,_,_,_=>n1.elim
 | [],_,_::_,_,_,n1,_,_,_=>n1.elim
 |_,_::_,_,[],_,_,n2,_,_=>n2.elim
 |_,[],_,_::_,_,_,n2,_,_=>n2.elim
theorem qJ {nm:Addr->Option Ky} (tup:∀a k,nm a=some k->oK s.heap a k):gU prog w A E s (bC true nm) (tuples' true):=by
 intro st x y Q hk hx hy h;obtain ⟨ka,ha⟩:=hx;obtain ⟨kb,hb⟩:=hy;have e1:kk (bC true nm) x=ka:=by unfold kk;rw[ha];rfl
 have e2:kk (bC true nm) y=kb:=by unfold kk;rw[hb];rfl
 rw[e1,e2] at h;obtain ⟨a,xa,ea⟩:=qH ha;obtain ⟨b,xb,eb⟩:=qH hb;obtain ⟨o1,us,n1,g1,c1,d1,m1⟩:=tup a ka ea;obtain ⟨o2,ws,n2,g2,c2,d2,m2⟩:=tup b kb eb;rw[lt'_eq];refine wpS_bind (wpS_get ?_);rw[hk,xa,xb];refine wpS_bind (wpS_lift (wpAny_attempt (PySem.W.kat_lt (b:=true) g1 d1 g2 d2 ?_)));exact ke m1 m2 (by rw[m1.len,m2.len];simp) ⟨rfl,wpS_pure h⟩
theorem kat_firsts {h:Heap} {nm:Addr->Option Ky} (tup:∀a k,nm a=some k->oK h a k/\k≠ []):∀{vs:CD},(∀v∈vs,∃x k,v= .ref x/\nm x=some k)->∃fs:CD,PySem.W.KatTups h vs fs/\fs.length=vs.length/\∀f∈fs,∃i t,f= .int i t
 | [],_=>⟨[],trivial,rfl,by simp⟩
 |v::vs,hv=>by
  obtain ⟨fs,k1,k2,k3⟩:=kat_firsts tup (vs:=vs) fun u hu=>hv u (AM _ hu)
  obtain ⟨x,k,rfl,e⟩:=hv v (by simp)
  obtain ⟨⟨o,us,n,g,c,d,m⟩,ne⟩:=tup x k e
  match k,us,m,ne with
  | [],_,_,ne=>exact absurd rfl ne
  |i::k,u::us,⟨⟨t,hu⟩,m⟩,_=>
   subst hu;refine ⟨.int i t::fs,⟨⟨x,o,_,n,rfl,g,c,d,by simp⟩,k1⟩,by simp[k2],fun f hf=>?_⟩
   rcases AU.mp hf with e|e
   ·exact ⟨i,t,e⟩
   ·exact k3 f e
theorem oN (M:Model) (h:Heap) (i:Int) (t:Tok):PySem.W.Looks M h (typeOf (.int i t)) (.type "int"):=PySem.W.Looks.of_pure rfl
theorem kh {nm:Addr->Option Ky}:∀{vs:CD},(∀v∈vs,∃k,(bC false nm).keyOf v=some k)->∃ns:List Int,IntsAre vs ns
 | [],_=>⟨[],.nil⟩
 |v::vs,h=>by
  obtain ⟨ns,hn⟩:=kh (vs:=vs) fun u hu=>h u (AM _ hu)
  obtain ⟨k,hk⟩:=h v (by simp)
  obtain ⟨i,t,rfl,_⟩:=qG hk;exact ⟨i::ns,.cons _ _ hn⟩
def sk (b:Bool):SortKind:=match b with|false=>oneType'|true=>tuples' true
theorem sT {b:Bool} {a:Addr} {vs:CD} {n:Nat} {P:PySem.Fin->Shared->Prop} {nm:Addr->Option Ky} (ho:s.heap.get? a=some (seqObj "list" vs.toArray n)) (keys:∀v∈vs,∃k,(bC b nm).keyOf v=some k)
  (tup:b=true->∀x k,nm x=some k->oK s.heap x k/\k≠ []) (hz:vs.length<=sizeLine)
  (h:∀st':SortSt,(arrOf st').toList.Perm (pairsOf vs).toList->(arrOf st').toList.Pairwise (Lq (bC b nm))->P (.done (.ret .none)) {s with heap:=sortedHeap s.heap a vs ((arrOf st').map (·.2))}):
  wpAny (model prog w) A (Builtin.«list.sort» ⟨[.ref a],[]⟩) P E s:=by
 rw[list_sort_plain];have ha:a<s.heap.objs.size:=Heap.lt_size ho;refine wpAny_bind (listItems_at ho rfl ?_);refine wpAny_bind (listUpdate_at ho rfl ?_);obtain ⟨e1,ho1⟩:∃e1,(s.heap.update a (Obj.mapSeq fun _=> #[])).get? a=some (seqObj "list" #[] e1):=⟨_,get?_update_seq ho (fun _=> #[])⟩
 refine wpAny_bind (seqEpoch_at ho1 rfl (wpAny_bind (wpAny_newTuple (wpAny_bind (wpAny_newList (wpAny_holding ?_))))));have ho6:(((s.heap.update a (Obj.mapSeq fun _=> #[])).push (seqObj "tuple" vs.toArray 0)).push (seqObj "list" #[] 0)).get? a=some (seqObj "list" #[] e1):=by
  rw[Heap.get?_push_ne _ _ _ (by rw[size_push',Heap.size_update];exact AE (Am ha)),Heap.get?_push_ne _ _ _ (by rw[Heap.size_update];exact AE ha)]
  exact ho1
 have old:∀{b:Addr} {o:Obj},b≠a->s.heap.get? b=some o->(((s.heap.update a (Obj.mapSeq fun _=> #[])).push (seqObj "tuple" vs.toArray 0)).push (seqObj "list" #[] 0)).get? b=some o:=fun {b o} hb e=>by
  have bl:=Heap.lt_size e;rw[Heap.get?_push_ne _ _ _ (by rw[size_push',Heap.size_update];exact AE (Am bl)),Heap.get?_push_ne _ _ _ (by rw[Heap.size_update];exact AE bl),Heap.get?_update_other _ _ (Ne.symm hb)]
  exact e
 show wpAny (model prog w) A _ P E {s with heap:=((s.heap.update a (Obj.mapSeq fun _=> #[])).push (seqObj "tuple" vs.toArray 0)).push (seqObj "list" #[] 0)}
 dsimp only;have tna:∀{x:Addr} {k:Ky},oK s.heap x k->x≠a:=fun {x k} t z=>by
  obtain ⟨o,us,n',g,c,d,_⟩:=t;rw[z,ho] at g;cases g;have c':("list" :String)= "tuple" :=by injection c
  exact absurd c' (by decide)
 have fin:∀st':SortSt,(arrOf st').toList.Perm (pairsOf vs).toList->failedOf st'=none->(arrOf st').toList.Pairwise (Lq (bC b nm))->P (.done (.ret .none)) {s with heap:=sortedHeap s.heap a vs ((arrOf st').map (·.2))}/\((arrOf st').map (·.2)).size<=sizeLine+1:=fun st' hp hf hs=>by
  refine ⟨h st' hp hs,?_⟩;have:=hp.length_eq;rw[Az];have e:(pairsOf vs).toList.length=vs.length:=by rw[pairsOf_toList];simp
  rw[e,AK] at this;omega
 by_cases h2:vs.toArray.size<2
 ·rw[if_pos h2,if_pos h2];refine wpAny_bind (wpAny_pure ?_);have st0:=fin (SortSt.mk' general' (vs.toArray.zip vs.toArray) #[] 7 none) (C8 _) rfl (by
   have:(pairsOf vs).toList.length<2:=by rw[pairsOf_toList];simp at h2⊢;exact h2
   match e:(pairsOf vs).toList,this with
   | [],_=>exact C2
   | [x],_=>exact List.pairwise_singleton _ _
   |_::_::_,l=>simp at l;omega)
  refine wpAny_bind (wpAny_pure ?_);dsimp only;refine wpAny_bind (seqEpoch_at ho6 rfl ?_);refine wpAny_bind (listUpdate_at ho6 rfl ?_ (hsz2:=st0.2));simp only[bne_self_eq_false,AG,if_false];exact wpAny_pure st0.1
 ·rw[if_neg h2,if_neg h2];have l2:2<=vs.length:=by simpa using h2
  have go:gU prog w A E {s with heap:=((s.heap.update a (Obj.mapSeq fun _=> #[])).push (seqObj "tuple" vs.toArray 0)).push (seqObj "list" #[] 0)} (bC b nm) (sk b)/\∀{R:SortKind->Shared->Prop},R (sk b) {s with heap:=((s.heap.update a (Obj.mapSeq fun _=> #[])).push (seqObj "tuple" vs.toArray 0)).push (seqObj "list" #[] 0)}->wpAny (model prog w) A (keyKind' vs.toArray) R E {s with heap:=((s.heap.update a (Obj.mapSeq fun _=> #[])).push (seqObj "tuple" vs.toArray 0)).push (seqObj "list" #[] 0)}:=by
   cases b with
   |false=>
    refine ⟨gU.of_one qI,fun {R} q=>?_⟩
    obtain ⟨ns,hn⟩:=kh keys;have ek:keyKind' vs.toArray=pure oneType':=by
     match vs,l2,hn with
     |v₁::v₂::rest,_,hn=>exact keyKind_ints hn
    rw[ek];exact wpAny_pure q
   |true=>
    have tup6:∀x k,nm x=some k->oK (((s.heap.update a (Obj.mapSeq fun _=> #[])).push (seqObj "tuple" vs.toArray 0)).push (seqObj "list" #[] 0)) x k/\k≠ []:=fun x k hx=>by
     obtain ⟨t,ne⟩:=tup rfl x k hx;have na:=tna t;obtain ⟨o,us,n',g,c,d,m⟩:=t;exact ⟨⟨o,us,n',old na g,c,d,m⟩,ne⟩
    refine ⟨qJ fun x k hx=>(tup6 x k hx).1,fun {R} q=>?_⟩
    obtain ⟨fs,kt,kl,kf⟩:=kat_firsts tup6 (vs:=vs) fun v hv=>by
     obtain ⟨k,e⟩:=keys v hv;obtain ⟨x,rfl,e⟩:=qH e;exact ⟨x,k,rfl,e⟩
    exact PySem.W.kat_kind (T:= .type "int") kt (by omega) (fun v hv=>by obtain ⟨i,t,rfl⟩:=kf v hv;exact oN _ _ _ _) rfl q
  refine wpAny_bind (go.2 ?_);refine wpAny_bind (wpAny_mono (qE (κ:=bC b nm) (kd:=sk b) go.1 (a0:=(pairsOf vs).toList) (st:=SortSt.mk' (sk b) (vs.toArray.zip vs.toArray) #[] 7 none)
   (Q:=fun _ st'=>(arrOf st').toList.Perm (pairsOf vs).toList/\failedOf st'=none/\(arrOf st').toList.Pairwise (Lq (bC b nm)))
   rfl rfl rfl rfl (fun x hx=>?_) fun st' pr fl sr=>⟨pr,fl,sr⟩) ?_ fun _ _ e=>e)
  ·rw[pairsOf_toList] at hx;exact keys _ (List.of_mem_zip hx).1
  rintro ⟨⟨⟩,st'⟩ s' ⟨rfl,hp,hf,hs⟩;have f:=fin st' hp hf hs;dsimp only;refine wpAny_bind (seqEpoch_at ho6 rfl ?_);refine wpAny_bind (listUpdate_at ho6 rfl ?_ (hsz2:=f.2));rw[hf];simp only[bne_self_eq_false,AG,if_false];exact wpAny_pure f.1
theorem qK:∀us:CD,us.zip us=us.map fun u=>(u,u)
 | []=>rfl
 |u::us=>by rw[List.zip_cons_cons,qK us];rfl
end
section
variable {X:Cx} {scope:Scope} {cl:List (Str×Addr)} {own:Str} {ys:CB} {js:List Nat} {elt iter:Expr} {px pos:Pos} {wi:TI} {te:TE}
theorem qL {i:Nat} {y:Str} {py spos:Pos} (hN:X.N.Nodup) (hi':X.N[i]?=some y) (hy:X.env.scope.names.lookup y=some .local) (hc:X.calm=true) (ok:eV X scope cl own ys js) (hi:PI X (.Name own px) iter wi)
  (he:∀(C:Addr) (fp:CC) (s:Shared) (H:Hp),PE (X.block scope cl C (own::ys) own fp s H) elt te)
  (hsw:swapsWith (.ListComp elt [⟨.Name own px,iter,[],0⟩] scope pos) (some (.Name y py)) spos.line X.env=pure true:=by rfl) (hs:∀x,foldedSetIterable iter X.env x=pure x:=by intro _;rfl):
  PS X (.Assign [.Name y py] (.ListComp elt [⟨.Name own px,iter,[],0⟩] scope pos) spos) (k7 (qs wi js te) (b9 i)):=by
 intro pins s σ H D I h;have ncell:∀y∈scope.names,y.2≠ .cell:=fun y hy z=>by
  have q:=B2.mp ok.nocell y hy;rw[z] at q;simp at q
 have nloc:∀y∈scope.names,y.2= .local->scope.names.lookup y.1=some .local:=fun y hy z=>by
  have q:=B2.mp ok.loc y hy;rw[z] at q
  simpa using q
 show wpAny _ _ (exec _ X.env) _ _ _;rw[exec_Assign_Name_used _ _ _ _ hsw];refine wpAny_bind (wpAny_standAt (wpAny_bind ?_));show wpAny _ X.A (do let _<-comprehension (.ListComp elt [⟨.Name own px,iter,[],0⟩] scope pos) scope X.env _ (newList []) false (eval iter X.env) (some (assign (.Name y py) X.env))) _ _ s
 refine wpAny_bind (wpAny_mono (wpAny_comprehension_free (use:=some (assign (.Name y py) X.env)) (Q:=fun _ s'=>SP X pins D .next s') rfl hs ok.clos ok.kind nloc (aZ (hi pins s σ H _ I h) fun v s1 h1=>aZ h1 fun itv s2 h2=>?_)) (fun _ s' hq=>wpAny_pure (wpAny_pure hq)) fun _ _ e=>e)
 obtain ⟨it,fp,tn,J,H2,rfl,I2,T,st2,f2,q2⟩:=h2;obtain ⟨W,⟨m0,w0⟩,turn⟩:=q2 s2.heap.objs.size (I2.hok.fresh (A7 _));refine wpAny_newObj_type (wpAny_newFunctionEnv ncell (by intro y hy;simp at hy) (fun h1 hns hsb=>?_) ok.kind)
 have I3:=I2.laid (a:=s2.heap.objs.size) (o:= .lst []) (h':=s2.heap.push {cls:= .type "list",dict:=none,data:= .seq ([]:CD).toArray}) (t':=s2.toks) (fun b u q=>Heap.get?_push_of_some _ q) (A7 _)
  ⟨Ar _,[],0,.nil,Heap.get?_push_size _ rfl⟩
 have fpo:∀b∈fp,b<s2.heap.objs.size:=fun b hb=>by
  obtain ⟨o,e,_⟩:=T.obj 0 _ st2 b hb;exact Heap.lt_size e
 have f3:∀b∈fp,cS X pins (aL H2 s2.heap.objs.size (.lst [])) b:=fun b hb=>⟨by rw[am (AE (fpo b hb))];exact (f2 b hb).1,(f2 b hb).2⟩
 generalize hs3:({s2 with heap:=s2.heap.push {cls:= .type "list",dict:=none,data:= .seq ([]:CD).toArray},toks:=s2.toks}:Shared)=s3 at I3
 have e3:s3.heap=s2.heap.push {cls:= .type "list",dict:=none,data:= .seq ([]:CD).toArray}:=by rw[<-hs3]
 have lt3:∀b∈fp,b<s3.heap.objs.size:=fun b hb=>by rw[e3,Heap.size_push];exact Am (fpo b hb)
 dsimp only at hns hsb⊢;rw[<-e3] at hns hsb;have hk:∀b o,s3.heap.get? b=some o->h1.get? b=some o:=fun b o e=>hsb.extBut b o (AE (Heap.lt_size e)) (Heap.get?_push_of_some _ e)
 have J0:=cL (h1:=h1) ok I3 f3 lt3 hns hk (s2.toks+0);have t0:tn 0 h1:=T.keep 0 _ _ st2 fun b hb o e=>hk b o (by rw[e3];exact Heap.get?_push_of_some _ e)
 have fpB:∀{H':Hp},(∀b∈fp,H' b=none)->∀b∈fp,cS (X.block scope cl s3.heap.objs.size (own::ys) own fp s3 (aL H2 s2.heap.objs.size (.lst []))) [] H' b:=fun {H'} hn b hb=>
  ⟨hn b hb,AE (lt3 b hb),fun z=>(AU.mp (I3.stkSub b z)).elim (f3 b hb).2.1 (f3 b hb).2.2.1,.inl hb,fun x c e=>(f3 b hb).2.2.2.2.1 x c (ok.sub (x,c) (Ax e)),fun p hp=>absurd (show p∈([]:Cz) from hp) (by simp)⟩
 have loop:codeAny (model X.prog X.w) X.A (.compLoop (.ListComp elt [⟨.Name own px,iter,[],0⟩] scope pos) 0 (.ref it) (.ref s2.heap.objs.size) (compEnvC scope cl s3.heap.objs.size X.env))
   (compPost (model X.prog X.w) X.A X.xe (some (assign (.Name y py) X.env)) (fun _ s'=>SP X pins D .next s') (.ref s2.heap.objs.size) s3.heap.objs.size) {s3 with heap:=h1,toks:=s2.toks+0}:=by
  refine c8 (fun n s'=>∃i zs o0 H',aB (X.block scope cl s3.heap.objs.size (own::ys) own fp s3 (aL H2 s2.heap.objs.size (.lst []))) [] (o0::aO js σ) H' s'/\tn i s'.heap/\(∀b∈fp,H' b=none)/\W i n zs H') ?_ m0
   ⟨0,[],none,_,J0,t0,fun b hb=>(f3 b hb).1,w0⟩
  rintro n s5 ⟨i,zs,o0,H5,I5,t5,n5,w5⟩;obtain ⟨hD,hw⟩:=turn i n zs H5 w5;rcases hw with ⟨stop,qn⟩|⟨go,hz,step⟩
  ·refine aZ (T.done (X.block scope cl s3.heap.objs.size (own::ys) own fp s3 (aL H2 s2.heap.objs.size (.lst []))) rfl rfl rfl hc i [] s5 _ H5 (fun _ _=>False) I5 (fpB n5) t5 stop) fun r s6 ⟨hr,I6⟩=>?_
   subst hr;obtain ⟨m,hn,_⟩:=id I6.loc;have J:aB X pins σ H5 s6:=dC (h':=s6.heap) I3 f3 I6 (Heap.SameBut.refl _ _);have fC:=I3.fpOk (A7 _) (show H5 s3.heap.objs.size=none from I6.free)
   obtain ⟨k0,k1,k2,k3,k4,k5⟩:=fC;show wpAny _ X.A (assign (.Name y py) X.env (.ref s2.heap.objs.size)) _ _ _;refine wpAny_assign_Name (eN (v:= .ref s2.heap.objs.size) J hN hi' (.inl hy) rfl (fun s7 I7 hsb=>?_) (.inr hy))
   obtain ⟨a',sb,ha⟩:=hsb;have ne:s3.heap.objs.size≠a':=by
    rcases ha with z|z
    ·rw[z];exact k1
    ·exact fun w=>k4 _ _ z w.symm
   exact ⟨m,hn.sameBut sb ne,fun h' hs'=>⟨_,H5,I7.turned (t':=s7.toks) (fun b o hb e=>(hs'.2 b hb).trans e) k0 k1 k3 k4 k5,qn⟩⟩
  ·refine aZ (T.item (X.block scope cl s3.heap.objs.size (own::ys) own fp s3 (aL H2 s2.heap.objs.size (.lst []))) rfl rfl rfl hc i [] s5 _ H5 (fun _ _=>False) I5 (fpB n5) t5 go) fun r s6 ⟨u,hr,h6⟩=>?_
   subst hr;refine aZ h6 fun _ s7 ⟨x,H7,I7,r7,y7,t7,n7⟩=>?_
   have I7':=I7.pinned (fpB n7) (T.obj _ _ t7);have hst:=step x H7 y7;have own':(relabel scope X.env).names.lookup own=some .local:=lookup_relabel_local ok.ownL;refine aZ (c5 (X:=X.block scope cl s3.heap.objs.size (own::ys) own fp s3 (aL H2 s2.heap.objs.size (.lst []))) (i:=0) (x:=own) (pos:=px) ok.nd rfl (.inl own') (.inr own') _ s7 _ H7 x u (fun σ' H'=>σ'=some x::aO js σ/\H'=H7) I7' r7 ⟨rfl,rfl⟩) fun _ s8 ⟨σ8,H8,I8,e8,eH8⟩=>?_
   subst e8 eH8;refine aZ (he _ _ _ _ _ s8 _ H8 _ I8 hst) fun yv s9 ⟨y,H9,I9,r9,hD9,m',hm,w9⟩=>?_
   refine aZ (a8 _ s9 _ H9 (.ref s2.heap.objs.size) [y] (.ref s2.heap.objs.size) [yv] (fun _ H'=>H'=aL H9 s2.heap.objs.size (.lst (zs++ [y]))) I9 rfl (.cons r9 .nil) ⟨_,zs,y,rfl,rfl,hD9,hz,rfl⟩) fun _ s10 ⟨_,H10,I10,_,e10⟩=>?_
   subst e10;refine ⟨m',hm,i+1,zs++ [y],some x,_,I10.unpinned,T.keep _ _ _ t7 fun b hb o e=>(I10.pin (b,o) (AD _ (AD _ (bo hb e)))).1,fun b hb=>?_,w9⟩
   obtain ⟨o,e,d⟩:=T.obj _ _ t7 b hb;exact (I10.pin (b,o) (AD _ (AD _ (bo hb e)))).2.1
 subst hs3;exact codeAny_compStart_list loop (T.self _ 0 _ _ _ t0 loop)
end
end L2
namespace Sw
open PySem L2 XH PySem.NumText
theorem qM {X:Cx} {K:A4} (h:X.K=K):uA X (uB K):=by
 subst h;exact aW
end Sw
namespace L2
open PySem PySem.Spec PyProof.Rows XH Sw So Hm
end L2
namespace Sw
open PySem L2 XH Hm
end Sw
namespace L2
open PySem PySem.Spec PyProof.Rows XH Sw Hm
end L2
namespace Sw
open PySem L2 XH Hm
def fm {α:Type} (R:Addr->α->Prop) (as:CC) (xs:List α):Prop:=as.length=xs.length/\∀(i:Nat) (a:Addr) (x:α),as[i]?=some a->xs[i]?=some x->R a x
theorem fm.imp {α:Type} {R S:Addr->α->Prop} {as:CC} {xs:List α} (h:fm R as xs) (f:∀a x,R a x->S a x):fm S as xs:=⟨h.1,fun i a x e1 e2=>f a x (h.2 i a x e1 e2)⟩
theorem fm.nil {α:Type} {R:Addr->α->Prop}:fm R [] ([]:List α):=⟨rfl,fun i a x e=>by simp at e⟩
theorem fm.snoc {α:Type} {R:Addr->α->Prop} {as:CC} {xs:List α} (h:fm R as xs) {a:Addr} {x:α} (r:R a x):fm R (as++ [a]) (xs++ [x]):=by
 refine ⟨by simp[h.1],fun i b y e1 e2=>?_⟩
 have il:=(A3.mp e1).1
 by_cases c:i<as.length
 ·rw[A8 c] at e1;rw[A8 (by rw[<-h.1];exact c)] at e2
  exact h.2 i b y e1 e2
 ·have ei:i=as.length:=by simp at il;omega
  subst ei;rw[A6 (A7 _)] at e1;rw[A6 (by rw[h.1];exact A7 _),h.1] at e2
  simp at e1 e2;subst e1 e2;exact r
def aR (H:Hp) (l:Addr) (ks:List Ky):Prop:=∃as:CC,H l=some (.lst (as.map V.ref))/\fm (fun t k=>H t=some (.tup (k.map V.int))) as ks
theorem aR.same {H H':Hp} {l:Addr} {ks:List Ky} (h:aR H l ks) (g:au H H'):aR H' l ks:=by
 obtain ⟨as,e,r⟩:=h;exact ⟨as,g _ _ e,r.imp fun a k q=>g _ _ q⟩
end Sw
namespace L2
open PySem PySem.Spec PyProof.Rows XH
theorem ki {X:Cx} {K:A4} (h:X.K=K):uA X (uB K):=by
 subst h;exact aW
end L2
namespace Sw
open PySem L2 XH Hm
end Sw
namespace L2
open PySem PySem.Spec PyProof.Rows XH
end L2
namespace Sw
open PySem L2 XH
end Sw
namespace L2
open PySem PySem.Spec PyProof.Rows XH
end L2
namespace Sw
open PySem L2 XH
end Sw
namespace L2
open PySem PySem.Spec PyProof.Rows
end L2
namespace Sw
open PySem L2 XH
theorem kj {p q n:Int} (f:Fr p q n 1):p=n/\q=1:=by
 have h2:=f.bb;have h3:=f.pos;have h4:=f.same;simp only[Int.natAbs_one] at h2;have e:q=1:=by omega
 subst e;rw[Int.mul_one,Int.mul_one] at h4;exact ⟨h4,rfl⟩
end Sw
namespace L2
open PySem PySem.Spec PyProof.Rows
theorem sU {X:Cx} (hu:X.A.units<cLine):dX X (compareOp .NotEq) (fun x y H Q=>∃a b p q,x= .ref a/\y= .ref b/\bF X.K H a [.int p,.int q]/\bF X.K H b [.int p,.int q]/\Q (.bl false) H):=by
 intro pins s σ H x y v u Q I rx ry h;obtain ⟨a,b,p,q,rfl,rfl,h1,h2,hq⟩:=h;cases rx;cases ry;obtain ⟨i1,r1,p1,_⟩:=I.tuple h1;obtain ⟨i2,r2,p2,_⟩:=I.tuple h2;obtain ⟨w1,w2,rfl,⟨t1,rfl⟩,⟨t2,rfl⟩⟩:=vals2 r1;obtain ⟨w3,w4,rfl,⟨t3,rfl⟩,⟨t4,rfl⟩⟩:=vals2 r2;refine SeqAt.RcNeAt.tuples (e:=fun _=>true) p1 p2 hu ?_ _ _ _ _ ⟨.bl false,H,I,rfl,hq⟩
 intro j hj1 hj2
 match j,hj1,hj2 with
 |0,_,_=>
  have z:=SeqAt.EqAt.int_int (A:=X.A.in1) (s:=s) p t1 p t3;rw[beq_self_eq_true] at z;exact z
 |1,_,_=>
  have z:=SeqAt.EqAt.int_int (A:=X.A.in1) (s:=s) q t2 q t4;rw[beq_self_eq_true] at z;exact z
end L2
namespace Sw
open PySem L2 XH
def eD (nm l m u s:V):List (Str×V):=aE "second" s (aE "uses" u (aE "most" m (aE "least" l (aE "name" nm []))))
def warmF (nm l m u s f:V):List (Str×V):=aE "fill" f (eD nm l m u s)
theorem qN {nm l m u s:V} {g:Str} (h:g≠ "second" /\g≠ "uses" /\g≠ "most" /\g≠ "least" /\g≠ "name"):(eD nm l m u s).lookup g=none:=by
 unfold eD;rw[a6,if_neg h.1,a6,if_neg h.2.1,a6,if_neg h.2.2.1,a6,if_neg h.2.2.2.1,a6,if_neg h.2.2.2.2]
 rfl
theorem lW {nm l m u s f:V}:(warmF nm l m u s f).lookup ("fill" :Str)=some f:=by
 unfold warmF;rw[a6,if_pos rfl]
theorem oO {nm l m u s:V}:(eD nm l m u s).length<=5:=by
 unfold eD;have h1:=aG "name" nm [];have h2:=aG "least" l (aE "name" nm []);have h3:=aG "most" m (aE "least" l (aE "name" nm []));have h4:=aG "uses" u (aE "most" m (aE "least" l (aE "name" nm [])));have h5:=aG "second" s (aE "uses" u (aE "most" m (aE "least" l (aE "name" nm []))));simp at h1;omega
def Kept (H H':Hp) (a:Addr):Prop:=∀b o,H b=some o->b≠a->H' b=some o
theorem Kept.refl (H:Hp) (a:Addr):Kept H H a:=fun _ _ h _=>h
theorem Kept.put {H H':Hp} {a:Addr} (k:Kept H H' a) (o:HO):Kept H (aL H' a o) a:=fun b u h n=>by rw[am n];exact k b u h n
theorem Kept.new {H H':Hp} {a p:Addr} (k:Kept H H' a) (hp:H' p=none) (o:HO):Kept H (aL H' p o) a:=fun b u h n=>by
 have e:=k b u h n;rw[am (aF e hp)];exact e
theorem cX {H H':Hp} {x dx C:Addr} (nx:H x=none) (nd:H dx=none) (k:Kept (aL (aL H dx (.own x)) x (.ins C dx [])) H' x):au H H':=fun b o h=>by
 have n1:=aF h nx;exact k b o (by rw[am n1,am (aF h nd)];exact h) n1
structure qO (K:A4) (C:Addr):Prop where
 cl:eT K C
 name:aj K C "name"
 least:aj K C "least"
 most:aj K C "most"
 uses:aj K C "uses"
 second:aj K C "second"
structure wY (n p q fp fq sp sq:Int):Prop where
 lo:p*fp*sq<=n*(sp*q*fq)
 hi:(n-1)*(sp*q*fq)<p*fp*sq
 bd:Bd 2000 n
theorem uU {p q fp fq sp sq r s u v:Int} (hq:0<q) (hfq:0<fq) (hsp:0<sp) (f1:Fr r s (p*fp) (q*fq)) (f2:Fr u v (r*sq) (s*sp)) (b:Bd 2000 u):wY (-((-u).fdiv v)) p q fp fq sp sq:=by
 have c1:=f1.same;have c2:=f2.same;have key:u*(sp*q*fq)=p*fp*sq*v:=by
  refine uH (k:=s) ?_ (by have:=f1.pos;omega)
  calc u*(sp*q*fq)*s=(u*(s*sp))*(q*fq):=by ac_rfl
   _=(r*sq*v)*(q*fq):=by rw[c2]
   _=(r*(q*fq))*(sq*v):=by ac_rfl
   _=(p*fp*s)*(sq*v):=by rw[c1]
   _=p*fp*sq*v*s:=by ac_rfl
 have ub:=iu (p:=u) f2.pos;have hpos:0<sp*q*fq:=Int.mul_pos (Int.mul_pos hsp hq) hfq;have bn:Bd 2000 (-((-u).fdiv v)):=(m7 b.neg).neg;generalize-((-u).fdiv v)=n at ub bn⊢;have vp:=f2.pos;refine ⟨Int.le_of_mul_le_mul_right (a:=v) ?_ vp,Int.lt_of_mul_lt_mul_right (a:=v) ?_ (Int.le_of_lt vp),bn⟩
 ·rw[<-key];have:=Int.mul_le_mul_of_nonneg_right ub.1 (Int.le_of_lt hpos);rw[show n*(sp*q*fq)*v=n*v*(sp*q*fq) by ac_rfl]
  exact this
 ·rw[<-key];have:=Int.mul_lt_mul_of_pos_right ub.2 hpos;rw[show (n-1)*(sp*q*fq)*v=(n-1)*v*(sp*q*fq) by ac_rfl]
  exact this
def km (K:A4):Sp:=fun vs H Q _=>∃(a C dx t tf ts:Addr) (fs:List (Str×V)) (p q fp fq sp sq:Int),vs= [.ref a,.ref tf,.ref ts]/\H a=some (.ins C dx fs)/\eT K C/\aj K C "fill" /\fs.lookup ("fill" :Str)=some (.ref t)/\
 bX K 201 H t p q/\bX K 201 H tf fp fq/\bX K 201 H ts sp sq/\0<sp/\∀(n:Int) (H':Hp),au H H'->wY n p q fp fq sp sq->Q (.int n) H'
def gu:Sp:=fun vs H Q _=>∃a b c:V,vs= [a,b,c]/\Q (.int 1) H
end Sw
namespace L2
open PySem PySem.Spec PyProof.Rows XH
variable {X:Cx}
theorem cy {K:A4} (h:X.K=K):uA X (vZ K):=by
 subst h;exact aK
theorem iB {K:A4} (h:X.K=K):dX X (compareOp .NotIn) (yi K true):=by
 subst h;exact iV
def cO (n:Nat) (pr:Nat->Bool) (f:Nat->V):List V:=((Ac n).filter pr).map f
theorem lY (n:Nat) (pr:Nat->Bool) (f:Nat->V):cO (n+1) pr f=cO n pr f++(if pr n=true then [f n] else []):=by
 unfold cO;rw[List.range_succ,List.filter_append,B0]
 congr 1
 cases h:pr n<;>simp[List.filter_cons,h]
theorem oP (n:Nat) (pr:Nat->Bool) (f:Nat->V):(cO n pr f).length<=n:=by
 unfold cO;rw[A5];have:=List.length_filter_le pr (Ac n)
 rwa [B7] at this
theorem gv {J:It} {n:Nat} {js:List Nat} {tc:TT} {te:TE} {σ:L2.St} {H1:Hp} {Q:VK} (pr:Nat->Bool) (f:Nat->V) (hz:n<=sizeLine)
  (hgo:∀i H2,au H1 H2->i<n->J.go i H2) (hst:∀H2,au H1 H2->J.stop n H2)
  (step:∀i,i<n->∀H2 x H3,au H1 H2->J.yld i H2 x H3->H3=H2/\(∀R:Bool->Hp->Prop,R (pr i) H2->tc (some x::aO js σ) H2 R)/\(pr i=true->∀Q':VK,Q' (f i) H2->te (some x::aO js σ) H2 Q'))
  (fin:∀p H',H1 p=none->au H1 H'->H' p=some (.lst (cO n pr f))->Q (.ref p) H'):i9 js tc te σ Q J H1:=by
 intro p hp;refine ⟨fun i m ys H2=>i<=n/\m=n-i/\ys=cO i pr f/\au H1 H2/\H2 p=some (.lst ys),⟨n,Ar _,rfl,rfl,Sw.ao hp _,af⟩,?_⟩
 rintro i m ys H2 ⟨hi,rfl,rfl,g,e⟩;refine ⟨e,?_⟩
 by_cases hin:i<n
 ·refine .inr ⟨hgo i H2 g hin,?_,fun x H3 hy=>?_⟩
  ·have:=oP i pr f;omega
  obtain ⟨rfl,h1,h2⟩:=step i hin H2 x H3 g hy;refine h1 _ ?_;have tk:=lY i pr f;cases hpr:pr i with
  |true=>
   rw[hpr,if_pos rfl] at tk;rw[if_pos rfl];exact h2 hpr _ ⟨e,n-(i+1),by omega,hin,rfl,tk.symm,Sw.dE g hp _,af⟩
  |false=>
   rw[hpr,if_neg (by decide),List.append_nil] at tk
   rw[if_neg (by decide)]
   exact ⟨n-(i+1),by omega,hin,rfl,tk.symm,g,e⟩
 ·have e2:i=n:=by omega
  subst e2;exact .inl ⟨hst H2 g,fin p H2 hp g e⟩
theorem iC {K:A4} {a:Addr} {xs:List V} {js:List Nat} {tc:TT} {te:TE} {σ:L2.St} {H1:Hp} {Q:VK} (pr:Nat->Bool) (f:Nat->V) (hS:aP K H1 a xs) (hz:xs.length<=sizeLine)
  (s1:∀i x,xs[i]?=some x->∀H2,au H1 H2->∀R:Bool->Hp->Prop,R (pr i) H2->tc (some x::aO js σ) H2 R)
  (s2:∀i x,xs[i]?=some x->∀H2,au H1 H2->∀Q':VK,Q' (f i) H2->te (some x::aO js σ) H2 Q')
  (fin:∀p H',H1 p=none->au H1 H'->H' p=some (.lst (cO xs.length pr f))->Q (.ref p) H'):i9 js tc te σ Q (ur K a) H1:=by
 refine gv pr f hz (fun i H2 g hi=>⟨xs,xs[i],g.seq hS,A0 hi⟩) (fun H2 g=>⟨xs,g.seq hS,A7 _⟩) (fun i hi H2 x H3 g hy=>?_) fin
 obtain ⟨rfl,hx⟩:=hy;have ex:=hx xs (g.seq hS);exact ⟨rfl,s1 i x ex _ g,fun _=>s2 i x ex _ g⟩
theorem cH {n:Nat} {js:List Nat} {tc:TT} {te:TE} {σ:L2.St} {H1:Hp} {Q:VK} (pr:Nat->Bool) (f:Nat->V) (hz:n<=sizeLine)
  (s1:∀i:Nat,i<n->∀H2,au H1 H2->∀R:Bool->Hp->Prop,R (pr i) H2->tc (some (.int (0+(i:Int)))::aO js σ) H2 R)
  (s2:∀i:Nat,i<n->∀H2,au H1 H2->∀Q':VK,Q' (f i) H2->te (some (.int (0+(i:Int)))::aO js σ) H2 Q')
  (fin:∀p H',H1 p=none->au H1 H'->H' p=some (.lst (cO n pr f))->Q (.ref p) H'):i9 js tc te σ Q (ut 0 n) H1:=by
 refine gv pr f hz (fun i H2 g hi=>hi) (fun H2 g=>A7 n) (fun i hi H2 x H3 g hy=>?_) fin
 obtain ⟨rfl,rfl⟩:=hy;exact ⟨rfl,s1 i hi _ g,fun _=>s2 i hi _ g⟩
def jb (R:V->V->Prop):List V->List V->Prop
 | [],[]=>True
 |x::xs,y::ys=>R x y/\jb R xs ys
 |_,_=>False
theorem jb.len {R:V->V->Prop}:∀{xs ys:List V},jb R xs ys->xs.length=ys.length
 | [],[],_=>rfl
 |_::_,_::_,h=>by simp[jb.len h.2]
 | [],_::_,h=>h.elim
 |_::_,[],h=>h.elim
def wk (K:A4) (H:Hp):Nat->V->V->Prop
 |0,x,y=>x=y/\yn x
 |n+1,x,y=>wk K H n x y∨∃a b xs ys,x= .ref a/\y= .ref b/\((bF K H a xs/\bF K H b ys)∨(aP K H a xs/\aP K H b ys))/\jb (wk K H n) xs ys
theorem eE {A:Around} {s:Shared} {R:V->V->Prop} (hR:∀x y u w,R x y->RelV x u->RelV y w->SeqAt.EqAt A s u w true):∀{xs ys:List V} {us ws:CD},jb R xs ys->aM xs us->aM ys ws->∀j (h1:j<us.length) (h2:j<ws.length),SeqAt.EqAt A s us[j] ws[j] true
 | [],[],_,_,_,.nil,.nil,j,h1,_=>absurd h1 (by simp)
 |_::_,_::_,_,_,h,.cons r1 _,.cons r2 _,0,_,_=>hR _ _ _ _ h.1 r1 r2
 |_::_,_::_,_,_,h,.cons _ t1,.cons _ t2,j+1,h1,h2=>eE hR h.2 t1 t2 j (by simpa using h1) (by simpa using h2)
theorem jc {X:Cx} {pins:Cz} {σ:St} {H:Hp} {s:Shared} (I:aB X pins σ H s):∀(n:Nat) (A:Around) (x y:V) (u w:Value),A.units+n<cLine->wk X.K H n x y->RelV x u->RelV y w->SeqAt.EqAt A s u w true
 |0,A,x,y,u,w,_,h,r1,r2=>by
  obtain ⟨rfl,hs⟩:=h;exact qx hs r1 r2
 |n+1,A,x,y,u,w,hu,h,r1,r2=>by
  rcases h with h|⟨a,b,xs,ys,rfl,rfl,hq,hA⟩
  ·exact jc I n A x y u w (by omega) h r1 r2
  cases r1;cases r2
  by_cases e:a=b
  ·subst e;exact SeqAt.EqAt.same _
  refine SeqAt.EqAt.of_refs e ?_;have ih:=fun x y u w=>jc I n A.in1 x y u w (by show A.units+1+n<_;omega)
  rcases hq with ⟨h1,h2⟩|⟨h1,h2⟩
  ·obtain ⟨i1,v1,p1,_⟩:=I.tuple h1;obtain ⟨i2,v2,p2,_⟩:=I.tuple h2;have k:=SeqAt.RcAt.tuples (A:=A) (e:=fun _=>true) p1 p2 (by omega) fun j g1 g2=>eE (A:=A.in1) (s:=s) ih hA v1 v2 j (by simpa using g1) (by simpa using g2)
   have e1:∀m,((Ac m).all fun _=>true)=true:=fun m=>by simp
   rw[e1] at k
   simpa [<-v1.length,<-v2.length,hA.len] using k
  ·obtain ⟨i1,v1,p1,_⟩:=I.list h1;obtain ⟨i2,v2,p2,_⟩:=I.list h2;have k:=SeqAt.RcAt.lists (A:=A) (e:=fun _=>true) p1.isList p2.isList (by simp[<-v1.length,<-v2.length,hA.len]) (by omega) fun j g1 g2=>eE (A:=A.in1) (s:=s) ih hA v1 v2 j (by simpa using g1) (by simpa using g2)
   have e1:∀m,((Ac m).all fun _=>true)=true:=fun m=>by simp
   rw[e1] at k;exact k
theorem uV {X:Cx} (n:Nat) (hu:X.A.units+(n+1)<cLine):dX X (compareOp .Eq) (fun x y H Q=>∃a b xs ys,x= .ref a/\y= .ref b/\aP X.K H a xs/\aP X.K H b ys/\jb (wk X.K H n) xs ys/\Q (.bl true) H):=by
 intro pins s σ H x y v u Q I rx ry h;obtain ⟨a,b,xs,ys,rfl,rfl,h1,h2,hA,hq⟩:=h;cases rx;cases ry;obtain ⟨i1,v1,p1,_⟩:=I.list h1;obtain ⟨i2,v2,p2,_⟩:=I.list h2;refine SeqAt.eq_listAt (e:=fun _=>true) p1.isList p2.isList (by simp[<-v1.length,<-v2.length,hA.len]) (by omega) (fun j g1 g2=>?_) ?_
 ·exact eE (A:=X.A.in1) (s:=s) (fun x y u w=>jc I n X.A.in1 x y u w (by show X.A.units+1+n<_;omega)) hA v1 v2 j (by simpa using g1) (by simpa using g2)
 ·exact ⟨.bl true,H,I,by show Value.bool _=Value.bool _;simp,hq⟩
end L2
namespace Sw
open PySem L2 XH
abbrev dg:=Str×Int×Int×Int
structure LK (H:Hp) (l:Addr) (ks:List dg):Prop where
 ex:∃as:CC,as.length=ks.length/\H l=some (.lst (as.map V.ref))/\∀(i:Nat) (a:Addr) (k:dg),as[i]?=some a->ks[i]?=some k->H a=some (.tup [.str k.1,.int k.2.1,.int k.2.2.1,.int k.2.2.2])
theorem LK.same {H H':Hp} {l:Addr} {ks:List dg} (h:LK H l ks) (g:au H H'):LK H' l ks:=by
 obtain ⟨as,h1,h2,h3⟩:=h.ex;exact ⟨as,h1,g _ _ h2,fun i a k e1 e2=>g _ _ (h3 i a k e1 e2)⟩
theorem LK.copy {H H':Hp} {l l':Addr} {ks:List dg} (h:LK H l ks) (g:au H H') {xs:List V} (e:H l=some (.lst xs)) (e':H' l'=some (.lst xs)):LK H' l' ks:=by
 obtain ⟨as,h1,h2,h3⟩:=h.ex;rw[e] at h2;cases h2;exact ⟨as,h1,e',fun i a k e1 e2=>g _ _ (h3 i a k e1 e2)⟩
theorem LK.snoc {H:Hp} {l a:Addr} {ks:List dg} {k:dg} (h:LK H l ks) (ha:H a=some (.tup [.str k.1,.int k.2.1,.int k.2.2.1,.int k.2.2.2])):
  ∃xs,H l=some (.lst xs)/\xs.length=ks.length/\LK (aL H l (.lst (xs++ [.ref a]))) l (ks++ [k]):=by
 obtain ⟨as,h1,h2,h3⟩:=h.ex;have keep:∀{b:Addr} {zs:List V} {o:HO},H b=some (.tup zs)->(aL H l o) b=some (.tup zs):=fun {b zs o} hb=>by
  rw[am (fun z=>by subst z;rw[h2] at hb;cases hb)]
  exact hb
 refine ⟨_,h2,by simp[h1],as++ [a],by simp[h1],by rw[af,B0];rfl,fun i b p e1 e2=>?_⟩
 by_cases hi:i<as.length
 ·rw[A8 hi] at e1;rw[A8 (by omega)] at e2
  exact keep (h3 i b p e1 e2)
 ·have e3:i=as.length:=by
   have:=(A3.mp e1).1;simp at this;omega
  subst e3;rw[A6 (by omega)] at e1
  rw[A6 (by omega),h1] at e2
  simp at e1 e2;subst e1;subst e2;exact keep ha
abbrev iD:=Int×Int
def pG:dg:=(Str.empty,0,0,0)
def dU (ks:List dg):List V:=cO ks.length (fun i=> !decide (V.str (ks.getD i pG).1=V.str "apart")) (fun i=> .int (ks.getD i pG).2.2.1)
theorem fN (ks:List dg):(dU ks).all d9=true:=by
 unfold dU cO;rw[B2];intro x hx;obtain ⟨i,_,rfl⟩:=AX.mp hx
 rfl
def ko (nm p t s l:V):List (Str×V):=aE "links" l (aE "steps" s (aE "takes" t (aE "plates" p (aE "name" nm []))))
theorem gw {nm p t s l:V}:(ko nm p t s l).lookup ("links" :Str)=some l:=by
 unfold ko;rw[a6,if_pos rfl]
structure xH (K:A4) (C:Addr):Prop where
 cl:eT K C
 name:aj K C "name"
 plates:aj K C "plates"
 takes:aj K C "takes"
 steps:aj K C "steps"
 links:aj K C "links"
def aV (cs:List Int):Nat->List iD
 |0=> []
 |i+1=>aV cs i++(Ac (cs.getD i 0).toNat).map fun t:Nat=>((0+(i:Int):Int),(0+(t:Int):Int))
theorem cr {as:CC} {i:Nat} {x:V} (h:(as.map V.ref)[i]?=some x):∃a,as[i]?=some a/\x= .ref a:=by
 rw[A9] at h;cases e:as[i]? with
 |none=>rw[e] at h;cases h
 |some a=>rw[e] at h;cases h;exact ⟨a,rfl,rfl⟩
theorem bT {α:Type} {as:CC} {ks:List α} {d:α} {i:Nat} {a:Addr} (h:as.length=ks.length) (ha:as[i]?=some a):∃k,ks[i]?=some k/\ks.getD i d=k:=by
 have il:=(A3.mp ha).1;exact ⟨ks[i]'(by omega),A0 (by omega),by rw[BG,A0 (by omega)];rfl⟩
theorem fo {H:Hp} {x dx b:Addr} {o o1 o2:HO} (nx:H x=none) (nd:H dx=none) (h:H b=some o):(aL (aL H dx o1) x o2) b=some o:=by
 rw[am (aF h nx),am (aF h nd)];exact h
end Sw
namespace L2
open PySem PySem.Spec PyProof.Rows XH Sw So
end L2
namespace Sw
open PySem L2 XH Hm
end Sw
namespace L2
open PySem PySem.Spec PyProof.Rows XH Sw Hm
end L2
namespace Sw
open PySem L2 XH Hm
end Sw
namespace L2
open PySem PySem.Spec PyProof.Rows XH Sw Hm
end L2
namespace Sw
open PySem L2 XH Hm
end Sw
namespace L2
open PySem PySem.Spec PyProof.Rows XH Sw Hm
end L2
namespace Sw
open PySem L2 XH Hm
end Sw
namespace L2
open PySem PySem.Spec PyProof.Rows XH Sw Hm
theorem oQ {hd:CG} {n:Nat} {js:List Nat} {te:TE} {σ:L2.St} {H1:Hp} {Q:VK} (P:Hp->Nat->V->Hp->Prop) (hok:iY hd H1) (hn:n<=sizeLine)
  (step:∀i,i<n->∀H3,au H1 H3->∀Q':VK,(∀y H4,P H3 i y H4->au H3 H4->Q' y H4)->te (some (.int (0+(i:Int)))::aO js σ) H3 Q')
  (fin:∀(p:Addr) (ys:List V) (H':Hp),H1 p=none->ys.length=n->(∀(i:Nat) (y:V),ys[i]?=some y->∃H3 H4,au H1 H3/\H3 p≠none/\P H3 i y H4/\∀b o,b≠p->H4 b=some o->H' b=some o)->au H1 H'->H' p=some (.lst ys)->Q (.ref p) H'):jQ js te σ Q (qt hd 0 n) H1:=by
 intro p hp;refine ⟨fun i m ys H2=>i<=n/\m=n-i/\ys.length=i/\(∀(i:Nat) (y:V),ys[i]?=some y->∃H3 H4,au H1 H3/\H3 p≠none/\P H3 i y H4/\∀b o,b≠p->H4 b=some o->H2 b=some o)/\au H1 H2/\H2 p=some (.lst ys),⟨n,Ar _,rfl,rfl,fun i y e=>by simp at e,Sw.ao hp _,af⟩,?_⟩
 rintro i m ys H2 ⟨hi,rfl,hl,hP,g,e⟩;refine ⟨e,?_⟩
 by_cases hin:i<n
 ·refine .inr ⟨hin,by omega,fun x H3 hy=>?_⟩
  obtain ⟨rfl,rfl⟩:=hy;refine step i hin _ g _ fun y H4 py g4=>⟨g4 _ _ e,n-(i+1),by omega,hin,rfl,by simp[hl],fun j y' e2=>?_,Sw.dE (g.trans g4) hp _,af⟩
  by_cases hj:j<ys.length
  ·rw[A8 hj] at e2;obtain ⟨A,B,q1,q2,q3,q4⟩:=hP j y' e2;exact ⟨A,B,q1,q2,q3,fun b o n q=>by rw[am n];exact g4 _ _ (q4 b o n q)⟩
  ·have ej:j=i:=by
    have:=(A3.mp e2).1;simp at this;omega
   subst ej;rw[A6 (by omega),hl] at e2
   simp at e2;subst e2;exact ⟨_,H4,g,by rw[e];exact nofun,py,fun b o n q=>by rw[am n];exact q⟩
 ·have e2:i=n:=by omega
  subst e2;exact .inl ⟨⟨A7 _,qy hok g⟩,fin p ys H2 hp hl hP g e⟩
end L2
namespace Sw
open PySem L2 XH Hm
theorem lZ {α:Type} {P:List α->Prop} (h:∀a,P [a]):∀us:List α,us.length=1->P us
 | [a],_=>h a
theorem bN {α:Type} {P:List α->Prop} (h:∀a b,P [a,b]):∀us:List α,us.length=2->P us
 | [a,b],_=>h a b
theorem fu {α:Type} {P:List α->Prop} (h:∀a b c,P [a,b,c]):∀us:List α,us.length=3->P us
 | [a,b,c],_=>h a b c
theorem qP {α:Type} {P:List α->Prop} (h:∀a b c d,P [a,b,c,d]):∀us:List α,us.length=4->P us
 | [a,b,c,d],_=>h a b c d
theorem uW {α:Type} {P:List α->Prop} (h:∀a b c d e,P [a,b,c,d,e]):∀us:List α,us.length=5->P us
 | [a,b,c,d,e],_=>h a b c d e
theorem uX {α:Type} {P:List α->Prop} (h:∀a b c d e f,P [a,b,c,d,e,f]):∀us:List α,us.length=6->P us
 | [a,b,c,d,e,f],_=>h a b c d e f
abbrev FnAt (K:A4) (f:Addr) (n q:Str) (st:Stmt) (dV:Value):Prop:=∃(oc:Value) (od:CF) (kV dc pm:Value) (an:CF) (cd ct:Value) (sl:CA),K.lookup f=some ⟨oc,od,.func (BB n q (cx st) (bS st) (ar st) dV kV dc pm an cd ct),sl⟩/\PySem.W.codeIn K cd q=true/\BC K (.ref f)=true
abbrev cJ (K:A4) (f:Addr) (x:Str) (st:Stmt) (dV:Value):Prop:=Ag K mainGlobals x=some (some (.ref f))/\FnAt K f x x st dV
abbrev kq (K:A4) (c f:Addr) (m q:Str) (st:Stmt) (dV:Value):Prop:=Aw K (.ref c) m=some (some (.ref f))/\FnAt K f m q st dV
abbrev wl (n q:Str) (st:Stmt) (dV:Value) (ps:CB):Prop:=∀(kV doc pm:Value) (an:CF) (cdv ct:Value) (us:CD),us.length=ps.length->bindArgs (BB n q (cx st) (bS st) (ar st) dV kV doc pm an cdv ct) ⟨us,[]⟩=pure (ps.zip us)
theorem dG {N P:CB} {sc:Scope} (h:N.Nodup/\(∀x∈P,sc.names.lookup x=some .local∨sc.names.lookup x=some .cell)/\∀y∈sc.names,y.2≠ .free) (h1:sc.kind= .function:=by rfl) (h2:sc.isCoroutine=false:=by rfl) (h3:sc.isGenerator=false:=by rfl) (h4:N.take P.length=P:=by rfl):aD N P sc:=⟨h1,h2,h3,h.1,h4,h.2.1,h.2.2⟩
section
variable {P:Program} {w:World} {K:A4} {mg:Cy} {base h:Heap} {CX:lB} {k:Nat} {f c:Addr} {x m q:Str} {st:Stmt} {ps:CB} {sp:Sp}
theorem FnAt.ex {n q:Str} {dV:Value} (a:FnAt K f n q st dV):∃fd,a9 K n q st dV f fd/\BC K (.ref f)=true:=by
 obtain ⟨_,_,_,_,_,_,_,_,_,l,c,k⟩:=a;exact ⟨_,dB (st:=st) l c k,k⟩
structure Bx (P:Program) (w:World) (base:Heap):Prop
noncomputable def gX (_:Bx P w base) (X:K.In h) (G:h.Ns mainGlobals mg) (a:cJ K f x st .none) (b:wl x x st .none ps) (ok:∀{fd:FuncData},a9 K x x st .none f fd->a7 P w K mg base CX k f fd ps sp):Dx P w K mg base CX k x ps [] sp:=
 have e:=a.2.ex
 ⟨f,e.choose,ok e.choose_spec.1,BA X G a.1,e.choose_spec.2,e.choose_spec.1.binds0 b,[],e.choose_spec.1.binds0 b,.nil⟩
noncomputable def uY (_:Bx P w base) (a:kq K c f m q st .none) (b:wl m q st .none ps) (ok:∀{fd:FuncData},a9 K m q st .none f fd->a7 P w K mg base CX k f fd ps sp):ju P w K mg base CX k f ps [] sp:=
 have e:=a.2.ex
 ⟨e.choose,ok e.choose_spec.1,e.choose_spec.1.binds0 b,[],e.choose_spec.1.binds0 b,.nil⟩
end
end Sw
namespace L2
open PySem PySem.Spec PyProof.Rows XH
section
variable {prog:Program} {w:World} {A:Around} {E:Cw} {s:Shared}
theorem gY (a:Value) {Q₁:Cw}
  (h:∀led:Bool,(w.params.followText "set-order" =false->led=true)->Q₁ (.ref s.heap.objs.size) {s with heap:=s.heap.push {cls:= .type "set",dict:=none,data:= .set #[] 0 (.fresh 0 0 led)}}):
  codeAny (model prog w) A (.call (.builtin "set.__new__") ⟨[.type "set",a],[]⟩) (wants Q₁ E) s:=by
 refine codeAny_of_tree ?_;show wpAny _ A.in1 (do checkBuiltinCall "set.__new__" ⟨[.type "set",a],[]⟩;again (.builtin "set.__new__" ⟨[.type "set",a],[]⟩)) _ _ s
 refine wpAny_bind (wpAny_of_eq (F.newCall_set_1 a) (wpAny_pure ⟨plainId_quiet F.plain_set_new _,codeAny_builtin F.entry_set_new ?_⟩));rw[Around.under_plainId F.plain_set_new _];unfold Builtin.«set.__new__» Builtin.Frozenset.newClass;have hsub:=sub_set_self;obtain ⟨hp,g,d,tk,os⟩:=s;dsimp only
 wp_walk
 refine wpAny_askSetting (wpAny_pure ?_);dsimp only;simp only[newObj];refine wpAny_bind (wpAny_alloc (wpAny_pure ?_));refine wpAny_pure (h _ fun e=>?_)
 show (!(model prog w).w.params.followText "set-order")=true;rw[show (model prog w).w=w from rfl,e]
 rfl
end
theorem kr:Manifest.owners.lookup (String.ofList ['r','o','t','a','r','e','t','i','_','t','e','s'].reverse)=some Manifest.sig_set_iterator:=by kernel_rfl
theorem aN:Slot "set_iterator" "__next__" "set_iterator.__next__" :=
 .of (owner:= "set_iterator") (n:= "__next__") (by rw[typeLookup_type,builtinLookup_eq_fast];kernel_rfl) (by decide+kernel) (by decide+kernel) (by decide+kernel)
  (by first|exact .inl (by decide+kernel)|exact .inr (by decide+kernel)) (by rw[isSubtype_type];kernel_rfl)
theorem b5:entryFor table "set_iterator.__next__" =some Builtin.«set_iterator.__next__» :=entryFor_of_tree (by kernel_rfl)
theorem cA (a:Value):argsOk "set_iterator.__next__" ⟨[a],[]⟩:=by
 unfold argsOk;rw[signature?_of (id:= "set_iterator.__next__") (n:= ['_','_','t','x','e','n','_','_']) (o:= ['r','o','t','a','r','e','t','i','_','t','e','s']) (by kernel_rfl) kr];kernel_rfl
theorem bj:Slot "set_iterator" "__iter__" "set_iterator.__iter__" :=
 .of (owner:= "set_iterator") (n:= "__iter__") (by rw[typeLookup_type,builtinLookup_eq_fast];kernel_rfl) (by decide+kernel) (by decide+kernel) (by decide+kernel)
  (by first|exact .inl (by decide+kernel)|exact .inr (by decide+kernel)) (by rw[isSubtype_type];kernel_rfl)
theorem cB (a:Value):argsOk "set_iterator.__iter__" ⟨[a],[]⟩:=by
 unfold argsOk;rw[signature?_of (id:= "set_iterator.__iter__") (n:= ['_','_','r','e','t','i','_','_']) (o:= ['r','o','t','a','r','e','t','i','_','t','e','s']) (by kernel_rfl) kr];kernel_rfl
theorem gx:entryFor table "set.__iter__" =some Builtin.«frozenset.__iter__» :=
 entryFor_alias (id':= "frozenset.__iter__") (by kernel_rfl) rfl (by decide+kernel) (by kernel_rfl)
theorem b6:entryFor table "set_iterator.__iter__" =some Builtin.«dict_keyiterator.__iter__» :=
 entryFor_alias (id':= "dict_keyiterator.__iter__") (by kernel_rfl) rfl (by decide+kernel) (by kernel_rfl)
section
variable {prog:Program} {w:World} {A:Around} {E:Cw} {s:Shared}
theorem gZ {M:Model} {src:Source} {n:Nat} {Q:Nat->Shared->Prop} (hn:n≠0) (h:∀i d,i<n->Q i {s with drawn:=d}):wpAny M A (choose src n) Q E s:=fun _ _ _=>by
 unfold choose;rw[Sem.wp_choose];exact ⟨hn,by simpa using h _ _ (Nat.mod_lt _ (Nat.pos_of_ne_zero hn))⟩
theorem fv {α:Type}:∀(l:List α) (i:Nat) (h:i<l.length),(l[i]::l.eraseIdx i).Perm l
 | [],i,h=>by simp at h
 |x::xs,0,_=> .refl _
 |x::xs,i+1,h=>by
  have h':i<xs.length:=by simpa using h
  show (xs[i]::x::xs.eraseIdx i).Perm (x::xs);exact (List.Perm.swap _ _ _).trans ((fv xs i h').cons x)
theorem dq {M:Model} {α:Type}:∀(n:Nat) (xs:List α) (s:Shared) (Q:List α->Shared->Prop),xs.length=n->(∀ys d,ys.Perm xs->Q ys {s with drawn:=d})->wpAny M A (drawOrder n xs) Q E s
 |0,xs,s,Q,hl,h=>by
  have:xs= []:=List.length_eq_zero_iff.mp hl;subst this;unfold drawOrder;exact wpAny_pure (h [] s.drawn .nil)
 |n+1,[],s,Q,hl,h=>by cases hl
 |n+1,x::xs,s,Q,hl,h=>by
  unfold drawOrder;refine wpAny_bind (gZ (by simp) fun i d hi=>?_)
  have e:(x::xs)[i]?=some ((x::xs)[i]):=A0 hi;rw[e];dsimp only;refine wpAny_bind (dq n ((x::xs).eraseIdx i) {s with drawn:=d} _ (by rw[List.length_eraseIdx_of_lt hi,hl];rfl) fun ys d' hp=>wpAny_pure (h _ d' ?_))
  exact (hp.cons _).trans (fv _ i hi)
def bU (h:Heap) (a:Addr) (es:Array (Int×Value)) (ep:Nat) (t:SetTable):Prop:=∃o,h.get? a=some o/\o.ExactSet/\o.data= .set es ep t/\t.fits es.size=true
def kS (first:Value) (i:Nat) (S:Addr) (n ep:Nat):Obj:={cls:= .type "set_iterator",data:= .fields #[first,.int i 0,.ref S,.int n 0,.int ep 0]}
theorem jd {a:Addr} {es:Array (Int×Value)} {ep:Nat} {t:SetTable} (h:bU s.heap a es ep t):s.TypeIs (.ref a) "set" :=let ⟨o,ho,hx,_⟩:=h;⟨o,ho,hx.1⟩
theorem qQ {a:Addr} {es:Array (Int×Value)} {ep:Nat} {t:SetTable} {Q:Cw} (hS:bU s.heap a es ep t) (hz:es.size<=sizeLine)
  (h1:(!w.params.followText "set-order" &&(!t.plain&&decide (es.size>1)))=false->Q (.ref s.heap.objs.size) {s with heap:=s.heap.push (kS (.int 0 0) 0 a es.size ep)})
  (h2:(!w.params.followText "set-order" &&(!t.plain&&decide (es.size>1)))=true->∀(ys:List Nat) d,ys.Perm (Ac es.size)->
   Q (.ref (s.heap.objs.size+1)) {s with heap:=(s.heap.push {cls:= .type "tuple",data:= .seq (ys.map fun (i:Nat)=>rawInt i).toArray}).push (kS (.ref s.heap.objs.size) 0 a es.size ep),drawn:=d}):
  wpAny (model prog w) A (pyIter (.ref a)) Q E s:=by
 have hT:=jd hS;obtain ⟨o,ho,hx,hd,hf⟩:=hS;refine wpAny_pyIter_slot hT F.slot_set_iter (wpAny_call_entry F.slot_set_iter hT gx ?_ (F.args_set_iter_1 _));unfold Builtin.«frozenset.__iter__»;refine wpAny_bind (m:=Builtin.Frozenset.slot0 _ _) ?_;show wpAny _ _ (pure a) _ _ s;refine wpAny_pure ?_;unfold Builtin.Frozenset.sizeOf setEntries;refine wpAny_bind (wpAny_bind (wpAny_bind (wpAny_setState_of ho hd hf (wpAny_pure ?_))));refine wpAny_pure ?_;unfold setDrawn setsByText;refine wpAny_bind (wpAny_bind (wpAny_setState_of ho hd hf ?_));dsimp only;refine wpAny_bind (wpAny_bind (wpAny_askSetting (wpAny_pure ?_)));show wpAny _ _ (pure (!w.params.followText "set-order" &&(!t.plain&&decide (es.size>1)))) _ _ s;refine wpAny_pure ?_;cases c:(!w.params.followText "set-order" &&(!t.plain&&decide (es.size>1))) with
 |false=>
  simp only[AG,if_false];refine wpAny_bind (wpAny_pure ?_);unfold setEpoch;refine wpAny_bind (wpAny_bind (wpAny_setState_of ho hd hf (wpAny_pure ?_)));refine wpAny_bind (wpAny_newObj_type (wpAny_pure ⟨_,rfl,"set_iterator",_,⟨_,Heap.get?_push_size _ rfl,rfl⟩,aN.lookup,?_⟩));exact h1 c
 |true=>
  simp only[if_true];refine wpAny_bind (dq es.size (Ac es.size) s _ (by simp) fun ys d hp=>?_)
  refine wpAny_bind (wpAny_newTuple ?_ (by rw[A5,hp.length_eq,B7];exact hz))
  unfold setEpoch;have ho':(s.heap.push {cls:= .type "tuple",data:= .seq (ys.map fun (i:Nat)=>rawInt i).toArray}).get? a=some o:=Heap.get?_push_of_some _ ho
  refine wpAny_bind (wpAny_bind (wpAny_setState_of (s:={s with heap:=_,drawn:=d}) ho' hd hf (wpAny_pure ?_)))
  refine wpAny_bind (wpAny_newObj_type (wpAny_pure ⟨_,rfl,"set_iterator",_,⟨_,Heap.get?_push_size _ rfl,rfl⟩,aN.lookup,?_⟩));have:=h2 c ys d hp;rw[<-Heap.size_push s.heap {cls:= .type "tuple",data:= .seq (ys.map fun (i:Nat)=>rawInt i).toArray}] at this
  exact this
end
section
variable {prog:Program} {w:World} {A:Around} {E:Cw} {s:Shared}
theorem bU.at {h h':Heap} {a:Addr} {es:Array (Int×Value)} {ep:Nat} {t:SetTable} (x:bU h a es ep t) (k:∀o,h.get? a=some o->h'.get? a=some o):bU h' a es ep t:=let ⟨o,ho,r⟩:=x;⟨o,k o ho,r⟩
theorem b8 {a:Addr} {es:Array (Int×Value)} {ep:Nat} {t:SetTable} {Q:Array (Int×Value)->Shared->Prop} (hS:bU s.heap a es ep t) (h:Q es s):wpAny (model prog w) A (setEntries a) Q E s:=by
 obtain ⟨o,ho,_,hd,hf⟩:=hS;unfold setEntries;exact wpAny_bind (wpAny_setState_of ho hd hf (wpAny_pure h))
theorem cj {a:Addr} {es:Array (Int×Value)} {ep:Nat} {t:SetTable} {Q:(Array (Int×Value)×Nat×SetTable)->Shared->Prop} (hS:bU s.heap a es ep t) (h:Q (es,ep,t) s):wpAny (model prog w) A (setState a) Q E s:=by
 obtain ⟨o,ho,_,hd,hf⟩:=hS;exact wpAny_setState_of ho hd hf h
theorem fA {I S:Addr} {es:Array (Int×Value)} {ep i slot nx:Nat} {t:SetTable} {x:Value} {Q:CG->Shared->Prop} (hI:s.heap.get? I=some (kS (.int slot 0) i S es.size ep)) (hS:bU s.heap S es ep t)
  (hn:∀(A:Around) (E:Cw) (Q:Option (Value×Nat)->Shared->Prop),Q (some (x,nx)) s->wpAny (model prog w) A (setNext S slot i ep) Q E s)
  (h:∀h',h'.get? I=some (kS (.int nx 0) (i+1) S es.size ep)->Heap.SameBut I s.heap h'->Q (some x) {s with heap:=h'}):wpAny (model prog w) A (pyNext (.ref I)) Q E s:=by
 have hT:s.TypeIs (.ref I) "set_iterator" :=⟨_,hI,rfl⟩;unfold pyNext;refine wpAny_bind (wpAny_attempt (wpAny_callSpecial?_slot (name:=Str.ofString "__next__") hT aN (wpAny_call_entry aN hT b5 ?_ (cA _))));unfold Builtin.«set_iterator.__next__»;refine wpAny_bind (m:=slotArgs _ _ _) ?_;show wpAny _ _ (pure (Value.ref I,[])) _ _ s;refine wpAny_pure ?_;refine wpAny_bind (wpAny_fieldsOf hI rfl ?_);show wpAny _ _ (setEntries S>>=_) _ _ s;refine wpAny_bind (b8 hS ?_);rw[if_neg (by simp)]
 show wpAny _ _ (setNext S (Int.toNat slot) (Int.toNat i) (Int.toNat ep)>>=_) _ _ s;simp only[BK];refine wpAny_bind (hn _ _ _ ?_);dsimp only;refine wpAny_bind (wpAny_setField_rec (vs:= #[.int slot 0,.int i 0,.ref S,.int es.size 0,.int ep 0]) hI (by simp) fun h1 e1 s1=>?_)
 refine wpAny_bind (wpAny_setField_rec (s:={s with heap:=h1}) e1 (by simp) fun h2 e2 s2=>?_)
 exact wpAny_pure ⟨_,rfl,wpAny_pure (h h2 (by simpa [kS,rawInt] using e2) (s1.trans s2))⟩
theorem fB {I S:Addr} {es:Array (Int×Value)} {ep i slot:Nat} {t:SetTable} {Q:CG->Shared->Prop} (hh:A.handled=none) (hI:s.heap.get? I=some (kS (.int slot 0) i S es.size ep)) (hS:bU s.heap S es ep t)
  (hn:∀(A:Around) (E:Cw) (Q:Option (Value×Nat)->Shared->Prop),Q none s->wpAny (model prog w) A (setNext S slot i ep) Q E s)
  (h:∀h',Heap.ExtBut I s.heap h'->Q none {s with heap:=h'}):wpAny (model prog w) A (pyNext (.ref I)) Q E s:=by
 have hT:s.TypeIs (.ref I) "set_iterator" :=⟨_,hI,rfl⟩;unfold pyNext;refine wpAny_bind (wpAny_attempt (wpAny_callSpecial?_slot (name:=Str.ofString "__next__") hT aN (wpAny_call_entry aN hT b5 ?_ (cA _))));unfold Builtin.«set_iterator.__next__»;refine wpAny_bind (m:=slotArgs _ _ _) ?_;show wpAny _ _ (pure (Value.ref I,[])) _ _ s;refine wpAny_pure ?_;refine wpAny_bind (wpAny_fieldsOf hI rfl ?_);show wpAny _ _ (setEntries S>>=_) _ _ s;refine wpAny_bind (b8 hS ?_);rw[if_neg (by simp)]
 show wpAny _ _ (setNext S (Int.toNat slot) (Int.toNat i) (Int.toNat ep)>>=_) _ _ s;simp only[BK];refine wpAny_bind (hn _ _ _ ?_);dsimp only;refine wpAny_bind (wpAny_setField_rec (vs:= #[.int slot 0,.int i 0,.ref S,.int es.size 0,.int ep 0]) hI (by simp) fun h1 e1 s1=>?_)
 show wpAny _ _ (newExc (.type "StopIteration") []>>=_) _ _ _;refine wpAny_bind ?_;simp only[newExc,newTuple];refine wpAny_bind (wpAny_newObj_type ?_ (by size_fits))
 refine wpAny_bind (m:=firstArgMember _ _) (wpAny_of_eq (a:=Value.none) (by first|rfl|(simp only[firstArgMember];rfl)) ?_)
 refine wpAny_newObj_type ?_ (by size_fits)
 simp only[raiseNew];refine wpAny_bind (wpAny_handled ?_);rw[show A.in1.handled=none from hh]
 refine wpAny_bind (wpAny_pure (wpAny_throw ?_));refine wpAny_bind (wpAny_isInstance (T:= "StopIteration") (b:=true) ⟨_,Heap.get?_push_size _ rfl,rfl⟩ isSubtype_stop ?_);exact wpAny_pure (h _ ((s1.extBut.push _).push _))
end
theorem fO {α:Type} (nx:Nat->Nat):∀(f k:Nat) (l:List α) (out:Array α),l.length=f->(pickOrder.go nx f k l out).toList.Perm (out.toList++l)
 |0,k,l,out,h=>by
  have:l= []:=List.length_eq_zero_iff.mp h;subst this;simp[pickOrder.go]
 |f+1,k,l,out,h=>by
  have hp:0<l.length:=by omega
  have hi:nx k % l.length<l.length:=Nat.mod_lt _ hp;have e:l[nx k % l.length]?=some (l[nx k % l.length]):=A0 hi;rw[pickOrder.go,e];dsimp only;refine (fO nx f (k+1) _ _ (by rw[List.length_eraseIdx_of_lt hi,h];rfl)).trans ?_
  rw[BW,AQ];exact Al _ (fv l _ hi)
theorem gy {α:Type} (nx:Nat->Nat) (xs:Array α):(pickOrder nx xs).toList.Perm xs.toList:=by
 unfold pickOrder
 simpa using fO nx xs.size 0 xs.toList #[] (by simp)
section
variable {prog:Program} {w:World} {A:Around} {E:Cw} {s:Shared}
theorem eF {S:Addr} {es:Array (Int×Value)} {ep i slot:Nat} {t:SetTable} {Q:Option (Value×Nat)->Shared->Prop} (hS:bU s.heap S es ep t) (hb:w.params.followText "set-order" =true)
  (h:Q (((pickOrder (w.params.setOrder S ep) es)[i]?).map fun e=>(e.2,slot)) s):wpAny (model prog w) A (setNext S slot i ep) Q E s:=by
 unfold setNext setsByText;refine wpAny_bind (cj hS ?_);dsimp only;refine wpAny_bind (wpAny_bind (wpAny_askSetting (wpAny_pure ?_)));rw[show ((model prog w).w.params.followText "set-order")=true from hb]
 simp only[if_true];rw[if_neg (by simp)]
 unfold setWalk setsByText;refine wpAny_bind (wpAny_bind (cj hS ?_));dsimp only;refine wpAny_bind (wpAny_bind (wpAny_askSetting (wpAny_pure ?_)));rw[show ((model prog w).w.params.followText "set-order")=true from hb]
 simp only[if_true];refine wpAny_bind (wpAny_askSetting (wpAny_pure ?_));exact wpAny_pure h
theorem fP {S:Addr} {es:Array (Int×Value)} {ep i slot:Nat} {t:SetTable} {Q:Option (Value×Nat)->Shared->Prop} (hS:bU s.heap S es ep t) (hb:w.params.followText "set-order" =false) (few:es.size<=1) (ld:t.led=true)
  (h:Q (match es[SetTable.below t.place slot]?,t.place[SetTable.below t.place slot]? with|some (_,x),some j=>some (x,j+1)|_,_=>none) s):wpAny (model prog w) A (setNext S slot i ep) Q E s:=by
 unfold setNext setsByText;refine wpAny_bind (cj hS ?_);dsimp only;refine wpAny_bind (wpAny_bind (wpAny_askSetting (wpAny_pure ?_)));rw[show ((model prog w).w.params.followText "set-order")=false from hb]
 simp only[AG,if_false];have d1:(!t.plain&&decide (es.size>1))=false:=by
  rw[decide_eq_false (by omega),BR]
 have d2:(!t.led&& !es.isEmpty)=false:=by rw[ld];rfl
 show wpAny _ _ (if (!t.plain&&decide (es.size>1))=true then _ else _) _ _ s
 rw[d1];simp only[AG,if_false];refine wpAny_bind ?_;show wpAny _ _ (if (!t.led&& !es.isEmpty)=true then _ else _) _ _ s
 rw[d2];simp only[AG,if_false];refine wpAny_pure ?_;exact wpAny_pure h
theorem oR (hh:A.handled=none) (hb:w.params.followText "set-order" =true) (I S:Addr) (ne:S≠I) (es:Array (Int×Value)) (ep:Nat) (t:SetTable):
  Walks prog w A I [I,S] [I] es.size (fun i v=>∃e,(pickOrder (w.params.setOrder S ep) es).toList[i]?=some e/\v=e.2) (fun i h=>h.get? I=some (kS (.int 0 0) i S es.size ep)/\bU h S es ep t) where
 sub:=fun b hb=>by simp at hb;simp[hb]
 frame:=fun _ _ _ st hk=>⟨hk I (by simp) _ st.1,st.2.at fun o e=>hk S (by simp) o e⟩
 item:=fun i s Q E hi st hQ=>by
  have hz:(pickOrder (w.params.setOrder S ep) es).size=es.size:=by rw[<-AK,(gy _ es).length_eq,AK]
  obtain ⟨x,hx⟩:∃x,(pickOrder (w.params.setOrder S ep) es)[i]?=some x:=⟨_,AF (by rw[hz];exact hi)⟩
  refine fA (slot:=0) (nx:=0) (x:=x.2) st.1 st.2 (fun A E Q q=>eF st.2 hb ?_) fun h' e' sb=>?_
  ·rw[hx];exact q
  ·refine hQ _ h' s.toks ⟨_,by rw[AT];exact hx,rfl⟩ ⟨e',st.2.at fun o e=>(sb.2 S ne).trans e⟩ fun b o hb e=>(sb.2 b fun z=>hb (by simp[z])).trans e
 done:=fun s Q E st hQ=>by
  have hz:(pickOrder (w.params.setOrder S ep) es).size=es.size:=by rw[<-AK,(gy _ es).length_eq,AK]
  have hx:(pickOrder (w.params.setOrder S ep) es)[es.size]?=none:=Bi (by omega)
  refine fB (slot:=0) hh st.1 st.2 (fun A E Q q=>eF st.2 hb ?_) fun h' xb=>hQ h' s.toks fun b o hb e=>xb b o (fun z=>hb (by simp[z])) e
  rw[hx];exact q
 self:=fun i s Q E st hQ=>by
  have hT:s.TypeIs (.ref I) "set_iterator" :=⟨_,st.1,rfl⟩;refine wpAny_pyIter_slot hT bj (wpAny_call_entry bj hT b6 ?_ (cB _));show wpAny _ _ (ret (.ref I)) _ _ s;exact wpAny_pure ⟨_,rfl,"set_iterator",_,hT,aN.lookup,hQ⟩
theorem nv {α:Type}:∀{a:Array α},a.size=1->∃j,a= #[j]
 |⟨[j]⟩,_=>⟨j,rfl⟩
 |⟨[]⟩,h=>by simp at h
 |⟨_::_::_⟩,h=>by simp at h
theorem iE (j k:Nat):SetTable.below #[j] k=if j<k then 1 else 0:=by
 unfold SetTable.below;simp only[AW,Ah,List.length_nil,SetTable.below.go]
 by_cases h:j<k<;>simp[h,SetTable.below.go]
theorem qR (hh:A.handled=none) (hb:w.params.followText "set-order" =false) (I S:Addr) (ne:S≠I) (es:Array (Int×Value)) (ep:Nat) (t:SetTable) (few:es.size<=1) (ld:t.led=true) (ft:t.fits es.size=true):
  Walks prog w A I [I,S] [I] es.size (fun i v=>∃e,es.toList[i]?=some e/\v=e.2) (fun i h=>(∃slot:Nat,(i=0->slot=0)/\(i≠0->∃j,t.place[0]?=some j/\slot=j+1)/\h.get? I=some (kS (.int slot 0) i S es.size ep))/\bU h S es ep t) where
 sub:=fun b hb=>by simp at hb;simp[hb]
 frame:=fun _ _ _ st hk=>⟨let ⟨sl,a,b,c⟩:=st.1;⟨sl,a,b,hk I (by simp) _ c⟩,st.2.at fun o e=>hk S (by simp) o e⟩
 item:=fun i s Q E hi st hQ=>by
  obtain ⟨⟨slot,z1,z2,hI⟩,hS⟩:=st;have i0:i=0:=by omega
  subst i0;cases z1 rfl;have pz:t.place.size=1:=by
   simp only[SetTable.fits,BP,beq_iff_eq] at ft;omega
  obtain ⟨j,ej⟩:=nv pz;obtain ⟨x,hx⟩:∃x,es[0]?=some x:=⟨_,AF hi⟩;refine fA (slot:=0) (nx:=j+1) (x:=x.2) hI hS (fun A E Q q=>fP hS hb few ld ?_) fun h' e' sb=>?_
  ·rw[ej,iE];simp only[Nat.not_lt_zero,if_false,hx];exact q
  ·exact hQ _ h' s.toks ⟨_,by rw[AT];exact hx,rfl⟩ ⟨⟨j+1,fun z=>(by omega),fun _=>⟨j,by rw[ej];rfl,rfl⟩,e'⟩,hS.at fun o e=>(sb.2 S ne).trans e⟩ fun b o hb e=>(sb.2 b fun z=>hb (by simp[z])).trans e
 done:=fun s Q E st hQ=>by
  obtain ⟨⟨slot,z1,z2,hI⟩,hS⟩:=st;refine fB (slot:=slot) hh hI hS (fun A E Q q=>fP hS hb few ld ?_) fun h' xb=>hQ h' s.toks fun b o hb e=>xb b o (fun z=>hb (by simp[z])) e
  have hn:es[SetTable.below t.place slot]?=none:=by
   by_cases e0:es.size=0
   ·exact Bi (by omega)
   ·obtain ⟨j,e1,e2⟩:=z2 e0;have pz:t.place.size=1:=by
     simp only[SetTable.fits,BP,beq_iff_eq] at ft;omega
    have ej:t.place= #[j]:=by
     obtain ⟨j',ej'⟩:=nv pz;rw[ej'] at e1;simp at e1;rw[ej',e1]
    rw[ej,iE,e2,if_pos (by omega)]
    exact Bi (by omega)
  rw[hn];exact q
 self:=fun i s Q E st hQ=>by
  obtain ⟨⟨slot,z1,z2,hI⟩,hS⟩:=st;have hT:s.TypeIs (.ref I) "set_iterator" :=⟨_,hI,rfl⟩;refine wpAny_pyIter_slot hT bj (wpAny_call_entry bj hT b6 ?_ (cB _));show wpAny _ _ (ret (.ref I)) _ _ s;exact wpAny_pure ⟨_,rfl,"set_iterator",_,hT,aN.lookup,hQ⟩
end
section
variable {prog:Program} {w:World} {A:Around} {E:Cw} {s:Shared}
theorem l7 {I S T:Addr} {es:Array (Int×Value)} {ep i j:Nat} {t:SetTable} {e:Int×Value} {ys:List Nat} {Q:CG->Shared->Prop} (hI:s.heap.get? I=some (kS (.ref T) i S es.size ep)) (hS:bU s.heap S es ep t)
  (hT:s.heap.get? T=some {cls:= .type "tuple",data:= .seq (ys.map fun (i:Nat)=>rawInt i).toArray}) (hj:ys[i]?=some j) (he:es[j]?=some e)
  (h:∀h',h'.get? I=some (kS (.ref T) (i+1) S es.size ep)->Heap.SameBut I s.heap h'->Q (some e.2) {s with heap:=h'}):wpAny (model prog w) A (pyNext (.ref I)) Q E s:=by
 have hT':s.TypeIs (.ref I) "set_iterator" :=⟨_,hI,rfl⟩;unfold pyNext;refine wpAny_bind (wpAny_attempt (wpAny_callSpecial?_slot (name:=Str.ofString "__next__") hT' aN (wpAny_call_entry aN hT' b5 ?_ (cA _))));unfold Builtin.«set_iterator.__next__»;refine wpAny_bind (m:=slotArgs _ _ _) ?_;show wpAny _ _ (pure (Value.ref I,[])) _ _ s;refine wpAny_pure ?_;refine wpAny_bind (wpAny_fieldsOf hI rfl ?_);show wpAny _ _ (setEntries S>>=_) _ _ s;refine wpAny_bind (b8 hS ?_);rw[if_neg (by simp)]
 show wpAny _ _ (seqItems? (.ref T)>>=_) _ _ s;refine wpAny_bind (wpAny_seqItems hT rfl ?_);have hp:((ys.map fun (i:Nat)=>rawInt i).toArray)[(i:Int).toNat]?=some (.int (j:Int) 0):=by
  simp[hj,rawInt]
 dsimp only;rw[hp];dsimp only;unfold setNextDrawn;refine wpAny_bind (wpAny_bind (cj hS ?_));dsimp only;rw[if_neg (by simp)]
 simp only[BK,he];refine wpAny_pure ?_;refine wpAny_bind (wpAny_setField_rec (vs:= #[.ref T,.int i 0,.ref S,.int es.size 0,.int ep 0]) hI (by simp) fun h1 e1 s1=>?_)
 exact wpAny_pure ⟨_,rfl,wpAny_pure (h h1 (by simpa [kS,rawInt] using e1) s1)⟩
theorem l8 {I S T:Addr} {es:Array (Int×Value)} {ep i:Nat} {t:SetTable} {ys:List Nat} {Q:CG->Shared->Prop} (hh:A.handled=none) (hI:s.heap.get? I=some (kS (.ref T) i S es.size ep)) (hS:bU s.heap S es ep t)
  (hT:s.heap.get? T=some {cls:= .type "tuple",data:= .seq (ys.map fun (i:Nat)=>rawInt i).toArray}) (hj:ys[i]?=none)
  (h:∀h',Heap.ExtBut I s.heap h'->Q none {s with heap:=h'}):wpAny (model prog w) A (pyNext (.ref I)) Q E s:=by
 have hT':s.TypeIs (.ref I) "set_iterator" :=⟨_,hI,rfl⟩;unfold pyNext;refine wpAny_bind (wpAny_attempt (wpAny_callSpecial?_slot (name:=Str.ofString "__next__") hT' aN (wpAny_call_entry aN hT' b5 ?_ (cA _))));unfold Builtin.«set_iterator.__next__»;refine wpAny_bind (m:=slotArgs _ _ _) ?_;show wpAny _ _ (pure (Value.ref I,[])) _ _ s;refine wpAny_pure ?_;refine wpAny_bind (wpAny_fieldsOf hI rfl ?_);show wpAny _ _ (setEntries S>>=_) _ _ s;refine wpAny_bind (b8 hS ?_);rw[if_neg (by simp)]
 show wpAny _ _ (seqItems? (.ref T)>>=_) _ _ s;refine wpAny_bind (wpAny_seqItems hT rfl ?_);have hp:((ys.map fun (i:Nat)=>rawInt i).toArray)[(i:Int).toNat]?=none:=by
  have:=List.getElem?_eq_none_iff.mp hj
  simpa using this
 dsimp only;rw[hp];dsimp only;refine wpAny_bind (wpAny_setField_rec (vs:= #[.ref T,.int i 0,.ref S,.int es.size 0,.int ep 0]) hI (by simp) fun h1 e1 s1=>?_)
 refine wpAny_bind (wpAny_setField_rec (s:={s with heap:=h1}) e1 (by simp) fun h2 e2 s2=>?_)
 show wpAny _ _ (newExc (.type "StopIteration") []>>=_) _ _ _;refine wpAny_bind ?_;simp only[newExc,newTuple];refine wpAny_bind (wpAny_newObj_type ?_ (by size_fits))
 refine wpAny_bind (m:=firstArgMember _ _) (wpAny_of_eq (a:=Value.none) (by first|rfl|(simp only[firstArgMember];rfl)) ?_)
 refine wpAny_newObj_type ?_ (by size_fits)
 simp only[raiseNew];refine wpAny_bind (wpAny_handled ?_);rw[show A.in1.handled=none from hh]
 refine wpAny_bind (wpAny_pure (wpAny_throw ?_));refine wpAny_bind (wpAny_isInstance (T:= "StopIteration") (b:=true) ⟨_,Heap.get?_push_size _ rfl,rfl⟩ isSubtype_stop ?_);exact wpAny_pure (h _ (((s1.trans s2).extBut.push _).push _))
theorem oS (hh:A.handled=none) (I S T:Addr) (ne:S≠I) (nT:T≠I) (es:Array (Int×Value)) (ep:Nat) (t:SetTable) (ys:List Nat) (hy:ys.Perm (Ac es.size)):
  Walks prog w A I [I,S,T] [I] es.size (fun i v=>∃j e,ys[i]?=some j/\es[j]?=some e/\v=e.2)
   (fun i h=>h.get? I=some (kS (.ref T) i S es.size ep)/\bU h S es ep t/\h.get? T=some {cls:= .type "tuple",data:= .seq (ys.map fun (i:Nat)=>rawInt i).toArray}) where
 sub:=fun b hb=>by simp at hb;simp[hb]
 frame:=fun _ _ _ st hk=>⟨hk I (by simp) _ st.1,st.2.1.at fun o e=>hk S (by simp) o e,hk T (by simp) _ st.2.2⟩
 item:=fun i s Q E hi st hQ=>by
  have hl:ys.length=es.size:=by rw[hy.length_eq,B7]
  obtain ⟨j,hj⟩:∃j,ys[i]?=some j:=⟨_,A0 (by rw[hl];exact hi)⟩
  have jl:j<es.size:=B6.mp (hy.mem_iff.mp (AR hj));obtain ⟨e,he⟩:∃e,es[j]?=some e:=⟨_,AF jl⟩;refine l7 st.1 st.2.1 st.2.2 hj he fun h' e' sb=>?_
  exact hQ _ h' s.toks ⟨j,e,hj,he,rfl⟩ ⟨e',st.2.1.at fun o e=>(sb.2 S ne).trans e,(sb.2 T nT).trans st.2.2⟩ fun b o hb e=>(sb.2 b fun z=>hb (by simp[z])).trans e
 done:=fun s Q E st hQ=>by
  have hl:ys.length=es.size:=by rw[hy.length_eq,B7]
  exact l8 hh st.1 st.2.1 st.2.2 (List.getElem?_eq_none (by omega)) fun h' xb=>hQ h' s.toks fun b o hb e=>xb b o (fun z=>hb (by simp[z])) e
 self:=fun i s Q E st hQ=>by
  have hT:s.TypeIs (.ref I) "set_iterator" :=⟨_,st.1,rfl⟩;refine wpAny_pyIter_slot hT bj (wpAny_call_entry bj hT b6 ?_ (cB _));show wpAny _ _ (ret (.ref I)) _ _ s;exact wpAny_pure ⟨_,rfl,"set_iterator",_,hT,aN.lookup,hQ⟩
end
open Sw So
theorem aB.drew {X:Cx} {pins:Cz} {σ:List (Option V)} {H:Hp} {s:Shared} {d:Drawn} (I:aB X pins σ H s):aB X pins σ H {s with drawn:=d}:=
 ⟨I.ok,I.os,I.bare,I.base,I.loc,I.cell,I.free,I.freeC,I.pin,I.hok,I.len⟩
section
variable {prog:Program} {w:World} {A:Around} {E:Cw} {s:Shared}
theorem qS {r:Addr} {Q:Bool->Shared->Prop} (hT:s.TypeIs (.ref r) "set") (h:Q false s):wpAny (model prog w) A (Builtin.List.listLengthHint (.ref r)) Q E s:=by
 unfold Builtin.List.listLengthHint;refine wpAny_bind (wpAny_specialOf hT PySem.F.slot_set_len.lookup ?_);generalize hid:("set.__len__" :String)=id0
 wp_delta
 rw[show splitId id0=some ("set","__len__") from by subst hid;decide+kernel]
 subst hid;refine wpAny_bind (wpAny_isInstance (T:= "set") (b:=true) hT (by rw[isSubtype_type];kernel_rfl) ?_)
 refine wpAny_ite_split (fun hab=>absurd hab (by decide)) (fun _=>?_)
 refine wpAny_ite_split (fun _=>?_) (fun hab=>absurd (by decide+kernel) hab)
 refine wpAny_bind (wpAny_typeOf hT ?_);exact wpAny_pure h
end
def Ri (xs:Array Nat):Prop:=xs.toList.Pairwise (· < ·)
theorem Ri.lt {xs:Array Nat} (h:Ri xs) {i k:Nat} (ik:i<k) (hk:k<xs.size):xs[i]'(Nat.lt_trans ik hk)<xs[k]:=by
 have:=C3.mp h i k (by simpa using Nat.lt_trans ik hk) (by simpa using hk) ik
 simpa using this
theorem Ri.le {xs:Array Nat} (h:Ri xs) {i k:Nat} (ik:i<=k) (hk:k<xs.size):xs[i]'(Bj ik hk)<=xs[k]:=by
 rcases Nat.lt_or_eq_of_le ik with q|q
 ·exact Nat.le_of_lt (h.lt q hk)
 ·subst q;exact A7 _
theorem gz {xs:Array Nat} (hr:Ri xs) (j:Nat):∀(f lo hi:Nat),hi<=xs.size->lo<=hi->hi-lo<=f->(∀i (h:i<xs.size),i<lo->xs[i]<j)->(∀i (h:i<xs.size),hi<=i->j<=xs[i])->
  SetTable.below.go xs j f lo hi<=xs.size/\(∀i (h:i<xs.size),i<SetTable.below.go xs j f lo hi->xs[i]<j)/\(∀i (h:i<xs.size),SetTable.below.go xs j f lo hi<=i->j<=xs[i])
 |0,lo,hi,h1,h2,h3,h4,h5=>by
  have e:lo=hi:=by omega
  subst e;exact ⟨h1,h4,h5⟩
 |f+1,lo,hi,h1,h2,h3,h4,h5=>by
  unfold SetTable.below.go
  by_cases c:lo<hi
  ·rw[if_pos c];have hm:(lo+hi)/2<xs.size:=by omega
   have eg:xs.getD ((lo+hi)/2) j=xs[(lo+hi)/2]:=by simp[Array.getD,hm]
   dsimp only;rw[eg]
   by_cases c2:xs[(lo+hi)/2]<j
   ·rw[if_pos c2];exact gz hr j f _ _ h1 (by omega) (by omega) (fun i h q=>Bj (hr.le (Bm q) hm) c2) h5
   ·rw[if_neg c2];exact gz hr j f _ _ (by omega) (by omega) (by omega) h4 fun i h q=>B4 (Nat.not_lt.mp c2) (hr.le q h)
  ·rw[if_neg c];have e:lo=hi:=by omega
   subst e;exact ⟨h1,h4,h5⟩
theorem eG {xs:Array Nat} (hr:Ri xs) (j:Nat):SetTable.below xs j<=xs.size/\(∀i (h:i<xs.size),i<SetTable.below xs j->xs[i]<j)/\(∀i (h:i<xs.size),SetTable.below xs j<=i->j<=xs[i]):=
 gz hr j xs.size 0 xs.size (A7 _) (Ar _) (by omega) (fun i h q=>absurd q (Nat.not_lt_zero _)) fun i h q=>absurd h (Nat.not_lt.mpr q)
theorem oU {t:SetTable} {j:Nat} (hr:Ri t.place) (nl:t.place[SetTable.below t.place j]?≠some j):Ri (t.put j).1.place:=by
 obtain ⟨b1,b2,b3⟩:=eG hr j;show (SetTable.insertAt t.place (SetTable.below t.place j) j).toList.Pairwise (· < ·);generalize SetTable.below t.place j=p at*;have tl:(SetTable.insertAt t.place p j).toList=t.place.toList.take p++j::t.place.toList.drop p:=by
  simp[SetTable.insertAt,Aa,C4];rw[Ad (by simp)]
 rw[tl,AA];have hp:(t.place.toList.take p++t.place.toList.drop p).Pairwise (· < ·):=by rw[AL];exact hr
 rw[AA] at hp;have up:∀y∈t.place.toList.drop p,j<y:=fun y hy=>by
  obtain ⟨i,hi⟩:=Ab.mp hy;rw[BS,AT] at hi;obtain ⟨hl,rfl⟩:=Aj.mp hi;have:=b3 _ hl (Nat.le_add_right _ _);rcases Nat.lt_or_eq_of_le this with q|q
  ·exact q
  ·rcases Nat.eq_zero_or_pos i with z|z
   ·subst z;exact absurd (show t.place[p]?=some j from hi.trans (congrArg some q.symm)) nl
   ·have hpl:p<t.place.size:=by omega
    have l1:=b3 p hpl (A7 _);have l2:=hr.lt (i:=p) (k:=p+i) (by omega) hl
    omega
 refine ⟨hp.1,List.pairwise_cons.mpr ⟨up,hp.2.1⟩,fun x hx y hy=>?_⟩
 have xl:x<j:=by
  obtain ⟨i,hi⟩:=Ab.mp hx;rw[List.getElem?_take] at hi
  split at hi
  ·rename_i q;rw[AT] at hi;obtain ⟨hl,rfl⟩:=Aj.mp hi;exact b2 _ hl q
  ·cases hi
 rcases AU.mp hy with q|q
 ·rw[q];exact xl
 ·exact Nat.lt_trans xl (up y q)
theorem l9 {mask finger moves:Nat} {led plain:Bool} {hs:Array Int} {t:SetTable} {o:Array Nat} (e:SetTable.laid mask finger moves led plain hs=some (t,o)):Ri t.place:=by
 unfold SetTable.laid at e;obtain ⟨ow,_,e2⟩:=Ap.mp e;simp only[pure,Option.some.injEq,Prod.mk.injEq] at e2;rw[<-e2.1];show List.Pairwise (· < ·) _;dsimp only;rw[Ay,List.pairwise_filterMap];refine List.pairwise_lt_range.imp fun {a b} ab x hx y hy=>?_
 obtain ⟨k,_,rfl⟩:=AO.mp hx;obtain ⟨k',_,rfl⟩:=AO.mp hy;exact ab
theorem wm {prog:Program} {w:World} {y:Int} {t:Tok}:(aq prog w).is (.inl y) (.int y t)=true:=v4 (k:= .inl y) ⟨t,rfl⟩
section
variable {prog:Program} {w:World} {A:Around} {E:Cw} {s:Shared}
theorem dM {S:Addr} {es:Array (Int×Value)} {ep i slot:Nat} {t:SetTable} {Q:Option (Value×Nat)->Shared->Prop} (hS:bU s.heap S es ep t) (hb:w.params.followText "set-order" =false) (pl:t.plain=true) (ld:t.led=true)
  (h:Q (match es[SetTable.below t.place slot]?,t.place[SetTable.below t.place slot]? with|some (_,x),some j=>some (x,j+1)|_,_=>none) s):wpAny (model prog w) A (setNext S slot i ep) Q E s:=by
 unfold setNext setsByText;refine wpAny_bind (cj hS ?_);dsimp only;refine wpAny_bind (wpAny_bind (wpAny_askSetting (wpAny_pure ?_)));rw[show ((model prog w).w.params.followText "set-order")=false from hb]
 simp only[AG,if_false];have d1:(!t.plain&&decide (es.size>1))=false:=by rw[pl];rfl
 have d2:(!t.led&& !es.isEmpty)=false:=by rw[ld];rfl
 show wpAny _ _ (if (!t.plain&&decide (es.size>1))=true then _ else _) _ _ s
 rw[d1];simp only[AG,if_false];refine wpAny_bind ?_;show wpAny _ _ (if (!t.led&& !es.isEmpty)=true then _ else _) _ _ s
 rw[d2];simp only[AG,if_false];refine wpAny_pure ?_;exact wpAny_pure h
theorem below_at {xs:Array Nat} (hr:Ri xs) {i slot:Nat} (hi:i<=xs.size) (z1:i=0->slot=0) (z2:∀k,i=k+1->∃j,xs[k]?=some j/\slot=j+1):SetTable.below xs slot=i:=by
 obtain ⟨b1,b2,b3⟩:=eG hr slot;rcases Nat.eq_zero_or_pos i with e|e
 ·cases z1 e;subst e;rcases Nat.eq_zero_or_pos (SetTable.below xs 0) with q|q
  ·exact q
  ·exact absurd (b2 0 (by omega) q) (Nat.not_lt_zero _)
 ·obtain ⟨k,rfl⟩:∃k,i=k+1:=⟨i-1,by omega⟩
  obtain ⟨j,hj,rfl⟩:=z2 k rfl;obtain ⟨hk,rfl⟩:=Aj.mp hj;have l1:¬SetTable.below xs (xs[k]+1)<=k:=fun q=>by
   have:=b3 k hk q;omega
  rcases Nat.lt_or_ge (k+1) (SetTable.below xs (xs[k]+1)) with q|q
  ·have h1:k+1<xs.size:=by omega
   have h2:=b2 (k+1) h1 q;have h3:=hr.lt (i:=k) (k:=k+1) (by omega) h1
   omega
  ·omega
theorem md (hh:A.handled=none) (hb:w.params.followText "set-order" =false) (I S:Addr) (ne:S≠I) (es:Array (Int×Value)) (ep:Nat) (t:SetTable) (pl:t.plain=true) (ld:t.led=true) (ft:t.fits es.size=true) (hr:Ri t.place):
  Walks prog w A I [I,S] [I] es.size (fun i v=>∃e,es.toList[i]?=some e/\v=e.2) (fun i h=>(∃slot:Nat,(i=0->slot=0)/\(i≠0->∃j,t.place[i-1]?=some j/\slot=j+1)/\h.get? I=some (kS (.int slot 0) i S es.size ep))/\bU h S es ep t) where
 sub:=fun b hb=>by simp at hb;simp[hb]
 frame:=fun _ _ _ st hk=>⟨let ⟨sl,a,b,c⟩:=st.1;⟨sl,a,b,hk I (by simp) _ c⟩,st.2.at fun o e=>hk S (by simp) o e⟩
 item:=fun i s Q E hi st hQ=>by
  obtain ⟨⟨slot,z1,z2,hI⟩,hS⟩:=st;have pz:t.place.size=es.size:=by
   simp only[SetTable.fits,BP,beq_iff_eq] at ft;exact ft.1
  have bi:SetTable.below t.place slot=i:=below_at hr (by omega) z1 fun k hk=>by
   have:=z2 (by omega)
   rwa [show i-1=k by omega] at this
  obtain ⟨x,hx⟩:∃x,es[i]?=some x:=⟨_,AF hi⟩;obtain ⟨j,hj⟩:∃j,t.place[i]?=some j:=⟨_,AF (by omega)⟩
  refine fA (slot:=slot) (nx:=j+1) (x:=x.2) hI hS (fun A E Q q=>dM hS hb pl ld ?_) fun h' e' sb=>?_
  ·rw[bi,hx,hj];exact q
  ·exact hQ _ h' s.toks ⟨_,by rw[AT];exact hx,rfl⟩ ⟨⟨j+1,fun z=>(by omega),fun _=>⟨j,hj,rfl⟩,e'⟩,hS.at fun o e=>(sb.2 S ne).trans e⟩ fun b o hb e=>(sb.2 b fun z=>hb (by simp[z])).trans e
 done:=fun s Q E st hQ=>by
  obtain ⟨⟨slot,z1,z2,hI⟩,hS⟩:=st;have pz:t.place.size=es.size:=by
   simp only[SetTable.fits,BP,beq_iff_eq] at ft;exact ft.1
  have bi:SetTable.below t.place slot=es.size:=below_at hr (by omega) z1 fun k hk=>by
   have:=z2 (by omega)
   rwa [show es.size-1=k by omega] at this
  refine fB (slot:=slot) hh hI hS (fun A E Q q=>dM hS hb pl ld ?_) fun h' xb=>hQ h' s.toks fun b o hb e=>xb b o (fun z=>hb (by simp[z])) e
  rw[bi,Bi (A7 _)];exact q
 self:=fun i s Q E st hQ=>by
  obtain ⟨⟨slot,z1,z2,hI⟩,hS⟩:=st;have hT:s.TypeIs (.ref I) "set_iterator" :=⟨_,hI,rfl⟩;refine wpAny_pyIter_slot hT bj (wpAny_call_entry bj hT b6 ?_ (cB _));show wpAny _ _ (ret (.ref I)) _ _ s;exact wpAny_pure ⟨_,rfl,"set_iterator",_,hT,aN.lookup,hQ⟩
end
end L2
namespace Sw
open PySem L2 XH Hm
def xI:HO->Bool
 | .lst _=>true
 | .tup _=>true
 |_=>false
abbrev RA (α:Type):=(Addr->Prop)->Hp->V->α->Prop
def An:Addr->Prop:=fun _=>True
class Mv {α:Type} (R:RA α):Prop where
 mv:∀{P P':Addr->Prop} {H H':Hp} {v:V} {x:α},(∀a o,P a->xI o=true->H a=some o->P' a/\H' a=some o)->R P H v x->R P' H' v x
theorem yF {α:Type} {R:RA α} [Mv R] {P:Addr->Prop} {H H':Hp} {v:V} {x:α} (h:R P H v x) (g:au H H'):R P H' v x:=Mv.mv (fun a o p _ e=>⟨p,g a o e⟩) h
theorem yG {α:Type} {R:RA α} [Mv R] {P P':Addr->Prop} {H:Hp} {v:V} {x:α} (h:R P H v x) (g:∀a,P a->P' a):R P' H v x:=Mv.mv (fun a o p _ e=>⟨g a p,e⟩) h
theorem yH {α:Type} {R:RA α} [Mv R] {P:Addr->Prop} {H:Hp} {v:V} {x:α} {l:Addr} (h:R P H v x) (n:¬P l) (o:HO):R P (aL H l o) v x:=Mv.mv (fun a u p _ e=>⟨p,by
  have:a≠l:=fun z=>n (by rw[<-z];exact p)
  rw[am this];exact e⟩) h
def A2 {α:Type} (R:V->α->Prop) (vs:List V) (xs:List α):Prop:=vs.length=xs.length/\∀(i:Nat) (v:V) (x:α),vs[i]?=some v->xs[i]?=some x->R v x
theorem A2.imp {α:Type} {R S:V->α->Prop} {vs:List V} {xs:List α} (h:A2 R vs xs) (f:∀v x,R v x->S v x):A2 S vs xs:=⟨h.1,fun i v x e1 e2=>f v x (h.2 i v x e1 e2)⟩
theorem A2.nil {α:Type} {R:V->α->Prop}:A2 R [] ([]:List α):=⟨rfl,fun i a x e=>by simp at e⟩
theorem A2.append {α:Type} {R:V->α->Prop} {as bs:List V} {xs ys:List α} (h:A2 R as xs) (k:A2 R bs ys):A2 R (as++bs) (xs++ys):=by
 refine ⟨by simp[h.1,k.1],fun i a x e1 e2=>?_⟩
 by_cases c:i<as.length
 ·rw[A8 c] at e1;rw[A8 (by rw[<-h.1];exact c)] at e2
  exact h.2 i a x e1 e2
 ·rw[A6 (by omega)] at e1
  rw[A6 (by rw[<-h.1];omega),<-h.1] at e2
  exact k.2 _ a x e1 e2
theorem A2.one {α:Type} {R:V->α->Prop} {v:V} {x:α} (h:R v x):A2 R [v] [x]:=⟨rfl,fun i a y e1 e2=>by
 cases i with
 |zero=>simp at e1 e2;subst e1 e2;exact h
 |succ n=>simp at e1⟩
theorem A2.snoc {α:Type} {R:V->α->Prop} {vs:List V} {xs:List α} (h:A2 R vs xs) {v:V} {x:α} (r:R v x):A2 R (vs++ [v]) (xs++ [x]):=h.append (.one r)
def yo {α:Type} (R:RA α) (P:Addr->Prop) (H:Hp) (l:Addr) (xs:List α):Prop:=∃vs,H l=some (.lst vs)/\A2 (R P H) vs xs
end Sw
namespace L2
open PySem PySem.Spec PyProof.Rows XH Sw Hm
theorem uZ {J:It} {β:Type} {n:Nat} {js:List Nat} {te:TE} {σ:L2.St} {H1:Hp} {Q:VK} (R:RA β) [Mv R] (Z:Addr->Prop) (f:Nat->β) (hz:n<=sizeLine) (hZ:∀a,Z a->H1 a≠none)
  (hgo:∀i H2,au H1 H2->i<n->J.go i H2) (hst:∀H2,au H1 H2->J.stop n H2)
  (step:∀i,i<n->∀H2 x H3,au H1 H2->J.yld i H2 x H3->H3=H2/\∀Q':VK,(∀y H5,au H2 H5->R (fun a=>H2 a=none∨Z a) H5 y (f i)->Q' y H5)->te (some x::aO js σ) H2 Q')
  (fin:∀p H',H1 p=none->au H1 H'->yo R (fun a=>a≠p/\(H1 a=none∨Z a)) H' p ((Ac n).map f)->Q (.ref p) H'):jQ js te σ Q J H1:=by
 intro p hp;refine ⟨fun i m ys H2=>i<=n/\m=n-i/\au H1 H2/\H2 p=some (.lst ys)/\A2 (R (fun a=>a≠p/\(H1 a=none∨Z a)) H2) ys ((Ac i).map f),⟨n,Ar _,rfl,Sw.ao hp _,af,A2.nil⟩,?_⟩
 rintro i m ys H2 ⟨hi,rfl,g,e,r⟩;refine ⟨e,?_⟩
 by_cases hin:i<n
 ·refine .inr ⟨hgo i H2 g hin,?_,fun x H3 hy=>?_⟩
  ·have:=r.1;rw[A5,B7] at this;omega
  obtain ⟨rfl,h2⟩:=step i hin H2 x H3 g hy;refine h2 _ fun y H5 g5 ry=>⟨g5 _ _ e,n-(i+1),by omega,hin,rfl,Sw.dE (g.trans g5) hp _,af,?_⟩
  rw[List.range_succ,B0];have np:¬(p≠p/\(H1 p=none∨Z p)):=fun z=>z.1 rfl
  refine ((r.imp fun v b q=>yF q g5).snoc (yG ry fun a ha=>?_)).imp fun v b q=>yH q np _
  rcases ha with h|h
  ·exact ⟨(fun z=>by rw[z,e] at h;cases h),.inl (g.free h)⟩
  ·exact ⟨fun z=>hZ a h (z▸hp),.inr h⟩
 ·have e2:i=n:=by omega
  subst e2;exact .inl ⟨hst H2 g,fin p H2 hp g ⟨ys,e,r⟩⟩
section
variable {K:A4} {β:Type} {a:Addr} {xs:List V} {n:Nat} {js:List Nat} {tc:TT} {te:TE} {σ:L2.St} {H1:Hp} {Q:VK}
theorem sV (R:RA β) [Mv R] (Z:Addr->Prop) (f:Nat->β) (hS:aP K H1 a xs) (hz:xs.length<=sizeLine) (hZ:∀a,Z a->H1 a≠none)
  (s2:∀i x,xs[i]?=some x->∀H2,au H1 H2->∀Q':VK,(∀y H5,au H2 H5->R (fun a=>H2 a=none∨Z a) H5 y (f i)->Q' y H5)->te (some x::aO js σ) H2 Q')
  (fin:∀p H',H1 p=none->au H1 H'->yo R (fun a=>a≠p/\(H1 a=none∨Z a)) H' p ((Ac xs.length).map f)->Q (.ref p) H'):jQ js te σ Q (ur K a) H1:=by
 refine uZ R Z f hz hZ (fun i H2 g hi=>⟨xs,xs[i],g.seq hS,A0 hi⟩) (fun H2 g=>⟨xs,g.seq hS,A7 _⟩) (fun i hi H2 x H3 g hy=>?_) fin
 obtain ⟨rfl,hx⟩:=hy;exact ⟨rfl,s2 i x (hx xs (g.seq hS)) _ g⟩
end
end L2
namespace Sw
open PySem L2 XH Hm
open PySem.NumText
end Sw
namespace L2
open PySem PySem.Spec PyProof.Rows XH Sw
end L2
namespace Sw
open PySem L2 XH Hm
open PyProof.Rows So
structure wn (fs:List (Str×V)) (nm l m u s:V):Prop where
 name:fs.lookup ("name" :Str)=some nm
 least:fs.lookup ("least" :Str)=some l
 most:fs.lookup ("most" :Str)=some m
 uses:fs.lookup ("uses" :Str)=some u
 second:fs.lookup ("second" :Str)=some s
 word:fs.lookup ("word" :Str)=none
 span:fs.lookup ("span" :Str)=none
 grown:fs.lookup ("grown" :Str)=none
 way:fs.lookup ("grown_way" :Str)=none
 rounds:fs.lookup ("rounds" :Str)=none
theorem gA {nm l m u s:V}:wn (eD nm l m u s) nm l m u s:=by
 constructor
 all_goals
  first
   |exact qN (by decide+kernel)
   |(unfold eD;simp only[a6];(repeat rw[if_neg (by decide+kernel)]);simp)
theorem qT {nm l m u s f:V}:wn (warmF nm l m u s f) nm l m u s:=by
 have h:=gA (nm:=nm) (l:=l) (m:=m) (u:=u) (s:=s);have k:∀{g:Str},g≠ "fill" ->(warmF nm l m u s f).lookup g=(eD nm l m u s).lookup g:=fun {g} hg=>by
  unfold warmF;rw[a6,if_neg hg]
 exact ⟨(k (by decide+kernel)).trans h.name,(k (by decide+kernel)).trans h.least,(k (by decide+kernel)).trans h.most,(k (by decide+kernel)).trans h.uses,(k (by decide+kernel)).trans h.second,(k (by decide+kernel)).trans h.word,(k (by decide+kernel)).trans h.span,(k (by decide+kernel)).trans h.grown,(k (by decide+kernel)).trans h.way,(k (by decide+kernel)).trans h.rounds⟩
abbrev me:=Option (Int×Int×CC)
def iF (H:Hp) (s:V):me->Prop
 |none=>s= .non
 |some (x,y,vs)=>∃t l2,s= .ref t/\H t=some (.tup [.int x,.int y,.ref l2])/\H l2=some (.lst (vs.map V.ref))
def hG (H0 H:Hp) (s:V):me->Prop
 |none=>s= .non
 |some (x,y,vs)=>∃t l2,s= .ref t/\H t=some (.tup [.int x,.int y,.ref l2])/\H l2=some (.lst (vs.map V.ref))/\H0 t=none/\H0 l2=none
theorem iF.same {H H':Hp} (g:au H H') {s:V}:∀{c:me},iF H s c->iF H' s c
 |none,h=>h
 |some (_,_,_),⟨t,l2,h1,h2,h3⟩=>⟨t,l2,h1,g _ _ h2,g _ _ h3⟩
def t6 (H:Hp) (u:V) (us:CC):Prop:=(u= .non/\us= [])∨∃l,u= .ref l/\H l=some (.lst (us.map V.ref))
def fY (K:A4):Sp:=fun vs H Q _=>∃(a C dx:Addr) (nm:Str) (l m:Int) (uv sv:V) (us:CC) (c:me),vs= [.ref a,.str nm,.int l,.int m,uv,sv]/\H a=some (.ins C dx [])/\qO K C/\t6 H uv us/\iF H sv c/\
 ∀(u:Addr) (s:V) (H':Hp),Kept H H' a->u≠a->H u=none->H' u=some (.lst (us.map V.ref))->hG H H' s c->H' a=some (.ins C dx (eD (.str nm) (.int l) (.int m) (.ref u) s))->Q .non H'
def je (K:A4):Sp:=fun vs H Q _=>∃(a C dx:Addr) (nm:Str) (l m:Int) (fl uv sv:V) (us:CC) (c:me),vs= [.ref a,.str nm,.int l,.int m,fl,uv,sv]/\H a=some (.ins C dx [])/\qO K C/\aj K C "fill" /\t6 H uv us/\iF H sv c/\
 ∀(u:Addr) (s:V) (H':Hp),Kept H H' a->u≠a->H u=none->H' u=some (.lst (us.map V.ref))->hG H H' s c->H' a=some (.ins C dx (warmF (.str nm) (.int l) (.int m) (.ref u) s fl))->Q .non H'
structure Up (n l p q:Int):Prop where
 lo:l*p<=n*q
 hi:(n-1)*q<l*p
def u0 (cut:Bool) (l p q n:Int):Prop:=if cut=true then Up n l p q/\Bd 2000 n else n=l
def jg (K:A4) (cut:Bool):Sp:=fun vs H Q _=>∃(x:V) (l m p q:Int) (tf:Addr),vs= [x,.int l,.int m,.ref tf]/\bX K 210 H tf p q/\Bd 210 l/\Bd 210 m/\
 ∀(t:Addr) (H':Hp) (n k:Int),au H H'->H' t=some (.tup [.int n,.int k])->u0 cut l p q n->u0 cut m p q k->Q (.ref t) H'
def gB (K:A4):Sp:=fun vs H Q _=>∃(l p q:Int) (tf:Addr),vs= [.int l,.ref tf]/\bX K 210 H tf p q/\Bd 210 l/\∀(n:Int) (H':Hp),au H H'->u0 true l p q n->Q (.int n) H'
structure xJ (K:A4) (C fg fw fs ft:Addr) (cut:Bool):Prop where
 c:qO K C
 grown:bu K C "grown" fg
 way:bu K C "grown_way" fw
 span:bu K C "span" (if cut=true then ft else fs)
structure UL (H:Hp) (us:CC) (f:Addr->Str):Prop where
 tup:∀a∈us,∃m k:Int,H a=some (.tup [.str (f a),.int m,.int k])
 nd:(us.map f).Nodup
 sm:us.length<64
theorem UL.same {H H':Hp} {us:CC} {f:Addr->Str} (h:UL H us f) (g:au H H'):UL H' us f:=⟨fun a ha=>let ⟨m,k,e⟩:=h.tup a ha;⟨m,k,g _ _ e⟩,h.nd,h.sm⟩
structure u4 (us bs:CC) (f:Addr->Str):Prop where
 perm:bs.Perm us
 srt:sortedS (bs.map f)=true
structure du (H0 H:Hp) (t:Addr) (cut:Bool) (l m p q:Int) (us:CC) (f:Addr->Str):Prop where
 ex:∃(n k:Int) (ls:Addr) (bs:CC),H t=some (.tup [.int n,.int k,.ref ls])/\H ls=some (.lst (bs.map V.ref))/\u0 cut l p q n/\u0 cut m p q k/\u4 us bs f/\H0 ls=none
theorem du.same {H0 H H':Hp} {t:Addr} {cut:Bool} {l m p q:Int} {us:CC} {f:Addr->Str} (h:du H0 H t cut l m p q us f) (g:au H H'):du H0 H' t cut l m p q us f:=by
 obtain ⟨n,k,ls,bs,e1,e2,r⟩:=h.ex;exact ⟨n,k,ls,bs,g _ _ e1,g _ _ e2,r⟩
def qU (K:A4) (fg fw fs ft:Addr):Sp:=fun vs H Q _=>∃(x C dx lu tf:Addr) (l m p q:Int) (us:CC) (f:Addr->Str) (ff:List (Str×V)) (cut:Bool),vs= [.ref x,.int l,.int m,.ref lu,.ref tf]/\H x=some (.ins C dx ff)/\ff.lookup ("span" :Str)=none/\xJ K C fg fw fs ft cut/\
 bX K 210 H tf p q/\Bd 210 l/\Bd 210 m/\H lu=some (.lst (us.map V.ref))/\UL H us f/\∀(t:Addr) (H':Hp),au H H'->du H H' t cut l m p q us f->Q (.ref t) H'
theorem wo {l p q r s:Int} (F:Fr r s (l*p) (1*q)) (hq:0<q):Up (-((-r).fdiv s)) l p q:=by
 have c:=F.same;rw[Int.one_mul] at c;have ub:=iu (p:=r) F.pos;have sp:=F.pos;generalize-((-r).fdiv s)=n at ub⊢;refine ⟨Int.le_of_mul_le_mul_right (a:=s) ?_ sp,Int.lt_of_mul_lt_mul_right (a:=s) ?_ (Int.le_of_lt sp)⟩
 ·rw[<-c];have:=Int.mul_le_mul_of_nonneg_right ub.1 (Int.le_of_lt hq);rw[show n*q*s=n*s*q by ac_rfl]
  exact this
 ·rw[<-c];have:=Int.mul_lt_mul_of_pos_right ub.2 hq;rw[show (n-1)*q*s=(n-1)*s*q by ac_rfl]
  exact this
theorem hG.self {H0 H:Hp} {a C dx:Addr} {fs:List (Str×V)} {o:HO} {s:V} (ea:H a=some (.ins C dx fs)):∀{c:me},hG H0 H s c->hG H0 (aL H a o) s c
 |none,h=>h
 |some (_,_,_),⟨t,l2,h1,h2,h3,h4,h5⟩=>⟨t,l2,h1,by rw[am (fun z=>by rw[z,ea] at h2;cases h2)];exact h2,by rw[am (fun z=>by rw[z,ea] at h3;cases h3)];exact h3,h4,h5⟩
end Sw
namespace L2
open PySem PySem.Spec PyProof.Rows XH Sw
end L2
namespace Sw
open PySem L2 XH PyProof.Rows
structure uc (H:Hp) (x C:Addr) (nm:Str) (l m:Int) (us:CC) (c:me):Prop where
 ex:∃(dx u:Addr) (s:V) (ff:List (Str×V)),H x=some (.ins C dx ff)/\wn ff (.str nm) (.int l) (.int m) (.ref u) s/\H u=some (.lst (us.map V.ref))/\iF H s c
theorem uc.same {H H':Hp} {x C:Addr} {nm:Str} {l m:Int} {us:CC} {c:me} (h:uc H x C nm l m us c) (g:au H H'):uc H' x C nm l m us c:=by
 obtain ⟨dx,u,s,ff,e1,e2,e3,e4⟩:=h.ex;exact ⟨dx,u,s,ff,g _ _ e1,e2,g _ _ e3,e4.same g⟩
structure wp (H0 H:Hp) (x C:Addr) (nm:Str) (l m:Int) (us:CC) (c:me):Prop where
 ex:∃(dx u:Addr) (s:V) (ff:List (Str×V)),H x=some (.ins C dx ff)/\wn ff (.str nm) (.int l) (.int m) (.ref u) s/\H u=some (.lst (us.map V.ref))/\hG H0 H s c/\H0 x=none/\H0 u=none
abbrev Due:=Int×Int×CC
def gC (l m:Int) (us:CC):me->List Due
 |none=> [(l,m,us)]
 |some d=> [(l,m,us),d]
structure u5 (H0 H:Hp) (lw:Addr) (cut:Bool) (p q:Int) (ds:List Due) (f:Addr->Str):Prop where
 ex:∃ts:CC,H lw=some (.lst (ts.map V.ref))/\ts.length=ds.length/\H0 lw=none/\(∀(i:Nat) (t:Addr) (d:Due),ts[i]?=some t->ds[i]?=some d->du H0 H t cut d.1 d.2.1 p q d.2.2 f)/\
  ∀(i j:Nat) (t t':Addr) (n k n' k':Int) (ls ls':Addr),ts[i]?=some t->ts[j]?=some t'->H t=some (.tup [.int n,.int k,.ref ls])->H t'=some (.tup [.int n',.int k',.ref ls'])->ls≠lw/\(i≠j->ls≠ls')
def ku (K:A4) (fg fw fs ft:Addr):Sp:=fun vs H Q _=>∃(x C tf:Addr) (nm:Str) (l m p q:Int) (us:CC) (c:me) (f:Addr->Str) (cut:Bool),vs= [.ref x,.ref tf]/\uc H x C nm l m us c/\xJ K C fg fw fs ft cut/\bX K 210 H tf p q/\
 (∀d∈gC l m us c,Bd 210 d.1/\Bd 210 d.2.1/\UL H d.2.2 f)/\∀(lw:Addr) (H':Hp),au H H'->u5 H H' lw cut p q (gC l m us c) f->Q (.ref lw) H'
theorem du.putA {H0 H1 H3:Hp} {t b:Addr} {cut:Bool} {l m p q:Int} {us:CC} {f:Addr->Str} {o:HO} (h:du H0 H1 t cut l m p q us f) (nb:H1 b=none) (g:au H1 H3):du H0 (aL H3 b o) t cut l m p q us f:=by
 obtain ⟨n,k,ls,bs,e1,e2,r⟩:=h.ex;exact ⟨n,k,ls,bs,by rw[am (aF e1 nb)];exact g _ _ e1,by rw[am (aF e2 nb)];exact g _ _ e2,r⟩
theorem du.putB {H0 H2 H3:Hp} {t b:Addr} {cut:Bool} {l m p q:Int} {us:CC} {f:Addr->Str} {o w:HO} {zs:List V} (h:du H2 H3 t cut l m p q us f) (eb:H2 b=some w) (eb3:H3 b=some (.lst zs)) (g:au H0 H2):du H0 (aL H3 b o) t cut l m p q us f:=by
 obtain ⟨n,k,ls,bs,e1,e2,r1,r2,r3,r4⟩:=h.ex;exact ⟨n,k,ls,bs,by rw[am (fun z=>by rw[z,eb3] at e1;cases e1)];exact e1,by rw[am (fun z=>by rw[z,eb] at r4;cases r4)];exact e2,r1,r2,r3,g.free r4⟩
theorem kv {H:Hp} {x dx C:Addr} (nx:H x=none) (nd:H dx=none):au H (aL (aL H dx (.own x)) x (.ins C dx [])):=fun b o h=>by
 rw[am (aF h nx),am (aF h nd)];exact h
theorem hG.base {H0 H1 H:Hp} (g:au H0 H1) {s:V}:∀{c:me},hG H1 H s c->hG H0 H s c
 |none,h=>h
 |some (_,_,_),⟨t,l2,h1,h2,h3,h4,h5⟩=>⟨t,l2,h1,h2,h3,g.free h4,g.free h5⟩
theorem mi {H H6:Hp} {x dx C u:Addr} {nm:Str} {l m:Int} {us:CC} {c:me} {s:V} {ff:List (Str×V)} (nx:H x=none) (nd:H dx=none) (sf:wn ff (.str nm) (.int l) (.int m) (.ref u) s) (nu:(aL (aL H dx (.own x)) x (.ins C dx [])) u=none) (eu:H6 u=some (.lst (us.map V.ref))) (hs:hG (aL (aL H dx (.own x)) x (.ins C dx [])) H6 s c) (ex:H6 x=some (.ins C dx ff)):wp H H6 x C nm l m us c:=
 ⟨dx,u,s,ff,ex,sf,eu,hs.base (kv nx nd),nx,(kv nx nd).free nu⟩
theorem wp.base {H0 H1 H:Hp} {x C:Addr} {nm:Str} {l m:Int} {us:CC} {c:me} (g:au H0 H1) (h:wp H1 H x C nm l m us c):wp H0 H x C nm l m us c:=by
 obtain ⟨dx,u,s,ff,e1,e2,e3,e4,e5,e6⟩:=h.ex;exact ⟨dx,u,s,ff,e1,e2,e3,e4.base g,g.free e5,g.free e6⟩
def u6 (H:Hp) (a:Addr):Str:=match H a with|some (.tup (.str y::_))=>y|_=>Str.empty
theorem UL.later {H H':Hp} {us:CC} (h:UL H us (u6 H)) (g:au H H'):UL H' us (u6 H'):=by
 have e:∀a∈us,u6 H' a=u6 H a:=fun a ha=>by
  obtain ⟨m,k,e⟩:=h.tup a ha;unfold u6;rw[g _ _ e,e]
 refine ⟨fun a ha=>?_,?_,h.sm⟩
 ·obtain ⟨m,k,e1⟩:=h.tup a ha;exact ⟨m,k,by rw[e a ha];exact g _ _ e1⟩
 ·rw[List.map_congr_left e];exact h.nd
end Sw
namespace L2
open PySem PySem.Spec PyProof.Rows XH Sw
end L2
namespace Sw
open PySem L2 XH PyProof.Rows
end Sw
namespace L2
open PySem PySem.Spec PyProof.Rows XH Sw
end L2
namespace Sw
open PySem L2 XH Hm PySem.NumText
end Sw
namespace L2
open PySem PySem.Spec PyProof.Rows XH Sw
end L2
namespace Sw
open PySem L2 XH Hm
end Sw
namespace L2
open PySem PySem.Spec PyProof.Rows XH Sw Hm
variable {X:Cx}
theorem oV (hc:X.calm=true):cK X (.builtin "sum") (fun xs H Q=>∃(a:Addr) (ns:List Int),xs= [.ref a]/\aP X.K H a (ns.map V.int)/\Q (.int ns.sum) H):=by
 intro pins s σ H xs us Q I r h;obtain ⟨a,ns,rfl,h1,q⟩:=h;obtain ⟨u,rfl,r1⟩:=vals1 r;cases r1;obtain ⟨its,rv,p,hz⟩:=I.list h1;have hi:=nh rv;obtain ⟨xs,e⟩:=hi.allInts.items;have lst:xs.toList.map (·.1)=ns:=by
  rw[<-hi.numsOf,<-nums_intItems xs,<-e]
 refine sum_intListG (I.ok.hd hc) (xs:=xs) (by have z:=p.isList;rw[e] at z;exact z) fun h' tk t hk=>?_
 refine ⟨.int ns.sum,H,I.kept (h':=h') (t':=tk) hk,⟨t,?_⟩,q⟩;rw[preSum_eq,Ad (by simp),lst]
end L2
namespace Sw
open PySem L2 XH Hm
end Sw
namespace Su
open PySem L2
def kT:Nat->Nat->Nat
 |0,y=>y
 |n+1,y=>5*kT n y+1
theorem sW (m:Nat):∀n y,kT (m+n) y=kT m (kT n y):=by
 induction m with
 |zero=>intro n y;rw[Nat.zero_add];rfl
 |succ m ih=>intro n y;rw[show m+1+n=(m+n)+1 by omega];show 5*kT (m+n) y+1=5*kT m (kT n y)+1;rw[ih]
theorem qV (n y:Nat):4*kT n y+1=5^n*(4*y+1):=by
 induction n with
 |zero=>simp[kT]
 |succ n ih=>
  show 4*(5*kT n y+1)+1=5^n*5*(4*y+1);have:5^n*5*(4*y+1)=5*(5^n*(4*y+1)):=by rw[Nat.mul_comm (5^n) 5,BN]
  rw[this,<-ih];omega
theorem xK (k:Nat):∃c,5^(2^k)=1+2^(k+2)*(2*c+1):=by
 induction k with
 |zero=>exact ⟨0,rfl⟩
 |succ k ih=>
  obtain ⟨c,e⟩:=ih;refine ⟨c+2^k*(2*c+1)*(2*c+1),?_⟩;rw[C0,Nat.pow_mul,e,Nat.pow_two];have p3:2^(k+1+2)=8*2^k:=by rw[Nat.pow_add,C0];omega
  have p2:2^(k+2)=4*2^k:=by rw[Nat.pow_add];omega
  rw[p3,p2];generalize 2^k=a;generalize hm:2*c+1=m;have e2:2*(c+a*m*m)+1=m+2*(a*m*m):=by omega
  rw[e2];simp only[Nat.mul_add,Nat.add_mul,Nat.one_mul,Nat.mul_one];have h1:4*a*m*(4*a*m)=16*(a*(a*m*m)):=by
   simp only[BN,Nat.mul_left_comm,Nat.mul_comm]
  have h2:8*a*(2*(a*m*m))=16*(a*(a*m*m)):=by
   rw[BN,Nat.mul_left_comm a 2];omega
  rw[h1,h2];have h3:8*a*m=2*(4*a*m):=by
   rw[BN,BN];omega
  omega
theorem u7 (k y:Nat):∃c,kT (2^k) y=y+2^k*(2*c+1):=by
 obtain ⟨c,e⟩:=xK k;have h:=qV (2^k) y;rw[e] at h;have p2:2^(k+2)=4*2^k:=by rw[Nat.pow_add];omega
 rw[p2] at h;refine ⟨c*(4*y+1)+2*y,?_⟩;have e3:2*(c*(4*y+1)+2*y)+1=(2*c+1)*(4*y+1):=by
  rw[Nat.add_mul,BN];omega
 rw[e3];have h2:(1+4*2^k*(2*c+1))*(4*y+1)=(4*y+1)+4*(2^k*((2*c+1)*(4*y+1))):=by
  rw[Nat.add_mul,Nat.one_mul,BN,BN]
 rw[h2] at h;omega
theorem qW:∀(k x j:Nat),j<2^k->∃d,d<2^k/\kT d x % 2^k=j
 |0,x,j,h=>⟨0,by decide,by rw[Nat.pow_zero] at h⊢;rw[Nat.mod_one];omega⟩
 |k+1,x,j,h=>by
  have pk:0<2^k:=Nat.pow_pos (by decide)
  have ps:2^(k+1)=2^k+2^k:=by rw[C0];omega
  obtain ⟨d,hd,e⟩:=qW k x (j % 2^k) (Nat.mod_lt _ pk);obtain ⟨c,hc⟩:=u7 k (kT d x);have e2:=sW (2^k) d x;rw[hc] at e2;generalize hI:kT d x=I at*;generalize hp:2^k=p at*;rw[ps] at h⊢;have two:p+p=p*2:=by omega
  have m1:I % (p*2)=I % p+p*(I/p % 2):=Nat.mod_mul;have m2:j % (p*2)=j % p+p*(j/p % 2):=Nat.mod_mul;have jl:j % (p*2)=j:=Nat.mod_eq_of_lt (by omega)
  by_cases q:I/p % 2=j/p % 2
  ·refine ⟨d,by omega,?_⟩
   rw[hI,two,m1,q,e,<-m2,jl]
  ·refine ⟨p+d,by omega,?_⟩
   rw[e2,two];have m3:(I+p*(2*c+1)) % (p*2)=(I+p*(2*c+1)) % p+p*((I+p*(2*c+1))/p % 2):=Nat.mod_mul;rw[m3,Nat.add_mul_mod_self_left,Nat.add_mul_div_left _ _ pk,e];have:(I/p+(2*c+1)) % 2=j/p % 2:=by omega
   rw[this,<-m2,jl]
def lp (mask:Nat) (h:Int):Nat->Nat×Nat
 |0=>(SetTable.bits h % (mask+1),SetTable.bits h)
 |m+1=>SetTable.leap mask (lp mask h m).1 (lp mask h m).2
theorem qX (mask:Nat) (h:Int):∀m,(lp mask h m).2=SetTable.bits h/32^m
 |0=>by simp[lp]
 |m+1=>by
  show (lp mask h m).2/32=_;rw[qX mask h m,Nat.div_div_eq_div_mul,C0]
theorem sZ (h:Int):SetTable.bits h<2^64:=by
 unfold SetTable.bits;have h1:=Int.emod_nonneg h (show (2^64:Int)≠0 by decide)
 have h2:=Int.emod_lt_of_pos h (show (0:Int)<2^64 by decide)
 omega
theorem tj (mask:Nat) (h:Int) (d:Nat):(lp mask h (13+d)).2=0:=by
 rw[qX];refine Nat.div_eq_of_lt ?_;have b:=sZ h;have p:32^13<=32^(13+d):=Nat.pow_le_pow_right (by decide) (by omega)
 have q:(2:Nat)^64<=32^13:=by decide
 omega
theorem qY (mask:Nat) (h:Int):∀m,(lp mask h m).1<=mask
 |0=>Bm (Nat.mod_lt _ (Nat.succ_pos _))
 |m+1=>Bm (Nat.mod_lt _ (Nat.succ_pos _))
theorem ud (mask:Nat) (h:Int):∀d,(lp mask h (13+d)).1=kT d (lp mask h 13).1 % (mask+1)
 |0=>(Nat.mod_eq_of_lt (Nat.lt_succ_of_le (qY mask h 13))).symm
 |d+1=>by
  show ((lp mask h (13+d)).1*5+1+(lp mask h (13+d)).2/32) % (mask+1)=(5*kT d (lp mask h 13).1+1) % (mask+1);rw[tj,ud mask h d,Nat.zero_div,Nat.add_zero,Nat.mul_comm _ 5];rw[Nat.add_mod,Nat.mul_mod,Nat.mod_mod,<-Nat.mul_mod,<-Nat.add_mod]
theorem qZ {mask k:Nat} (hk:mask+1=2^k) (h:Int) {j:Nat} (hj:j<=mask):∃m,m<=13+mask/\(lp mask h m).1=j:=by
 obtain ⟨d,hd,e⟩:=qW k (lp mask h 13).1 j (by omega)
 exact ⟨13+d,by omega,by rw[ud,hk];exact e⟩
def nA (mask:Nat) (p:SetTable.Probe):SetTable.Probe:=
 if p.more>0 then {p with j:=p.j+1,more:=p.more-1} else
 {p with j:=(SetTable.leap mask p.i p.perturb).1,more:=SetTable.runEnd mask (SetTable.leap mask p.i p.perturb).1-(SetTable.leap mask p.i p.perturb).1,i:=(SetTable.leap mask p.i p.perturb).1,perturb:=(SetTable.leap mask p.i p.perturb).2}
theorem mj (t:SetTable) (p:SetTable.Probe):t.advance p=nA t.mask p:=rfl
def cD (mask:Nat) (h:Int):SetTable.Probe:={j:=SetTable.bits h % (mask+1),more:=SetTable.runEnd mask (SetTable.bits h % (mask+1))-SetTable.bits h % (mask+1),i:=SetTable.bits h % (mask+1),perturb:=SetTable.bits h,dummy:=none}
def br (mask:Nat) (h:Int):Nat->SetTable.Probe
 |0=>cD mask h
 |n+1=>nA mask (br mask h n)
theorem iG (mask:Nat) (h:Int):∀n,(br mask h n).dummy=none
 |0=>rfl
 |n+1=>by
  show (nA mask (br mask h n)).dummy=none;unfold nA
  split<;>exact iG mask h n
def run (mask i:Nat):Nat:=SetTable.runEnd mask i-i
theorem u8 (mask i:Nat):run mask i<=9:=by unfold run SetTable.runEnd;split<;>omega
theorem jh {mask i q:Nat} (hi:i<=mask) (hq:q<=run mask i):i+q<=mask:=by
 unfold run SetTable.runEnd at hq
 split at hq<;>omega
def at_ (mask:Nat) (l:Nat×Nat) (q:Nat):SetTable.Probe:={j:=l.1+q,more:=run mask l.1-q,i:=l.1,perturb:=l.2,dummy:=none}
theorem dD {mask:Nat} {h:Int} {n m:Nat} (e:br mask h n=at_ mask (lp mask h m) 0):∀q,q<=run mask (lp mask h m).1->br mask h (n+q)=at_ mask (lp mask h m) q
 |0,_=>e
 |q+1,hq=>by
  show nA mask (br mask h (n+q))=_;rw[dD e q (by omega)]
  unfold nA;rw[if_pos (by show run mask (lp mask h m).1-q>0;omega)]
  rfl
theorem q8 (mask:Nat) (h:Int):∀m,∃n,n<=10*m/\br mask h n=at_ mask (lp mask h m) 0
 |0=>⟨0,A7 _,rfl⟩
 |m+1=>by
  obtain ⟨n,hn,e⟩:=q8 mask h m;have r:=u8 mask (lp mask h m).1;refine ⟨n+run mask (lp mask h m).1+1,by omega,?_⟩
  show nA mask (br mask h (n+run mask (lp mask h m).1))=_;rw[dD e _ (A7 _)];unfold nA;rw[if_neg (by show ¬run mask (lp mask h m).1-run mask (lp mask h m).1>0;omega)]
  rfl
theorem tq {mask k:Nat} (hk:mask+1=2^k) (h:Int) {j:Nat} (hj:j<=mask):∃n,n<=10*(13+mask)/\(br mask h n).j=j:=by
 obtain ⟨m,hm,e⟩:=qZ hk h hj;obtain ⟨n,hn,e2⟩:=q8 mask h m;exact ⟨n,by omega,by rw[e2];show (lp mask h m).1+0=j;rw[e];rfl⟩
theorem u9 (mask:Nat) (h:Int) (n:Nat):(br mask h n).j<=mask/\∃m q,q<=run mask (lp mask h m).1/\br mask h n=at_ mask (lp mask h m) q:=by
 have:∃m q,q<=run mask (lp mask h m).1/\br mask h n=at_ mask (lp mask h m) q:=by
  induction n with
  |zero=>exact ⟨0,0,Ar _,rfl⟩
  |succ n ih=>
   obtain ⟨m,q,hq,e⟩:=ih
   by_cases c:q<run mask (lp mask h m).1
   ·refine ⟨m,q+1,c,?_⟩;show nA mask (br mask h n)=_;rw[e];unfold nA;rw[if_pos (by show run mask (lp mask h m).1-q>0;omega)]
    rfl
   ·refine ⟨m+1,0,Ar _,?_⟩;show nA mask (br mask h n)=_;rw[e];unfold nA;rw[if_neg (by show ¬run mask (lp mask h m).1-q>0;omega)]
    rfl
 obtain ⟨m,q,hq,e⟩:=this;exact ⟨by rw[e];exact jh (qY mask h m) hq,m,q,hq,e⟩
theorem least {P:Nat->Prop} (d:∀n,Decidable (P n)):∀n,P n->∃m,m<=n/\P m/\∀k,k<m->¬P k:=by
 intro n
 induction n using Nat.strongRecOn with
 |_ n ih=>
  intro h
  by_cases c:∃k,k<n/\P k
  ·obtain ⟨k,hk,pk⟩:=c;obtain ⟨m,h1,h2,h3⟩:=ih k hk pk;exact ⟨m,by omega,h2,h3⟩
  ·exact ⟨n,A7 _,h,fun k hk pk=>c ⟨k,hk,pk⟩⟩
structure Tab (hs:Array Int) (t:SetTable):Prop where
 size:t.place.size=hs.size
 dum:t.dummies= #[]
 ri:Ri t.place
 le:∀j∈t.place,j<=t.mask
 pow:∃k,t.mask+1=2^k
 few:t.place.size<=t.mask
 reach:∀(i j:Nat) (h:Int),t.place[i]?=some j->hs[i]?=some h->∃n,(br t.mask h n).j=j/\∀m,m<n->(br t.mask h m).j∈t.place
theorem dv {xs:Array Nat} (hr:Ri xs) {i j:Nat} (h:xs[i]?=some j):SetTable.below xs j=i:=by
 obtain ⟨b1,b2,b3⟩:=eG hr j;obtain ⟨hi,rfl⟩:=Aj.mp h;rcases Nat.lt_trichotomy (SetTable.below xs xs[i]) i with q|q|q
 ·have:=b3 _ (by omega) (A7 _)
  have:=hr.lt q hi;omega
 ·exact q
 ·have:=b2 i hi q;omega
theorem nB (j:Nat):SetTable.has #[] j=false:=by
 unfold SetTable.has
 rfl
variable {hs:Array Int} {t:SetTable}
theorem Tab.live (T:Tab hs t) {i j:Nat} (h:t.place[i]?=some j):t.slot j= .live i:=by
 unfold SetTable.slot;dsimp only;rw[dv T.ri h,h];simp
theorem Tab.empty (T:Tab hs t) {j:Nat} (h:j∉t.place):t.slot j= .empty:=by
 unfold SetTable.slot;dsimp only;rw[if_neg,T.dum,nB]
 ·rfl
 ·intro e;exact h (Array.mem_of_getElem? (eq_of_beq e))
theorem Tab.free (T:Tab hs t):∃j,j<=t.mask/\j∉t.place:=by
 by_cases c:∃j,j<=t.mask/\j∉t.place
 ·exact c
 ·exfalso;have sub:Ac (t.mask+1) ⊆ t.place.toList:=fun j hj=>by
   have jl:=B6.mp hj
   by_cases q:j∈t.place
   ·exact BY.mpr q
   ·exact absurd ⟨j,by omega,q⟩ c
  have:=List.nodup_range.length_le_of_subset sub;have:=T.few;simp at*;omega
theorem Tab.first (T:Tab hs t) (h:Int):∃n,n<=10*(13+t.mask)/\(br t.mask h n).j∉t.place/\∀m,m<n->(br t.mask h m).j∈t.place:=by
 obtain ⟨j,jl,jn⟩:=T.free;obtain ⟨k,hk⟩:=T.pow;obtain ⟨n,hn,e⟩:=tq hk h jl;obtain ⟨m,h1,h2,h3⟩:=least (P:=fun n=>(br t.mask h n).j∉t.place) (fun n=>inferInstance) n (by rw[e];exact jn)
 exact ⟨m,by omega,h2,fun k hk=>Decidable.not_not.mp (h3 k hk)⟩
theorem ky (T:Tab hs t) {hashAt:Nat->Int} {h:Int}:∀(f n K:Nat),n<=K->K<n+f->(∀q,n<=q->q<K->∃i,t.place[i]?=some (br t.mask h q).j/\hashAt i≠h)->(br t.mask h K).j∉t.place->SetTable.probe.go t hashAt h f (br t.mask h n)=some (.empty (br t.mask h K).j none)
 |0,n,K,h1,h2,_,_=>by omega
 |f+1,n,K,h1,h2,h3,h4=>by
  unfold SetTable.probe.go
  by_cases c:n=K
  ·subst c;rw[T.empty h4,iG]
  ·obtain ⟨i,e,ne⟩:=h3 n (A7 _) (by omega)
   rw[T.live e];dsimp only;rw[if_neg (by simpa using ne),mj]
   exact ky T f (n+1) K (by omega) (by omega) (fun q hq=>h3 q (by omega)) h4
theorem nC (T:Tab hs t) {hashAt:Nat->Int} {h:Int}:∀(f n K i:Nat),n<=K->K<n+f->(∀q,n<=q->q<K->∃i,t.place[i]?=some (br t.mask h q).j/\hashAt i≠h)->t.place[i]?=some (br t.mask h K).j->hashAt i=h->SetTable.probe.go t hashAt h f (br t.mask h n)=some (.candidate (br t.mask h K).j i (br t.mask h (K+1)))
 |0,n,K,i,h1,h2,_,_,_=>by omega
 |f+1,n,K,i,h1,h2,h3,h4,h5=>by
  unfold SetTable.probe.go
  by_cases c:n=K
  ·subst c;rw[T.live h4];dsimp only;rw[if_pos (by simpa using h5),mj]
   rfl
  ·obtain ⟨i',e,ne⟩:=h3 n (A7 _) (by omega)
   rw[T.live e];dsimp only;rw[if_neg (by simpa using ne),mj]
   exact nC T f (n+1) K i (by omega) (by omega) (fun q hq=>h3 q (by omega)) h4 h5
theorem Tab.probe (T:Tab hs t) {hashAt:Nat->Int} {h:Int} {n N:Nat} (hN:N<=10*(13+t.mask)) (nN:n<=N) (he:(br t.mask h N).j∉t.place) (hl:∀m,m<N->(br t.mask h m).j∈t.place):
  ((∀q i,n<=q->q<N->t.place[i]?=some (br t.mask h q).j->hashAt i≠h)/\t.probe hashAt h (br t.mask h n)=some (.empty (br t.mask h N).j none))∨
  ∃K i,n<=K/\K<N/\t.place[i]?=some (br t.mask h K).j/\hashAt i=h/\(∀q i,n<=q->q<K->t.place[i]?=some (br t.mask h q).j->hashAt i≠h)/\t.probe hashAt h (br t.mask h n)=some (.candidate (br t.mask h K).j i (br t.mask h (K+1))):=by
 have at_:∀q,q<N->∃i,t.place[i]?=some (br t.mask h q).j:=fun q hq=>Array.mem_iff_getElem?.mp (hl q hq)
 have fuel:N<n+10*SetTable.turns t.mask:=by unfold SetTable.turns;omega
 by_cases c:∃q,n<=q/\q<N/\∃i,t.place[i]?=some (br t.mask h q).j/\hashAt i=h
 ·obtain ⟨q,q1,q2,q3⟩:=c;obtain ⟨K,k1,⟨k2,k3,i,k4,k5⟩,k6⟩:=least (P:=fun q=>n<=q/\q<N/\∃i,t.place[i]?=some (br t.mask h q).j/\hashAt i=h) (fun _=>Classical.propDecidable _) q ⟨q1,q2,q3⟩
  have no:∀q i,n<=q->q<K->t.place[i]?=some (br t.mask h q).j->hashAt i≠h:=fun q i h1 h2 h3 h4=>k6 q h2 ⟨h1,by omega,i,h3,h4⟩
  refine .inr ⟨K,i,k2,k3,k4,k5,no,?_⟩;exact nC T _ n K i k2 (by omega) (fun q h1 h2=>let ⟨i,e⟩:=at_ q (by omega);⟨i,e,no q i h1 h2 e⟩) k4 k5
 ·have no:∀q i,n<=q->q<N->t.place[i]?=some (br t.mask h q).j->hashAt i≠h:=fun q i h1 h2 h3 h4=>c ⟨q,h1,h2,i,h3,h4⟩
  exact .inl ⟨no,ky T _ n N nN fuel (fun q h1 h2=>let ⟨i,e⟩:=at_ q h2;⟨i,e,no q i h1 h2 e⟩) he⟩
theorem ji {α:Type} {xs:Array α} {p:Nat} {x:α} (hp:p<=xs.size) (i:Nat):(SetTable.insertAt xs p x)[i]?=if i<p then xs[i]? else if i=p then some x else xs[i-1]?:=by
 have tl:(SetTable.insertAt xs p x).toList=xs.toList.take p++x::xs.toList.drop p:=by
  simp[SetTable.insertAt,Aa,C4];rw[Ad (by simp)]
 rw[<-AT,tl];have lt:(xs.toList.take p).length=p:=by rw[AN,AK];omega
 by_cases c:i<p
 ·rw[if_pos c,A8 (by omega),List.getElem?_take,if_pos c,AT]
 ·rw[if_neg c,A6 (by omega),lt]
  by_cases d:i=p
  ·rw[if_pos d,d,Nat.sub_self]
   rfl
  ·rw[if_neg d,show i-p=(i-p-1)+1 by omega,Bg,BS,AT,show p+(i-p-1)=i-1 by omega]
theorem eH {α:Type} {xs:Array α} {p:Nat} {x:α} (hp:p<=xs.size):(SetTable.insertAt xs p x).size=xs.size+1:=by
 simp[SetTable.insertAt];omega
theorem jj {α:Type} {xs:Array α} {p:Nat} {x y:α} (hp:p<=xs.size):y∈SetTable.insertAt xs p x↔y=x∨y∈xs:=by
 have tl:(SetTable.insertAt xs p x).toList=xs.toList.take p++x::xs.toList.drop p:=by
  simp[SetTable.insertAt,Aa,C4];rw[Ad (by simp)]
 rw[<-BY,tl,AI,AU,<-BY];have e:=AL p xs.toList;constructor
 ·rintro (h|h|h)
  ·exact .inr (Bu h)
  ·exact .inl h
  ·exact .inr (List.mem_of_mem_drop h)
 ·rintro (h|h)
  ·exact .inr (.inl h)
  ·rw[<-e,AI] at h;rcases h with h|h
   ·exact .inl h
   ·exact .inr (.inr h)
theorem Tab.put {hs:Array Int} {t:SetTable} (T:Tab hs t) {h:Int} {n:Nat} (he:(br t.mask h n).j∉t.place) (hl:∀m,m<n->(br t.mask h m).j∈t.place) (room:t.place.size+1<=t.mask):
  Tab (SetTable.insertAt hs (t.put (br t.mask h n).j).2 h) (t.put (br t.mask h n).j).1/\(t.put (br t.mask h n).j).2<=t.place.size:=by
 generalize hj:(br t.mask h n).j=j at he;obtain ⟨b1,b2,b3⟩:=eG T.ri j;have nl:t.place[SetTable.below t.place j]?≠some j:=fun e=>he (Array.mem_of_getElem? e)
 have ps:(t.put j).1.place=SetTable.insertAt t.place (SetTable.below t.place j) j:=rfl;have p2:(t.put j).2=SetTable.below t.place j:=rfl;have pm:(t.put j).1.mask=t.mask:=rfl;have pd:(t.put j).1.dummies= #[]:=by
  show (if SetTable.has t.dummies j=true then _ else t.dummies)= #[]
  rw[T.dum,nB]
  rfl
 have ri:=oU T.ri nl;rw[p2];generalize hp:SetTable.below t.place j=p at b1 b2 b3 nl ps;have b1':p<=hs.size:=by rw[<-T.size];exact b1
 refine ⟨⟨?_,pd,ri,?_,by rw[pm];exact T.pow,?_,?_⟩,b1⟩
 ·rw[ps,eH b1,eH b1',T.size]
 ·intro y hy;rw[ps,jj b1] at hy;rw[pm];rcases hy with rfl|hy
  ·rw[<-hj];exact (u9 t.mask h n).1
  ·exact T.le y hy
 ·rw[ps,pm,eH b1];exact room
 ·intro i k g hi hg;rw[pm,ps];rw[ps,ji b1] at hi;rw[ji b1'] at hg;have old:∀i,t.place[i]?=some k->hs[i]?=some g->∃n,(br t.mask g n).j=k/\∀m,m<n->(br t.mask g m).j∈SetTable.insertAt t.place p j:=fun i h1 h2=>by
   obtain ⟨n,e1,e2⟩:=T.reach i k g h1 h2;exact ⟨n,e1,fun m hm=>(jj b1).mpr (.inr (e2 m hm))⟩
  by_cases c:i<p
  ·rw[if_pos c] at hi hg;exact old i hi hg
  ·rw[if_neg c] at hi hg
   by_cases d:i=p
   ·rw[if_pos d] at hi hg;cases hi;cases hg;exact ⟨n,hj,fun m hm=>(jj b1).mpr (.inr (hl m hm))⟩
   ·rw[if_neg d] at hi hg;exact old _ hi hg
def pH (ow:Array (Option Nat)) (j:Nat):Prop:=∃q:Nat,ow[j]?=some (some q)
structure Ow (mask:Nat) (hs:List Int) (k:Nat) (ow:Array (Option Nat)):Prop where
 size:ow.size=mask+1
 dom:∀(j q:Nat),ow[j]?=some (some q)->q<k
 inj:∀(i j q:Nat),ow[i]?=some (some q)->ow[j]?=some (some q)->i=j
 sur:∀q,q<k->∃j:Nat,ow[j]?=some (some q)
 reach:∀(j q:Nat) (h:Int),ow[j]?=some (some q)->hs[q]?=some h->∃n,(br mask h n).j=j/\∀m,m<n->pH ow (br mask h m).j
theorem mq {mask:Nat} {ow:Array (Option Nat)} (hz:ow.size=mask+1) {j:Nat} (hj:j<=mask):ow[j]?=some none∨pH ow j:=by
 have e:=AF (xs:=ow) (i:=j) (by omega)
 cases c:ow[j]'(by omega) with
 |none=>rw[c] at e;exact .inl e
 |some q=>rw[c] at e;exact .inr ⟨q,e⟩
theorem Ow.room {mask k:Nat} {hs:List Int} {ow:Array (Option Nat)} (O:Ow mask hs k ow) (hk:k<=mask):∃j,j<=mask/\ow[j]?=some none:=by
 by_cases c:∃j,j<=mask/\ow[j]?=some none
 ·exact c
 ·exfalso;have all:∀j,j<=mask->pH ow j:=fun j hj=>(mq O.size hj).resolve_left fun e=>c ⟨j,hj,e⟩
  let f:Nat->Nat:=fun j=>((ow[j]?).getD none).getD 0
  have fe:∀j,j<=mask->ow[j]?=some (some (f j)):=fun j hj=>by
   obtain ⟨q,e⟩:=all j hj;show ow[j]?=some (some (((ow[j]?).getD none).getD 0));rw[e]
   rfl
  have nd:((Ac (mask+1)).map f).Nodup:=by
   rw[Bv,Ay];refine Bl ?_ (Bv.mp (List.nodup_range (n:=mask+1)));intro a b ha hb ne e;have h1:=fe a (Bm (B6.mp ha));have h2:=fe b (Bm (B6.mp hb));rw[e] at h1;exact ne (O.inj _ _ _ h1 h2)
  have sub:((Ac (mask+1)).map f) ⊆ Ac k:=fun y hy=>by
   obtain ⟨j,hj,rfl⟩:=AX.mp hy;exact B6.mpr (O.dom _ _ (fe j (Bm (B6.mp hj))))
  have:=nd.length_le_of_subset sub;simp at this;omega
theorem fD {ow:Array (Option Nat)} {j:Nat} (h:j<ow.size):(ow.getD j (some 0)).isNone=true↔ow[j]?=some none:=by
 rw[B8,AF h];simp
theorem nD {mask:Nat} {ow:Array (Option Nat)} {h:Int} (hz:ow.size=mask+1) {M:Nat} (hM:ow[(lp mask h M).1]?=some none):∀(f m n:Nat),m<=M->M<m+f->br mask h n=at_ mask (lp mask h m) 0->(∀q,q<n->pH ow (br mask h q).j)->
  ∃N,SetTable.layClean.free mask ow f (lp mask h m).1 (lp mask h m).2=some (br mask h N).j/\ow[(br mask h N).j]?=some none/\∀q,q<N->pH ow (br mask h q).j
 |0,m,n,h1,h2,_,_=>by omega
 |f+1,m,n,h1,h2,e,tk=>by
  unfold SetTable.layClean.free;have il:=qY mask h m;have re:SetTable.runEnd mask (lp mask h m).1+1-(lp mask h m).1=run mask (lp mask h m).1+1:=by
   unfold run SetTable.runEnd
   split<;>omega
  rw[re];cases c:(Ac (run mask (lp mask h m).1+1)).find? fun k=>(ow.getD ((lp mask h m).1+k) (some 0)).isNone with
  |some q=>
   dsimp only;have hq:=List.find?_eq_some_iff_getElem.mp c;obtain ⟨p1,i,hi,ei,lt⟩:=hq;rw[List.getElem_range] at ei;subst ei;have ql:i<=run mask (lp mask h m).1:=by
    have:i<run mask (lp mask h m).1+1:=by simpa using hi
    omega
   have pj:(br mask h (n+i)).j=(lp mask h m).1+i:=by rw[dD e i ql];rfl
   refine ⟨n+i,by rw[pj],?_,fun k hk=>?_⟩
   ·rw[pj];exact (fD (by have:=jh il ql;omega)).mp p1
   ·by_cases kn:k<n
    ·exact tk k kn
    ·obtain ⟨d,rfl⟩:∃d,k=n+d:=⟨k-n,by omega⟩
     have dl:d<=run mask (lp mask h m).1:=by omega
     have nf:=lt d (by omega)
     rw[List.getElem_range] at nf;rw[dD e d dl];have le:(lp mask h m).1+d<=mask:=jh il dl;refine (mq hz le).resolve_left fun z=>?_
     rw[(fD (by omega)).mpr z] at nf
     cases nf
  |none=>
   dsimp only;have none_:=List.find?_eq_none.mp c;have taken:∀d,d<=run mask (lp mask h m).1->pH ow ((lp mask h m).1+d):=fun d dl=>by
    have le:(lp mask h m).1+d<=mask:=jh il dl;refine (mq hz le).resolve_left fun z=>?_
    exact none_ d (B6.mpr (by omega)) ((fD (by omega)).mpr z)
   have mM:m≠M:=fun z=>by
    subst z;obtain ⟨q,e0⟩:=taken 0 (Ar _);rw[Nat.add_zero,hM] at e0;cases e0
   refine nD hz hM f (m+1) (n+run mask (lp mask h m).1+1) (by omega) (by omega) ?_ fun q hq=>?_
   ·show nA mask (br mask h (n+run mask (lp mask h m).1))=_;rw[dD e _ (A7 _)];unfold nA;rw[if_neg (by show ¬run mask (lp mask h m).1-run mask (lp mask h m).1>0;omega)]
    rfl
   ·by_cases kn:q<n
    ·exact tk q kn
    ·obtain ⟨d,rfl⟩:∃d,q=n+d:=⟨q-n,by omega⟩
     rw[dD e d (by omega)]
     exact taken d (by omega)
theorem tw {mask k:Nat} {ow:Array (Option Nat)} {h:Int} (hk:mask+1=2^k) (hz:ow.size=mask+1) {j:Nat} (hj:j<=mask) (hf:ow[j]?=some none):
  ∃N,SetTable.layClean.free mask ow (SetTable.turns mask) (SetTable.bits h % (mask+1)) (SetTable.bits h)=some (br mask h N).j/\ow[(br mask h N).j]?=some none/\∀q,q<N->pH ow (br mask h q).j:=by
 obtain ⟨M,hM,e⟩:=qZ hk h hj;exact nD (M:=M) hz (by rw[e];exact hf) (SetTable.turns mask) 0 0 (Ar _) (by unfold SetTable.turns;omega) rfl fun q hq=>absurd hq (Nat.not_lt_zero _)
theorem Ow.step {mask k:Nat} {hs:List Int} {ow:Array (Option Nat)} {h:Int} {N:Nat} (O:Ow mask hs k ow) (hk:hs[k]?=some h) (hf:ow[(br mask h N).j]?=some none) (tk:∀q,q<N->pH ow (br mask h q).j):Ow mask hs (k+1) (ow.setIfInBounds (br mask h N).j (some k)):=by
 have jl:=(Aj.mp hf).1;have at_:∀i:Nat,(ow.setIfInBounds (br mask h N).j (some k))[i]?=if (br mask h N).j=i then some (some k) else ow[i]?:=fun i=>by
  rw[Array.getElem?_setIfInBounds]
  by_cases c:(br mask h N).j=i
  ·rw[if_pos c,if_pos c,if_pos (c▸jl)]
  ·rw[if_neg c,if_neg c]
 have up:∀j,pH ow j->pH (ow.setIfInBounds (br mask h N).j (some k)) j:=fun j ⟨q,e⟩=>by
  unfold pH;rw[at_]
  by_cases c:(br mask h N).j=j
  ·exact ⟨k,if_pos c⟩
  ·exact ⟨q,(if_neg c).trans e⟩
 refine ⟨by rw[Array.size_setIfInBounds];exact O.size,fun j q e=>?_,fun i j q e1 e2=>?_,fun q hq=>?_,fun j q g e hg=>?_⟩
 ·rw[at_] at e
  split at e
  ·cases e;omega
  ·have:=O.dom j q e;omega
 ·rw[at_] at e1 e2
  split at e1
  ·rename_i c1
   split at e2
   ·rename_i c2;exact c1.symm.trans c2
   ·cases e1;have:=O.dom j _ e2;omega
  ·split at e2
   ·cases e2;have:=O.dom i _ e1;omega
   ·exact O.inj i j q e1 e2
 ·by_cases c:q=k
  ·exact ⟨(br mask h N).j,by rw[at_,if_pos rfl,c]⟩
  ·obtain ⟨j,e⟩:=O.sur q (by omega)
   refine ⟨j,?_⟩;rw[at_,if_neg (fun z=>by rw[z] at hf;rw[hf] at e;cases e)]
   exact e
 ·rw[at_] at e
  split at e
  ·rename_i c;cases e;rw[hk] at hg;cases hg;exact ⟨N,c,fun m hm=>up _ (tk m hm)⟩
  ·obtain ⟨n,e1,e2⟩:=O.reach j q g e hg;exact ⟨n,e1,fun m hm=>up _ (e2 m hm)⟩
theorem kz {mask k:Nat} {hs:List Int} (hk:mask+1=2^k) (few:hs.length<=mask):∀(rest:List Int) (q:Nat) (ow:Array (Option Nat)),(∀i,rest[i]?=hs[q+i]?)->Ow mask hs q ow->q+rest.length=hs.length->
  ∃ow',rest.foldl (fun acc h=>acc.bind fun (a:Array (Option Nat)×Nat)=>(SetTable.layClean.free mask a.1 (SetTable.turns mask) (SetTable.bits h % (mask+1)) (SetTable.bits h)).bind fun j=>some (a.1.setIfInBounds j (some a.2),a.2+1)) (some (ow,q))=some (ow',hs.length)/\Ow mask hs hs.length ow'
 | [],q,ow,_,O,hl=>by
  have:q=hs.length:=by simpa using hl
  subst this;exact ⟨ow,rfl,O⟩
 |h::rest,q,ow,hr,O,hl=>by
  have hl':q+(rest.length+1)=hs.length:=by simpa using hl
  obtain ⟨j,jl,jf⟩:=O.room (by omega)
  obtain ⟨N,e1,e2,e3⟩:=tw hk O.size jl jf (h:=h);have hq:hs[q]?=some h:=by have:=hr 0;simpa using this.symm
  rw[List.foldl_cons];simp only[Option.bind_some,e1];exact kz hk few rest (q+1) _ (fun i=>by have:=hr (i+1);rw[Bg] at this;rw[this];congr 1;omega) (O.step hq e2 e3) (by omega)
theorem va {mask k:Nat} {hs:Array Int} (hk:mask+1=2^k) (few:hs.size<=mask):∃ow,SetTable.layClean mask hs=some ow/\Ow mask hs.toList hs.size ow:=by
 have O0:Ow mask hs.toList 0 (Array.replicate (mask+1) none):=by
  have rep:∀(j q:Nat),(Array.replicate (mask+1) (none:Option Nat))[j]?≠some (some q):=fun j q e=>by
   rw[Array.getElem?_replicate] at e
   split at e<;>cases e
  exact ⟨by simp,fun j q e=>absurd e (rep j q),fun i j q e=>absurd e (rep i q),fun q hq=>absurd hq (Nat.not_lt_zero _),fun j q h e=>absurd e (rep j q)⟩
 obtain ⟨ow,e,O⟩:=kz hk (hs:=hs.toList) (by simpa using few) hs.toList 0 _ (fun i=>by rw[Nat.zero_add]) O0 (by simp)
 rw[AK] at O e;refine ⟨ow,?_,O⟩;unfold SetTable.layClean;rw[<-Array.foldl_toList];show Option.map _ (List.foldl (fun acc h=>acc.bind fun (a:Array (Option Nat)×Nat)=>(SetTable.layClean.free mask a.1 (SetTable.turns mask) (SetTable.bits h % (mask+1)) (SetTable.bits h)).bind fun j=>some (a.1.setIfInBounds j (some a.2),a.2+1)) (some (Array.replicate (mask+1) none,0)) hs.toList)=_
 rw[e]
 rfl
def df (mask:Nat) (ow:Array (Option Nat)):List (Nat×Nat):=(Ac (mask+1)).filterMap fun j=>(ow.getD j none).map (j,·)
theorem cI {mask k:Nat} {hs:List Int} {ow:Array (Option Nat)} (O:Ow mask hs k ow) {x:Nat×Nat}:x∈df mask ow↔ow[x.1]?=some (some x.2):=by
 unfold df;rw[List.mem_filterMap];constructor
 ·rintro ⟨j,hj,e⟩;obtain ⟨q,e1,rfl⟩:=AO.mp e;have jl:j<ow.size:=by rw[O.size];exact B6.mp hj
  rw[B8,AF jl] at e1;show ow[j]?=some (some q);rw[AF jl];exact congrArg some e1
 ·intro e;have jl:=(Aj.mp e).1;refine ⟨x.1,B6.mpr (by rw[<-O.size];exact jl),?_⟩
  rw[B8,e]
  rfl
theorem mw {mask k:Nat} {hs:List Int} {ow:Array (Option Nat)} (O:Ow mask hs k ow):((df mask ow).map (·.2)).Nodup:=by
 rw[Bv,Ay];have pw:(df mask ow).Pairwise fun a b=>a.1<b.1:=by
  unfold df;rw[List.pairwise_filterMap];refine List.pairwise_lt_range.imp fun {a b} ab x hx y hy=>?_
  obtain ⟨k,_,rfl⟩:=AO.mp hx;obtain ⟨k',_,rfl⟩:=AO.mp hy;exact ab
 refine Bl ?_ pw;intro a b ha hb lt e;have h1:=(cI O).mp ha;have h2:=(cI O).mp hb;rw[e] at h1;have:=O.inj _ _ _ h1 h2;omega
theorem oW {mask k:Nat} {hs:List Int} {ow:Array (Option Nat)} (O:Ow mask hs k ow):((df mask ow).map (·.2)).Perm (Ac k):=by
 refine (List.perm_ext_iff_of_nodup (mw O) List.nodup_range).mpr fun q=>?_
 rw[B6,AX];constructor
 ·rintro ⟨x,hx,rfl⟩;exact O.dom _ _ ((cI O).mp hx)
 ·intro hq;obtain ⟨j,e⟩:=O.sur q hq;exact ⟨(j,q),(cI O).mpr e,rfl⟩
theorem tD {mask k finger moves:Nat} {led plain:Bool} {hs:Array Int} (hk:mask+1=2^k) (few:hs.size<=mask):
  ∃t order,SetTable.laid mask finger moves led plain hs=some (t,order)/\order.toList.Perm (Ac hs.size)/\Tab (order.map fun q=>hs.getD q 0) t/\t.mask=mask/\t.led=led/\t.plain=plain:=by
 obtain ⟨ow,e,O⟩:=va hk few;have el:SetTable.laid mask finger moves led plain hs=some ({mask,place:=((df mask ow).map (·.1)).toArray,dummies:= #[],finger,led,moves,plain},((df mask ow).map (·.2)).toArray):=by
  unfold SetTable.laid;rw[e]
  rfl
 have pm:=oW O;have lenL:(df mask ow).length=hs.size:=by have:=pm.length_eq;simpa using this
 have mp:∀j,j∈((df mask ow).map (·.1)).toArray↔pH ow j:=fun j=>by
  rw[List.mem_toArray,AX];constructor
  ·rintro ⟨x,hx,rfl⟩;exact ⟨x.2,(cI O).mp hx⟩
  ·rintro ⟨q,e⟩;exact ⟨(j,q),(cI O).mpr e,rfl⟩
 refine ⟨_,_,el,by simpa using pm,⟨?_,rfl,l9 el,?_,⟨k,hk⟩,?_,?_⟩,rfl,rfl,rfl⟩
 ·simp
 ·intro j hj;obtain ⟨q,e⟩:=(mp j).mp hj;have:=(Aj.mp e).1;have:=O.size;show j<=mask;omega
 ·show ((df mask ow).map (·.1)).toArray.size<=mask;simp;omega
 ·intro i j h hi hh;change ((df mask ow).map (·.1)).toArray[i]?=some j at hi;rw[List.getElem?_toArray,A9] at hi;obtain ⟨x,hx,rfl⟩:=AO.mp hi;rw[Bh,List.getElem?_toArray,A9,hx] at hh;have hq:=(cI O).mp (AR hx);have ql:=O.dom _ _ hq;have hs':hs.toList[x.2]?=some h:=by
   rw[AT,AF ql];have:some (hs.getD x.2 0)=some h:=hh;rw[B8,AF ql] at this;exact this
  obtain ⟨n,e1,e2⟩:=O.reach _ _ _ hq hs';exact ⟨n,e1,fun m hm=>(mp _).mpr (e2 m hm)⟩
theorem kA (w:Nat):∀(f k size:Nat),size=2^k->w<size*2^f->∃k',SetTable.sizeAbove.go w f size=2^k'/\w<SetTable.sizeAbove.go w f size/\SetTable.sizeAbove.go w f size<=max size (2*w)
 |0,k,size,e,h=>⟨k,e,by simpa [SetTable.sizeAbove.go] using h,by unfold SetTable.sizeAbove.go;omega⟩
 |f+1,k,size,e,h=>by
  unfold SetTable.sizeAbove.go
  by_cases c:size<=w
  ·rw[if_pos c];obtain ⟨k',h1,h2,h3⟩:=kA w f (k+1) (size*2) (by rw[e,C0]) (by rw[C0] at h;rw[BN,Nat.mul_comm 2];exact h)
   exact ⟨k',h1,h2,by omega⟩
  ·rw[if_neg c];exact ⟨k,e,by omega,by omega⟩
theorem kB {w:Nat} (h:w<2^60):∃k,SetTable.sizeAbove w=2^k/\w<SetTable.sizeAbove w/\SetTable.sizeAbove w<=max 8 (2*w):=by
 refine kA w 64 3 8 rfl ?_;have:(2:Nat)^60<=8*2^64:=by decide
 omega
theorem gD (w:Nat):∀(f size:Nat),size<=SetTable.sizeAbove.go w f size
 |0,size=>A7 _
 |f+1,size=>by
  unfold SetTable.sizeAbove.go
  split
  ·have:=gD w f (size*2);omega
  ·exact A7 _
theorem oX {t:SetTable} {hs:Array Int} {w:Nat} (h:w<2^60) (few:hs.size<w):
  ∃t' order,t.relaid hs w=some (t',order)/\order.toList.Perm (Ac hs.size)/\Tab (order.map fun q=>hs.getD q 0) t'/\w<=t'.mask/\7<=t'.mask/\t'.led=t.led/\t'.plain=t.plain:=by
 obtain ⟨k,e,l,_⟩:=kB h;have g:=gD w 64 8;obtain ⟨t',order,h1,h2,h3,h4,h5,h6⟩:=tD (mask:=SetTable.sizeAbove w-1) (k:=k) (finger:=t.finger) (moves:=t.movedTo (SetTable.sizeAbove w-1)) (led:=t.led) (plain:=t.plain) (hs:=hs) (by omega) (by omega)
 exact ⟨t',order,h1,h2,h3,by omega,by rw[h4];unfold SetTable.sizeAbove;omega,h5,h6⟩
open PySem.Spec PyProof.Rows XH
abbrev Kx:=List Key×Addr
def vb (prog:Program) (w:World) (x:Kx):Int×Value:=(tupleKeyHash (aq prog w) x.1,.ref x.2)
def jk (m:Nat):Prop:=m=7∨m=31∨m=127∨m=511∨m=2047∨m=8191
structure jm (prog:Program) (w:World) (h:Heap) (S:Addr) (xs:List Kx) (o:Obj) (es:Array (Int×Value)) (ep:Nat) (t:SetTable):Prop where
 ho:h.get? S=some o
 hex:o.ExactSet
 hd:o.data= .set es ep t
 el:es.toList=xs.map (vb prog w)
 key:∀x∈xs,IsTupleKey (aq prog w) h x.1 x.2
 nd:(xs.map fun x=>x.1).Nodup
 tab:Tab (es.map fun e=>e.1) t
 few:t.place.size*5<t.mask*3
 big:7<=t.mask
 cap:t.mask<=8191
 msk:jk t.mask
 ld:w.params.followText "set-order" =false->t.led=true
section
variable {prog:Program} {w:World} {A:Around} {E:Cw} {s:Shared} {S:Addr} {xs:List Kx} {o:Obj} {es:Array (Int×Value)} {ep:Nat}
theorem jm.size (T:jm prog w s.heap S xs o es ep t):es.size=xs.length:=by rw[<-AK,T.el,A5]
theorem jm.fits (T:jm prog w s.heap S xs o es ep t):t.fits es.size=true:=by
 have h1:=T.tab.size;have h2:=T.tab.few;have h3:=T.tab.dum;rw[Az] at h1;simp[SetTable.fits,SetTable.fill,h3,h1];omega
theorem jm.odd (T:jm prog w s.heap S xs o es ep t):t.gaveWay=false:=by
 obtain ⟨k,hk⟩:=T.tab.pow;have b:=T.big;unfold SetTable.gaveWay;cases k with
 |zero=>rw[Nat.pow_zero] at hk;omega
 |succ k=>
  rw[C0] at hk;have:t.mask % 2=1:=by omega
  rw[this]
  rfl
theorem jm.at_ (T:jm prog w s.heap S xs o es ep t) {i:Nat} {x:Kx} (h:xs[i]?=some x):es[i]?=some (vb prog w x):=by
 rw[<-AT,T.el,A9,h]
 rfl
theorem jm.of (T:jm prog w s.heap S xs o es ep t) {i j:Nat} (h:t.place[i]?=some j):∃x,xs[i]?=some x:=by
 have il:=(Aj.mp h).1;have h1:=T.tab.size;rw[Az,T.size] at h1;exact ⟨_,A0 (by omega)⟩
theorem oY (T:jm prog w s.heap S xs o es ep t) {i i' j:Nat} (h:t.place[i]?=some j) (h':t.place[i']?=some j):i=i':=(dv T.tab.ri h).symm.trans (dv T.tab.ri h')
theorem kC {a:Addr} {ks:List Key} {Q:Bool->Shared->Prop} (hk:IsTupleKey (aq prog w) s.heap ks a) (h:Q false s):wpAny (model prog w) A (ofAClassStatement 8 (.ref a)) Q E s:=by
 have hT:=hk.typeIs;obtain ⟨ob,items,n,ho,_,hd,hi⟩:=hk;unfold ofAClassStatement;refine wpAny_bind (wpAny_typeOf (T:= "tuple") hT ?_);dsimp only;simp only[show (("tuple" :String)== "tuple")=true from rfl,if_true]
 refine wpAny_bind (wpAny_pure ?_);simp only[B1,AG,if_false];refine wpAny_bind (wpAny_seqItems ho hd ?_);dsimp only;refine wpAny_bind ?_;show wpAny _ _ (forIn items _ _) _ _ s;rw[<-Array.forIn_toList];refine wpAny_forIn_list _ (fun rest r s'=>r.1=none/\s'=s/\∀v∈rest,carriedByValue v=true) _ ?_ ?_ _ _ ⟨rfl,rfl,hi.byValue⟩
 ·rintro v rest r s' ⟨hr,rfl,hall⟩;have cv:=hall v Ae;have e:ofAClassStatement 7 v=pure false:=by
   cases v with
   |ref a=>simp[carriedByValue] at cv
   |_=>first|rfl|(unfold ofAClassStatement;rfl)
  rw[e];refine wpAny_bind (wpAny_pure ?_);simp only[AG,if_false];exact wpAny_pure ⟨rfl,rfl,fun u hu'=>hall u (AM _ hu')⟩
 ·rintro ⟨r1,r2⟩ s' ⟨hr,rfl,_⟩;simp only at hr;subst hr;exact wpAny_pure h
theorem q9 {a:Addr} {ks:List Key} {Q:Bool->Shared->Prop} (hk:IsTupleKey (aq prog w) s.heap ks a) (h:Q false s):∀(l:CD),(∀v∈l,∃b kb,v= .ref b/\IsTupleKey (aq prog w) s.heap kb b)->wpAny (model prog w) A (searchCouldBeSeen (.ref a) l) Q E s:=by
 intro l hl;unfold searchCouldBeSeen;refine wpAny_bind ?_;refine wpAny_forIn_list _ (fun rest r s'=>r.1=none/\s'=s/\∀v∈rest,∃b kb,v= .ref b/\IsTupleKey (aq prog w) s.heap kb b) _ ?_ ?_ _ _ ⟨rfl,rfl,hl⟩
 ·rintro v rest r s' ⟨hr,rfl,hall⟩;obtain ⟨b,kb,rfl,hb⟩:=hall v Ae;have nx:(none:Option Bool)=none/\s'=s'/\∀v∈rest,∃b kb,v= .ref b/\IsTupleKey (aq prog w) s'.heap kb b:=⟨rfl,rfl,fun u hu'=>hall u (AM _ hu')⟩
  dsimp only
  split
  ·exact wpAny_pure nx
  ·refine wpAny_bind (wpAny_eqIsQuiet_tuple hk ?_);simp only[B1,AG,if_false];refine wpAny_bind (wpAny_eqIsQuiet_tuple hb ?_);simp only[B1,AG,if_false];refine wpAny_bind (kC hk ?_);simp only[AG,if_false];refine wpAny_bind (kC hb ?_);simp only[AG,if_false];exact wpAny_pure nx
 ·rintro ⟨r1,r2⟩ s' ⟨hr,rfl,_⟩;simp only at hr;subst hr;exact wpAny_pure h
theorem iH (hu:A.units<cLine) (T:jm prog w s.heap S xs o es ep t) {a:Addr} {ks:List Key} (hk:IsTupleKey (aq prog w) s.heap ks a) {N:Nat} (hN:N<=10*(13+t.mask)) (he:(br t.mask (tupleKeyHash (aq prog w) ks) N).j∉t.place)
  (hl:∀m,m<N->(br t.mask (tupleKeyHash (aq prog w) ks) m).j∈t.place) {Q:SetFound->Shared->Prop} (q1:ks∈xs.map (fun x=>x.1)->Q (.there none) s) (q2:ks∉xs.map (fun x=>x.1)->Q (.free (br t.mask (tupleKeyHash (aq prog w) ks) N).j false) s):
  ∀(f n:Nat) (stand:Option SetTable.Probe),stand.getD (t.probeStart (tupleKeyHash (aq prog w) ks))=br t.mask (tupleKeyHash (aq prog w) ks) n->n<=N->N-n<f->
   (∀(q i:Nat) (x:Kx),q<n->t.place[i]?=some (br t.mask (tupleKeyHash (aq prog w) ks) q).j->xs[i]?=some x->x.1≠ks)->wpAny (model prog w) A (setSearchFrom S (.ref a) (tupleKeyHash (aq prog w) ks) true f stand) Q E s
 |0,n,stand,_,_,h,_=>by omega
 |f+1,n,stand,hs,nN,hf,past=>by
  unfold setSearchFrom;refine wpAny_bind (wpAny_setState_of T.ho T.hd T.fits ?_);dsimp only;rw[T.odd];simp only[AG,if_false];rw[hs];have hash_at:∀(i:Nat) (x:Kx),xs[i]?=some x->(es[i]?.map fun e=>e.1).getD 0=tupleKeyHash (aq prog w) x.1:=fun i x hx=>by rw[T.at_ hx];rfl
  generalize hg:t.probe _ (tupleKeyHash (aq prog w) ks) (br t.mask (tupleKeyHash (aq prog w) ks) n)=r;rcases T.tab.probe (hashAt:=fun i:Nat=>(es[i]?.map fun e=>e.1).getD 0) hN nN he hl with ⟨no,e⟩|⟨K,i,nK,KN,pK,hK,no,e⟩
  ·have er:=hg.symm.trans e;subst er;dsimp only;refine wpAny_pure (q2 fun m=>?_)
   obtain ⟨x,hx,rfl⟩:=AX.mp m;obtain ⟨i,hi⟩:=Ab.mp hx;have il:i<t.place.size:=by
    have h1:=T.tab.size;rw[Az,T.size] at h1;have:=(A3.mp hi).1;omega
   have pi:=AF il;obtain ⟨n0,e1,e2⟩:=T.tab.reach i _ (tupleKeyHash (aq prog w) x.1) pi (by rw[Bh,T.at_ hi];rfl)
   have n0N:n0<N:=by
    rcases Nat.lt_trichotomy n0 N with z|z|z
    ·exact z
    ·subst z;rw[e1] at he;exact absurd (Array.mem_of_getElem? pi) he
    ·exact absurd (e2 N z) he
   have pn:t.place[i]?=some (br t.mask (tupleKeyHash (aq prog w) x.1) n0).j:=by rw[e1];exact pi
   by_cases c:n0<n
   ·exact past n0 i x c pn hi rfl
   ·exact no n0 i (by omega) n0N pn (hash_at i x hi)
  ·have er:=hg.symm.trans e;subst er;dsimp only;obtain ⟨x,hx⟩:=T.of pK;have kx:=T.key x (AR hx);have rest:wpAny (model prog w) A (do
     let some (_,y):=es[i]?|unsupported "internal:set-entry"
     let equal<-holding [y] (eqBool y (.ref a))
     let (es',_,t')<-setState S
     if true&&equal then return .there none
     let some same:=t'.sameMemory t.moves t.mask|unsupported "set.changed-during-lookup:is-the-new-block-at-the-old-address"
     let still<-match (if same then t'.slot (br t.mask (tupleKeyHash (aq prog w) ks) K).j else .empty) with
      | .live i'=>match es'[i']? with
       |some (_,y')=>do pure (if<-isSame y' y then some i' else none)
       |none=>pure none
      |_=>pure none
     match still with
     |none=>rule "set.search.anew";setSearchFrom S (.ref a) (tupleKeyHash (aq prog w) ks) true f none
     |some i'=>if equal then return .there (some i') else setSearchFrom S (.ref a) (tupleKeyHash (aq prog w) ks) true f (some (br t.mask (tupleKeyHash (aq prog w) ks) (K+1)))) Q E s:=by
    rw[T.at_ hx];dsimp only[vb];refine wpAny_bind (wpAny_holding (wpAny_eqBool_tuple hu kx hk ?_));refine wpAny_bind (wpAny_setState_of T.ho T.hd T.fits ?_);dsimp only
    by_cases c:x.1=ks
    ·rw[decide_eq_true c];simp only[Bool.and_self,if_true];exact wpAny_pure (q1 (AX.mpr ⟨x,AR hx,c⟩))
    ·rw[decide_eq_false c];simp only[BR,AG,if_false];have sm:t.sameMemory t.moves t.mask=some true:=by unfold SetTable.sameMemory;simp
     rw[sm];dsimp only;simp only[if_true];rw[T.tab.live pK];dsimp only;rw[T.at_ hx];dsimp only[vb];refine wpAny_bind ?_;show wpAny _ _ (if (x.2==x.2)=true then _ else _) _ _ s
     rw[if_pos (beq_self_eq_true _)];refine wpAny_pure ?_;simp only[if_true];refine wpAny_bind (wpAny_pure ?_);dsimp only;refine iH hu T hk hN he hl q1 q2 f (K+1) _ rfl (by omega) (by omega) fun q i' x' hq hp hx'=>?_
     by_cases c1:q<n
     ·exact past q i' x' c1 hp hx'
     ·by_cases c2:q<K
      ·intro z;refine no q i' (by omega) c2 hp ?_
       show (es[i']?.map fun e=>e.1).getD 0=_
       rw[hash_at i' x' hx',z]
      ·have:q=K:=by omega
       subst this;have:=oY T hp pK;subst this;rw[hx] at hx';cases hx';exact c
   cases ld:t.led with
   |true=>
    simp only[B1,AG,if_false];exact rest
   |false=>
    simp only[Be,if_true];refine wpAny_bind (q9 hk ?_ _ fun v hv=>?_)
    ·simp only[AG,if_false];exact rest
    ·obtain ⟨e1,he1,rfl⟩:=AX.mp hv;have:=Array.mem_filter.mp (BY.mp he1);have:=BY.mpr this.1;rw[T.el] at this;obtain ⟨x',hx',rfl⟩:=AX.mp this;exact ⟨x'.2,x'.1,rfl,T.key x' hx'⟩
end
open Classical in
noncomputable def dH (xs:List Kx) (x:Kx):List Kx:=if x.1∈xs.map (fun y=>y.1) then xs else xs++ [x]
theorem mB {α:Type} (xs:List α):(Ac xs.length).filterMap (fun q=>xs[q]?)=xs:=by
 induction xs with
 |nil=>rfl
 |cons x xs ih=>
  rw[Ah,List.range_succ_eq_map,BL,List.filterMap_map];show x::List.filterMap (fun q=>xs[q]?) _=_
  rw[ih]
theorem kD {α β:Type} {f:α->β} {d:β} {xs:Array α}:∀{l:List Nat},(∀q∈l,q<xs.size)->(l.filterMap fun q=>xs[q]?).map f=l.map fun q=>(xs.map f).getD q d
 | [],_=>rfl
 |q::l,h=>by
  have ql:=h q Ae;rw[BL,AF ql];show f xs[q]::_=_;rw[kD fun k hk=>h k (AM _ hk),Ai,B8,Bh,AF ql]
  rfl
section
variable {prog:Program} {w:World} {A:Around} {E:Cw} {s:Shared} {S:Addr} {xs:List Kx} {o:Obj} {es:Array (Int×Value)} {ep:Nat}
theorem yI {a:Addr} {ks:List Key} {Q:Bool->Shared->Prop} (hk:IsTupleKey (aq prog w) s.heap ks a) (h:∀b,Q b s):wpAny (model prog w) A (hashByValue 8 (.ref a)) Q E s:=by
 have hT:=hk.typeIs;obtain ⟨ob,items,n,ho,_,hd,hi⟩:=hk;unfold hashByValue;refine wpAny_bind (wpAny_specialOf hT F.slot_tuple_hash.lookup ?_);show wpAny _ _ (seqItems? (.ref a)>>=_) _ _ s;refine wpAny_bind (wpAny_seqItems ho hd ?_);dsimp only;refine wpAny_bind ?_;show wpAny _ _ (forIn items _ _) _ _ s;rw[<-Array.forIn_toList];refine wpAny_forIn_list _ (fun rest r s'=>r.1=none/\s'=s/\∀v∈rest,carriedByValue v=true) _ ?_ ?_ _ _ ⟨rfl,rfl,hi.byValue⟩
 ·rintro v rest r s' ⟨hr,rfl,hall⟩;have cv:=hall v Ae;have e:∃b,hashByValue 7 v=pure b:=by
   cases v with
   |ref a=>simp[carriedByValue] at cv
   |_=>exact ⟨_,by first|rfl|(unfold hashByValue;rfl)⟩
  obtain ⟨b,e⟩:=e;rw[e];refine wpAny_bind (wpAny_pure ?_);cases b with
  |true=>
   simp only[B1,AG,if_false];exact wpAny_pure ⟨rfl,rfl,fun u hu'=>hall u (AM _ hu')⟩
  |false=>
   simp only[Be,if_true];exact wpAny_pure (wpAny_pure (h false))
 ·rintro ⟨r1,r2⟩ s' ⟨hr,rfl,_⟩;simp only at hr;subst hr;exact wpAny_pure (h true)
theorem gE {h h':Heap} {ks:List Key} {a:Addr} (hk:IsTupleKey (aq prog w) h ks a) (ho:h.get? S=some o) (hd:o.data= .set es ep t) (sb:Heap.SameBut S h h'):IsTupleKey (aq prog w) h' ks a:=by
 obtain ⟨o',items,n,ho',hc,hd',hi⟩:=hk;have hne:a≠S:=by
  rintro rfl;obtain rfl:o'=o:=Av (ho'.symm.trans ho);rw[hd] at hd';exact nomatch hd'
 exact ⟨o',items,n,(sb.2 a hne).trans ho',hc,hd',hi⟩
theorem gF {h:Heap} {es':Array (Int×Value)} {t':SetTable} (ho:h.get? S=some o) (hd:o.data= .set es ep t):(h.update S (Obj.putSet es' t')).get? S=some {o with data:= .set es' (ep+1) t'}:=by
 have:=Heap.get?_update_self (Obj.putSet es' t') ho (by rw[putSet_of es' t' hd];rfl)
 rw[putSet_of es' t' hd] at this;exact this
theorem ra {t1:SetTable} (ho:s.heap.get? S=some o) (hex:o.ExactSet) (hd:o.data= .set es ep t1) (el:es.toList=xs.map (vb prog w)) (key:∀x∈xs,IsTupleKey (aq prog w) s.heap x.1 x.2) (nd:(xs.map fun x=>x.1).Nodup)
  (tab:Tab (es.map fun e=>e.1) t1) (ld:w.params.followText "set-order" =false->t1.led=true) (n1:1<=xs.length) (n2:xs.length<=1300) {m':Nat} (hm:jk m') (hm':SetTable.sizeAbove (xs.length*4)=m'+1) {Q:Unit->Shared->Prop}
  (h:∀h' xs' o' es' ep' t',Heap.SameBut S s.heap h'->jm prog w h' S xs' o' es' ep' t'->xs'.Perm xs->Q () {s with heap:=h'}):wpAny (model prog w) A (setRelay S (SetTable.grown xs.length)) Q E s:=by
 have sz:es.size=xs.length:=by rw[<-AK,el,A5]
 have fits:t1.fits es.size=true:=by
  have h1:=tab.size;have h2:=tab.few;rw[Az] at h1;simp[SetTable.fits,SetTable.fill,tab.dum,h1];omega
 have gr:SetTable.grown xs.length=xs.length*4:=if_neg (by omega)
 rw[gr];obtain ⟨kk,_,_,ab⟩:=kB (w:=xs.length*4) (Bj (show xs.length*4<=5200 by omega) (by decide))
 obtain ⟨t2,order,e1,pm,tb,m1,m2,l2,p2⟩:=oX (t:=t1) (hs:=es.map fun e=>e.1) (w:=xs.length*4) (Bj (show xs.length*4<=5200 by omega) (by decide)) (by rw[Az,sz];omega)
 have mm:t2.mask+1=SetTable.sizeAbove (xs.length*4):=by
  have:=e1;unfold SetTable.relaid SetTable.laid at this;obtain ⟨ow,_,e2⟩:=Ap.mp this;simp only[pure,Option.some.injEq,Prod.mk.injEq] at e2;rw[<-e2.1];show SetTable.sizeAbove (xs.length*4)-1+1=_;have:=gD (xs.length*4) 64 8;unfold SetTable.sizeAbove at*;omega
 rw[Az,sz] at pm;unfold setRelay;refine wpAny_bind (wpAny_setState_of ho hd fits ?_);dsimp only;have sl:sizeLine=16777216:=sizeLine_eq;rw[if_neg (by omega),e1]
 have inr:∀q∈order.toList,q<xs.length:=fun q hq=>B6.mp (pm.mem_iff.mp hq)
 have tl:(order.filterMap (es[·]?)).toList=(order.toList.filterMap fun q=>xs[q]?).map (vb prog w):=by
  rw[Array.toList_filterMap,List.map_filterMap]
  congr 1
  funext q
  rw[<-AT,el,A9]
 have px:(order.toList.filterMap fun q=>xs[q]?).Perm xs:=by
  have:=pm.filterMap (fun q=>xs[q]?)
  rw[mB] at this;exact this
 have sz2:(order.filterMap (es[·]?)).size=es.size:=by rw[<-AK,tl,A5,px.length_eq,sz]
 have tb2:Tab ((order.filterMap (es[·]?)).map fun e=>e.1) t2:=by
  have:((order.filterMap (es[·]?)).map fun e=>e.1)=order.map fun q=>(es.map fun e=>e.1).getD q 0:=by
   apply Bb.mp;rw[Array.toList_map,Array.toList_filterMap,Array.toList_map];exact kD (f:=fun e:Int×Value=>e.1) (d:=0) fun q hq=>by rw[sz];exact inr q hq
  rw[this];exact tb
 refine wpAny_bind ?_;show wpAny _ _ (if ((order.filterMap (es[·]?)).size !=es.size)=true then _ else _) _ _ _
 rw[sz2];simp only[bne_self_eq_false,AG,if_false];refine wpAny_pure ?_;refine wpAny_storeSet_of ho hd ?_ (by rw[sz2,sz,sl];omega)
 have sb:=Heap.SameBut.update s.heap S (Obj.putSet (order.filterMap (es[·]?)) t2);have ps:=tb2.size;rw[Az,sz2,sz] at ps;have em:t2.mask=m':=by omega
 have mok:jk t2.mask:=by rw[em];exact hm
 have mcap:t2.mask<=8191:=by rcases mok with e|e|e|e|e|e<;>omega
 exact h _ (order.toList.filterMap fun q=>xs[q]?) {o with data:= .set (order.filterMap (es[·]?)) (ep+1) t2} (order.filterMap (es[·]?)) (ep+1) t2 sb ⟨gF ho hd,hex,rfl,tl,fun x hx=>gE (key x (px.mem_iff.mp hx)) ho hd sb,(px.map _).nodup_iff.mpr nd,tb2,by omega,m2,mcap,mok,fun b=>l2.trans (ld b)⟩ px
theorem vc (hu:A.units<cLine) (T:jm prog w s.heap S xs o es ep t) {a:Addr} {ks:List Key} (hk:IsTupleKey (aq prog w) s.heap ks a) (room:xs.length<4900) {Q:Bool->Shared->Prop}
  (h:∀h' xs' o' es' ep' t',Heap.SameBut S s.heap h'->jm prog w h' S xs' o' es' ep' t'->xs'.Perm (dH xs (ks,a))->∀b,Q b {s with heap:=h'}):wpAny (model prog w) A (setAddHashed S (.ref a) (tupleKeyHash (aq prog w) ks)) Q E s:=by
 obtain ⟨N,hN,he,hl⟩:=T.tab.first (tupleKeyHash (aq prog w) ks);have cap:=T.cap;have sl:sizeLine=16777216:=sizeLine_eq;unfold setAddHashed setAddHashedIn;refine wpAny_holding (wpAny_bind (wpAny_setState_of T.ho T.hd T.fits ?_));dsimp only;rw[show byScan (.ref a) es=false from rfl]
 simp only[AG,if_false];unfold setSearch;refine wpAny_bind (iH hu T hk hN he hl (fun m=>?_) (fun m=>?_) 100000 0 none rfl (Ar _) (by omega) fun q i x hq=>absurd hq (Nat.not_lt_zero _))
 ·dsimp only;have e:s={s with heap:=s.heap}:=by cases s;rfl
  rw[e];exact wpAny_pure (h s.heap xs o es ep t (Heap.SameBut.refl S s.heap) T (by rw[dH,if_pos m]) false)
 ·dsimp only;refine wpAny_bind (wpAny_setState_of T.ho T.hd T.fits ?_);dsimp only;have few:=T.few;have big:=T.big;obtain ⟨tab1,p1⟩:=T.tab.put he hl (by omega)
  generalize hp:t.put (br t.mask (tupleKeyHash (aq prog w) ks) N).j=P at tab1 p1;obtain ⟨t1,p⟩:=P;have tm:t1.mask=t.mask:=by rw[show t1=(t.put (br t.mask (tupleKeyHash (aq prog w) ks) N).j).1 by rw[hp]];rfl
  have tl:t1.led=t.led:=by rw[show t1=(t.put (br t.mask (tupleKeyHash (aq prog w) ks) N).j).1 by rw[hp]];rfl
  dsimp only at tab1 p1⊢;have psz:=T.tab.size;rw[Az] at psz;have pe:p<=es.size:=by omega
  have el1:(SetTable.insertAt es p (tupleKeyHash (aq prog w) ks,Value.ref a)).toList=(xs.take p++(ks,a)::xs.drop p).map (vb prog w):=by
   have t2:(SetTable.insertAt es p (tupleKeyHash (aq prog w) ks,Value.ref a)).toList=es.toList.take p++(tupleKeyHash (aq prog w) ks,Value.ref a)::es.toList.drop p:=by
    simp[SetTable.insertAt,Aa,C4];rw[Ad (by simp)]
   rw[t2,T.el,B0,Ai,List.map_take,List.map_drop]
   rfl
  have pm1:(xs.take p++(ks,a)::xs.drop p).Perm (xs++ [(ks,a)]):=by
   refine List.perm_middle.trans ?_;rw[AL];exact (List.perm_append_singleton _ _).symm
  have tab2:Tab ((SetTable.insertAt es p (tupleKeyHash (aq prog w) ks,Value.ref a)).map fun e=>e.1) t1:=by
   have:((SetTable.insertAt es p (tupleKeyHash (aq prog w) ks,Value.ref a)).map fun e=>e.1)=SetTable.insertAt (es.map fun e=>e.1) p (tupleKeyHash (aq prog w) ks):=by
    apply Array.ext_getElem?;intro i;rw[Bh,ji pe,ji (by rw[Az];exact pe)]
    split
    ·rw[Bh]
    ·split
     ·rfl
     ·rw[Bh]
   rw[this];exact tab1
  have nd1:((xs.take p++(ks,a)::xs.drop p).map fun x=>x.1).Nodup:=by
   refine (pm1.map _).nodup_iff.mpr ?_;rw[B0];exact List.nodup_append.mpr ⟨T.nd,by simp,fun y hy z hz e=>m (by rw[Ai,List.map_nil,AS] at hz;have hz:z=ks:=hz;rw[<-hz,<-e];exact hy)⟩
  have len1:(xs.take p++(ks,a)::xs.drop p).length=xs.length+1:=by rw[pm1.length_eq,AB];rfl
  have sz1:(SetTable.insertAt es p (tupleKeyHash (aq prog w) ks,Value.ref a)).size=xs.length+1:=by rw[eH pe,T.size]
  have tail:∀(t3:SetTable),t3=t1∨t3={t1 with plain:=false}->wpAny (model prog w) A (do
    storeSet S (SetTable.insertAt es p (tupleKeyHash (aq prog w) ks,Value.ref a)) t3
    if (!false&&t3.tooFull)=true then do
      setRelay S (SetTable.grown (es.size+1))
      pure true
     else pure true) Q E s:=by
   intro t3 h3;have ef:t3.mask=t1.mask/\t3.place=t1.place/\t3.dummies=t1.dummies/\t3.led=t1.led:=by rcases h3 with rfl|rfl<;>exact ⟨rfl,rfl,rfl,rfl⟩
   have tab3:Tab ((SetTable.insertAt es p (tupleKeyHash (aq prog w) ks,Value.ref a)).map fun e=>e.1) t3:=by
    obtain ⟨f1,f2,f3,f4,f5,f6,f7⟩:=tab2;rcases h3 with rfl|rfl<;>exact ⟨f1,f2,f3,f4,f5,f6,f7⟩
   have ld3:w.params.followText "set-order" =false->t3.led=true:=fun b=>by rw[ef.2.2.2,tl];exact T.ld b
   refine wpAny_bind (wpAny_storeSet_of T.ho T.hd ?_ (by rw[sz1,sl];omega))
   have sb:=Heap.SameBut.update s.heap S (Obj.putSet (SetTable.insertAt es p (tupleKeyHash (aq prog w) ks,Value.ref a)) t3);have key1:∀x∈xs.take p++(ks,a)::xs.drop p,IsTupleKey (aq prog w) (s.heap.update S (Obj.putSet (SetTable.insertAt es p (tupleKeyHash (aq prog w) ks,Value.ref a)) t3)) x.1 x.2:=fun x hx=>by
    have:=pm1.mem_iff.mp hx;rcases AI.mp this with q|q
    ·exact gE (T.key x q) T.ho T.hd sb
    ·rw[AS.mp q];exact gE hk T.ho T.hd sb
   have ps3:=tab3.size;rw[Az,sz1] at ps3;have perm:(xs.take p++(ks,a)::xs.drop p).Perm (dH xs (ks,a)):=by rw[dH,if_neg m];exact pm1
   cases c:t3.tooFull with
   |false=>
    simp only[Be,BR,AG,if_false];have few3:t3.place.size*5<t3.mask*3:=by
     unfold SetTable.tooFull SetTable.fill at c;rw[tab3.dum] at c;simp at c;omega
    exact wpAny_pure (h _ _ _ _ _ _ sb ⟨gF T.ho T.hd,T.hex,rfl,el1,key1,nd1,tab3,few3,by omega,by omega,by rw[ef.1,tm];exact T.msk,ld3⟩ perm true)
   |true=>
    simp only[Be,Bool.and_self,if_true];have full:t.mask*3<=(xs.length+1)*5:=by
     unfold SetTable.tooFull SetTable.fill at c;rw[tab3.dum,ps3,ef.1,tm] at c
     simpa using c
    have fw:xs.length*5<t.mask*3:=by
     have:=T.size;omega
    obtain ⟨m',hm,hm'⟩:∃m',jk m'/\SetTable.sizeAbove ((xs.length+1)*4)=m'+1:=by
     rcases T.msk with e|e|e|e|e|e
     ·have z:xs.length=4:=by omega
      exact ⟨31,.inr (.inl rfl),by rw[z];decide⟩
     ·have z:xs.length=18:=by omega
      exact ⟨127,.inr (.inr (.inl rfl)),by rw[z];decide⟩
     ·have z:xs.length=76:=by omega
      exact ⟨511,.inr (.inr (.inr (.inl rfl))),by rw[z];decide⟩
     ·have z:xs.length=306:=by omega
      exact ⟨2047,.inr (.inr (.inr (.inr (.inl rfl)))),by rw[z];decide⟩
     ·have z:xs.length=1228:=by omega
      exact ⟨8191,.inr (.inr (.inr (.inr (.inr rfl)))),by rw[z];decide⟩
     ·omega
    have n13:xs.length+1<=1300:=by
     rcases T.msk with e|e|e|e|e|e<;>omega
    rw[show es.size+1=(xs.take p++(ks,a)::xs.drop p).length by rw[len1,T.size]]
    refine wpAny_bind (ra (o:={o with data:= .set (SetTable.insertAt es p (tupleKeyHash (aq prog w) ks,Value.ref a)) (ep+1) t3}) (gF T.ho T.hd) T.hex rfl el1 key1 nd1 tab3 ld3 (by omega) (by omega) hm (by rw[len1];exact hm') fun h' xs' o' es' ep' t' sb' T' pm'=>?_)
    exact wpAny_pure (h h' xs' o' es' ep' t' (sb.trans sb') T' (pm'.trans perm) true)
  by_cases c:t1.plain=true
  ·rw[if_pos c];refine wpAny_bind (yI hk fun b=>?_)
   cases b with
   |true=>
    simp only[if_true];exact tail t1 (.inl rfl)
   |false=>
    simp only[AG,if_false];exact tail _ (.inr rfl)
  ·rw[if_neg c];refine wpAny_bind (wpAny_pure ?_);simp only[if_true];exact tail t1 (.inl rfl)
end
def tE (prog:Program) (w:World) (h:Heap) (S:Addr) (ys:List Kx):Prop:=∃xs o es ep t,jm prog w h S xs o es ep t/\xs.Perm ys
noncomputable def iI (xs:List Kx) (i:Nat):List Kx:=(xs.take i).foldl dH []
theorem gG {xs:List Kx} {i:Nat} {y:Kx} (h:xs[i]?=some y):iI xs (i+1)=dH (iI xs i) y:=by
 unfold iI;rw[BF,h,BQ,List.foldl_append]
 rfl
theorem rb (ys:List Kx) (y:Kx):(dH ys y).length<=ys.length+1:=by
 unfold dH
 split
 ·omega
 ·simp
theorem nE (xs:List Kx):∀i,(iI xs i).length<=i
 |0=>by simp[iI]
 |i+1=>by
  have ih:=nE xs i;cases h:xs[i]? with
  |none=>
   have:xs.take (i+1)=xs.take i:=by rw[BF,h];simp
   unfold iI at ih⊢;rw[this];omega
  |some y=>
   rw[gG h];have:=rb (iI xs i) y;omega
theorem oZ {xs ys:List Kx} {x:Kx} (p:xs.Perm ys):(dH xs x).Perm (dH ys x):=by
 have m:x.1∈xs.map (fun y=>y.1)↔x.1∈ys.map (fun y=>y.1):=(p.map _).mem_iff
 unfold dH
 by_cases c:x.1∈xs.map (fun y=>y.1)
 ·rw[if_pos c,if_pos (m.mp c)];exact p
 ·rw[if_neg c,if_neg fun z=>c (m.mpr z)]
  exact p.append_right _
theorem jm.kept {prog:Program} {w:World} {h h':Heap} {S:Addr} {xs:List Kx} {o:Obj} {es:Array (Int×Value)} {ep:Nat} {t:SetTable} (T:jm prog w h S xs o es ep t) (k:∀b o,(b=S∨∃x∈xs,b=x.2)->h.get? b=some o->h'.get? b=some o):jm prog w h' S xs o es ep t:=
 ⟨k _ _ (.inl rfl) T.ho,T.hex,T.hd,T.el,fun x hx=>let ⟨o',items,n,ho',z⟩:=T.key x hx;⟨o',items,n,k _ _ (.inr ⟨x,hx,rfl⟩) ho',z⟩,T.nd,T.tab,T.few,T.big,T.cap,T.msk,T.ld⟩
theorem gH {prog:Program} {w:World} {h h':Heap} {ks:List Key} {a:Addr} (hk:IsTupleKey (aq prog w) h ks a) (k:∀o,h.get? a=some o->h'.get? a=some o):IsTupleKey (aq prog w) h' ks a:=
 let ⟨o',items,n,ho',z⟩:=hk;⟨o',items,n,k _ ho',z⟩
theorem rc {xs ys:List Kx} {y:Kx} (h:∀x∈ys,x∈xs) (hy:y∈xs):∀x∈dH ys y,x∈xs:=fun x hx=>by
 unfold dH at hx
 split at hx
 ·exact h x hx
 ·rcases AI.mp hx with q|q
  ·exact h x q
  ·rw[AS.mp q];exact hy
theorem eI (xs:List Kx):∀i,∀x∈iI xs i,x∈xs
 |0=>fun x hx=>by simp[iI] at hx
 |i+1=>by
  cases h:xs[i]? with
  |none=>
   have:xs.take (i+1)=xs.take i:=by rw[BF,h];simp
   have e:iI xs (i+1)=iI xs i:=by unfold iI;rw[this]
   rw[e];exact eI xs i
  |some y=>
   rw[gG h];exact rc (eI xs i) (AR h)
theorem tF {f m:Nat} {l:Bool}:Tab ((#[]:Array (Int×Value)).map fun e=>e.1) (SetTable.fresh f m l) where
 size:=by simp[SetTable.fresh]
 dum:=rfl
 ri:=C2
 le:=fun j hj=>by simp[SetTable.fresh] at hj
 pow:=⟨3,rfl⟩
 few:=by simp[SetTable.fresh]
 reach:=fun i j h hi=>by simp[SetTable.fresh] at hi
section
variable {prog:Program} {w:World} {A:Around} {R:Result->Shared->Prop} {I:Addr} {fp wr:CC} {G:Array GenState->Array GenState->Prop} {n:Nat} {P:Nat->Value->Prop} {St:Nat->Shared->Prop}
theorem pc (W:WalksS prog w A.in1 I fp wr G n P St) (S:Addr) (out:S∉fp) (xs:List Kx) (hu:A.units+30<cLine) (hv:∀i v,P i v->∃y,xs[i]?=some y/\v= .ref y.2)
  (hn:n<=xs.length) (hb:n<4900) (off:∀x∈xs,x.2∉S::wr):∀(m i:Nat) (s:Shared),n-i=m->i<=n->St i s->(∀x∈xs,IsTupleKey (aq prog w) s.heap x.1 x.2)->tE prog w s.heap S (iI xs i)->
   (∀s',Moved (S::wr) G s s'->tE prog w s'.heap S (iI xs n)->R (.ok (.ret .none)) s')->codeAny (model prog w) A (.builtin "set.update.loop" ⟨[.ref S,.ref I],[]⟩) R s:=by
 have nw:S∉wr:=fun h=>out (W.sub _ h)
 have up:∀b∈wr,b∈S::wr:=fun b hb=> .tail _ hb
 have stay:∀{s1 s2:Shared} {ys:List Kx},(∀x∈ys,x∈xs)->tE prog w s1.heap S ys->Moved wr G s1 s2->tE prog w s2.heap S ys:=by
  rintro s1 s2 ys hy ⟨xs',o,es,ep,t,T,pm⟩ mv;refine ⟨xs',o,es,ep,t,T.kept fun b o hb e=>mv.heap b o ?_ e,pm⟩
  rcases hb with rfl|⟨x,hx,rfl⟩
  ·exact nw
  ·exact fun z=>off x (hy x (pm.mem_iff.mp hx)) (up _ z)
 have keyS:∀{s1 s2:Shared},(∀x∈xs,IsTupleKey (aq prog w) s1.heap x.1 x.2)->Moved wr G s1 s2->∀x∈xs,IsTupleKey (aq prog w) s2.heap x.1 x.2:=fun hk mv x hx=>gH (hk x hx) fun o e=>mv.heap _ o (fun z=>off x hx (up _ z)) e
 intro m
 induction m with
 |zero=>
  intro i s hm hi st hK hS fin;have e:i=n:=by omega
  subst e;apply codeAny_builtin F.entry_set_update_loop;rw[Around.under_plainId F.plain_set_update_loop _];show wpAny _ _ (pyNext (.ref I)>>=_) _ _ s;apply wpAny_bind;refine W.done s _ _ st fun s' mv=>?_
  exact wpAny_pure (fin s' (mv.mono up) (stay (eI xs _) hS mv))
 |succ m ih=>
  intro i s hm hi st hK hS fin;have lt:i<n:=by omega
  apply codeAny_builtin F.entry_set_update_loop;rw[Around.under_plainId F.plain_set_update_loop _];show wpAny _ _ (pyNext (.ref I)>>=_) _ _ s;apply wpAny_bind;refine W.item i s _ _ lt st fun v s' pv st' mv=>?_
  obtain ⟨y,ey,rfl⟩:=hv i v pv;have ym:=AR ey;have hK':=keyS hK mv;show wpAny _ _ (holding [.ref y.2] (setAdd S (.ref y.2))>>=_) _ _ s';apply wpAny_bind;apply wpAny_holding;unfold setAdd;apply wpAny_holding;apply wpAny_bind;refine wpAny_pyHash_tuple (by show A.units+1<cLine;omega) (hK' y ym) ?_
  obtain ⟨xs1,o1,es1,ep1,t1,T1,pm1⟩:=stay (eI xs i) hS mv;have rm:xs1.length<4900:=by
   rw[pm1.length_eq];have:=nE xs i;omega
  refine vc (s:={s' with toks:=s'.toks+(y.1.length+1)}) (by show A.units+1<cLine;omega) T1 (hK' y ym) rm fun h' xs2 o2 es2 ep2 t2 same T2 pm2 b=>?_
  have S2:tE prog w h' S (iI xs (i+1)):=⟨xs2,o2,es2,ep2,t2,T2,by rw[gG ey];exact pm2.trans (oZ pm1)⟩
  apply wpAny_pure;refine ⟨plainId_quiet F.plain_set_update_loop _,ih (i+1) _ (by omega) lt (W.frame _ s' _ _ st' (Nat.le_add_right _ _) fun b hb o e=>?_) (fun x hx=>gH (hK' x hx) fun o e=>(same.2 _ fun z=>off x hx (z▸Ae)).trans e) S2 fun s'' mv2 S4=>?_⟩
  ·exact (same.2 b fun z=>out (z▸hb)).trans e
  ·exact fin s'' (Moved.trans W.gtrans ((mv.mono up).then_heap (Nat.le_add_right _ _) fun b o hb e=>(same.2 b fun z=>hb (z▸Ae)).trans e) mv2) S4
end
section
variable {prog:Program} {w:World} {A:Around} {E:Cw} {s:Shared}
set_option maxHeartbeats 3200000 in
theorem pq {l:Addr} {items:Array Value} {xs:List Kx} {Q:Cw} (hh:A.handled=none) (hu:A.units+40<cLine) (hl:s.heap.IsList l items) (hv:∀(i:Nat) (v:Value),items[i]?=some v->∃y:Kx,xs[i]?=some y/\v=Value.ref y.2) (hk:∀x∈xs,IsTupleKey (aq prog w) s.heap x.1 x.2)
  (hn:items.size=xs.length) (hb:items.size<4900)
  (fin:∀(h':Heap) (tk:Nat),tE prog w h' s.heap.objs.size (iI xs items.size)->(∀b o,b<s.heap.objs.size->s.heap.get? b=some o->h'.get? b=some o)->Q (.ref s.heap.objs.size) {s with heap:=h',toks:=tk}):
  wpAny (model prog w) A (call (.type "set") [.ref l]) Q E s:=by
 obtain ⟨c0,tl0,mro⟩:=F.called_set.mro;have made:=F.called_set.made;have subt:=F.called_set.sub;apply wpAny_call;apply codeAny_of_tree;show wpAny _ _ (callAny (.type "set") _) _ _ _;apply wpAny_pure;refine ⟨Code.quiet_builtin _ (by decide+kernel),codeAny_builtin F.entry_type_call ?_⟩
 rw[Around.under_plain (weight_type_call_type "set" [.ref l] []) rfl];have nt:=F.called_set.notType;have cc:=F.called_set.canCreate;have tc:=F.typeCall_set_1 (.ref l)
 repeat any_goals first|assumption|wp_step
 refine codeAny_mono (gY (.ref l) (E:=E) (Q₁:=fun v s1=>∃led:Bool,(w.params.followText "set-order" =false->led=true)/\v= .ref s.heap.objs.size/\s1={s with heap:=s.heap.push {cls:= .type "set",dict:=none,data:= .set #[] 0 (.fresh 0 0 led)}}) fun led eld=>⟨led,eld,rfl,rfl⟩) fun r s1 hr=>?_
 cases r with
 |error e=>exact hr
 |ok fl=>
  cases fl with
  |ret v=>
   obtain ⟨led,eld,rfl,rfl⟩:=hr;have e0:(s.heap.push {cls:= .type "set",dict:=none,data:= .set #[] 0 (.fresh 0 0 led)}).get? s.heap.objs.size=some {cls:= .type "set",dict:=none,data:= .set #[] 0 (.fresh 0 0 led)}:=Heap.get?_push_size _ rfl;have tS:Shared.TypeIs {s with heap:=s.heap.push {cls:= .type "set",dict:=none,data:= .set #[] 0 (.fresh 0 0 led)}} (.ref s.heap.objs.size) "set" :=⟨_,e0,rfl⟩
   have lk:=F.called_set.init.lookup;have bd:=F.called_set.init.bind (.ref s.heap.objs.size)
   repeat any_goals first|assumption|wp_step
   refine codeAny_mono (codeAny_call_builtin (R:=wants (fun r s2=>r= .none/\∃h' tk,s2={s with heap:=h',toks:=tk}/\tE prog w h' s.heap.objs.size (iI xs items.size)/\∀b o,b<s.heap.objs.size->s.heap.get? b=some o->h'.get? b=some o) E) F.called_set.init.plain F.entry_set_init (check_set_init_1 tS ?_)) fun r2 s2 hr2=>?_
   ·obtain ⟨⟨lc,ld,lx,ls⟩,hol,hcl,nl,hdl⟩:=hl;simp only at hcl hdl;subst hcl hdl;have el:(s.heap.push {cls:= .type "set",dict:=none,data:= .set #[] 0 (.fresh 0 0 led)}).get? l=some {cls:= .type "list",dict:=ld,data:= .seq items nl,slots:=ls}:=Heap.get?_push_of_some _ hol;have n1:=F.sub_list_set;have n2:=F.sub_list_frozenset;have n3:(Value.type "list" ==Value.type "dict")=false:=by decide
    have il:(s.heap.push {cls:= .type "set",dict:=none,data:= .set #[] 0 (.fresh 0 0 led)}).IsList l items:=⟨_,el,rfl,nl,rfl⟩;unfold Builtin.«set.__init__» noKeywords Builtin.Frozenset.updateFrom;generalize hit:pyIter=PI
    wp_walk
    subst hit;apply wpAny_pyIter_list il;apply wpAny_bind;apply wpAny_runValue;have ll:l<s.heap.objs.size:=Heap.lt_size hol;have h3:A.in1.in1.in1.handled=none:=by simpa using hh
    have nI:l≠(s.heap.push {cls:= .type "set",dict:=none,data:= .set #[] 0 (.fresh 0 0 led)}).objs.size:=by
     rw[Heap.size_push];exact AE (Am ll)
    have out:s.heap.objs.size∉ [(s.heap.push {cls:= .type "set",dict:=none,data:= .set #[] 0 (.fresh 0 0 led)}).objs.size,l]:=by
     rw[Heap.size_push];simp only[AU,not_or];exact ⟨AE (Nat.lt_succ_self _),Nat.ne_of_gt ll,Bf⟩
    have offX:∀x∈xs,x.2∉ [s.heap.objs.size,(s.heap.push {cls:= .type "set",dict:=none,data:= .set #[] 0 (.fresh 0 0 led)}).objs.size]:=fun x hx=>by
     obtain ⟨o',_,_,ho',_⟩:=hk x hx;have:=Heap.lt_size ho';rw[Heap.size_push];simp only[AU,Bf,or_false,not_or];exact ⟨AE this,AE (Am this)⟩
    refine pc ((Walks.list h3 _ l nI items).toS) s.heap.objs.size out xs (by show A.units+1+1+30<cLine;omega) hv (Nat.le_of_eq hn) hb offX items.size 0 _ rfl (Ar _) ⟨⟨_,Heap.get?_push_size _ rfl,rfl,rfl⟩,il.push _⟩ (fun x hx=>gH (hk x hx) fun o e=>Heap.get?_push_of_some _ (Heap.get?_push_of_some _ e)) ?_ ?_
    ·have e1:((s.heap.push {cls:= .type "set",dict:=none,data:= .set #[] 0 (.fresh 0 0 led)}).push {cls:= .type "list_iterator",data:= .fields #[.ref l,.int 0 0]}).get? s.heap.objs.size=some {cls:= .type "set",dict:=none,data:= .set #[] 0 (.fresh 0 0 led)}:=
      Heap.get?_push_of_some _ e0
     exact ⟨[],_,#[],0,_,⟨e1,⟨rfl,rfl,rfl⟩,rfl,rfl,(fun x hx=>by cases hx),List.nodup_nil,tF,(by show (0:Nat)*5<7*3;decide),(by show 7<=7;decide),(by show 7<=8191;decide),.inl rfl,eld⟩,by simp[iI]⟩
    ·intro s' mv S2;obtain ⟨h',g',d',tk',os'⟩:=s';have eg:g'=s.gens:=mv.gens;have ed:d'=s.drawn:=mv.drawn;have eo:os'=s.os:=mv.os;subst eg ed eo;show wpAny _ _ _ _ _ _;apply wpAny_pure;show wpAny _ _ (ret Value.none) _ _ _;apply wpAny_pure;refine ⟨rfl,h',tk',rfl,S2,fun b o hb' e=>?_⟩
     refine mv.heap b o ?_ (Heap.get?_push_of_some _ (Heap.get?_push_of_some _ e));rw[Heap.size_push];simp only[AU,not_or];exact ⟨AE hb',AE (Am hb'),Bf⟩
   ·cases r2 with
    |error e=>exact hr2
    |ok fl2=>
     cases fl2 with
     |ret r=>
      obtain ⟨rfl,h',tk,rfl,S2,kp⟩:=hr2
      repeat any_goals first|assumption|wp_step
      exact fin _ _ S2 kp
     |_=>exact hr2.elim
  |_=>exact hr.elim
end
open Sw So
def vd (w:World) (h:Heap) (a:Addr) (us:CD):Prop:=
 ∃o es ep t,h.get? a=some o/\o.ExactSet/\o.data= .set es ep t/\us=es.toList.map (fun e=>e.2)/\es.size<=sizeLine/\t.fits es.size=true/\(w.params.followText "set-order" =false->t.led=true)/\(t.plain=true->Ri t.place)
theorem dw:∀{es:List (Int×Value)} {acc:CD},acc.length=es.length->(∀(j:Nat) (v:Value),acc[j]?=some v->∃e,es[j]?=some e/\v=e.2)->acc=es.map fun e=>e.2
 | [],[],_,_=>rfl
 |e::es,v::acc,hl,h=>by
  obtain ⟨e',h1,rfl⟩:=h 0 v rfl;cases h1;rw[Ai,<-dw (es:=es) (acc:=acc) (by simpa using hl) fun j u hu=>h (j+1) u (by simpa using hu)]
 | [],_::_,hl,_=>by simp at hl
 |_::_,[],hl,_=>by simp at hl
theorem tE.ge {prog:Program} {w:World} {h:Heap} {S:Addr} {ys:List Kx} (hS:tE prog w h S ys):∃xs:List Kx,xs.Perm ys/\(xs.map fun x=>x.1).Nodup/\(∀x∈xs,IsTupleKey (aq prog w) h x.1 x.2)/\vd w h S (xs.map fun x=>Value.ref x.2):=by
 obtain ⟨xs,o,es,ep,t,T,pm⟩:=hS;have z:es.size<=sizeLine:=by
  have h1:=T.tab.size;have h2:=T.tab.few;have h3:=T.cap;rw[Az] at h1;have sl:sizeLine=16777216:=sizeLine_eq;omega
 have ft:t.fits es.size=true:=by
  have h1:=T.tab.size;have h2:=T.tab.few;rw[Az] at h1;simp[SetTable.fits,SetTable.fill,T.tab.dum,h1];omega
 exact ⟨xs,pm,T.nd,T.key,o,es,ep,t,T.ho,T.hex,T.hd,by rw[T.el,BE];rfl,z,ft,T.ld,fun _=>T.tab.ri⟩
section
variable {prog:Program} {w:World} {A:Around} {E:Cw} {s:Shared}
theorem tG {a:Addr} {us:CD} {Q:Cw} (hh:A.handled=none) (hS:vd w s.heap a us)
  (h:∀(s1:Shared) (I:Addr) (fp:CC) (n:Nat) (P:Nat->Value->Prop) (St:Nat->Heap->Prop),Walks prog w A I fp [I] n P St->St 0 s1.heap->s.heap.objs.size<=I->I∈fp->(∀b∈fp,b=a∨s.heap.objs.size<=b)->n<=sizeLine->
   (∀b o,s.heap.get? b=some o->s1.heap.get? b=some o)->(∃d,s1={s with heap:=s1.heap,drawn:=d})->(∀acc:Array Value,PySem.ItemsOf P acc n->acc.toList.Perm us)->Q (.ref I) s1):
  wpAny (model prog w) A (pyIter (.ref a)) Q E s:=by
 obtain ⟨o,es,ep,t,ho,hex,hd,ue,hb,hf,ld,pl⟩:=hS;have SA:bU s.heap a es ep t:=⟨o,ho,hex,hd,hf⟩;have al:=Heap.lt_size ho;have nz:es.size<=sizeLine:=hb;refine qQ SA nz (fun c=>?_) fun c zs d hz=>?_
 ·cases hb':w.params.followText "set-order" with
  |true=>
   refine h _ s.heap.objs.size _ _ _ _ (oR hh hb' s.heap.objs.size a (AE al) es ep t) ⟨Heap.get?_push_size _ rfl,SA.at fun o e=>Heap.get?_push_of_some _ e⟩ (A7 _) (by simp) (by simp) nz (fun b o e=>Heap.get?_push_of_some _ e) ⟨s.drawn,rfl⟩ fun acc ha=>?_
   have pp:=gy (w.params.setOrder a ep) es;rw[dw (acc:=acc.toList) (es:=(pickOrder (w.params.setOrder a ep) es).toList) (by rw[AK,ha.1,pp.length_eq,AK]) fun j v hv=>ha.2 j v (by rw[<-AT];exact hv),ue]
   exact pp.map _
  |false=>
   cases hpl:t.plain with
   |false=>
    have few:es.size<=1:=by
     rcases Nat.lt_or_ge 1 es.size with q|q
     ·rw[hb',hpl] at c;simp at c;omega
     ·exact q
    refine h _ s.heap.objs.size _ _ _ _ (qR hh hb' s.heap.objs.size a (AE al) es ep t few (ld hb') hf) ⟨⟨0,fun _=>rfl,fun z=>absurd rfl z,Heap.get?_push_size _ rfl⟩,SA.at fun o e=>Heap.get?_push_of_some _ e⟩ (A7 _) (by simp) (by simp) nz (fun b o e=>Heap.get?_push_of_some _ e) ⟨s.drawn,rfl⟩ fun acc ha=>?_
    rw[dw (acc:=acc.toList) (es:=es.toList) (by rw[AK,ha.1,AK]) fun j v hv=>ha.2 j v (by rw[<-AT];exact hv),ue]
   |true=>
    refine h _ s.heap.objs.size _ _ _ _ (md hh hb' s.heap.objs.size a (AE al) es ep t hpl (ld hb') hf (pl hpl)) ⟨⟨0,fun _=>rfl,fun z=>absurd rfl z,Heap.get?_push_size _ rfl⟩,SA.at fun o e=>Heap.get?_push_of_some _ e⟩ (A7 _) (by simp) (by simp) nz (fun b o e=>Heap.get?_push_of_some _ e) ⟨s.drawn,rfl⟩ fun acc ha=>?_
    rw[dw (acc:=acc.toList) (es:=es.toList) (by rw[AK,ha.1,AK]) fun j v hv=>ha.2 j v (by rw[<-AT];exact hv),ue]
 ·have e1:(s.heap.push {cls:= .type "tuple",data:= .seq (zs.map fun (i:Nat)=>rawInt i).toArray}).objs.size=s.heap.objs.size+1:=Heap.size_push ..
  refine h _ (s.heap.objs.size+1) _ _ _ _ (oS hh (s.heap.objs.size+1) a s.heap.objs.size (AE (Am al)) (AE (Nat.lt_succ_self _)) es ep t zs hz)
   ⟨(show ((s.heap.push _).push (kS (.ref s.heap.objs.size) 0 a es.size ep)).get? (s.heap.objs.size+1)=_ from e1▸Heap.get?_push_size (s.heap.push {cls:= .type "tuple",data:= .seq (zs.map fun (i:Nat)=>rawInt i).toArray}) (o:=kS (.ref s.heap.objs.size) 0 a es.size ep) rfl),SA.at fun o e=>Heap.get?_push_of_some _ (Heap.get?_push_of_some _ e),Heap.get?_push_of_some _ (Heap.get?_push_size _ rfl)⟩ (Nat.le_succ _) (by simp) (fun b hb=>by
    simp only[AU,Bf,or_false] at hb;rcases hb with rfl|rfl|rfl
    ·exact .inr (Nat.le_succ _)
    ·exact .inl rfl
    ·exact .inr (A7 _)) nz (fun b o e=>Heap.get?_push_of_some _ (Heap.get?_push_of_some _ e)) ⟨d,rfl⟩ fun acc ha=>?_
  have hl:zs.length=es.size:=by rw[hz.length_eq,B7]
  let es':List (Int×Value):=zs.map fun j=>es.getD j (0,.none)
  have pp:es'.Perm es.toList:=by
   refine (hz.map _).trans ?_;have:(Ac es.size).map (fun j=>es.getD j (0,Value.none))=es.toList:=by
    apply List.ext_getElem?;intro i;rw[A9,AT (xs:=es)];rcases Nat.lt_or_ge i es.size with q|q
    ·rw[List.getElem?_range q,AF q];simp[Array.getD,q]
    ·rw[List.getElem?_eq_none (by simpa using q),Bi q]
     rfl
   rw[this]
  suffices e:acc.toList=es'.map fun e=>e.2 by
   rw[e,ue];exact pp.map _
  refine dw (by rw[AK,ha.1,pp.length_eq,AK]) fun j v hv=>?_
  obtain ⟨k,e,e2,e3,e4⟩:=ha.2 j v (by rw[<-AT];exact hv)
  refine ⟨e,?_,e4⟩;show (zs.map _)[j]?=_;rw[A9,e2];simp[B8,e3]
theorem pC {a L:Addr} {c:Nat} {us:CD} (hh:A.handled=none) (hS:vd w s.heap a us) (hL:s.heap.get? L=some {cls:= .type "list",data:= .seq #[] c}) (ne:L≠a) {RR:Result->Shared->Prop}
  (hR:∀(h':Heap) (tk:Nat) (d:Drawn) (acc:Array Value) (c:Nat),(∀b o,b≠L->s.heap.get? b=some o->h'.get? b=some o)->h'.get? L=some {cls:= .type "list",dict:=none,data:= .seq acc c,slots:= #[]}->acc.toList.Perm us->RR (.ok (.ret (.ref L))) {s with heap:=h',drawn:=d,toks:=tk}):
  wpAny (model prog w) A.in1 (Builtin.List.listExtendWith (.ref L) (.ref a) (.ref L))
   (fun fin s'=>match fin with| .done f=>RR (.ok f) s'| .again c'=>c'.quiet=true/\codeAny (model prog w) A c' RR s') (fun e s'=>RR (.error e) s') s:=by
 have Ll:L<s.heap.objs.size:=Heap.lt_size hL;have tyS:∀{s':Shared},vd w s'.heap a us->s'.TypeIs (.ref a) "set" :=fun ⟨o,_,_,_,ho,hex,_⟩=>⟨o,ho,hex.1⟩
 unfold Builtin.List.listExtendWith;refine wpAny_bind (wpAny_typeOf (T:= "set") (tyS hS) ?_);have h1:Builtin.List.listSameRef (.ref L) (.ref a)=false:=by simp[Builtin.List.listSameRef,ne]
 simp only[h1,show (Value.type "set" ==Value.type "list")=false by decide,show (Value.type "set" ==Value.type "tuple")=false by decide,Bool.or_false,AG,if_false]
 refine wpAny_bind (tG (A:=A.in1) hh hS fun s1 I fp n P St W st hI hIf hfp hn kp hd out=>?_)
 have Lf:L∉fp:=fun z=>(hfp _ z).elim ne fun q=>absurd Ll (Nat.not_lt.mpr q)
 obtain ⟨d,es1⟩:=hd;have hL1:=kp _ _ hL;have hS2:vd w s1.heap a us:=let ⟨o,es,ep,t,ho,r⟩:=hS;⟨o,es,ep,t,kp _ _ ho,r⟩;refine wpAny_bind (wpAny_holding (qS (tyS hS2) ?_));have key:∀(hp:Heap) (c₁ tk:Nat),St 0 hp->(∀b o,b≠L->s1.heap.get? b=some o->hp.get? b=some o)->hp.get? L=some {cls:= .type "list",data:= .seq #[] c₁}->
   codeAny (model prog w) A (.builtin "list.extend.loop" ⟨[.ref L,.ref I,.ref L],[]⟩) RR {s1 with heap:=hp,toks:=tk}:=by
  intro hp c₁ tk hst hk hLp;refine codeAny_extend_loopS W.toS hn L Lf (.ref L) n 0 _ #[] c₁ rfl (Ar _) hst hLp (ItemsOf.nil _) fun s' acc' c' hm hS' hacc=>?_
  have z1:=out acc' hacc;have e':=Moved.eq_with hm;rw[es1] at e';rw[e'];refine hR s'.heap s'.toks d acc' c' (fun b o nb e=>hm.heap b o (fun hmem=>?_) (hk b o nb (kp b o e))) hS' z1
  rcases AU.mp hmem with q|q
  ·exact nb q
  ·have bl:=Heap.lt_size e;rw[AS.mp q] at bl;exact absurd bl (Nat.not_lt.mpr hI)
 refine wpAny_ite_split (fun _=>?_) (fun _=>wpAny_pure ⟨plainId_quiet PySem.F.plain_extend_loop _,key s1.heap c s1.toks st (fun b o _ e=>e) hL1⟩)
 refine wpAny_bind (wpAny_rule ?_);refine wpAny_bind ?_;show wpAny _ _ (updateSeq L (·.push .none)>>=fun _=>updateSeq L (·.pop)) _ _ _
 refine wpAny_bind (wpAny_updateSeq hL1 rfl ?_);have hS₂:=Heap.get?_update_self (Obj.mapSeq (·.push Value.none)) hL1 rfl;refine wpAny_updateSeq (hz:=by seq_fits) hS₂ rfl ?_
 have hS₃:=Heap.get?_update_self (Obj.mapSeq (·.pop)) hS₂ rfl;refine wpAny_pure ⟨plainId_quiet PySem.F.plain_extend_loop _,key _ _ _ (W.frame _ _ _ st fun b hb o e=>?_) (fun b o nb e=>?_) hS₃⟩
 ·have nb:b≠L:=fun z=>Lf (z▸hb)
  exact (Heap.get?_update_other _ _ (Ne.symm nb)).trans ((Heap.get?_update_other _ _ (Ne.symm nb)).trans e)
 ·exact (Heap.get?_update_other _ _ (Ne.symm nb)).trans ((Heap.get?_update_other _ _ (Ne.symm nb)).trans e)
theorem mC {a:Addr} {us:CD} {R:CD->Shared->Prop} (hh:A.handled=none) (hS:vd w s.heap a us)
  (h:∀(h':Heap) (tk:Nat) (d:Drawn) (acc:CD),s.heap.objs.size<h'.objs.size->(∀b o,s.heap.get? b=some o->h'.get? b=some o)->acc.Perm us->R acc {s with heap:=h',drawn:=d,toks:=tk}):
  wpAny (model prog w) A (collect (.ref a)) R E s:=by
 have al:a<s.heap.objs.size:=let ⟨o,_,_,_,ho,_⟩:=hS;Heap.lt_size ho;unfold collect;refine wpAny_bind (wpAny_runValue (codeAny_builtin entry_proto_collect' ?_));rw[Around.under_plainId PySem.F.plain_proto_collect _];show wpAny _ A.in1 (newList []>>=fun l=>again (.builtin "list.__iadd__" ⟨[l,.ref a],[]⟩)) _ _ s
 refine wpAny_bind (wpAny_newObj_type (wpAny_pure ⟨plainId_quiet C7 _,codeAny_builtin entry_list_iadd' ?_⟩));rw[Around.under_plainId C7 _];have fresh:(s.heap.push {cls:= .type "list",data:= .seq ([]:CD).toArray}).get? s.heap.objs.size=some {cls:= .type "list",data:= .seq #[]}:=Heap.get?_push_size _ rfl;have hS1:vd w (s.heap.push {cls:= .type "list",data:= .seq ([]:CD).toArray}) a us:=let ⟨o,es,ep,t,ho,r⟩:=hS;⟨o,es,ep,t,Heap.get?_push_of_some _ ho,r⟩;show wpAny _ A.in1 (Builtin.List.listExtendWith (.ref s.heap.objs.size) (.ref a) (.ref s.heap.objs.size)) _ _ _;have key:=pC (prog:=prog) (A:=A) (s:={s with heap:=s.heap.push {cls:= .type "list",data:= .seq ([]:CD).toArray}})
  (RR:=fun (q:Result) (s':Shared)=>∃(h':Heap) (tk:Nat) (d:Drawn) (acc:Array Value) (c:Nat),q= .ok (.ret (.ref s.heap.objs.size))/\s'={s with heap:=h',drawn:=d,toks:=tk}/\(∀b o,s.heap.get? b=some o->h'.get? b=some o)/\h'.get? s.heap.objs.size=some {cls:= .type "list",dict:=none,data:= .seq acc c,slots:= #[]}/\acc.toList.Perm us)
  hh hS1 fresh (Nat.ne_of_gt al) (fun h' tk d acc c hk hS' z1=>⟨h',tk,d,acc,c,rfl,rfl,fun b o e=>hk b o (AE (Heap.lt_size e)) (Heap.get?_push_of_some _ e),hS',z1⟩)
 refine wpAny_mono key (fun f s' x=>?_) fun e s' x=>?_
 ·cases f with
  |done f=>
   obtain ⟨h',tk,d,acc,c,e,rfl,hk,hS',z1⟩:=x;cases e;show wpAny _ A (load s.heap.objs.size>>=_) _ _ _;exact wpAny_bind (wpAny_load hS' (wpAny_pure (h h' tk d acc.toList (Heap.lt_size hS') hk z1)))
  |again c₁=>
   refine ⟨x.1,codeAny_mono x.2 fun q s₂ y=>?_⟩
   obtain ⟨h',tk,d,acc,c,rfl,rfl,hk,hS',z1⟩:=y;show wpAny _ A (load s.heap.objs.size>>=_) _ _ _;exact wpAny_bind (wpAny_load hS' (wpAny_pure (h h' tk d acc.toList (Heap.lt_size hS') hk z1)))
 ·obtain ⟨_,_,_,_,_,e',_⟩:=x;cases e'
end
open Hm
abbrev Kn:=Ky×Addr
theorem kE {α β:Type} {f:α->β} {as bs:List β} (p:as.Perm bs):∀{l:List α},bs=l.map f->∃zs:List α,zs.Perm l/\as=zs.map f:=by
 induction p with
 |nil=>
  intro l e;cases l with
  |nil=>exact ⟨[],.refl _,rfl⟩
  |cons _ _=>cases e
 |cons u p ih=>
  intro l e;cases l with
  |nil=>cases e
  |cons a l=>
   rw[Ai] at e;injection e with e1 e2
   obtain ⟨zs,z1,z2⟩:=ih e2;exact ⟨a::zs,z1.cons _,by rw[Ai,e1,z2]⟩
 |swap u v l'=>
  intro l e
  match l,e with
  |a::b::l,e=>
   rw[Ai,Ai] at e;injection e with e1 e2
   injection e2 with e2 e3
   exact ⟨b::a::l,.swap _ _ _,by rw[Ai,Ai,e1,e2,e3]⟩
 |trans p q ih1 ih2=>
  intro l e;obtain ⟨zs,z1,z2⟩:=ih2 e;obtain ⟨ws,w1,w2⟩:=ih1 z2;exact ⟨ws,w1.trans z1,w2⟩
def mD (k:Ky):List Key:=k.map Sum.inl
theorem tH {a b:Ky} (h:mD a=mD b):a=b:=by
 induction a generalizing b with
 |nil=>cases b with|nil=>rfl|cons _ _=>cases h
 |cons x a ih=>
  cases b with
  |nil=>cases h
  |cons y b=>
   injection h with h1 h2
   injection h1 with h1
   rw[h1,ih h2]
theorem kF {prog:Program} {w:World}:∀{k:Ky} {us:CD},aM (k.map V.int) us->ItemsAre (aq prog w) (mD k) us
 | [],_,h=>by cases h;exact .nil
 |i::k,_,h=>by
  cases h with
  |cons r t=>
   obtain ⟨tk,rfl⟩:=r;exact .cons wm (kF t)
theorem tI {k:List Key} (xs:List Kx):∀(ys:List Kx),k∈(xs.foldl dH ys).map (fun x=>x.1)↔k∈ys.map (fun x=>x.1)∨k∈xs.map (fun x=>x.1):=by
 induction xs with
 |nil=>intro ys;simp
 |cons x xs ih=>
  intro ys;rw[List.foldl_cons,ih,Ai,AU];unfold dH
  split
  ·rename_i m;constructor
   ·rintro (h|h)
    ·exact .inl h
    ·exact .inr (.inr h)
   ·rintro (h|rfl|h)
    ·exact .inl h
    ·exact .inl m
    ·exact .inr h
  ·rw[B0,AI,Ai,List.map_nil,AS,or_assoc]
def pD (K:A4) (te:TE):TE:=fun σ H Q=>te σ H fun x H1=>∃(a:Addr) (xs:List Kn),x= .ref a/\aP K H1 a (xs.map fun x=>V.ref x.2)/\xs.length<4900/\(∀x∈xs,H1 x.2=some (.tup (x.1.map V.int))/\x.1≠ [])/\
 ∀(p:Addr) (ys:List Kn),H1 p=none->(∀y∈ys,y∈xs)->(ys.map fun y=>y.1).Nodup->(∀k,k∈ys.map (fun y=>y.1)↔k∈xs.map (fun x=>x.1))->Rs (ys.map fun y=>y.1)->Q (.ref p) (aL H1 p (.lst (ys.map fun y=>V.ref y.2)))
def nG:Option HO->Ky
 |some (.tup vs)=>vs.map fun v=>match v with| .int i=>i|_=>0
 |_=> []
theorem rf {k:Ky}:nG (some (.tup (k.map V.int)))=k:=by
 show (k.map V.int).map _=k;rw[BE]
 conv=>rhs;rw[<-List.map_id k]
 rfl
theorem kG:∀{xs:List Kn} {us:CD},aM (xs.map fun x=>V.ref x.2) us->us=xs.map fun x=>Value.ref x.2
 | [],_,.nil=>rfl
 |x::xs,_,.cons r t=>by rw[show _=Value.ref x.2 from r,kG t];rfl
theorem cV:∀(xs:List Kn),aM (xs.map fun x=>V.ref x.2) (xs.map fun x=>Value.ref x.2)
 | []=> .nil
 |x::xs=> .cons rfl (cV xs)
section
variable {X:Cx} {e:Expr} {te:TE} {p1 p2 pos pos2:Pos}
theorem fQ (hc:X.calm=true) (hu:X.A.units+64<cLine) (g1:Gl X "sorted") (m1:X.mg "sorted" =none) (g2:Gl X "set") (m2:X.mg "set" =none) (b1:bootBuiltins "sorted" =some (.builtin "sorted")) (b2:bootBuiltins "set" =some (.type "set")) (he:PE X e te)
  (hs:starEach [e] X.env= [(false,eval e X.env)]:=by rfl):
  PE X (.Call (.Name "sorted" p1) [.Call (.Name "set" p2) [e] [] pos2] [] pos) (pD X.K te):=by
 intro pins s σ H Q I h;apply wpAny_Call_Name_kw;refine di I g1 m1 b1 ?_ (by decide) (by decide)
 refine Calls.callWith_builtin rfl (Calls.evalArgs_plain ?_);refine Calls.spliced_cons (x:=eval (.Call (.Name "set" p2) [e] [] pos2) X.env) (rest:= []) ?_;apply wpAny_Call_Name_kw;refine di I g2 m2 b2 ?_ (by decide) (by decide)
 refine BJ ?_ hs rfl;rw[hs];refine Calls.spliced_cons (x:=eval e X.env) (rest:= []) (aZ (he pins s σ H _ I h) fun v s1 ⟨x,H1,I1,r1,a,xs,ex,hq,few,tups,q⟩=>?_)
 subst ex;cases r1;apply Calls.spliced_nil;obtain ⟨its,rv,pl,hz⟩:=I1.list hq;have ei:=kG rv;have sz:its.toArray.size=xs.length:=by rw[AW,<-rv.length,A5]
 have hli:s1.heap.IsList a its.toArray:=pl.isList;have key0:∀x∈xs,IsTupleKey (aq X.prog X.w) s1.heap (mD x.1) x.2:=fun x hx=>by
  obtain ⟨its',rv',⟨o,e1,c1,n1,d1⟩,_⟩:=I1.tuple (bF.of (tups x hx).1);exact ⟨o,its'.toArray,n1,e1,c1,d1,by rw[List.toList_toArray];exact kF rv'⟩
 refine pq (xs:=xs.map fun x=>(mD x.1,x.2)) (I.ok.hd hc) (by omega) hli (fun i v hv=>?_) (fun x hx=>?_) (by rw[sz,A5]) (by rw[sz];exact few) fun h' tk S2 kp=>?_
 ·have hv':its[i]?=some v:=by simpa using hv
  rw[ei,A9] at hv';obtain ⟨y,hy,rfl⟩:=AO.mp hv';exact ⟨(mD y.1,y.2),by rw[A9,hy];rfl,rfl⟩
 ·obtain ⟨y,hy,rfl⟩:=AX.mp hx;exact key0 y hy
 apply Calls.spliced_nil;obtain ⟨xs1,pm1,nd1,key1,G⟩:=S2.ge;have dz:iI (xs.map fun x=>(mD x.1,x.2)) its.toArray.size=(xs.map fun x=>(mD x.1,x.2)).foldl dH []:=by
  unfold iI;rw[Ad (by rw[A5,sz];exact A7 _)]
 have sub1:∀x∈xs1,x∈xs.map fun x=>(mD x.1,x.2):=fun x hx=>eI _ _ x (pm1.mem_iff.mp hx)
 obtain ⟨zs0,ez0,sub0⟩:∃zs0:List Kn,xs1=zs0.map (fun x=>(mD x.1,x.2))/\∀z∈zs0,z∈xs:=by
  have gen:∀(l:List Kx),(∀x∈l,x∈xs.map fun x=>(mD x.1,x.2))->∃zs0:List Kn,l=zs0.map (fun x=>(mD x.1,x.2))/\∀z∈zs0,z∈xs:=by
   intro l
   induction l with
   |nil=>exact fun _=>⟨[],rfl,fun z hz=>by cases hz⟩
   |cons x l ih=>
    intro hl;obtain ⟨zs,e1,e2⟩:=ih fun y hy=>hl y (AM _ hy)
    obtain ⟨y,hy,rfl⟩:=AX.mp (hl x Ae);exact ⟨y::zs,by rw[Ai,<-e1],fun z hz=>by
     rcases AU.mp hz with rfl|hz
     ·exact hy
     ·exact e2 z hz⟩
  exact gen xs1 sub1
 have I2:=I1.kept (t':=tk) (h':=h') (fun b o e=>kp b o (Heap.lt_size e) e)
 refine Calls.call_function_entry kind_sorted plain_sorted entry_sorted (args_sorted1 _) ?_;unfold Builtin.«sorted»;refine wpAny_bind (m:=checkCount "sorted" 1 1 _) (wpAny_pure ?_);refine wpAny_bind (mC (A:=X.A.in1) (s:={s1 with heap:=h',toks:=tk}) (I.ok.hd hc) G fun h2 tk2 d acc hlt hkp hp=>?_)
 rw[ez0,BE] at hp;obtain ⟨zs,pz,eacc⟩:=kE (f:=fun x:Kn=>Value.ref x.2) hp rfl
 have subz:∀z∈zs,z∈xs:=fun z hz=>sub0 z (pz.mem_iff.mp hz)
 have ndz0:(zs0.map fun y=>y.1).Nodup:=by
  rw[ez0,BE] at nd1;have:(zs0.map fun y=>mD y.1).Nodup:=nd1
  rw[Bv,Ay] at this⊢;exact this.imp fun {a b} h e=>h (congrArg mD e)
 have ndz:(zs.map fun y=>y.1).Nodup:=(pz.map _).nodup_iff.mpr ndz0
 have memz:∀k,k∈zs.map (fun y=>y.1)↔k∈xs.map (fun x=>x.1):=fun k=>by
  constructor
  ·intro hk;obtain ⟨z,hz,rfl⟩:=AX.mp hk;exact AX.mpr ⟨z,subz z hz,rfl⟩
  ·intro hk;obtain ⟨x,hx,rfl⟩:=AX.mp hk;have m:mD x.1∈xs1.map (fun x=>x.1):=by
    rw[(pm1.map _).mem_iff,dz,tI];refine .inr ?_;rw[BE];exact AX.mpr ⟨x,hx,rfl⟩
   rw[ez0,BE] at m;obtain ⟨z,hz,e⟩:=AX.mp m;exact AX.mpr ⟨z,pz.mem_iff.mpr hz,tH e⟩
 have la:acc.length=zs.length:=by rw[eacc,A5]
 have lzs:zs.length<=xs.length:=by
  have h1:(zs.map fun y=>y.1).length<=(xs.map fun x=>x.1).length:=ndz.length_le_of_subset fun k hk=>(memz k).mp hk
  simpa using h1
 have lz:acc.length<=sizeLine:=by
  have sl:sizeLine=16777216:=sizeLine_eq;omega
 refine wpAny_bind (wpAny_newList ?_ lz);have hoL:(h2.push (seqObj "list" acc.toArray 0)).get? h2.objs.size=some (seqObj "list" acc.toArray 0):=Heap.get?_push_size _ rfl
 let nm:Addr->Option Ky:=fun a=>if V.ref a∈zs.map (fun x=>V.ref x.2) then some (nG (H1 a)) else none
 have nm_in:∀z∈zs,nm z.2=some z.1:=fun z hz=>by
  show (if V.ref z.2∈zs.map (fun x=>V.ref x.2) then some (nG (H1 z.2)) else none)=_
  rw[if_pos (AX.mpr ⟨z,hz,rfl⟩),(tups z (subz z hz)).1,rf]
 have nm_of:∀{a:Addr} {k:Ky},nm a=some k->∃z∈zs,z.2=a/\z.1=k:=fun {a k} e=>by
  have e':(if V.ref a∈zs.map (fun x=>V.ref x.2) then some (nG (H1 a)) else none)=some k:=e
  by_cases m:V.ref a∈zs.map (fun x=>V.ref x.2)
  ·obtain ⟨z,hz,ez⟩:=AX.mp m;injection ez with ez
   refine ⟨z,hz,ez,?_⟩;have:=nm_in z hz;rw[ez,e] at this;exact (Av this).symm
  ·rw[if_neg m] at e';cases e'
 have keys:∀u∈acc,∃k,(bC true nm).keyOf u=some k:=fun u hu=>by
  rw[eacc] at hu;obtain ⟨z,hz,rfl⟩:=AX.mp hu;exact ⟨z.1,nm_in z hz⟩
 have tup:true=true->∀x k,nm x=some k->oK (h2.push (seqObj "list" acc.toArray 0)) x k/\k≠ []:=fun _ x k hx=>by
  obtain ⟨z,hz,rfl,rfl⟩:=nm_of hx;obtain ⟨et,ne⟩:=tups z (subz z hz);obtain ⟨its',rv',⟨o,e1,c1,n1,d1⟩,_⟩:=I1.tuple (bF.of et);exact ⟨⟨o,its',n1,Heap.get?_push_of_some _ (hkp _ _ (kp _ _ (Heap.lt_size e1) e1)),c1,d1,nr rv'⟩,ne⟩
 refine wpAny_bind (wpAny_holding (wpAny_call_entry slot_list_sort ⟨_,hoL,rfl⟩ entry_list_sort (sT (b:=true) (nm:=nm) hoL keys tup lz fun st' hp' hs'=>⟨_,rfl,?_⟩) (args_list_sort _)))
 rw[pairsOf_toList,qK,eacc,BE] at hp';obtain ⟨ws,pw,ew⟩:=kE (f:=fun x:Kn=>((Value.ref x.2,Value.ref x.2):Value×Value)) hp' rfl
 have subw:∀z∈ws,z∈zs:=fun z hz=>pw.mem_iff.mp hz
 have rs:Rs (ws.map fun y=>y.1):=by
  rw[ew,Ay] at hs';show List.Pairwise _ _;rw[Ay];refine hs'.imp_of_mem fun {a b} ha hb q=>?_
  have e1:kk (bC true nm) ((Value.ref a.2,Value.ref a.2):Value×Value)=a.1:=by unfold kk;show ((nm a.2).getD _)=_;rw[nm_in a (subw a ha)];rfl
  have e2:kk (bC true nm) ((Value.ref b.2,Value.ref b.2):Value×Value)=b.1:=by unfold kk;show ((nm b.2).getD _)=_;rw[nm_in b (subw b hb)];rfl
  have q':dY (kk (bC true nm) ((Value.ref b.2,Value.ref b.2):Value×Value)) (kk (bC true nm) ((Value.ref a.2,Value.ref a.2):Value×Value))=false:=q;rw[e1,e2] at q';exact q'
 have eo2:((arrOf st').map (·.2)).toList=ws.map fun x=>Value.ref x.2:=by
  rw[Array.toList_map,ew,BE]
  rfl
 have I3:aB X pins σ H1 {s1 with heap:=h',drawn:=d,toks:=tk}:=I2.drew (d:=d)
 have sl:h'.objs.size<=h2.objs.size:=Nat.le_of_lt hlt;refine wpAny_pure ⟨_,rfl,.ref h2.objs.size,_,I3.laid (a:=h2.objs.size) (o:= .lst (ws.map fun y=>V.ref y.2)) (h':=sortedHeap (h2.push (seqObj "list" acc.toArray 0)) h2.objs.size acc ((arrOf st').map (·.2))) (t':=tk2) (fun b o eo=>?_) sl ?_,rfl,
  q _ ws (I3.hok.fresh sl) (fun y hy=>subz y (subw y hy)) ((pw.map _).nodup_iff.mpr ndz) (fun k=>((pw.map _).mem_iff).trans (memz k)) rs⟩
 ·have eo':=hkp b o eo;have bl:=Heap.lt_size eo';rw[sortedHeap_old (AE bl) (by rw[size_push'];exact Am bl)]
  exact Heap.get?_push_of_some _ eo'
 ·obtain ⟨e,he⟩:=sortedHeap_at (out:=(arrOf st').map (·.2)) hoL;refine ⟨by rw[A5,pw.length_eq,<-la];exact lz,((arrOf st').map (·.2)).toList,e,?_,?_⟩
  ·rw[eo2];exact cV ws
  ·rw[Array.toArray_toList];exact he
end
end Su
namespace L2
open PySem PySem.Spec PyProof.Rows XH Sw Hm
theorem tJ {X:Cx} (n:Nat) (hu:X.A.units+(n+1)<cLine):dX X (compareOp .NotEq) (fun x y H Q=>∃a b xs ys,x= .ref a/\y= .ref b/\aP X.K H a xs/\aP X.K H b ys/\jb (wk X.K H n) xs ys/\Q (.bl false) H):=by
 intro pins s σ H x y v u Q I rx ry h;obtain ⟨a,b,xs,ys,rfl,rfl,h1,h2,hA,hq⟩:=h;cases rx;cases ry;obtain ⟨i1,v1,p1,_⟩:=I.list h1;obtain ⟨i2,v2,p2,_⟩:=I.list h2;refine SeqAt.RcNeAt.lists (e:=fun _=>true) p1.isList p2.isList (by simp[<-v1.length,<-v2.length,hA.len]) (by omega) (fun j g1 g2=>?_) _ _ _ _ ⟨.bl false,H,I,by show Value.bool _=Value.bool _;simp,hq⟩
 exact eE (A:=X.A.in1) (s:=s) (fun x y u w=>jc I n X.A.in1 x y u w (by show X.A.units+1+n<_;omega)) hA v1 v2 j (by simpa using g1) (by simpa using g2)
end L2
namespace Sw
open PySem L2 XH Hm
def TF (H:Hp) (l:Addr) (fs:List Int):Prop:=∃as:CC,as.length=fs.length/\H l=some (.lst (as.map V.ref))/\∀(i:Nat) (a:Addr) (f:Int),as[i]?=some a->fs[i]?=some f->∃v w:V,H a=some (.tup [.int f,v,w])
theorem TF.same {H H':Hp} {l:Addr} {fs:List Int} (h:TF H l fs) (g:au H H'):TF H' l fs:=by
 obtain ⟨as,h1,h2,h3⟩:=h;exact ⟨as,h1,g _ _ h2,fun i a f e1 e2=>let ⟨v,w,e⟩:=h3 i a f e1 e2;⟨v,w,g _ _ e⟩⟩
def bA (fs:List Int) (x:Int):List Int:=((Ac fs.length).filter fun i=>decide (fs.getD i 0=x)).map fun i:Nat=>(0+(i:Int):Int)
theorem gI (fs:List Int) (x:Int):(bA fs x).map V.int=cO fs.length (fun i=>decide (fs.getD i 0=x)) (fun i=> .int (0+(i:Int))):=by
 unfold bA cO;rw[BE]
 rfl
def gJ (k:dg) (s o:Int):List Ky:=if k.1= "within" then [[2*o+1,2*s,0],[2*s,2*o+1,-k.2.2.2]] else [[2*o+1,2*s,0]]
abbrev AP:=List Ky×List Ky
def mn (s o:Int):Int:=if o<s then o else s
def mx (s o:Int):Int:=if o>s then o else s
def dZ (k:dg) (s:Int) (ap:AP) (o:Int):AP:=if k.1= "apart" then (ap.1,ap.2++ [[mn s o,mx s o]]) else (ap.1++gJ k s o,ap.2)
def jo (k:dg) (O:List Int) (ap:AP) (s:Int):AP:=O.foldl (dZ k s) ap
def cY (fs:List Int) (ap:AP) (k:dg):AP:=(bA fs k.2.1).foldl (jo k (bA fs k.2.2.1)) ap
def eJ (ks:List dg) (fs:List Int):AP:=ks.foldl (cY fs) ([],[])
theorem cE {α β:Type} (f:β->α->β) (b:β) {xs:List α} {i:Nat} {x:α} (h:xs[i]?=some x):(xs.take (i+1)).foldl f b=f ((xs.take i).foldl f b) x:=by
 rw[BF,h,BQ,List.foldl_append]
 rfl
theorem bZ {α β:Type} (f:β->α->β) (b:β) (xs:List α):(xs.take xs.length).foldl f b=xs.foldl f b:=by rw[List.take_length]
theorem cZ {α β:Type} {f:β->α->β} {μ:β->Nat} {c:Nat} {P:α->Prop} (h:∀b x,P x->μ (f b x)<=μ b+c):∀(xs:List α) (b:β),(∀x∈xs,P x)->μ (xs.foldl f b)<=μ b+c*xs.length
 | [],b,_=>by simp
 |x::xs,b,hp=>by
  have h1:=cZ h xs (f b x) fun y hy=>hp y (AM _ hy)
  have h2:=h b x (hp x Ae);rw[List.foldl_cons,Ah,Nat.mul_add];omega
theorem kH (k:dg) (s o:Int):(gJ k s o).length<=2:=by unfold gJ;split<;>simp
theorem jp (k:dg) (s:Int) (ap:AP) (o:Int):(dZ k s ap o).1.length+(dZ k s ap o).2.length<=(ap.1.length+ap.2.length)+2:=by
 have:=kH k s o;unfold dZ
 split
 ·simp;omega
 ·simp;omega
theorem rg {fs:List Int} {m:Nat} (hm:∀x,(bA fs x).length<=m) (ap:AP) (k:dg):(cY fs ap k).1.length+(cY fs ap k).2.length<=(ap.1.length+ap.2.length)+2*m*m:=by
 have s1:∀(b:AP) (s:Int),True->(jo k (bA fs k.2.2.1) b s).1.length+(jo k (bA fs k.2.2.1) b s).2.length<=(b.1.length+b.2.length)+2*m:=fun b s _=>by
  have:=cZ (f:=dZ k s) (μ:=fun b:AP=>b.1.length+b.2.length) (c:=2) (P:=fun _=>True) (fun b x _=>jp k s b x) (bA fs k.2.2.1) b fun _ _=>trivial
  have h2:=Nat.mul_le_mul_left 2 (hm k.2.2.1);unfold jo;omega
 have:=cZ (f:=jo k (bA fs k.2.2.1)) (μ:=fun b:AP=>b.1.length+b.2.length) (c:=2*m) (P:=fun _=>True) s1 (bA fs k.2.1) ap fun _ _=>trivial
 have h2:=Nat.mul_le_mul_left (2*m) (hm k.2.1);unfold cY;omega
theorem jq:∀(fs:List Int) (x:Int),(bA fs x).length=(fs.filter fun f=>decide (f=x)).length:=by
 intro fs x;unfold bA;rw[A5];have gen:∀n,n<=fs.length->((Ac n).filter fun i=>decide (fs.getD i 0=x)).length=((fs.take n).filter fun f=>decide (f=x)).length:=by
  intro n
  induction n with
  |zero=>intro _;simp
  |succ n ih=>
   intro hn;have hl:fs[n]?=some fs[n]:=A0 (by omega)
   rw[List.range_succ,List.filter_append,AB,ih (by omega),BF,hl,BQ,List.filter_append,AB]
   congr 1
   rw[List.filter_cons,List.filter_cons,BG,hl];simp only[Option.getD_some]
   split<;>simp
 have:=gen fs.length (A7 _);rw[List.take_length] at this;exact this
theorem fE {fs:List Int} {x y:Int} (h:y∈bA fs x):0<=y/\y<fs.length:=by
 unfold bA at h;obtain ⟨i,hi,rfl⟩:=AX.mp h;have:=B6.mp (List.mem_filter.mp hi).1;omega
theorem aR.nil {H:Hp} {l:Addr} (e:H l=some (.lst [])):aR H l []:=⟨[],e,fm.nil⟩
theorem aR.other {H:Hp} {l m:Addr} {ks:List Ky} {xs ys:List V} (h:aR H l ks) (e:H m=some (.lst xs)) (n:m≠l):aR (aL H m (.lst ys)) l ks:=by
 obtain ⟨as,h1,h2⟩:=h;refine ⟨as,by rw[am (Ne.symm n)];exact h1,h2.imp fun t k ht=>?_⟩
 rw[am (fun z=>by rw[z,e] at ht;cases ht)]
 exact ht
theorem aR.snoc {H:Hp} {l t:Addr} {ks:List Ky} {k:Ky} (h:aR H l ks) (ht:H t=some (.tup (k.map V.int))):∃xs,H l=some (.lst xs)/\xs.length=ks.length/\aR (aL H l (.lst (xs++ [.ref t]))) l (ks++ [k]):=by
 obtain ⟨as,h1,h2⟩:=h;refine ⟨_,h1,by rw[A5];exact h2.1,as++ [t],by rw[af,B0];rfl,(h2.snoc ht).imp fun t k ht=>?_⟩
 rw[am (fun z=>by rw[z,h1] at ht;cases ht)]
 exact ht
theorem rh {α:Type} {R:Addr->α->Prop} {as bs:CC} {xs ys:List α} (h:fm R as xs) (k:fm R bs ys):fm R (as++bs) (xs++ys):=by
 refine ⟨by rw[AB,AB,h.1,k.1],fun i a x e1 e2=>?_⟩
 by_cases c:i<as.length
 ·rw[A8 c] at e1;rw[A8 (by rw[<-h.1];exact c)] at e2
  exact h.2 i a x e1 e2
 ·rw[A6 (by omega)] at e1
  rw[A6 (by rw[<-h.1];omega),<-h.1] at e2
  exact k.2 _ a x e1 e2
theorem aR.ext {H:Hp} {l m:Addr} {ks js:List Ky} (h:aR H l ks) (k:aR H m js):∃xs ys,H l=some (.lst xs)/\H m=some (.lst ys)/\xs.length=ks.length/\ys.length=js.length/\aR (aL H l (.lst (xs++ys))) l (ks++js):=by
 obtain ⟨as,h1,h2⟩:=h;obtain ⟨bs,k1,k2⟩:=k;refine ⟨_,_,h1,k1,by rw[A5];exact h2.1,by rw[A5];exact k2.1,as++bs,by rw[af,B0],(rh h2 k2).imp fun t k ht=>?_⟩
 rw[am (fun z=>by rw[z,h1] at ht;cases ht)]
 exact ht
def vM (A xs:List Ky):Prop:=A.Nodup/\(∀k,k∈A↔k∈xs)/\Rs A
theorem aR.kn {H:Hp} {l:Addr} {ks:List Ky} (h:aR H l ks) (ne:∀k∈ks,k≠ []):∃xs:List Su.Kn,H l=some (.lst (xs.map fun x=>V.ref x.2))/\xs.map (fun x=>x.1)=ks/\∀x∈xs,H x.2=some (.tup (x.1.map V.int))/\x.1≠ []:=by
 obtain ⟨as,h1,h2⟩:=h;obtain ⟨hl,hr⟩:=h2;have gen:∀(as:CC) (ks:List Ky),as.length=ks.length->(∀(i:Nat) (a:Addr) (x:Ky),as[i]?=some a->ks[i]?=some x->H a=some (.tup (x.map V.int)))->(∀k∈ks,k≠ [])->∃xs:List Su.Kn,as.map V.ref=xs.map (fun x=>V.ref x.2)/\xs.map (fun x=>x.1)=ks/\∀x∈xs,H x.2=some (.tup (x.1.map V.int))/\x.1≠ []:=by
  intro as
  induction as with
  |nil=>intro ks h _ _;exact ⟨[],rfl,by cases ks with|nil=>rfl|cons _ _=>simp at h,fun x hx=>by cases hx⟩
  |cons a as ih=>
   intro ks h hr hn;cases ks with
   |nil=>simp at h
   |cons k ks=>
    obtain ⟨xs,e1,e2,e3⟩:=ih ks (by simpa using h) (fun i b x q1 q2=>hr (i+1) b x (by simpa using q1) (by simpa using q2)) fun k hk=>hn k (AM _ hk)
    refine ⟨(k,a)::xs,by rw[Ai,Ai,e1],by rw[Ai,e2],fun x hx=>?_⟩
    rcases AU.mp hx with rfl|hx
    ·exact ⟨hr 0 a k rfl rfl,hn k Ae⟩
    ·exact e3 x hx
 obtain ⟨xs,e1,e2,e3⟩:=gen as ks hl hr ne;exact ⟨xs,by rw[<-e1];exact h1,e2,e3⟩
theorem nH {H:Hp} {l:Addr} {ys:List Su.Kn} (e:H l=some (.lst (ys.map fun y=>V.ref y.2))) (h:∀y∈ys,H y.2=some (.tup (y.1.map V.int))):aR H l (ys.map fun y=>y.1):=by
 refine ⟨ys.map fun y=>y.2,by rw[BE];exact e,by rw[A5,A5],fun i a x e1 e2=>?_⟩
 rw[A9] at e1 e2;obtain ⟨y,hy,rfl⟩:=AO.mp e1;rw[hy] at e2;cases e2;exact h y (AR hy)
theorem ve {k:dg} {s o:Int} {ap:AP} (h:(∀x∈ap.1,x≠ [])/\∀x∈ap.2,x≠ []):(∀x∈(dZ k s ap o).1,x≠ [])/\∀x∈(dZ k s ap o).2,x≠ []:=by
 unfold dZ
 split
 ·refine ⟨h.1,fun x hx=>?_⟩
  rcases AI.mp hx with q|q
  ·exact h.2 x q
  ·rw[AS.mp q];exact List.cons_ne_nil _ _
 ·refine ⟨fun x hx=>?_,h.2⟩
  rcases AI.mp hx with q|q
  ·exact h.1 x q
  ·unfold gJ at q
   split at q
   ·simp only[AU,Bf,or_false] at q;rcases q with rfl|rfl<;>exact List.cons_ne_nil _ _
   ·rw[AS.mp q];exact List.cons_ne_nil _ _
theorem eK {α β:Type} {f:β->α->β} {P:β->Prop} (h:∀b x,P b->P (f b x)):∀(xs:List α) (b:β),P b->P (xs.foldl f b)
 | [],b,p=>p
 |x::xs,b,p=>eK h xs (f b x) (h b x p)
def rj (ap:AP):Prop:=(∀x∈ap.1,x≠ [])/\∀x∈ap.2,x≠ []
theorem vf (ks:List dg) (fs:List Int):rj (eJ ks fs):=by
 have h0:rj ([],[]):=⟨(fun x hx=>by cases hx),fun x hx=>by cases hx⟩
 have h1:∀(k:dg) (s:Int) (b:AP) (o:Int),rj b->rj (dZ k s b o):=fun k s b o hb=>ve hb
 have h2:∀(k:dg) (O:List Int) (b:AP) (s:Int),rj b->rj (jo k O b s):=fun k O b s hb=>eK (P:=rj) (h1 k s) O b hb
 have h3:∀(b:AP) (k:dg),rj b->rj (cY fs b k):=fun b k hb=>eK (P:=rj) (h2 k _) _ b hb
 exact eK (P:=rj) h3 ks _ h0
theorem vg {a b:Int}:decide (V.int a=V.int b)=decide (a=b):=decide_eq_decide.mpr ⟨V.int.inj,congrArg _⟩
theorem xL {a b:Str}:decide (V.str a=V.str b)=decide (a=b):=decide_eq_decide.mpr ⟨V.str.inj,congrArg _⟩
theorem tK {a b:Str} {p q:Prop} (h1:a=b->p) (h2:a≠b->q):if decide (V.str a=V.str b)=true then p else q:=by
 rw[xL]
 by_cases c:a=b
 ·rw[if_pos (decide_eq_true c)];exact h1 c
 ·rw[if_neg (by rw[decide_eq_false c];decide)]
  exact h2 c
theorem rk {H:Hp} {t1 t2 p:Addr} {k1 k2:Ky} (e1:H t1=some (.tup (k1.map V.int))) (e2:H t2=some (.tup (k2.map V.int))) (np:H p=none):aR (aL H p (.lst [.ref t1,.ref t2])) p [k1,k2]:=by
 refine ⟨[t1,t2],af,rfl,fun i a x q1 q2=>?_⟩
 match i,q1,q2 with
 |0,q1,q2=>cases q1;cases q2;exact ao np _ _ _ e1
 |1,q1,q2=>cases q1;cases q2;exact ao np _ _ _ e2
theorem rq {H:Hp} {t1 p:Addr} {k1:Ky} (e1:H t1=some (.tup (k1.map V.int))) (np:H p=none):aR (aL H p (.lst [.ref t1])) p [k1]:=by
 refine ⟨[t1],af,rfl,fun i a x q1 q2=>?_⟩
 match i,q1,q2 with
 |0,q1,q2=>cases q1;cases q2;exact ao np _ _ _ e1
def gK:Sp:=fun vs H Q _=>∃(lt:Addr) (fs:List Int) (x:Int),vs= [.ref lt,.int x]/\TF H lt fs/\fs.length<=1000/\∀(p:Addr) (H':Hp),H p=none->au H H'->H' p=some (.lst ((bA fs x).map V.int))->Q (.ref p) H'
def gL:Sp:=fun vs H Q _=>∃(a:Addr) (k:dg) (s o:Int),vs= [.ref a,.int s,.int o]/\H a=some (.tup [.str k.1,.int k.2.1,.int k.2.2.1,.int k.2.2.2])/\ -1000<=s/\s<=1000/\ -1000<=o/\o<=1000/\∀(p:Addr) (H':Hp),H p=none->au H H'->aR H' p (gJ k s o)->Q (.ref p) H'
def xM (H:Hp) (Q:VK) (ap:AP):Prop:=∀(t la lb:Addr) (A P:List Ky) (H':Hp),au H H'->H la=none->H lb=none->la≠lb->H' t=some (.tup [.ref la,.ref lb])->aR H' la A->aR H' lb P->vM A ap.1->vM P ap.2->Q (.ref t) H'
end Sw
namespace L2
open PySem PySem.Spec PyProof.Rows XH Sw
section
variable {X:Cx} {k j:Nat} {f:Addr} {ps:CB} {sp:Sp} {dvs:List V} {m:Str} {pos apos:Pos} {e o:Expr} {es:List Expr} {ta:TE} {t:TA}
theorem nJ {pl:Sem Bool} {K:A4} (hK:X.K=K) (he:PE X o ta) (D:ju X.prog X.w X.K X.mg X.base ba k f ps dvs sp) (hr:bx j X.A) (hk:k<=j) (ha:PA X (e::es) t)
  (hst:starEach (e::es) X.env=(false,eval e X.env)::starEach es X.env:=by rfl) (hpl:(backTo pos (starEach es X.env)).any (·.1)=false:=by rfl)
  (ht:eval (.Call (.Attribute o m apos) (e::es) [] pos) X.env=(do
   let ov<-eval o X.env
   standAt apos.atName
   let (f,first)<-holding [ov] (getMethod ov m pl)
   callWith pos f first (backTo pos (starEach (e::es) X.env)) (backToKw pos (keywordEach [] X.env))):=by rfl):
  PE X (.Call (.Attribute o m apos) (e::es) [] pos) (qz K m f sp [] ta t):=by
 subst hK;exact eW he D hr hk ha hst hpl ht
end
end L2
namespace Sw
open PySem L2 XH Hm
def xN (c:Addr) (G:Hp) (E:XK):Prop:=∀H',au G H'->E (.ref c) none H'
abbrev yq:=Option (Int×Int)
structure Sq where
 C:Addr
 nm:Str
 l:Int
 m:Int
 us:CC
 c:me
 f:yq
structure rz (cC cR cW:Addr) (H:Hp) (x:Addr) (s:Sq):Prop where
 st:uc H x s.C s.nm s.l s.m s.us s.c
 kind:(s.f=none/\(s.C=cC∨s.C=cR))∨(s.C=cW/\∃(fp fq:Int) (t dx:Addr) (ff:List (Str×V)),s.f=some (fp,fq)/\H x=some (.ins s.C dx ff)/\ff.lookup ("fill" :Str)=some (.ref t)/\H t=some (.tup [.int fp,.int fq])/\0<fp/\0<fq/\Bd 201 fp/\Bd 201 fq)
 dues:∀d∈gC s.l s.m s.us s.c,Bd 210 d.1/\Bd 210 d.2.1/\UL H d.2.2 (u6 H)
theorem rz.same {cC cR cW:Addr} {H H':Hp} {x:Addr} {s:Sq} (h:rz cC cR cW H x s) (g:au H H'):rz cC cR cW H' x s:=by
 refine ⟨h.st.same g,?_,fun d hd=>let ⟨a,b,c⟩:=h.dues d hd;⟨a,b,c.later g⟩⟩
 rcases h.kind with k|⟨k,fp,fq,t,dx,ff,e1,e2,e3,e4,r⟩
 ·exact .inl k
 ·exact .inr ⟨k,fp,fq,t,dx,ff,e1,g _ _ e2,e3,g _ _ e4,r⟩
def xO (f:yq) (a b sp sq n:Int):Prop:=match f with
 |none=>n=1
 |some (fp,fq)=>wY n fp fq a b sp sq
def TG (H:Hp) (l:Addr) (ts:List iD):Prop:=∃as:CC,as.length=ts.length/\H l=some (.lst (as.map V.ref))/\∀(i:Nat) (a:Addr) (t:iD),as[i]?=some a->ts[i]?=some t->∃w:V,H a=some (.tup [.int t.1,.int t.2,w])
theorem TG.tf {H:Hp} {l:Addr} {ts:List iD} (h:TG H l ts):TF H l (ts.map fun t=>t.1):=by
 obtain ⟨as,h1,h2,h3⟩:=h;refine ⟨as,by rw[A5];exact h1,h2,fun i a f e1 e2=>?_⟩
 rw[A9] at e2;obtain ⟨t,ht,rfl⟩:=AO.mp e2;obtain ⟨w,e⟩:=h3 i a t e1 ht;exact ⟨_,_,e⟩
theorem TG.same {H H':Hp} {l:Addr} {ts:List iD} (h:TG H l ts) (g:au H H'):TG H' l ts:=by
 obtain ⟨as,h1,h2,h3⟩:=h;exact ⟨as,h1,g _ _ h2,fun i a t e1 e2=>let ⟨w,e⟩:=h3 i a t e1 e2;⟨w,g _ _ e⟩⟩
theorem TG.nil {H:Hp} {l:Addr} (e:H l=some (.lst [])):TG H l []:=⟨[],rfl,e,fun i a t e=>by simp at e⟩
theorem TG.snoc {H:Hp} {l a:Addr} {ts:List iD} {t:iD} {w:V} (h:TG H l ts) (k1:H a=some (.tup [.int t.1,.int t.2,w])):∃xs,H l=some (.lst xs)/\xs.length=ts.length/\TG (aL H l (.lst (xs++ [.ref a]))) l (ts++ [t]):=by
 obtain ⟨as,h1,h2,h3⟩:=h;have keep:∀{b:Addr} {zs:List V} {o:HO},H b=some (.tup zs)->(aL H l o) b=some (.tup zs):=fun {b zs o} hb=>by
  rw[am (fun z=>by subst z;rw[h2] at hb;cases hb)]
  exact hb
 refine ⟨_,h2,by simp[h1],as++ [a],by simp[h1],by rw[af,B0];rfl,fun i b p e1 e2=>?_⟩
 by_cases hi:i<as.length
 ·rw[A8 hi] at e1;rw[A8 (by omega)] at e2
  obtain ⟨w,e⟩:=h3 i b p e1 e2;exact ⟨w,keep e⟩
 ·have e3:i=as.length:=by
   have:=(A3.mp e1).1;simp at this;omega
  subst e3;rw[A6 (by omega)] at e1
  rw[A6 (by omega),h1] at e2
  simp at e1 e2;subst e1;subst e2;exact ⟨w,keep k1⟩
def rQ (pr:Nat->Int->Prop):RA Nat:=fun _ _ v i=>∃n:Int,v= .int n/\pr i n
instance {pr:Nat->Int->Prop}:Mv (rQ pr):=⟨fun _ h=>h⟩
theorem tL {pr:Nat->Int->Prop} {P:Addr->Prop} {H:Hp} {vs:List V} {n:Nat} (h:A2 (rQ pr P H) vs ((Ac n).map fun i=>i)):∃ns:List Int,vs=ns.map V.int/\ns.length=n/\∀(i:Nat) (k:Int),ns[i]?=some k->pr i k:=by
 obtain ⟨h1,h2⟩:=h;rw[A5,B7] at h1;have at_:∀(i:Nat) (v:V),vs[i]?=some v->∃k:Int,v= .int k/\pr i k:=fun i v hv=>h2 i v i hv (by
  have:=(A3.mp hv).1;rw[A9,List.getElem?_range (by omega)]
  rfl)
 refine ⟨vs.map fun v=>match v with| .int k=>k|_=>0,?_,by rw[A5];exact h1,fun i k hk=>?_⟩
 ·apply List.ext_getElem?;intro i;rw[A9,A9];cases e:vs[i]? with
  |none=>rfl
  |some v=>
   obtain ⟨k,rfl,_⟩:=at_ i v e
   rfl
 ·rw[A9] at hk;obtain ⟨v,hv,rfl⟩:=AO.mp hk;obtain ⟨k,rfl,p⟩:=at_ i v hv;exact p
theorem rA {p q a b:Int} (F:Fr p q a b) (ha:0<a) (hb:0<b):0<p:=by
 have h:=F.same;have k:=Int.mul_pos ha F.pos;rcases Int.lt_or_le 0 p with c|c
 ·exact c
 ·exfalso;have:p*b<=0:=Int.mul_nonpos_of_nonpos_of_nonneg c (Int.le_of_lt hb);omega
theorem nL {n p q fp fq sp sq:Int} (h:wY n p q fp fq sp sq) (h1:0<p) (h2:0<q) (h3:0<fp) (h4:0<fq) (h5:0<sp) (h6:0<sq):1<=n:=by
 have a:0<p*fp*sq:=Int.mul_pos (Int.mul_pos h1 h3) h6;have b:0<sp*q*fq:=Int.mul_pos (Int.mul_pos h5 h2) h4;have lo:=h.lo;rcases Int.lt_or_le n 1 with c|c
 ·exfalso;have:n*(sp*q*fq)<=0:=Int.mul_nonpos_of_nonpos_of_nonneg (by omega) (Int.le_of_lt b)
  omega
 ·exact c
theorem gM:∀{ns:List Int},(∀n∈ns,1<=n)->(ns.length:Int)<=ns.sum
 | [],_=>by simp
 |n::ns,h=>by
  have h1:=gM (ns:=ns) fun k hk=>h k (AM _ hk)
  have h2:=h n Ae;rw[List.sum_cons,Ah];omega
theorem rB:∀{ns:List Int},(∀n∈ns,1<=n)->∀{i:Nat} {n:Int},ns[i]?=some n->n<=ns.sum
 | [],_,i,n,h=>by simp at h
 |m::ns,hp,i,n,h=>by
  rw[List.sum_cons];have h1:=gM (ns:=ns) fun k hk=>hp k (AM _ hk)
  have h2:=hp m Ae;cases i with
  |zero=>simp at h;omega
  |succ i=>
   have:=rB (ns:=ns) (fun k hk=>hp k (AM _ hk)) (i:=i) (n:=n) (by simpa using h)
   omega
theorem dW {cs:List Int} (hp:∀n∈cs,1<=n):∀n,n<=cs.length->((aV cs n).length:Int)=(cs.take n).sum
 |0,_=>by simp[aV]
 |n+1,hn=>by
  have ih:=dW hp n (by omega)
  have e:cs[n]?=some cs[n]:=A0 (by omega)
  have h1:=hp cs[n] (BO _);rw[BF,e,BQ,List.sum_append,<-ih];simp only[aV,AB,A5,B7,BG,e,Option.getD_some,List.sum_cons,List.sum_nil];omega
def iJ (K:A4):Sp:=fun vs H Q _=>∃(r C dx:Addr) (fl:List (Str×V)) (n p0:Int),vs= [.ref r,.int n]/\H r=some (.ins C dx fl)/\eT K C/\aj K C "plates" /\fl.lookup ("plates" :Str)=some (.int p0)/\1<=p0/\p0<=1000/\∀p q:Int,Fr p q n p0->Pair H Q p q
def gN (K:A4) (cC cR cW cTm:Addr):Sp:=fun vs H Q E=>∃(r C dx ls:Addr) (fl:List (Str×V)) (pl p0 sp sq:Int) (vz:V) (xs:CC) (ss:List Sq),vs= [.ref r,.int pl,vz]/\H r=some (.ins C dx fl)/\eT K C/\aj K C "plates" /\aj K C "steps" /\fl.lookup ("plates" :Str)=some (.int p0)/\fl.lookup ("steps" :Str)=some (.ref ls)/\1<=p0/\p0<=1000/\1<=pl/\pl<=1000000/\
 ((vz= .non/\sp=1/\sq=1)∨∃ts,vz= .ref ts/\bX K 201 H ts sp sq)/\0<sp/\H ls=some (.lst (xs.map V.ref))/\xs.length=ss.length/\xs.length<=12/\(∀(i:Nat) (x:Addr) (s:Sq),xs[i]?=some x->ss[i]?=some s->rz cC cR cW H x s)/\
 ∀(a b:Int) (ns:List Int),Fr a b pl p0->ns.length=ss.length->(∀(i:Nat) (s:Sq) (n:Int),ss[i]?=some s->ns[i]?=some n->xO s.f a b sp sq n)->
  (ns.sum>24->xN cTm H E)/\(ns.sum<=24->∀(l:Addr) (H':Hp),au H H'->H l=none->TG H' l (aV ns ns.length)->Q (.ref l) H')
abbrev fF:=List (Int×Int)
def eM (T:fF) (k:Int):Int×Int:=T.getD k.toNat (0,0)
def tm (T:fF) (p:Int):Int:=if p.fmod 2=0 then (eM T (p.fdiv 2)).1 else (eM T (p.fdiv 2)).2
def rC (T:fF):Ky->Bool
 | [p,q,lag]=> !decide (tm T q<tm T p+lag)
 |_=>true
def cP (T:fF) (a b:Int):Bool:=decide ((eM T a).1<(eM T b).2)&&decide ((eM T b).1<(eM T a).2)
def wq (T:fF):Ky->Bool
 | [a,b]=> !cP T a b
 |_=>true
theorem nM (T:fF) (s:Int):tm T (2*s)=(eM T s).1:=by
 have e1:(2*s).fmod 2=0:=by rw[By _ (by decide)];omega
 have e2:(2*s).fdiv 2=s:=by rw[BU _ (by decide)];omega
 unfold tm;rw[if_pos e1,e2]
theorem rD (T:fF) (s:Int):tm T (2*s+1)=(eM T s).2:=by
 have e1:(2*s+1).fmod 2≠0:=by rw[By _ (by decide)];omega
 have e2:(2*s+1).fdiv 2=s:=by rw[BU _ (by decide)];omega
 unfold tm;rw[if_neg e1,e2]
theorem rE (T:fF) (a b:Int):cP T a b=cP T b a:=Bool.and_comm _ _
theorem tM (T:fF) (s o:Int):cP T (mn s o) (mx s o)=cP T s o:=by
 unfold mn mx
 by_cases c:o<s
 ·rw[if_pos c,if_neg (by omega),rE]
 ·rw[if_neg c]
  by_cases d:o>s
  ·rw[if_pos d]
  ·have:o=s:=by omega
   rw[this];simp
theorem kI (T:fF) (s o:Int):rC T [2*o+1,2*s,0]= !decide ((eM T s).1<(eM T o).2):=by
 show (!decide (tm T (2*s)<tm T (2*o+1)+0))=_;rw[nM,rD,Int.add_zero]
theorem pE (T:fF) (s o t:Int):rC T [2*s,2*o+1,-t]= !decide ((eM T s).1>(eM T o).2+t):=by
 show (!decide (tm T (2*o+1)<tm T (2*s)+ -t))=_;rw[nM,rD]
 congr 1
 exact decide_eq_decide.mpr (by omega)
def bE (T:fF) (ap:AP):Bool×Bool:=(ap.1.all (rC T),ap.2.all (wq T))
theorem mE {k:dg} (c:k.1= "apart") (T:fF) (s o:Int) (ap:AP):bE T (dZ k s ap o)=((bE T ap).1,(bE T ap).2&& !cP T s o):=by
 unfold dZ bE;rw[if_pos c];simp only[List.all_append,C6,List.all_nil,BM];show (_,(ap.2.all (wq T)&& !cP T (mn s o) (mx s o)))=_;rw[tM]
theorem kJ {k:dg} (c:k.1= "within") (T:fF) (s o:Int) (ap:AP):bE T (dZ k s ap o)=(((bE T ap).1&& !decide ((eM T s).1<(eM T o).2))&& !decide ((eM T s).1>(eM T o).2+k.2.2.2),(bE T ap).2):=by
 have n:¬k.1= "apart" :=fun z=>by rw[c] at z;exact absurd z (by decide)
 unfold dZ bE gJ;rw[if_neg n,if_pos c];simp only[List.all_append,C6,List.all_nil,BM,kI,pE,Bool.and_assoc]
theorem pF {k:dg} (n:k.1≠ "apart") (c:k.1≠ "within") (T:fF) (s o:Int) (ap:AP):bE T (dZ k s ap o)=((bE T ap).1&& !decide ((eM T s).1<(eM T o).2),(bE T ap).2):=by
 unfold dZ bE gJ;rw[if_neg n,if_neg c];simp only[List.all_append,C6,List.all_nil,BM,kI]
theorem kK {A xs:List Ky} (h:∀k,k∈A↔k∈xs) (f:Ky->Bool):A.all f=xs.all f:=by
 rw[Bool.eq_iff_iff,B2,B2];exact ⟨fun g x hx=>g x ((h x).mpr hx),fun g x hx=>g x ((h x).mp hx)⟩
theorem rF {T:fF} {A P:List Ky} {ap:AP} (h1:vM A ap.1) (h2:vM P ap.2):bE T (A,P)=bE T ap:=by
 unfold bE;rw[kK h1.2.1,kK h2.2.1]
def yJ (n:Int) (r:Ky):Prop:=∃p q lag:Int,r= [p,q,lag]/\0<=p/\p<2*n/\0<=q/\q<2*n
def yK (n:Int) (r:Ky):Prop:=∃a b:Int,r= [a,b]/\0<=a/\a<b/\b<n
def mF (n:Int) (ap:AP):Prop:=(∀r∈ap.1,yJ n r)/\∀r∈ap.2,yK n r
theorem fZ {α β:Type} {f:β->α->β} {P:β->Prop}:∀(xs:List α) (b:β),(∀b x,x∈xs->P b->P (f b x))->P b->P (xs.foldl f b)
 | [],b,_,p=>p
 |x::xs,b,h,p=>fZ xs (f b x) (fun b y hy=>h b y (AM _ hy)) (h b x Ae p)
theorem rG {fs:List Int} {x y:Int} (h:y∈bA fs x):fs.getD y.toNat 0=x:=by
 unfold bA at h;obtain ⟨i,hi,rfl⟩:=AX.mp h;have:=of_decide_eq_true (List.mem_filter.mp hi).2;rw[show (0+(i:Int)).toNat=i by omega]
 exact this
theorem rH {ks:List dg} {fs:List Int} (hk:∀k∈ks,k.2.1≠k.2.2.1):mF fs.length (eJ ks fs):=by
 refine fZ (P:=mF fs.length) ks _ (fun b k hk' hb=>?_) ⟨(fun r hr=>by cases hr),fun r hr=>by cases hr⟩
 refine fZ (P:=mF fs.length) _ _ (fun b s hs hb=>?_) hb
 refine fZ (P:=mF fs.length) _ _ (fun b o ho hb=>?_) hb
 have s1:=fE hs;have o1:=fE ho;have so:s≠o:=fun z=>by
  have e1:=rG hs;have e2:=rG ho;rw[z,e2] at e1;exact hk k hk' e1.symm
 unfold dZ
 split
 ·refine ⟨hb.1,fun r hr=>?_⟩
  rcases AI.mp hr with q|q
  ·exact hb.2 r q
  ·rw[AS.mp q];refine ⟨_,_,rfl,?_⟩;unfold mn mx
   split<;>split<;>omega
 ·refine ⟨fun r hr=>?_,hb.2⟩
  rcases AI.mp hr with q|q
  ·exact hb.1 r q
  ·unfold gJ at q
   split at q
   ·simp only[AU,Bf,or_false] at q;rcases q with rfl|rfl
    ·exact ⟨_,_,_,rfl,by omega,by omega,by omega,by omega⟩
    ·exact ⟨_,_,_,rfl,by omega,by omega,by omega,by omega⟩
   ·rw[AS.mp q];exact ⟨_,_,_,rfl,by omega,by omega,by omega,by omega⟩
theorem fR {x y:Int} (ne:x≠y):∀fs:List Int,(fs.filter fun f=>decide (f=x)).length+(fs.filter fun f=>decide (f=y)).length<=fs.length
 | []=>by simp
 |f::fs=>by
  have ih:=fR ne fs;rw[List.filter_cons,List.filter_cons,Ah]
  by_cases c:f=x
  ·have d:f≠y:=fun z=>ne (c.symm.trans z)
   rw[if_pos (decide_eq_true c),if_neg (by rw[decide_eq_false d];decide),Ah]
   omega
  ·rw[if_neg (by rw[decide_eq_false c];decide)]
   split
   ·rw[Ah];omega
   ·omega
theorem tN {s o:Nat} (h:s+o<=24):s*o<=144:=by
 have t:∀s:_root_.Fin 25,s.val*(24-s.val)<=144:=by decide
 have h1:=t ⟨s,by omega⟩
 have h2:s*o<=s*(24-s):=Nat.mul_le_mul_left s (by omega)
 exact B4 h2 h1
theorem rJ {ks:List dg} {fs:List Int} (hk:∀k∈ks,k.2.1≠k.2.2.1) (f24:fs.length<=24):(eJ ks fs).1.length+(eJ ks fs).2.length<=288*ks.length:=by
 have step:∀(b:AP) (k:dg),k.2.1≠k.2.2.1->(cY fs b k).1.length+(cY fs b k).2.length<=(b.1.length+b.2.length)+288:=fun b k ne=>by
  have s1:∀(b:AP) (s:Int),True->(jo k (bA fs k.2.2.1) b s).1.length+(jo k (bA fs k.2.2.1) b s).2.length<=(b.1.length+b.2.length)+2*(bA fs k.2.2.1).length:=fun b s _=>by
   have:=cZ (f:=dZ k s) (μ:=fun b:AP=>b.1.length+b.2.length) (c:=2) (P:=fun _=>True) (fun b x _=>jp k s b x) (bA fs k.2.2.1) b fun _ _=>trivial
   exact this
  have:=cZ (f:=jo k (bA fs k.2.2.1)) (μ:=fun b:AP=>b.1.length+b.2.length) (c:=2*(bA fs k.2.2.1).length) (P:=fun _=>True) s1 (bA fs k.2.1) b fun _ _=>trivial
  have t:=fR ne fs;rw[<-jq,<-jq] at t;have m:=tN (show (bA fs k.2.2.1).length+(bA fs k.2.1).length<=24 by omega)
  have e:2*(bA fs k.2.2.1).length*(bA fs k.2.1).length=2*((bA fs k.2.2.1).length*(bA fs k.2.1).length):=BN _ _ _;unfold cY;omega
 have:=cZ (f:=cY fs) (μ:=fun b:AP=>b.1.length+b.2.length) (c:=288) (P:=fun k=>k.2.1≠k.2.2.1) step ks ([],[]) hk
 unfold eJ
 simpa using this
theorem vh {fs:List Int} (h:fs.length<=24) (x:Int):(bA fs x).length<=24:=by
 rw[jq];exact B4 (List.length_filter_le _ _) h
structure wt (ts:List iD) (n:Nat):Prop where
 nn:∀t∈ts,0<=t.2
 up:∀(k:Nat) (t:iD),ts[k]?=some t->0<t.2->∃j,k=j+1/\ts[j]?=some (t.1,t.2-1)
 zero:∀(k:Nat) (t:iD),ts[k]?=some t->t.2=0->(k=0/\t.1=0)∨∃j u,k=j+1/\ts[j]?=some u/\u.1=t.1-1
 last:∀t,ts.getLast?=some t->t.1=(n:Int)-1
 some_:ts= []->n=0
theorem wu {ns:List Int} (h:∀n∈ns,1<=n):∀n,n<=ns.length->wt (aV ns n) n
 |0,_=>⟨(fun t ht=>by cases ht),(fun k t hk=>by simp[aV] at hk),(fun k t hk=>by simp[aV] at hk),(fun t ht=>by simp[aV] at ht),fun _=>rfl⟩
 |n+1,hn=>by
  have O:=wu h n (by omega)
  have e:ns[n]?=some ns[n]:=A0 (by omega)
  have h1:=h ns[n] (BO _);have gd:ns.getD n 0=ns[n]:=by rw[BG,e];rfl
  obtain ⟨c,hc,c1⟩:∃c:Nat,(ns.getD n 0).toNat=c/\1<=c:=⟨_,rfl,by rw[gd];omega⟩
  have et:aV ns (n+1)=aV ns n++(Ac c).map fun t:Nat=>(((0+(n:Int):Int),(0+(t:Int):Int)):iD):=by rw[<-hc];rfl
  have nw:∀(k:Nat) (t:iD),((Ac c).map fun t:Nat=>(((0+(n:Int):Int),(0+(t:Int):Int)):iD))[k]?=some t->k<c/\t=((n:Int),(k:Int)):=fun k t hk=>by
   rw[A9] at hk;obtain ⟨j,hj,rfl⟩:=AO.mp hk;obtain ⟨jl,ej⟩:=A3.mp hj;rw[List.getElem_range] at ej;subst ej;exact ⟨by simpa using jl,by simp⟩
  rw[et];have at_new:∀(k:Nat),k<c->(aV ns n++(Ac c).map fun t:Nat=>(((0+(n:Int):Int),(0+(t:Int):Int)):iD))[(aV ns n).length+k]?=some ((n:Int),(k:Int)):=fun k hk=>by
   rw[A6 (by omega),B9,A9,List.getElem?_range hk]
   simp
  have at_old:∀(k:Nat) (t:iD),(aV ns n)[k]?=some t->(aV ns n++(Ac c).map fun t:Nat=>(((0+(n:Int):Int),(0+(t:Int):Int)):iD))[k]?=some t:=fun k t hk=>by
   rw[A8 (A3.mp hk).1];exact hk
  have split_at:∀(k:Nat) (t:iD),(aV ns n++(Ac c).map fun t:Nat=>(((0+(n:Int):Int),(0+(t:Int):Int)):iD))[k]?=some t->(aV ns n)[k]?=some t∨∃d,k=(aV ns n).length+d/\d<c/\t=((n:Int),(d:Int)):=fun k t hk=>by
   by_cases q:k<(aV ns n).length
   ·rw[A8 q] at hk;exact .inl hk
   ·rw[A6 (by omega)] at hk
    obtain ⟨h2,h3⟩:=nw _ _ hk;exact .inr ⟨k-(aV ns n).length,by omega,h2,h3⟩
  refine ⟨fun t ht=>?_,fun k t hk tp=>?_,fun k t hk tz=>?_,fun t ht=>?_,fun z=>?_⟩
  ·rcases AI.mp ht with q|q
   ·exact O.nn t q
   ·obtain ⟨j,_,rfl⟩:=AX.mp q;show (0:Int)<=0+(j:Int);omega
  ·rcases split_at k t hk with q|⟨d,rfl,dl,rfl⟩
   ·obtain ⟨j,e1,e2⟩:=O.up k t q tp;exact ⟨j,e1,at_old j _ e2⟩
   ·have tp:0<(d:Int):=tp;obtain ⟨d',rfl⟩:∃d',d=d'+1:=⟨d-1,by omega⟩
    refine ⟨(aV ns n).length+d',by omega,?_⟩
    rw[at_new d' (by omega)]
    show some ((n:Int),(d':Int))=some ((n:Int),((d'+1:Nat):Int)-1);rw[show ((d'+1:Nat):Int)-1=(d':Int) by omega]
  ·rcases split_at k t hk with q|⟨d,rfl,dl,rfl⟩
   ·rcases O.zero k t q tz with r|⟨j,u,e1,e2,e3⟩
    ·exact .inl r
    ·exact .inr ⟨j,u,e1,at_old j _ e2,e3⟩
   ·have tz:(d:Int)=0:=tz;have d0:d=0:=by omega
    subst d0;cases hl:(aV ns n).getLast? with
    |none=>
     have hn0:=List.getLast?_eq_none_iff.mp hl;have:=O.some_ hn0;refine .inl ⟨by rw[hn0];rfl,?_⟩
     show (n:Int)=0;omega
    |some u=>
     have hu:=O.last u hl;rw[List.getLast?_eq_getElem?] at hl;have ul:=(A3.mp hl).1;exact .inr ⟨(aV ns n).length-1,u,by omega,at_old _ _ hl,hu⟩
  ·have ne:(Ac c).map (fun t:Nat=>(((0+(n:Int):Int),(0+(t:Int):Int)):iD))≠ []:=by simp;omega
   rw[List.getLast?_append,List.getLast?_eq_some_getLast ne,Option.some_or] at ht;have ht:=List.getLast_mem ne|>fun m=>(Av ht)▸m
   obtain ⟨j,_,rfl⟩:=AX.mp ht;show (0:Int)+(n:Int)=((n+1:Nat):Int)-1;omega
  ·have:=congrArg Bt z;simp at this;omega
theorem rK (H:Hp) (f:Addr->Str):UL H [] f:=⟨(fun a ha=>by cases ha),List.nodup_nil,by decide⟩
theorem iK {cC cR cW x C:Addr} {H:Hp} {nm:Str} {l m:Int} (h:uc H x C nm l m [] none) (hC:C=cC∨C=cR) (b1:Bd 210 l) (b2:Bd 210 m):rz cC cR cW H x ⟨C,nm,l,m,[],none,none⟩:=
 ⟨h,.inl ⟨rfl,hC⟩,fun d hd=>by rw[AS.mp (show d∈ [(l,m,[])] from hd)];exact ⟨b1,b2,rK _ _⟩⟩
theorem rL {cC cR cW x t dx:Addr} {H:Hp} {nm:Str} {l m fp fq:Int} {ff:List (Str×V)} (h:uc H x cW nm l m [] none) (ex:H x=some (.ins cW dx ff)) (lf:ff.lookup ("fill" :Str)=some (.ref t)) (et:H t=some (.tup [.int fp,.int fq])) (f1:0<fp) (f2:0<fq) (f3:Bd 201 fp) (f4:Bd 201 fq) (b1:Bd 210 l) (b2:Bd 210 m):rz cC cR cW H x ⟨cW,nm,l,m,[],none,some (fp,fq)⟩:=
 ⟨h,.inr ⟨rfl,fp,fq,t,dx,ff,rfl,ex,lf,et,f1,f2,f3,f4⟩,fun d hd=>by rw[AS.mp (show d∈ [(l,m,[])] from hd)];exact ⟨b1,b2,rK _ _⟩⟩
theorem tO {x y m:Int} (hm:2<=m):x.fmod m≠(x.fmod m+1+y.fmod (m-1)).fmod m:=by
 have a0:=AJ x (show (0:Int)<m by omega)
 have a1:=AY x (show (0:Int)<m by omega)
 have r0:=AJ y (show (0:Int)<m-1 by omega)
 have r1:=AY y (show (0:Int)<m-1 by omega)
 generalize x.fmod m=a at*;generalize y.fmod (m-1)=r at*;rw[By _ (by omega)]
 by_cases c:a+1+r<m
 ·rw[Int.emod_eq_of_lt (by omega) c]
  omega
 ·rw[show a+1+r=(a+1+r-m)+m by omega,Int.add_emod_right,Int.emod_eq_of_lt (by omega) (by omega)]
  omega
theorem wv (xs:List V):(fT xs (some 3) (some 20)).length<=17:=by
 unfold fT;rw[AN,List.length_drop];have e1:HT.dk xs.length 0 (some 3)=min 3 xs.length:=by simp[HT.dk];try omega
 have e2:HT.dk xs.length xs.length (some 20)=min 20 xs.length:=by simp[HT.dk];try omega
 omega
theorem mG {H0 H G:Hp} {x C:Addr} {nm:Str} {l m:Int} (h:wp H0 H x C nm l m [] none) (k:∀b o,H0 b=none->H b=some o->G b=some o):uc G x C nm l m [] none:=by
 obtain ⟨dx,u,s,ff,e1,e2,e3,e4,e5,e6⟩:=h.ex;exact ⟨dx,u,s,ff,k _ _ e5 e1,e2,k _ _ e6 e3,e4⟩
theorem rM {P:Addr->Sq->Prop}:∀ys:List V,(∀(i:Nat) (y:V),ys[i]?=some y->∃(x:Addr) (s:Sq),y= .ref x/\P x s)->∃(xs:CC) (ss:List Sq),ys=xs.map V.ref/\ss.length=ys.length/\∀(i:Nat) (x:Addr) (s:Sq),xs[i]?=some x->ss[i]?=some s->P x s:=by
 intro ys
 induction ys with
 |nil=>exact fun _=>⟨[],[],rfl,rfl,fun i a t e=>by simp at e⟩
 |cons y ys ih=>
  intro h;obtain ⟨as,T,e1,e2,e3⟩:=ih fun i y hy=>h (i+1) y (by simpa using hy)
  obtain ⟨a,t,rfl,ea⟩:=h 0 y rfl;refine ⟨a::as,t::T,by rw[Ai,<-e1],by simp[e2],fun i b u h1 h2=>?_⟩
  cases i with
  |zero=>cases h1;cases h2;exact ea
  |succ i=>exact e3 i b u (by simpa using h1) (by simpa using h2)
theorem iL {R:V->V->Prop}:∀{xs:List V},(∀x∈xs,R x x)->jb R xs xs
 | [],_=>trivial
 |x::xs,h=>⟨h x Ae,iL fun y hy=>h y (AM _ hy)⟩
theorem rN {xs:List V} {n:Nat} {v:V} (h:xs.length=n+1) (e:xs[n]?=some v):d8 xs (-1)=some v:=by
 have k:d8 xs (-1)=xs[n]?:=by
  have q:sg (n+1) (-1)=some n:=by
   unfold sg;rw[if_neg (by omega),if_pos (by omega)]
   congr 1
   omega
  unfold d8;rw[h,q]
  rfl
 rw[k];exact e
theorem cq {n:Nat} {l:Int} (h0:0<=l) (h1:l<=1000) (hn:10<=n):Bd n l:=Bd.mono (m:=10) (by unfold Bd;show _<1024;omega) hn
def gO (K:A4):Sp:=fun vs H Q _=>∃(r C dx lk lt:Addr) (fl:List (Str×V)) (ks:List dg) (fs:List Int),vs= [.ref r,.ref lt]/\H r=some (.ins C dx fl)/\eT K C/\aj K C "links" /\fl.lookup ("links" :Str)=some (.ref lk)/\LK H lk ks/\TF H lt fs/\ks.length<=100/\fs.length<=100/\(∀x,(bA fs x).length<=24)/\ks.length<=24/\(eJ ks fs).1.length+(eJ ks fs).2.length<4900/\xM H Q (eJ ks fs)
def iM (K:A4):Sp:=fun vs H Q _=>∃(r C dx lk lt:Addr) (fl:List (Str×V)) (ks:List dg) (fs:List Int),vs= [.ref r,.ref lt]/\H r=some (.ins C dx fl)/\eT K C/\aj K C "links" /\fl.lookup ("links" :Str)=some (.ref lk)/\LK H lk ks/\TF H lt fs/\ks.length<=1000/\fs.length<=1000/\
 ∀(l:Addr) (H':Hp),H l=none->au H H'->H' l=some (.lst (cO fs.length (fun i=> !v3 (.int (fs.getD i 0)) (dU ks)) (fun i=> .int (0+(i:Int)))))->Q (.ref l) H'
def gP:Sp:=fun vs H Q _=>∃(a b:Addr) (x y:Int×Int),vs= [.ref a,.ref b]/\H a=some (.tup [.int x.1,.int x.2])/\H b=some (.tup [.int y.1,.int y.2])/\Q (.bl (decide (x.1<y.2)&&decide (y.1<x.2))) H
abbrev nO (H:Hp) (l:Addr) (T:fF):Prop:=aR H l (T.map fun t=> [t.1,t.2])
theorem nO.at_ {H:Hp} {l:Addr} {T:fF} (h:nO H l T):∃as:CC,H l=some (.lst (as.map V.ref))/\as.length=T.length/\∀k:Int,0<=k->k<T.length->∃a,d8 (as.map V.ref) k=some (.ref a)/\H a=some (.tup [.int (eM T k).1,.int (eM T k).2]):=by
 obtain ⟨as,h1,h2,h3⟩:=h;rw[A5] at h2;refine ⟨as,h1,h2,fun k k0 kl=>?_⟩
 obtain ⟨n,rfl⟩:∃n:Nat,k=(n:Int):=⟨k.toNat,by omega⟩
 have hn:n<T.length:=by omega
 have ha:=A0 (show n<as.length by omega)
 have ht:=A0 hn;refine ⟨as[n],bI (by rw[A9,ha];rfl),?_⟩
 have:=h3 n _ [(T[n]).1,(T[n]).2] ha (by rw[A9,ht];rfl)
 unfold eM;rw[show ((n:Int)).toNat=n by omega,BG,ht]
 exact this
theorem nP {p:Int} {n:Nat} (h0:0<=p) (h1:p<2*(n:Int)):0<=p.fdiv 2/\p.fdiv 2<(n:Int):=by
 rw[BU _ (by decide)]
 omega
theorem rO (x:Int×Int) (p:Int):d8 [V.int x.1,V.int x.2] (p.fmod 2)=some (.int (if p.fmod 2=0 then x.1 else x.2)):=by
 rw[By _ (by decide)]
 rcases Int.emod_two_eq p with e|e
 ·rw[e,if_pos rfl];rfl
 ·rw[e,if_neg (by decide)];rfl
theorem xP {a b:Str} {p q:Prop} (h1:a≠b->p) (h2:a=b->q):if (!decide (V.str a=V.str b))=true then p else q:=by
 by_cases c:a=b
 ·rw[if_neg (by rw[decide_eq_true (congrArg V.str c)];decide)]
  exact h2 c
 ·rw[if_pos (by rw[decide_eq_false fun z=>c (V.str.inj z)];rfl)]
  exact h1 c
theorem vk {H:Hp} {p:Addr}:∀{ys:List V},H p=some (.lst ys)->(∀(i:Nat) (y:V),ys[i]?=some y->∃(a:Addr) (t:Int×Int),y= .ref a/\H a=some (.tup [.int t.1,.int t.2]))->∃T:fF,nO H p T/\T.length=ys.length:=by
 intro ys e h;have gen:∀ys:List V,(∀(i:Nat) (y:V),ys[i]?=some y->∃(a:Addr) (t:Int×Int),y= .ref a/\H a=some (.tup [.int t.1,.int t.2]))->∃(as:CC) (T:fF),ys=as.map V.ref/\as.length=T.length/\∀(i:Nat) (a:Addr) (t:Int×Int),as[i]?=some a->T[i]?=some t->H a=some (.tup [.int t.1,.int t.2]):=by
  intro ys
  induction ys with
  |nil=>exact fun _=>⟨[],[],rfl,rfl,fun i a t e=>by simp at e⟩
  |cons y ys ih=>
   intro h;obtain ⟨as,T,e1,e2,e3⟩:=ih fun i y hy=>h (i+1) y (by simpa using hy)
   obtain ⟨a,t,rfl,ea⟩:=h 0 y rfl;refine ⟨a::as,t::T,by rw[Ai,<-e1],by simp[e2],fun i b u h1 h2=>?_⟩
   cases i with
   |zero=>cases h1;cases h2;exact ea
   |succ i=>exact e3 i b u (by simpa using h1) (by simpa using h2)
 obtain ⟨as,T,rfl,e2,e3⟩:=gen ys h;refine ⟨T,⟨as,e,by rw[A5];exact e2,fun i a x h1 h2=>?_⟩,by rw[A5];exact e2.symm⟩
 rw[A9] at h2;obtain ⟨t,ht,rfl⟩:=AO.mp h2;exact e3 i a t h1 ht
theorem nO.snoc {H:Hp} {l t:Addr} {T:fF} {b e:Int} (h:nO H l T) (ht:H t=some (.tup [.int b,.int e])):∃xs,H l=some (.lst xs)/\xs.length=T.length/\nO (aL H l (.lst (xs++ [.ref t]))) l (T++ [(b,e)]):=by
 obtain ⟨xs,h1,h2,h3⟩:=aR.snoc (k:= [b,e]) h ht;exact ⟨xs,h1,by rw[h2,A5],by unfold nO;rw[B0];exact h3⟩
def nQ (H:Hp) (l:Addr) (b:Bool×Bool):Prop:=H l=some (.lst [.bl b.1,.bl b.2])
def nR:Sp:=fun vs H Q _=>∃(lk lt lm:Addr) (ks:List dg) (fs:List Int) (T:fF),vs= [.ref lk,.ref lt,.ref lm]/\LK H lk ks/\TF H lt fs/\nO H lm T/\fs.length<=100/\T.length=fs.length/\∀(l:Addr) (H':Hp),au H H'->nQ H' l (bE T (eJ ks fs))->Q (.ref l) H'
def kN:Sp:=fun vs H Q _=>∃(la lb lm:Addr) (A P:List Ky) (T:fF),vs= [.ref la,.ref lb,.ref lm]/\aR H la A/\aR H lb P/\nO H lm T/\mF T.length (A,P)/\∀(l:Addr) (H':Hp),au H H'->nQ H' l (bE T (A,P))->Q (.ref l) H'
def kO:Sp:=fun vs H Q _=>∃(la lb:Addr) (A P:List Ky) (n:Int),vs= [.ref la,.ref lb,.int n]/\aR H la A/\aR H lb P/\mF n (A,P)/\∀H',au H H'->Q (.bl true) H'
def iN:Sp:=fun vs H Q _=>∃(lt:Addr) (ts:List iD) (n:Nat),vs= [.ref lt]/\TG H lt ts/\wt ts n/\ts.length<=24/\∀H',au H H'->Q (.bl true) H'
def iO (K:A4):Sp:=fun vs H Q _=>∃(a:Addr) (ns:List Int) (m:Nat),vs= [.ref a,.int m]/\aP K H a (ns.map V.int)/\ns.length<=63/\1<=m/\m<=24/\∀(l:Addr) (H':Hp) (T:fF),au H H'->nO H' l T->T.length=m->Q (.ref l) H'
def iP (K:A4):Sp:=fun vs H Q _=>∃(a:Addr) (ns:List Int) (m:Int),vs= [.ref a,.int m]/\aP K H a (ns.map V.int)/\ns.length<=63/\2<=m/\m<=8/\∀(l:Addr) (H':Hp) (ks:List dg),au H H'->LK H' l ks->ks.length<=17->(∀k∈ks,k.2.1≠k.2.2.1)->Q (.ref l) H'
def kP (cC cR cW:Addr):Sp:=fun vs H Q _=>∃(c:Int) (z:Str),vs= [.int c,.str z]/\∀(x:Addr) (s:Sq) (H':Hp),au H H'->(∀G:Hp,(∀b o,H b=none->H' b=some o->G b=some o)->rz cC cR cW G x s)->Q (.ref x) H'
def nS (K:A4):Sp:=fun vs H Q _=>∃(a C dx lt ls lk:Addr) (nm p:V) (xt xs xk:List V),vs= [.ref a,nm,p,.ref lt,.ref ls,.ref lk]/\H a=some (.ins C dx [])/\xH K C/\H lt=some (.lst xt)/\H ls=some (.lst xs)/\H lk=some (.lst xk)/\
 ∀(u v:Addr) (t:V) (H':Hp),Kept H H' a->H' u=some (.lst xk)->H' v=some (.lst xs)->H' a=some (.ins C dx (ko nm p t (.ref v) (.ref u)))->Q .non H'
theorem mH {nm p t s l:V}:(ko nm p t s l).lookup ("steps" :Str)=some s:=by
 unfold ko
 rfl
theorem kQ {nm p t s l:V}:(ko nm p t s l).lookup ("plates" :Str)=some p:=by
 unfold ko
 rfl
end Sw
namespace Lk47
open PySem L2 Sw XH PyProof.Rows Hm
abbrev CH (x:Addr):Option V:=some (.ref x)
theorem cD {X:Cx} {N P:CB} {sp:Scope} (i:Nat) (sc:aD N P sp) {x:Str} {e:Expr} {te:TE} {pos pos':Pos} (he:PE X e te) (hi:X.N[i]?=some x:=by rfl) (hx:Loc X.env.scope x:=by exact Or.inl rfl) (hn:X.N=N:=by rfl) (hs:swapsWith e (some (.Name x pos')) pos.line X.env=pure false:=by rfl) (hf:X.fn x=true∨X.env.scope.names.lookup x=some .local:=by first|exact .inl rfl|exact .inr rfl|assumption):PS X (.Assign [.Name x pos'] e pos) (k7 te (b9 i)):=cQ (hn▸sc.nd) hi hx he hs hf
theorem fG {X:Cx} {N P:CB} {sp:Scope} (i:Nat) (sc:aD N P sp) {x:Str} {pos:Pos} (hi:X.N[i]?=some x:=by rfl) (hx:Loc X.env.scope x:=by exact Or.inl rfl) (hn:X.N=N:=by rfl) (hf:X.fn x=true∨X.env.scope.names.lookup x=some .local:=by first|exact .inl rfl|exact .inr rfl|assumption):PG X (.Name x pos) (b9 i):=c5 (hn▸sc.nd) hi hx hf
theorem dh {X:Cx} {k j:Nat} {x:Str} {ps:CB} {dvs:List V} {sp:Sp} {e:Expr} {es:List Expr} {t:TA} {p pos:Pos} (D:Dx X.prog X.w X.K X.mg X.base ba k x ps dvs sp) (hr:bx j X.A) (ha:PA X (e::es) t) (hk:k<=j:=by decide) (hg:Gl X x:=by rfl) (hdb:(x==("__debug__" :Str))=false:=by decide) (he:starEach (e::es) X.env=(false,eval e X.env)::starEach es X.env:=by rfl) (hpl:(backTo pos (starEach es X.env)).any (·.1)=false:=by rfl):PE X (.Call (.Name x p) (e::es) [] pos) (jG sp [] E0 t):=uO D hr hk hg ha hdb he hpl
def top (i:Nat):Stmt:=PySem.Challenge.pw_stovework_k47_whole_words_are_arcs.main.body.getD i (.Pass ⟨0,0,0,0⟩)
def clsAt (s:Stmt) (i:Nat):Stmt:=match s with| .ClassDef _ _ _ body _ _ _ _ _ _ _=>body.getD i (.Pass ⟨0,0,0,0⟩)|_=>s
abbrev xQ:Stmt:=top 6
abbrev xR:Stmt:=top 7
abbrev wZ:Stmt:=top 9
abbrev xS:Stmt:=top 10
abbrev xT:Stmt:=top 11
abbrev xU:Stmt:=top 12
abbrev xV:Stmt:=top 26
abbrev w6:Stmt:=clsAt (top 22) 0
abbrev xW:Stmt:=clsAt (top 22) 2
abbrev xX:Stmt:=clsAt (top 22) 3
abbrev vm:Stmt:=clsAt (top 23) 1
abbrev vn:Stmt:=clsAt (top 22) 5
abbrev vo:Stmt:=clsAt (top 22) 4
abbrev tP:Stmt:=clsAt (top 24) 0
abbrev vq:Stmt:=clsAt (top 24) 2
abbrev vt:Stmt:=clsAt (top 28) 0
abbrev vv:Stmt:=top 15
abbrev tQ:Stmt:=top 16
abbrev vw:Stmt:=top 19
abbrev vx:Stmt:=top 18
abbrev vy:Stmt:=top 17
abbrev vA:Stmt:=top 20
abbrev vB:Stmt:=top 30
abbrev vC:Stmt:=top 31
abbrev vD:Stmt:=top 32
abbrev vE:Stmt:=top 33
abbrev vF:Stmt:=top 34
abbrev vG:Stmt:=top 35
abbrev vH:Stmt:=top 36
abbrev vI:Stmt:=top 37
abbrev vJ:Stmt:=top 38
abbrev vK:Stmt:=top 39
abbrev jr:Stmt:=top 40
structure Bn (K:A4) (mg:Cy) (yP yO yL yN yQ yM on y8 y6 zu yW yT yS zd zC zB:Addr):Prop where
 zQ:∃t,mg "MOST_TASKS" =some (.int 24 t)
 Cd:mg "abs" =none
 Ck:mg "bool" =none
 zS:mg "enumerate" =none
 Cp:mg "int" =none
 zr:mg "isinstance" =none
 ze:mg "len" =none
 zI:mg "list" =none
 Co:mg "max" =none
 Cc:mg "min" =none
 yR:mg "range" =none
 Cb:mg "set" =none
 zH:mg "sorted" =none
 Cn:mg "sum" =none
 Cm:mg "Cut" =some (.ref yP)
 zY:mg "Recipe" =some (.ref yO)
 Cj:mg "Rest" =some (.ref yL)
 Ci:mg "Step" =some (.ref yN)
 Ca:mg "StoveError" =some (.ref yQ)
 zM:mg "TooMany" =some (.ref yM)
 Ch:mg "Warm" =some (.ref on)
 zU:PySem.W.excIn K yM xE "ValueError.__new__" =true
 Cl:XI K yM
 zV:XT K yM
 zf:PySem.W.subIn K (.ref yM) (.ref yM)=some true
 Cr:eT K yN
 Cq:Mk K yN y8
 Cv:bu K yN "span" y6
 Cu:bu K yN "rounds" zu
 Cs:bu K yN "grown" yS
 Ct:bu K yN "grown_way" yT
 zT:eT K yP
 Ce:Mk K yP y8
 Cg:bu K yP "span" yW
 zL:bu K yP "rounds" zu
 zP:bu K yP "grown" yS
 zt:bu K yP "grown_way" yT
 zR:eT K yL
 At:Mk K yL y8
 zO:bu K yL "span" y6
 zG:bu K yL "rounds" zu
 zK:bu K yL "grown" yS
 zq:bu K yL "grown_way" yT
 zE:eT K on
 z8:Mk K on zd
 zN:bu K on "span" y6
 Cf:bu K on "rounds" zC
 zJ:bu K on "grown" yS
 zp:bu K on "grown_way" yT
 y9:eT K yO
 zW:Mk K yO zB
 z6:aj K yN "name"
 zZ:aj K yN "least"
 z7:aj K yN "most"
 z5:aj K yN "uses"
 zX:aj K yN "second"
 zz:aj K yP "name"
 zo:aj K yP "least"
 zA:aj K yP "most"
 zw:aj K yP "uses"
 zc:aj K yP "second"
 zm:aj K yL "name"
 zb:aj K yL "least"
 zn:aj K yL "most"
 zk:aj K yL "uses"
 yZ:aj K yL "second"
 zh:aj K on "name"
 za:aj K on "least"
 zi:aj K on "most"
 zg:aj K on "uses"
 yY:aj K on "second"
 zj:aj K on "fill"
 zF:aj K yO "name"
 yV:aj K yO "plates"
 zD:aj K yO "takes"
 yX:aj K yO "steps"
 yU:aj K yO "links"
 zv:uQ K yN "__init__" y8
section
variable {P:Program} {w:World} {K:A4} {mg:Cy} {base:Heap} {f:Addr} {fd:FuncData} {yP yO yL yN yQ yM on y8 y6 zu yW yT yS zd zC zB:Addr}
variable (B:Bn K mg yP yO yL yN yQ yM on y8 y6 zu yW yT yS zd zC zB)
include B
theorem xY {dV:Value} (F:a9 K "is_whole" "is_whole" xQ dV f fd):a7 P w K mg base ba 1 f fd ["thing"] mY:=by
 have sc:aD ["thing"] ["thing"] (ar xQ):=dG (by decide+kernel)
 refine F.ok sc (fun vs H Q E h=>?_) (fun cdv A outer s H vs Q E hr h=>?_)
 ·obtain ⟨_,rfl,_⟩:=h
  rfl
 obtain ⟨v,rfl,q⟩:=h;refine ⟨_,(ai (aI (pR (aU jM rfl B.zr boot_isinstance (@aa _ _ _ _ _ (pv 0) (@aa _ _ _ _ _ (mL (v:= .ty "int") rfl B.Cp boot_int rfl) ag rfl) rfl)) (pQ (uk (aU jM rfl B.zr boot_isinstance (@aa _ _ _ _ _ (pv 0) (@aa _ _ _ _ _ (mL (v:= .ty "bool") rfl B.Ck boot_bool rfl) ag rfl) rfl))))))),?_⟩;try dsimp only[cxK]
 refine ⟨_,rfl,_,_,_,rfl,.ii v,_,rfl,om ⟨_,rfl,_,_,_,rfl,.ib v,_,rfl,q⟩⟩
theorem xZ {dV:Value} (F:a9 K "divisor" "divisor" xR dV f fd):a7 P w K mg base ba 1 f fd ["one","other"] tU:=by
 have sc:aD ["one","other","greater","lesser","rest"] ["one","other"] (ar xR):=dG (by decide+kernel)
 refine F.ok sc (fun vs H Q E h=>?_) (fun cdv A outer s H vs Q E hr h=>?_)
 ·obtain ⟨_,_,rfl,_⟩:=h
  rfl
 obtain ⟨a,b,rfl,q⟩:=h;refine ⟨_,(ae (cD 2 sc (aU jF rfl B.Cd boot_abs (@aa _ _ _ _ _ (pv 0) ag rfl))) (ae (cD 3 sc (aU jF rfl B.Cd boot_abs (@aa _ _ _ _ _ (pv 1) ag rfl))) (ae (pT PassesOwn.never (aC hW (pv 3) ad (aJ _)) (ae (cD 4 sc (ak aw (pv 2) (pv 3))) (ae (cD 2 sc (pv 3)) (ai (cD 3 sc (pv 4)))))) (ai (aI (pv 2)))))),?_⟩;try dsimp only[cxK]
 refine ⟨_,rfl,_,rfl,_,rfl,_,rfl,?_⟩;refine pW (fun σ H'=>H'=H/\∃(g l:Int) (r:Option V),σ= [some (.int a),some (.int b),some (.int g),some (.int l),r]/\0<=g/\0<=l/\bJ g l=bJ a b)
  (fun (σ:L2.St) (_:Hp)=>match σ[3]? with|some (some (V.int l))=>l.toNat|_=>0) ⟨rfl,_,_,_,rfl,mX a,mX b,qf a b⟩ ?_ (fun σ H Q Q' m ⟨v,e,s,k,hk,h2⟩=>⟨v,e,s,k,hk,m _ _ h2⟩)
 rintro σ H' ⟨rfl,g,l,r,rfl,g0,l0,inv⟩;refine ⟨_,rfl,rfl,_,rfl,yD (fun c=>?_) (fun c=>?_)⟩
 ·have lp:0<l:=by omega
  refine ⟨_,rfl,_,rfl,_,_,rfl,rfl,c,_,rfl,_,rfl,⟨rfl,l,g.fmod l,_,rfl,l0,AJ g lp,?_⟩,?_⟩
  ·rw[oo lp];exact inv
  ·have h1:=AY g lp;have h2:=AJ g lp;show (g.fmod l).toNat<l.toNat;omega
 ·subst c;rw[oq g0] at inv;rw[<-inv] at q;exact ⟨_,rfl,q⟩
theorem x6 {dV:Value} (F:a9 K "fraction" "fraction" wZ dV f fd) (DZ0:Dx P w K mg base ba 1 "is_whole" ["thing"] [] mY) (DZ1:Dx P w K mg base ba 1 "divisor" ["one","other"] [] tU):a7 P w K mg base ba 2 f fd ["top","bottom"] lJ:=by
 have sc:aD ["top","bottom","common"] ["top","bottom"] (ar wZ):=dG (by decide+kernel)
 refine F.ok sc (fun vs H Q E h=>?_) (fun cdv A outer s H vs Q E hr h=>?_)
 ·obtain ⟨_,_,rfl,_⟩:=h
  rfl
 obtain ⟨a,b,rfl,b0,hb,q⟩:=h;refine ⟨_,(ae (bh (PW.pt (pP (dN (eO (dh DZ0 hr (@aa _ _ _ _ _ (pv 0) ag rfl)))) (kZ (dN (eO (dh DZ0 hr (@aa _ _ _ _ _ (pv 1) ag rfl))))))) (ai jB) aS) (ae (bh (aC ce (pv 1) ad (aJ _)) (ai jB) aS) (ae (cD 2 sc (dh DZ1 hr (@aa _ _ _ _ _ (pv 0) (@aa _ _ _ _ _ (pv 1) ag rfl) rfl))) (ae (bh (aC dJ (pv 1) ad (aJ _)) (ai (cD 2 sc (hV eR (pv 2)))) aS) (ai (aI (@bB _ _ _ _ _ (@aa _ _ _ _ _ (ak aH (pv 0) (pv 2)) (@aa _ _ _ _ _ (ak aH (pv 1) (pv 2)) ag rfl) rfl)))))))),?_⟩;try dsimp only[cxK]
 have c0:=qg (a:=a) b0;have cb:=uF (a:=a) b0 hb;have f:=v5 (a:=a) b0;refine ⟨_,rfl,_,rfl,true,rfl,eU ⟨_,rfl,_,rfl,true,rfl,eU ?_⟩⟩;refine ⟨_,rfl,rfl,_,rfl,yE b0 ?_⟩;refine ⟨_,rfl,_,rfl,_,_,rfl,?_⟩;refine ⟨_,rfl,_,_,rfl,rfl,_,rfl,d2 (fun c=>?_) (fun c=>?_)⟩
 ·have e:ir a b= -bJ a b:=if_pos c;rw[e] at c0 cb f;exact ⟨_,rfl,_,rfl,_,rfl,_,rfl,_,_,rfl,rfl,⟨c0,cb.div c0⟩,_,rfl,_,rfl,_,_,rfl,rfl,⟨c0,cb.div c0⟩,by show 2<=sizeLine;decide,fun t ht=>q _ _ f t _ (ao ht _) af⟩
 ·have e:ir a b=bJ a b:=if_neg c;rw[e] at c0 cb f;exact ⟨_,rfl,_,rfl,_,_,rfl,rfl,⟨c0,cb.div c0⟩,_,rfl,_,rfl,_,_,rfl,rfl,⟨c0,cb.div c0⟩,by show 2<=sizeLine;decide,fun t ht=>q _ _ f t _ (ao ht _) af⟩
theorem x8 {dV:Value} (F:a9 K "product" "product" xS dV f fd) (DZ2:Dx P w K mg base ba 2 "fraction" ["top","bottom"] [.int 1] lJ):a7 P w K mg base ba 3 f fd ["one","other"] (lL K):=by
 have sc:aD ["one","other"] ["one","other"] (ar xS):=dG (by decide+kernel)
 refine F.ok sc (fun vs H Q E h=>?_) (fun cdv A outer s H vs Q E hr h=>?_)
 ·obtain ⟨_,_,_,_,_,_,rfl,_⟩:=h
  rfl
 obtain ⟨t,t',p,q,p',q',rfl,h1,h2,qq⟩:=h;refine ⟨_,(ai (aI (dh DZ2 hr (@aa _ _ _ _ _ (ak bv (av aK (pv 0) ad (fun _ _=>rfl)) (av aK (pv 1) ad (fun _ _=>rfl))) (@aa _ _ _ _ _ (ak bv (av aK (pv 0) ad (fun _ _=>rfl)) (av aK (pv 1) ad (fun _ _=>rfl))) ag rfl) rfl)))),?_⟩
 try dsimp only[cxK]
 exact ⟨_,rfl,_,_,_,_,rfl,rfl,h1.at_,rfl,_,rfl,_,_,_,_,rfl,rfl,h2.at_,rfl,_,_,rfl,rfl,h1.bp.ok h2.bp,_,rfl,_,_,_,_,rfl,rfl,h1.at_,rfl,_,rfl,_,_,_,_,rfl,rfl,h2.at_,rfl,_,_,rfl,rfl,h1.bq.ok h2.bq,_,_,rfl,uI h1.pos h2.pos,(h1.bq.mul h2.bq).mono (by decide),qq⟩
theorem x9 {dV:Value} (F:a9 K "quotient" "quotient" xT dV f fd) (DZ2:Dx P w K mg base ba 2 "fraction" ["top","bottom"] [.int 1] lJ):a7 P w K mg base ba 3 f fd ["one","other"] (qh K):=by
 have sc:aD ["one","other"] ["one","other"] (ar xT):=dG (by decide+kernel)
 refine F.ok sc (fun vs H Q E h=>?_) (fun cdv A outer s H vs Q E hr h=>?_)
 ·obtain ⟨_,_,_,_,_,_,rfl,_⟩:=h
  rfl
 obtain ⟨t,t',p,q,p',q',rfl,h1,h2,n0,qq⟩:=h;refine ⟨_,(ai (aI (dh DZ2 hr (@aa _ _ _ _ _ (ak bv (av aK (pv 0) ad (fun _ _=>rfl)) (av aK (pv 1) ad (fun _ _=>rfl))) (@aa _ _ _ _ _ (ak bv (av aK (pv 0) ad (fun _ _=>rfl)) (av aK (pv 1) ad (fun _ _=>rfl))) ag rfl) rfl)))),?_⟩
 try dsimp only[cxK]
 exact ⟨_,rfl,_,_,_,_,rfl,rfl,h1.at_,rfl,_,rfl,_,_,_,_,rfl,rfl,h2.at_,rfl,_,_,rfl,rfl,h1.bp.ok h2.bq,_,rfl,_,_,_,_,rfl,rfl,h1.at_,rfl,_,rfl,_,_,_,_,rfl,rfl,h2.at_,rfl,_,_,rfl,rfl,h1.bq.ok h2.bp,_,_,rfl,Int.mul_ne_zero (by have:=h1.pos;omega) n0,(h1.bq.mul h2.bp).mono (by decide),qq⟩
theorem ya {dV:Value} (F:a9 K "round_up" "round_up" xU dV f fd):a7 P w K mg base ba 1 f fd ["one"] (uG K):=by
 have sc:aD ["one"] ["one"] (ar xU):=dG (by decide+kernel)
 refine F.ok sc (fun vs H Q E h=>?_) (fun cdv A outer s H vs Q E hr h=>?_)
 ·obtain ⟨_,_,_,rfl,_⟩:=h
  rfl
 obtain ⟨t,p,q,rfl,h1,qq⟩:=h;refine ⟨_,(ai (aI (hV eR (ak aH (hV eR (av aK (pv 0) ad (fun _ _=>rfl))) (av aK (pv 0) ad (fun _ _=>rfl)))))),?_⟩
 try dsimp only[cxK]
 have q0:q≠0:=by have:=h1.pos;omega
 exact ⟨_,rfl,_,_,_,_,rfl,rfl,h1.at_,rfl,_,rfl,_,rfl,_,_,_,_,rfl,rfl,h1.at_,rfl,_,_,rfl,rfl,⟨q0,h1.bq.div q0⟩,_,rfl,qq⟩
theorem yc {dV:Value} (F:a9 K "grown_length" "grown_length" xV dV f fd) (DZ2:Dx P w K mg base ba 2 "fraction" ["top","bottom"] [.int 1] lJ) (DZ3:Dx P w K mg base ba 3 "product" ["one","other"] [] (lL K)) (DZ5:Dx P w K mg base ba 1 "round_up" ["one"] [] (uG K)):a7 P w K mg base ba 4 f fd ["length","factor"] (gB K):=by
 have sc:aD ["length","factor"] ["length","factor"] (ar xV):=dG (by decide+kernel)
 refine F.ok sc (fun vs H Q E h=>?_) (fun cdv A outer s H vs Q E hr h=>?_)
 ·obtain ⟨_,_,_,_,rfl,_⟩:=h
  rfl
 obtain ⟨l,p,q,tf,rfl,ft,bl,k⟩:=h;refine ⟨_,(ai (aI (dh DZ5 hr (@aa _ _ _ _ _ (dh DZ3 hr (@aa _ _ _ _ _ (ng DZ2 hr (by decide) rfl (@aa _ _ _ _ _ (pv 0) ag rfl)) (@aa _ _ _ _ _ (pv 1) ag rfl) rfl)) ag rfl)))),?_⟩
 try dsimp only[cxK]
 refine ⟨_,rfl,l,1,rfl,by decide,Bd.one.mono (by decide),fun a b f t1 H1 g1 e1=>?_⟩
 obtain ⟨rfl,rfl⟩:=kj f;have F1:bX K 210 H1 t1 a 1:=⟨bF.of e1,by decide,bl,Bd.one.mono (by decide)⟩
 have F2:=ft.same g1;refine ⟨_,rfl,t1,tf,a,1,p,q,rfl,F1.mono (by decide),F2.mono (by decide),fun r s F t2 H2 g2 e2=>?_⟩
 have b1:Bd 420 (a*p):=F1.bp.mul F2.bp;have b2:Bd 420 (1*q):=F1.bq.mul F2.bq|>.mono (by decide)
 have F3:bX K 420 H2 t2 r s:= .of F b1 b2 e2;refine ⟨t2,r,s,rfl,F3.mono (by decide),k _ _ (g1.trans g2) ?_⟩
 exact ⟨wo F F2.pos,(m7 (F3.bp.mono (by decide)).neg).neg⟩
theorem yd {dV:Value} (F:a9 K "__init__" "Step.__init__" w6 dV f fd):a7 P w K mg base ba 1 f fd ["self","name","least","most","uses","second"] (fY K):=by
 have sc:aD ["self","name","least","most","uses","second"] ["self","name","least","most","uses","second"] (ar w6):=dG (by decide+kernel)
 refine F.ok sc (fun vs H Q E h=>?_) (fun cdv A outer s H vs Q E hr h=>?_)
 ·obtain ⟨_,_,_,_,_,_,_,_,_,_,rfl,_⟩:=h
  rfl
 obtain ⟨a,C,dx,nm,l,m,uv,sv,us,c,rfl,e0,sc0,hu,hs,q⟩:=h;refine ⟨_,(ae (cF (pv 0) (pv 1) rfl) (ae (cF (pv 0) (pv 2) rfl) (ae (cF (pv 0) (pv 3) rfl) (ae (cF (pv 0) (d7 (aC lg (pv 4) f8 (aJ _)) (@bL _ _ _ _ ag) (cU bR rfl B.zI boot_list (@aa _ _ _ _ _ (pv 4) ag rfl))) rfl) (ai (cF (pv 0) (d7 (aC lg (pv 5) f8 (aJ _)) f8 (@bB _ _ _ _ _ (@aa _ _ _ _ _ (av aK (pv 5) ad (fun _ _=>rfl)) (@aa _ _ _ _ _ (av aK (pv 5) ad (fun _ _=>rfl)) (@aa _ _ _ _ _ (cU bR rfl B.zI boot_list (@aa _ _ _ _ _ (av aK (pv 5) ad (fun _ _=>rfl)) ag rfl)) ag rfl) rfl) rfl))) rfl)))))),?_⟩
 try dsimp only[cxK]
 refine ⟨_,rfl,_,rfl,a,C,dx,_,rfl,e0,sc0.cl,sc0.name,by decide,?_⟩
 refine ⟨_,rfl,_,rfl,a,C,dx,_,rfl,af,sc0.cl,sc0.least,(by have:=aG "name" (.str nm) [];simp at this;omega),?_⟩
 refine ⟨_,rfl,_,rfl,a,C,dx,_,rfl,af,sc0.cl,sc0.most,(by have:=aG "name" (.str nm) [];have:=aG "least" (.int l) (aE "name" (.str nm) []);simp at*;omega),?_⟩
 have k0:=(((Kept.refl H a).put (.ins C dx (aE "name" (.str nm) []))).put (.ins C dx (aE "least" (.int l) (aE "name" (.str nm) [])))).put (.ins C dx (aE "most" (.int m) (aE "least" (.int l) (aE "name" (.str nm) []))));have ea:(aL (aL (aL H a (.ins C dx (aE "name" (.str nm) []))) a (.ins C dx (aE "least" (.int l) (aE "name" (.str nm) [])))) a (.ins C dx (aE "most" (.int m) (aE "least" (.int l) (aE "name" (.str nm) []))))) a=some (.ins C dx (aE "most" (.int m) (aE "least" (.int l) (aE "name" (.str nm) [])))):=af;have fr0:∀{b:Addr},(aL (aL (aL H a (.ins C dx (aE "name" (.str nm) []))) a (.ins C dx (aE "least" (.int l) (aE "name" (.str nm) [])))) a (.ins C dx (aE "most" (.int m) (aE "least" (.int l) (aE "name" (.str nm) []))))) b=none->H b=none:=fun {b} hb=>by
  have n:b≠a:=fun z=>by rw[z,af] at hb;cases hb
  rw[am n,am n,am n] at hb;exact hb
 generalize aL (aL (aL H a (.ins C dx (aE "name" (.str nm) []))) a (.ins C dx (aE "least" (.int l) (aE "name" (.str nm) [])))) a (.ins C dx (aE "most" (.int m) (aE "least" (.int l) (aE "name" (.str nm) []))))=H1 at k0 ea fr0⊢;have l3:(aE "most" (.int m) (aE "least" (.int l) (aE "name" (.str nm) []))).length<=3:=by
  have h1:=aG "name" (.str nm) [];have h2:=aG "least" (.int l) (aE "name" (.str nm) []);have h3:=aG "most" (.int m) (aE "least" (.int l) (aE "name" (.str nm) []));simp at h1;omega
 obtain ⟨f3,ef3⟩:∃f3,f3=aE "most" (.int m) (aE "least" (.int l) (aE "name" (.str nm) [])):=⟨_,rfl⟩;rw[<-ef3] at ea l3;have ne:∀{b:Addr} {zs:List V},H b=some (.lst zs)->b≠a:=fun hb z=>by subst z;rw[e0] at hb;cases hb
 have neT:∀{b:Addr} {zs:List V},H b=some (.tup zs)->b≠a:=fun hb z=>by subst z;rw[e0] at hb;cases hb
 try dsimp only[b9,c9]
 refine cut (fun σ H'=>Kept H H' a/\σ= [CH a,some (.str nm),some (.int l),some (.int m),some uv,some sv]/\∃u,u≠a/\H u=none/\H' u=some (.lst (us.map V.ref))/\H' a=some (.ins C dx (aE "uses" (.ref u) f3))/\∀b,H' b=none->H b=none) (fun N hN=>?_) ?_
 ·rcases hu with ⟨rfl,rfl⟩|⟨lu,rfl,eu⟩
  ·refine ⟨_,rfl,rfl,_,rfl,dT rfl ⟨by show 0<=sizeLine;decide,fun u nu=>?_⟩⟩
   have ua:u≠a:=fun z=>by rw[z,ea] at nu;cases nu
   refine ⟨_,rfl,a,C,dx,_,rfl,(by rw[am (Ne.symm ua)];exact ea),sc0.cl,sc0.uses,by omega,hN _ _ ⟨(k0.new nu _).put _,rfl,u,ua,fr0 nu,by rw[am ua];exact af,af,fun b hb=>?_⟩⟩
   have n1:b≠a:=fun z=>by rw[z,af] at hb;cases hb
   have n2:b≠u:=fun z=>by rw[z,am ua,af] at hb;cases hb
   rw[am n1,am n2] at hb;exact fr0 hb
  ·refine ⟨_,rfl,rfl,_,rfl,dF (fun z=>nomatch z) ⟨_,rfl,lu,_,rfl,.inl (aP.of (k0 _ _ eu (ne eu))),fun u nu=>?_⟩⟩
   have ua:u≠a:=fun z=>by rw[z,ea] at nu;cases nu
   refine ⟨_,rfl,a,C,dx,_,rfl,(by rw[am (Ne.symm ua)];exact ea),sc0.cl,sc0.uses,by omega,hN _ _ ⟨(k0.new nu _).put _,rfl,u,ua,fr0 nu,by rw[am ua];exact af,af,fun b hb=>?_⟩⟩
   have n1:b≠a:=fun z=>by rw[z,af] at hb;cases hb
   have n2:b≠u:=fun z=>by rw[z,am ua,af] at hb;cases hb
   rw[am n1,am n2] at hb;exact fr0 hb
 rintro σ H2 ⟨k2,rfl,u,ua,nu,eu,ea2,fr2⟩;have l4:=aG "uses" (.ref u) f3
 match c,hs with
 |none,hs=>
  have hs':sv= .non:=hs;subst hs';refine ⟨_,rfl,rfl,_,rfl,dT rfl ⟨_,rfl,a,C,dx,_,rfl,ea2,sc0.cl,sc0.second,by omega,?_⟩⟩
  exact q u .non _ (k2.put _) ua nu (by rw[am ua];exact eu) rfl (by rw[af,ef3];rfl)
 |some (x,y,vs),hs=>
  obtain ⟨t,l2,rfl,et,el⟩:=hs;have et2:=k2 _ _ et (neT et);have el2:=k2 _ _ el (ne el);refine ⟨_,rfl,rfl,_,rfl,dF (fun z=>nomatch z) ?_⟩
  refine ⟨_,rfl,_,_,_,_,rfl,rfl,bF.of et2,rfl,_,rfl,_,_,_,_,rfl,rfl,bF.of et2,rfl,_,rfl,_,_,_,_,rfl,rfl,bF.of et2,rfl,l2,_,rfl,.inl (aP.of el2),fun lc nc=>⟨by show 3<=sizeLine;decide,fun tc ntc=>?_⟩⟩
  have lca:lc≠a:=fun z=>by rw[z,ea2] at nc;cases nc
  have lcu:lc≠u:=fun z=>by rw[z,eu] at nc;cases nc
  have gc:=ao nc (.lst (vs.map V.ref));have gt:=ao ntc (.tup [.int x,.int y,.ref lc]);have tca:tc≠a:=fun z=>by rw[z,gc _ _ ea2] at ntc;cases ntc
  have tcu:tc≠u:=fun z=>by rw[z,gc _ _ eu] at ntc;cases ntc
  refine ⟨_,rfl,a,C,dx,_,rfl,gt _ _ (gc _ _ ea2),sc0.cl,sc0.second,by omega,?_⟩
  refine q u (.ref tc) _ (((k2.new nc _).new ntc _).put _) ua nu (by rw[am ua];exact gt _ _ (gc _ _ eu)) ⟨tc,lc,rfl,by rw[am tca];exact af,by rw[am lca];exact gt _ _ af,fr2 _ (gc.free ntc),fr2 _ nc⟩ (by rw[af,ef3];rfl)
theorem ye {dV:Value} (F:a9 K "span" "Step.span" xW dV f fd):a7 P w K mg base ba 1 f fd ["self","least","most","factor"] (jg K false):=by
 have sc:aD ["self","least","most","factor"] ["self","least","most","factor"] (ar xW):=dG (by decide+kernel)
 refine F.ok sc (fun vs H Q E h=>?_) (fun cdv A outer s H vs Q E hr h=>?_)
 ·obtain ⟨_,_,_,_,_,_,rfl,_⟩:=h
  rfl
 obtain ⟨x,l,m,p,q,tf,rfl,ft,bl,bm,k⟩:=h;refine ⟨_,(ai (aI (@bB _ _ _ _ _ (@aa _ _ _ _ _ (pv 1) (@aa _ _ _ _ _ (pv 2) ag rfl) rfl)))),?_⟩;try dsimp only[cxK]
 exact ⟨_,rfl,_,rfl,by show 2<=sizeLine;decide,fun t nt=>k t _ _ _ (ao nt _) af rfl rfl⟩
theorem yf {dV:Value} (F:a9 K "rounds" "Step.rounds" xX dV f fd):a7 P w K mg base ba 1 f fd ["self","factor","size"] gu:=by
 have sc:aD ["self","factor","size"] ["self","factor","size"] (ar xX):=dG (by decide+kernel)
 refine F.ok sc (fun vs H Q E h=>?_) (fun cdv A outer s H vs Q E hr h=>?_)
 ·obtain ⟨_,_,_,rfl,_⟩:=h
  rfl
 obtain ⟨a,b,c,rfl,q⟩:=h;refine ⟨_,(ai (aI ad)),?_⟩;try dsimp only[cxK]
 exact q
theorem ww {dV:Value} (F:a9 K "span" "Cut.span" vm dV f fd) (DZ6:Dx P w K mg base ba 4 "grown_length" ["length","factor"] [] (gB K)):a7 P w K mg base ba 5 f fd ["self","least","most","factor"] (jg K true):=by
 have sc:aD ["self","least","most","factor"] ["self","least","most","factor"] (ar vm):=dG (by decide+kernel)
 refine F.ok sc (fun vs H Q E h=>?_) (fun cdv A outer s H vs Q E hr h=>?_)
 ·obtain ⟨_,_,_,_,_,_,rfl,_⟩:=h
  rfl
 obtain ⟨x,l,m,p,q,tf,rfl,ft,bl,bm,k⟩:=h;refine ⟨_,(ai (aI (@bB _ _ _ _ _ (@aa _ _ _ _ _ (dh DZ6 hr (@aa _ _ _ _ _ (pv 1) (@aa _ _ _ _ _ (pv 3) ag rfl) rfl)) (@aa _ _ _ _ _ (dh DZ6 hr (@aa _ _ _ _ _ (pv 2) (@aa _ _ _ _ _ (pv 3) ag rfl) rfl)) ag rfl) rfl)))),?_⟩;try dsimp only[cxK]
 refine ⟨_,rfl,_,rfl,l,p,q,tf,rfl,ft,bl,fun n H1 g1 gn=>?_⟩
 refine ⟨_,rfl,_,rfl,m,p,q,tf,rfl,ft.same g1,bm,fun n2 H2 g2 gn2=>?_⟩
 exact ⟨by show 2<=sizeLine;decide,fun t nt=>k t _ _ _ ((g1.trans g2).trans (ao nt _)) af gn gn2⟩
theorem wx {dV:Value} (F:a9 K "grown_way" "Step.grown_way" vn dV f fd) (DZ8:ju P w K mg base ba 1 y6 ["self","least","most","factor"] [] (jg K false)) (DZ10:ju P w K mg base ba 5 yW ["self","least","most","factor"] [] (jg K true)):a7 P w K mg base ba 6 f fd ["self","least","most","uses","factor"] (qU K yS yT y6 yW):=by
 have sc:aD ["self","least","most","uses","factor","lengths"] ["self","least","most","uses","factor"] (ar vn):=dG (by decide+kernel)
 refine F.ok sc (fun vs H Q E h=>?_) (fun cdv A outer s H vs Q E hr h=>?_)
 ·obtain ⟨_,_,_,_,_,_,_,_,_,_,_,_,_,rfl,_⟩:=h
  rfl
 obtain ⟨x,C,dx,lu,tf,l,m,p,q,us,f,ff,ct,rfl,ex,ns,sm,ft,bl,bm,eu,ul,k⟩:=h;refine ⟨_,(ae (cD 5 sc (iz (eW (pv 0) DZ8 hr (by decide) (@aa _ _ _ _ _ (pv 1) (@aa _ _ _ _ _ (pv 2) (@aa _ _ _ _ _ (pv 4) ag rfl) rfl) rfl)) (eW (pv 0) DZ10 hr (by decide) (@aa _ _ _ _ _ (pv 1) (@aa _ _ _ _ _ (pv 2) (@aa _ _ _ _ _ (pv 4) ag rfl) rfl) rfl)))) (ai (aI (@bB _ _ _ _ _ (@aa _ _ _ _ _ (av aK (pv 5) ad (fun _ _=>rfl)) (@aa _ _ _ _ _ (av aK (pv 5) ad (fun _ _=>rfl)) (@aa _ _ _ _ _ (aU lV rfl B.zH PyProof.Rows.Boot.«sorted» (@aa _ _ _ _ _ (pv 3) ag rfl)) ag rfl) rfl) rfl))))),?_⟩
 try dsimp only[cxK]
 try dsimp only[b9,c9]
 refine cut (fun σ H'=>au H H'/\∃(t:Addr) (n n2:Int),σ= [CH x,some (.int l),some (.int m),CH lu,CH tf,CH t]/\H' t=some (.tup [.int n,.int n2])/\u0 ct l p q n/\u0 ct m p q n2) (fun N hN=>?_) ?_
 ·cases ct with
  |false=>exact .inl ⟨_,rfl,x,C,dx,ff,rfl,ex,sm.c.cl,sm.span,ns,_,rfl,_,rfl,_,rfl,_,l,m,p,q,tf,rfl,ft,bl,bm,fun t H1 n n2 g1 e1 gn gn2=>hN _ _ ⟨g1,t,n,n2,rfl,e1,gn,gn2⟩⟩
  |true=>exact .inr ⟨_,rfl,x,C,dx,ff,rfl,ex,sm.c.cl,sm.span,ns,_,rfl,_,rfl,_,rfl,_,l,m,p,q,tf,rfl,ft,bl,bm,fun t H1 n n2 g1 e1 gn gn2=>hN _ _ ⟨g1,t,n,n2,rfl,e1,gn,gn2⟩⟩
 rintro σ H1 ⟨g1,t,n,n2,rfl,e1,gn,gn2⟩;refine ⟨_,rfl,_,_,_,_,rfl,rfl,bF.of e1,rfl,_,rfl,_,_,_,_,rfl,rfl,bF.of e1,rfl,_,rfl,lu,us,f,rfl,g1 _ _ eu,(ul.same g1).tup,ul.nd,ul.sm,fun ls bs nl pr sr=>?_⟩
 refine ⟨by show 3<=sizeLine;decide,fun t2 nt=>?_⟩
 exact k t2 _ ((g1.trans (ao nl _)).trans (ao nt _)) ⟨n,n2,ls,bs,af,ao nt _ _ _ af,gn,gn2,⟨pr,sr⟩,g1.free nl⟩
theorem wy {dV:Value} (F:a9 K "grown" "Step.grown" vo dV f fd) (DZ11:ju P w K mg base ba 6 yT ["self","least","most","uses","factor"] [] (qU K yS yT y6 yW)):a7 P w K mg base ba 7 f fd ["self","factor"] (ku K yS yT y6 yW):=by
 have sc:aD ["self","factor","ways"] ["self","factor"] (ar vo):=dG (by decide+kernel)
 refine F.ok sc (fun vs H Q E h=>?_) (fun cdv A outer s H vs Q E hr h=>?_)
 ·obtain ⟨_,_,_,_,_,_,_,_,_,_,_,_,rfl,_⟩:=h
  rfl
 obtain ⟨x,C,tf,nm,l,m,p,q,us,c,f,ct,rfl,st,sm,ft,hd,k⟩:=h;refine ⟨_,(ae (cD 2 sc (@bL _ _ _ _ (@aa _ _ _ _ _ (eW (pv 0) DZ11 hr (by decide) (@aa _ _ _ _ _ (bW (pv 0) rfl) (@aa _ _ _ _ _ (bW (pv 0) rfl) (@aa _ _ _ _ _ (bW (pv 0) rfl) (@aa _ _ _ _ _ (pv 1) ag rfl) rfl) rfl) rfl)) ag rfl))) (ae (bh (aC rY (bW (pv 0) rfl) f8 (aJ _)) (ai (bQ (dL Ao Au As a8 (pv 2) (@aa _ _ _ _ _ (eW (pv 0) DZ11 hr (by decide) (@aa _ _ _ _ _ (av aK (bW (pv 0) rfl) ad (fun _ _=>rfl)) (@aa _ _ _ _ _ (av aK (bW (pv 0) rfl) ad (fun _ _=>rfl)) (@aa _ _ _ _ _ (av aK (bW (pv 0) rfl) ad (fun _ _=>rfl)) (@aa _ _ _ _ _ (pv 1) ag rfl) rfl) rfl) rfl)) ag rfl)))) aS) (ai (aI (pv 2))))),?_⟩
 try dsimp only[cxK]
 obtain ⟨dx,u,s,ff,ex,sf,eu,hs⟩:=st.ex;have FL:∀{H1:Hp},au H H1->H1 x=some (.ins C dx ff):=fun g=>g _ _ ex
 have h0:=hd (l,m,us) (by cases c<;>simp[gC])
 refine ⟨_,rfl,x,C,dx,ff,rfl,ex,sm.c.cl,sm.way,sf.way,_,rfl,x,C,dx,ff,_,rfl,ex,sm.c.cl,sm.c.least,sf.least,_,rfl,x,C,dx,ff,_,rfl,ex,sm.c.cl,sm.c.most,sf.most,_,rfl,x,C,dx,ff,_,rfl,ex,sm.c.cl,sm.c.uses,sf.uses,_,rfl,x,C,dx,u,tf,l,m,p,q,us,f,ff,ct,rfl,ex,sf.span,sm,ft,h0.1,h0.2.1,eu,h0.2.2,fun t H1 g1 w1=>?_⟩
 refine ⟨by show 1<=sizeLine;decide,fun lw nl=>?_⟩
 have g2:=g1.trans (ao nl (.lst [.ref t]));have ex2:=FL g2;have w2:=w1.same (ao nl (.lst [.ref t]))
 match c,hs,hd,k with
 |none,hs,hd,k=>
  have hs':s= .non:=hs;subst hs';refine ⟨_,rfl,x,C,dx,ff,_,rfl,ex2,sm.c.cl,sm.c.second,sf.second,rfl,_,rfl,nF rfl ⟨_,rfl,k lw _ g2 ⟨[t],af,rfl,g1.free nl,fun i t' d e1 e2=>?_,?_⟩⟩⟩
  ·match i,e1,e2 with
   |0,e1,e2=>cases e1;cases e2;exact w2
  obtain ⟨n1,k1,ls1,bs1,j1,j2,_⟩:=w1.ex;intro i j t' t'' n k n' k' ls ls' e1 e2 e3 e4
  match i,j,e1,e2 with
  |0,0,e1,e2=>
   cases e1;rw[ao nl _ _ _ j1] at e3;cases e3;exact ⟨aF j2 nl,fun z=>absurd rfl z⟩
 |some (l',m',us'),hs,hd,k=>
  obtain ⟨t2,l2,rfl,et,el⟩:=hs;have h1:=hd (l',m',us') (by simp[gC])
  have et2:=g2 _ _ et;have el2:=g2 _ _ el;have elw:aL H1 lw (.lst [.ref t]) lw=some (.lst [.ref t]):=af;refine ⟨_,rfl,x,C,dx,ff,_,rfl,ex2,sm.c.cl,sm.c.second,sf.second,rfl,_,rfl,nT (fun z=>nomatch z) ?_⟩
  refine ⟨_,rfl,.inl ⟨rfl,_,aP.of elw⟩,_,rfl,x,C,dx,ff,rfl,ex2,sm.c.cl,sm.way,sf.way,_,rfl,x,C,dx,ff,_,rfl,ex2,sm.c.cl,sm.c.second,sf.second,_,_,_,_,rfl,rfl,bF.of et2,rfl,_,rfl,x,C,dx,ff,_,rfl,ex2,sm.c.cl,sm.c.second,sf.second,_,_,_,_,rfl,rfl,bF.of et2,rfl,_,rfl,x,C,dx,ff,_,rfl,ex2,sm.c.cl,sm.c.second,sf.second,_,_,_,_,rfl,rfl,bF.of et2,rfl,_,rfl,x,C,dx,l2,tf,l',m',p,q,us',f,ff,ct,rfl,ex2,sf.span,sm,ft.same g2,h1.1,h1.2.1,el2,h1.2.2.same g2,fun t3 H3 g3 w3=>?_⟩
  refine ⟨lw,_,_,rfl,rfl,g3 _ _ elw,(by show 1<sizeLine;decide),?_⟩
  have g4:au H (aL H3 lw (.lst ([.ref t]++ [.ref t3]))):=dE (g2.trans g3) (g1.free nl) _;refine ⟨_,rfl,k lw _ g4 ⟨[t,t3],af,rfl,g1.free nl,fun i t' d e1 e2=>?_,?_⟩⟩
  ·match i,e1,e2 with
   |0,e1,e2=>cases e1;cases e2;exact w1.putA nl ((ao nl _).trans g3)
   |1,e1,e2=>cases e1;cases e2;exact w3.putB elw (g3 _ _ elw) g2
  obtain ⟨n1,k1,ls1,bs1,j1,j2,_⟩:=w1.ex;obtain ⟨n3,k3,ls3,bs3,i1,i2,_,_,_,i6⟩:=w3.ex;have j1':=g3 _ _ (ao nl (.lst [.ref t]) _ _ j1);have p1:aL H3 lw (.lst ([.ref t]++ [.ref t3])) t=some (.tup [.int n1,.int k1,.ref ls1]):=by
   rw[am (fun z=>by rw[z,g3 _ _ elw] at j1';cases j1')]
   exact j1'
  have p3:aL H3 lw (.lst ([.ref t]++ [.ref t3])) t3=some (.tup [.int n3,.int k3,.ref ls3]):=by
   rw[am (fun z=>by rw[z,g3 _ _ elw] at i1;cases i1)]
   exact i1
  have d1:ls1≠lw:=aF j2 nl;have d3:ls3≠lw:=fun z=>by rw[z,elw] at i6;cases i6
  have d13:ls1≠ls3:=aF (ao nl (.lst [.ref t]) _ _ j2) i6;intro i j t' t'' n k n' k' ls ls' e1 e2 e3 e4
  match i,j,e1,e2 with
  |0,0,e1,e2=>cases e1;rw[p1] at e3;cases e3;exact ⟨d1,fun z=>absurd rfl z⟩
  |0,1,e1,e2=>cases e1;cases e2;rw[p1] at e3;cases e3;rw[p3] at e4;cases e4;exact ⟨d1,fun _=>d13⟩
  |1,0,e1,e2=>cases e1;cases e2;rw[p3] at e3;cases e3;rw[p1] at e4;cases e4;exact ⟨d3,fun _=>d13.symm⟩
  |1,1,e1,e2=>cases e1;rw[p3] at e3;cases e3;exact ⟨d3,fun z=>absurd rfl z⟩
theorem wz {dV:Value} (F:a9 K "__init__" "Warm.__init__" tP dV f fd) (DZ7:ju P w K mg base ba 1 y8 ["self","name","least","most","uses","second"] [.non,.non] (fY K)):a7 P w K mg base ba 2 f fd ["self","name","least","most","fill","uses","second"] (je K):=by
 have sc:aD ["self","name","least","most","fill","uses","second"] ["self","name","least","most","fill","uses","second"] (ar tP):=dG (by decide+kernel)
 refine F.ok sc (fun vs H Q E h=>?_) (fun cdv A outer s H vs Q E hr h=>?_)
 ·obtain ⟨_,_,_,_,_,_,_,_,_,_,_,rfl,_⟩:=h
  rfl
 obtain ⟨a,C,dx,nm,l,m,fl,uv,sv,us,c,rfl,e0,sc0,nf,hu,hs,q⟩:=h;refine ⟨_,(ae (bQ (we B.zv DZ7 hr (by decide) rfl B.Ci (@aa _ _ _ _ _ (pv 0) (@aa _ _ _ _ _ (pv 1) (@aa _ _ _ _ _ (pv 2) (@aa _ _ _ _ _ (pv 3) (@aa _ _ _ _ _ (pv 5) (@aa _ _ _ _ _ (pv 6) ag rfl) rfl) rfl) rfl) rfl) rfl))) (ai (cF (pv 0) (pv 4) rfl))),?_⟩
 try dsimp only[cxK]
 refine ⟨_,rfl,_,rfl,_,rfl,_,rfl,_,rfl,_,rfl,a,C,dx,nm,l,m,uv,sv,us,c,rfl,e0,sc0,hu,hs,fun u s H1 k1 ua nu eu hs1 ea=>?_⟩
 refine ⟨_,rfl,_,rfl,a,C,dx,_,rfl,ea,sc0.cl,nf,(by have:=oO (nm:= .str nm) (l:= .int l) (m:= .int m) (u:= .ref u) (s:=s);omega),?_⟩
 exact q u s _ (k1.put _) ua nu (by rw[am ua];exact eu) (hs1.self ea) af
theorem wA {dV:Value} (F:a9 K "rounds" "Warm.rounds" vq dV f fd) (DZ3:Dx P w K mg base ba 3 "product" ["one","other"] [] (lL K)) (DZ4:Dx P w K mg base ba 3 "quotient" ["one","other"] [] (qh K)) (DZ5:Dx P w K mg base ba 1 "round_up" ["one"] [] (uG K)):a7 P w K mg base ba 4 f fd ["self","factor","size"] (km K):=by
 have sc:aD ["self","factor","size"] ["self","factor","size"] (ar vq):=dG (by decide+kernel)
 refine F.ok sc (fun vs H Q E h=>?_) (fun cdv A outer s H vs Q E hr h=>?_)
 ·obtain ⟨_,_,_,_,_,_,_,_,_,_,_,_,_,rfl,_⟩:=h
  rfl
 obtain ⟨a,C,dx,t,tf,ts,fs,p,q,fp,fq,sp,sq,rfl,ea,cl,na,lk,f1,f2,f3,s0,k⟩:=h;refine ⟨_,(ai (aI (dh DZ5 hr (@aa _ _ _ _ _ (dh DZ4 hr (@aa _ _ _ _ _ (dh DZ3 hr (@aa _ _ _ _ _ (bW (pv 0) rfl) (@aa _ _ _ _ _ (pv 1) ag rfl) rfl)) (@aa _ _ _ _ _ (pv 2) ag rfl) rfl)) ag rfl)))),?_⟩;try dsimp only[cxK]
 refine ⟨_,rfl,a,C,dx,fs,_,rfl,ea,cl,na,lk,_,rfl,t,tf,p,q,fp,fq,rfl,f1.mono (by decide),f2.mono (by decide),fun r s F t1 H1 g1 e1=>?_⟩
 have b1:Bd 402 (p*fp):=f1.bp.mul f2.bp;have b2:Bd 402 (q*fq):=f1.bq.mul f2.bq;have F1:bX K 402 H1 t1 r s:= .of F b1 b2 e1;have F3:=f3.same g1;refine ⟨_,rfl,t1,ts,r,s,sp,sq,rfl,F1.mono (by decide),F3.mono (by decide),by omega,fun u v F' t2 H2 g2 e2=>?_⟩
 have c1:Bd 603 (r*sq):=F1.bp.mul F3.bq;have c2:Bd 603 (s*sp):=F1.bq.mul F3.bp;have F4:bX K 603 H2 t2 u v:= .of F' c1 c2 e2;exact ⟨t2,u,v,rfl,F4.mono (by decide),k _ _ (g1.trans g2) (uU f1.pos f2.pos s0 F F' (F4.bp.mono (by decide)))⟩
theorem wB {dV:Value} (F:a9 K "__init__" "Recipe.__init__" vt dV f fd):a7 P w K mg base ba 1 f fd ["self","name","plates","takes","steps","links"] (nS K):=by
 have sc:aD ["self","name","plates","takes","steps","links"] ["self","name","plates","takes","steps","links"] (ar vt):=dG (by decide+kernel)
 refine F.ok sc (fun vs H Q E h=>?_) (fun cdv A outer s H vs Q E hr h=>?_)
 ·obtain ⟨_,_,_,_,_,_,_,_,_,_,_,rfl,_⟩:=h
  rfl
 obtain ⟨a,C,dx,lt,ls,lk,nm,p,xt,xs,xk,rfl,e0,sc0,et,es,ek,q⟩:=h;refine ⟨_,(ae (cF (pv 0) (pv 1) rfl) (ae (cF (pv 0) (pv 2) rfl) (ae (cF (pv 0) (cU bR rfl B.zI boot_list (@aa _ _ _ _ _ (pv 3) ag rfl)) rfl) (ae (cF (pv 0) (cU bR rfl B.zI boot_list (@aa _ _ _ _ _ (pv 4) ag rfl)) rfl) (ai (cF (pv 0) (cU bR rfl B.zI boot_list (@aa _ _ _ _ _ (pv 5) ag rfl)) rfl)))))),?_⟩;try dsimp only[cxK]
 have ne:∀{b:Addr} {zs:List V},H b=some (.lst zs)->b≠a:=fun hb z=>by subst z;rw[e0] at hb;cases hb
 refine ⟨_,rfl,_,rfl,a,C,dx,_,rfl,e0,sc0.cl,sc0.name,by decide,?_⟩
 refine ⟨_,rfl,_,rfl,a,C,dx,_,rfl,af,sc0.cl,sc0.plates,(by have:=aG "name" nm [];simp at this;omega),?_⟩
 have k0:=((Kept.refl H a).put (.ins C dx (aE "name" nm []))).put (.ins C dx (aE "plates" p (aE "name" nm [])));have ea:(aL (aL H a (.ins C dx (aE "name" nm []))) a (.ins C dx (aE "plates" p (aE "name" nm [])))) a=some (.ins C dx (aE "plates" p (aE "name" nm []))):=af;generalize aL (aL H a (.ins C dx (aE "name" nm []))) a (.ins C dx (aE "plates" p (aE "name" nm [])))=H1 at k0 ea⊢;have l2:(aE "plates" p (aE "name" nm [])).length<=2:=by
  have h1:=aG "name" nm [];have h2:=aG "plates" p (aE "name" nm []);simp at h1;omega
 obtain ⟨f2,ef2⟩:∃f2,f2=aE "plates" p (aE "name" nm []):=⟨_,rfl⟩;rw[<-ef2] at ea l2;have et1:=k0 _ _ et (ne et);refine ⟨_,rfl,lt,xt,rfl,.inl (aP.of et1),fun la na=>?_⟩
 have laa:la≠a:=fun z=>by rw[z,ea] at na;cases na
 refine ⟨_,rfl,a,C,dx,_,rfl,(by rw[am (Ne.symm laa)];exact ea),sc0.cl,sc0.takes,by omega,?_⟩
 have k1:=(k0.new na (.lst xt)).put (.ins C dx (aE "takes" (.ref la) f2));have ea1:(aL (aL H1 la (.lst xt)) a (.ins C dx (aE "takes" (.ref la) f2))) a=some (.ins C dx (aE "takes" (.ref la) f2)):=af;generalize aL (aL H1 la (.lst xt)) a (.ins C dx (aE "takes" (.ref la) f2))=H2 at k1 ea1⊢;have l3:=aG "takes" (.ref la) f2;obtain ⟨f3,ef3⟩:∃f3,f3=aE "takes" (.ref la) f2:=⟨_,rfl⟩;rw[<-ef3] at ea1 l3;have es1:=k1 _ _ es (ne es);refine ⟨_,rfl,ls,xs,rfl,.inl (aP.of es1),fun lb nb=>?_⟩
 have lba:lb≠a:=fun z=>by rw[z,ea1] at nb;cases nb
 refine ⟨_,rfl,a,C,dx,_,rfl,(by rw[am (Ne.symm lba)];exact ea1),sc0.cl,sc0.steps,by omega,?_⟩
 have k2:=(k1.new nb (.lst xs)).put (.ins C dx (aE "steps" (.ref lb) f3));have ea2:(aL (aL H2 lb (.lst xs)) a (.ins C dx (aE "steps" (.ref lb) f3))) a=some (.ins C dx (aE "steps" (.ref lb) f3)):=af;have elb:(aL (aL H2 lb (.lst xs)) a (.ins C dx (aE "steps" (.ref lb) f3))) lb=some (.lst xs):=by rw[am lba];exact af
 generalize aL (aL H2 lb (.lst xs)) a (.ins C dx (aE "steps" (.ref lb) f3))=H3 at k2 ea2 elb⊢;have l4:=aG "steps" (.ref lb) f3;obtain ⟨f4,ef4⟩:∃f4,f4=aE "steps" (.ref lb) f3:=⟨_,rfl⟩;rw[<-ef4] at ea2 l4;have ek1:=k2 _ _ ek (ne ek);refine ⟨_,rfl,lk,xk,rfl,.inl (aP.of ek1),fun lc nc=>?_⟩
 have lca:lc≠a:=fun z=>by rw[z,ea2] at nc;cases nc
 refine ⟨_,rfl,a,C,dx,_,rfl,(by rw[am (Ne.symm lca)];exact ea2),sc0.cl,sc0.links,by omega,?_⟩
 refine q lc lb (.ref la) _ ((k2.new nc (.lst xk)).put _) (by rw[am lca];exact af) ?_ ?_
 ·rw[am lba];exact ao nc _ _ _ elb
 rw[af,ef4,ef3,ef2]
 rfl
theorem wC {dV:Value} (F:a9 K "factor_of" "factor_of" vv dV f fd) (DZ2:Dx P w K mg base ba 2 "fraction" ["top","bottom"] [.int 1] lJ):a7 P w K mg base ba 3 f fd ["recipe","plates"] (iJ K):=by
 have sc:aD ["recipe","plates"] ["recipe","plates"] (ar vv):=dG (by decide+kernel)
 refine F.ok sc (fun vs H Q E h=>?_) (fun cdv A outer s H vs Q E hr h=>?_)
 ·obtain ⟨_,_,_,_,_,_,rfl,_⟩:=h
  rfl
 obtain ⟨r,C,dx,fl,n,p0,rfl,er,cl,na,fp,p1,p2,q⟩:=h;refine ⟨_,(ai (aI (dh DZ2 hr (@aa _ _ _ _ _ (pv 1) (@aa _ _ _ _ _ (bW (pv 0) rfl) ag rfl) rfl)))),?_⟩;try dsimp only[cxK]
 exact ⟨_,rfl,_,rfl,r,C,dx,fl,_,rfl,er,cl,na,fp,n,p0,rfl,by omega,Bd.mono (m:=10) (by unfold Bd;show _<1024;omega) (by decide),q⟩
theorem wD {dV:Value} (F:a9 K "tasks_of" "tasks_of" tQ dV f fd) (DZ2:Dx P w K mg base ba 2 "fraction" ["top","bottom"] [.int 1] lJ) (DZ9:ju P w K mg base ba 1 zu ["self","factor","size"] [] gu) (DZ12:ju P w K mg base ba 7 yS ["self","factor"] [] (ku K yS yT y6 yW)) (DZ14:ju P w K mg base ba 4 zC ["self","factor","size"] [] (km K)) (DZ16:Dx P w K mg base ba 3 "factor_of" ["recipe","plates"] [] (iJ K)):a7 P w K mg base (jt P w) 8 f fd ["recipe","plates","size"] (gN K yP yL on yM):=by
 have sc:aD ["recipe","plates","size","factor","pan","many","tasks","place","step","turn"] ["recipe","plates","size"] (ar tQ):=dG (by decide+kernel)
 refine F.okX sc (fun vs H Q E h=>?_) (fun cdv A outer s H vs Q E hr h=>?_)
 ·obtain ⟨_,_,_,_,_,_,_,_,_,_,_,_,rfl,_⟩:=h
  rfl
 obtain ⟨r,C,dx,ls,fl,pl,p0,sp,sq,vz,xs,ss,rfl,er,cl,na1,na2,fp,fs,p1,p2,l1,l2,hz,sp0,es,xl,x12,hst,q⟩:=h;have sl:sizeLine=16777216:=sizeLine_eq;refine ⟨_,(ae (cQ (i:=3) sc.nd rfl (Or.inr rfl) (dh DZ16 hr (@aa _ _ _ _ _ (pv 0) (@aa _ _ _ _ _ (pv 1) ag rfl) rfl))) (ae (cQ (i:=4) sc.nd rfl (Or.inr rfl) (d7 (aC lg (pv 2) f8 (aJ _)) (ng DZ2 hr (by decide) rfl (@aa _ _ _ _ _ ad ag rfl)) (pv 2))) (ae (qL (own:= "step") (ys:= ["factor","pan"]) (js:= [3,4]) sc.nd (i:=5) rfl rfl rfl (rS (jS (jS rR)) (.cons rfl (.cons rfl .nil)) (by decide) rfl rfl rfl rfl rfl rfl rfl rfl) (bD (bW (pv 0) rfl)) (fun C fp s H=>(iz (nJ (K:=K) rfl (pv 0) DZ9 hr (by decide) (@aa _ _ _ _ _ (pv 1) (@aa _ _ _ _ _ (pv 2) ag rfl) rfl)) (nJ (K:=K) rfl (pv 0) DZ14 hr (by decide) (@aa _ _ _ _ _ (pv 1) (@aa _ _ _ _ _ (pv 2) ag rfl) rfl))))) (ae (bh (aC jD (aU (oV rfl) rfl B.Cn PyProof.Rows.Boot.«sum» (@aa _ _ _ _ _ (pv 5) ag rfl)) (qC rfl B.zQ) (aJ _)) (ai (qr B.zU rfl B.zM rfl tX (@aa _ _ _ _ _ bP ag rfl))) aS) (ae (cD 6 sc (@bL _ _ _ _ ag)) (ae (bG (qp rfl rfl) rfl (sL rfl B.zS (@aa _ _ _ _ _ (bW (pv 0) rfl) ag rfl)) (dO rfl (aX (fG 7 sc) (aX (fG 8 sc) c6))) (ai (bG (qp rfl rfl) rfl (bz rfl B.yR (@aa _ _ _ _ _ (av aW (pv 5) (pv 7) (fun _ _=>rfl)) ag rfl)) (fG 9 sc) (ai (bQ (dL Ao Au As a8 (pv 6) (@aa _ _ _ _ _ (@bB _ _ _ _ _ (@aa _ _ _ _ _ (pv 7) (@aa _ _ _ _ _ (pv 9) (@aa _ _ _ _ _ (eW (pv 8) DZ12 hr (by decide) (@aa _ _ _ _ _ (pv 3) ag rfl)) ag rfl) rfl) rfl)) ag rfl))))))) (ai (aI (pv 6))))))))),?_⟩
 try dsimp only[cxK]
 have bpl:Bd 201 pl:=Bd.mono (m:=20) (by unfold Bd;show _<1048576;omega) (by decide)
 have bp0:Bd 201 p0:=Bd.mono (m:=20) (by unfold Bd;show _<1048576;omega) (by decide)
 refine ⟨_,rfl,_,rfl,r,C,dx,fl,pl,p0,rfl,er,cl,na1,fp,p1,p2,fun fa fb F tf H1 g1 e1=>?_⟩
 have F1:bX K 201 H1 tf fa fb:= .of F bpl bp0 e1;dsimp only;refine cut (fun σ H'=>∃tp:Addr,σ= [CH r,some (.int pl),some vz,CH tf,CH tp,none,none,none,none,none]/\au H1 H'/\bX K 201 H' tp sp sq) (fun N hN=>?_) ?_
 ·rcases hz with ⟨rfl,rfl,rfl⟩|⟨tz,rfl,fz⟩
  ·refine ⟨_,rfl,rfl,_,rfl,om ?_⟩;refine ⟨1,1,rfl,by decide,Bd.one.mono (by decide),fun a b f t H2 g2 e2=>?_⟩
   obtain ⟨rfl,rfl⟩:=kj f;exact hN _ _ ⟨t,rfl,g2,⟨bF.of e2,by decide,Bd.one.mono (by decide),Bd.one.mono (by decide)⟩⟩
  ·exact ⟨_,rfl,rfl,_,rfl,eU ⟨_,rfl,hN _ _ ⟨tz,rfl,.refl _,fz.same g1⟩⟩⟩
 rintro σ H2 ⟨tp,rfl,g2,F2⟩;have g12:=g1.trans g2;have F12:=F1.same g2;refine cut (fun σ H'=>∃(lm:Addr) (ns:List Int),σ= [CH r,some (.int pl),some vz,CH tf,CH tp,CH lm,none,none,none,none]/\au H2 H'/\H' lm=some (.lst (ns.map V.int))/\ns.length=ss.length/\∀(i:Nat) (s:Sq) (n:Int),ss[i]?=some s->ns[i]?=some n->xO s.f fa fb sp sq n) (fun N hN=>?_) ?_
 ·refine ⟨_,rfl,r,C,dx,fl,_,rfl,g12 _ _ er,cl,na2,fs,ls,rfl,⟨_,aP.of (g12 _ _ es)⟩,sV (rQ fun i n=>∀s,ss[i]?=some s->xO s.f fa fb sp sq n) (fun _=>False) (fun i=>i) (aP.of (g12 _ _ es)) (by rw[A5];omega) (fun a h=>h.elim) (fun i y hy H3 g3 Q' hQ=>?_) fun lm H4 np g4 hp=>?_⟩
  ·obtain ⟨x,hx,rfl⟩:=cr hy;have il:=(A3.mp hx).1;have hs:=A0 (show i<ss.length by omega)
   generalize ss[i]=s at hs;have st:=(hst i x s hx hs).same (g12.trans g3);obtain ⟨dy,u,sv,ff,ex,sf,eu,hsv⟩:=st.st.ex;rcases st.kind with ⟨fn,kc⟩|⟨kw,a1,a2,t,dx',ff',ef,ex',lf,et,b1,b2,b3,b4⟩
   ·have hm:bu K s.C "rounds" zu/\eT K s.C:=by rcases kc with e|e<;>rw[e]<;>first|exact ⟨B.zL,B.zT⟩|exact ⟨B.zG,B.zR⟩
    exact .inl ⟨_,rfl,x,s.C,dy,ff,rfl,ex,hm.2,hm.1,sf.rounds,_,rfl,_,rfl,_,_,_,rfl,hQ _ _ (.refl _) ⟨1,rfl,fun s' hs'=>by rw[hs] at hs';cases hs';rw[fn];rfl⟩⟩
   ·rw[ex] at ex';cases ex';refine .inr ⟨_,rfl,x,s.C,dy,ff,rfl,ex,by rw[kw];exact B.zE,by rw[kw];exact B.Cf,sf.rounds,_,rfl,_,rfl,x,s.C,dy,t,tf,tp,ff,a1,a2,fa,fb,sp,sq,rfl,ex,by rw[kw];exact B.zE,by rw[kw];exact B.zj,lf,⟨bF.of et,b2,b3,b4⟩,F12.same g3,F2.same g3,sp0,fun n H5 g5 rn=>hQ _ _ g5 ⟨n,rfl,fun s' hs'=>by rw[hs] at hs';cases hs';rw[ef];exact rn⟩⟩
  ·obtain ⟨vs,ep,rp⟩:=hp;obtain ⟨ns,rfl,nl,pr⟩:=tL rp;rw[A5] at nl;exact hN _ _ ⟨lm,ns,rfl,g4,ep,by omega,fun i s n h1 h2=>pr i n h2 s h1⟩
 rintro σ H3 ⟨lm,ns,rfl,g3,em,nl,hrn⟩;have g13:=g12.trans g3;obtain ⟨q1,q2⟩:=q fa fb ns F nl hrn;have fa0:0<fa:=rA F (by omega) (by omega)
 have ns1:∀n∈ns,1<=n:=fun n hn=>by
  obtain ⟨i,hi⟩:=Ab.mp hn;have il:=(A3.mp hi).1;have hs:=A0 (show i<ss.length by omega)
  have hx:=A0 (show i<xs.length by omega)
  have rn:=hrn i _ n hs hi;rcases (hst i _ _ hx hs).kind with ⟨fn,_⟩|⟨_,a1,a2,_,_,_,ef,_,_,_,b1,b2,_⟩
  ·rw[fn] at rn;have rn:n=1:=rn;omega
  ·rw[ef] at rn;exact nL rn b1 b2 fa0 F.pos sp0 F2.pos
 refine cut (fun σ H'=>σ= [CH r,some (.int pl),some vz,CH tf,CH tp,CH lm,none,none,none,none]/\H3=H'/\ns.sum<=24) (fun N hN=>?_) ?_
 ·refine ⟨_,rfl,lm,ns,rfl,aP.of em,_,_,rfl,rfl,_,rfl,d2 (fun c=>?_) fun c=>hN _ _ ⟨rfl,rfl,by omega⟩⟩
  exact ⟨by show 1<=sizeLine;decide,q1 c _ g13⟩
 rintro σ _ ⟨rfl,rfl,s24⟩;have q:=q2 s24;have len:=gM ns1;refine ⟨by show 0<=sizeLine;decide,fun l nl0=>?_⟩
 have g4:=ao nl0 (.lst []);have el:aL H3 l (.lst []) l=some (.lst []):=af;have nl1:=g13.free nl0;generalize aL H3 l (.lst [])=H4 at g4 el⊢;have g14:=g13.trans g4;have em4:=g4 _ _ em;have tgl:=dW ns1;have sumT:∀k,(ns.take k).sum<=ns.sum:=fun k=>by
  have e:ns.sum=(ns.take k).sum+(ns.drop k).sum:=by rw[<-List.sum_append,AL]
  have:=gM (ns:=ns.drop k) fun n hn=>ns1 n (List.mem_of_mem_drop hn)
  omega
 dsimp only;change L2.jA _ _ _ [some (.ref r),some (.int pl),some vz,some (.ref tf),some (.ref tp),some (.ref lm),some (.ref l),none,none,none] H4;refine cut (fun σ H'=>∃o7 o8 o9,σ= [CH r,some (.int pl),some vz,CH tf,CH tp,CH lm,CH l,o7,o8,o9]/\au H3 H'/\TG H' l (aV ns ns.length)) (fun N hN=>?_) ?_
 ·refine ⟨_,rfl,r,C,dx,fl,_,rfl,g14 _ _ er,cl,na2,fs,ls,rfl,⟨_,aP.of (g14 _ _ es)⟩,qB (xs:=xs.map V.ref) (fun i σ H'=>∃o7 o8 o9,σ= [CH r,some (.int pl),some vz,CH tf,CH tp,CH lm,CH l,o7,o8,o9]/\au H3 H'/\TG H' l (aV ns i)) ⟨none,none,none,rfl,g4,.nil el⟩ (fun i σ H' _ h=>by obtain ⟨_,_,_,_,g,_⟩:=h;exact aP.of ((g13.trans g) _ _ es)) ?_ ?_⟩
  ·rintro i y σ H5 T hy ⟨o7,o8,o9,rfl,g5,tg⟩ nT;obtain ⟨x,hx,rfl⟩:=cr hy;have il:=(A3.mp hx).1;have gT:=ao nT (.tup [.int i,.ref x]);refine ⟨T,_,rfl,bF.of af,rfl,_,_,rfl,_,_,rfl,rfl,?_⟩;have nn:=A0 (show i<ns.length by omega)
   have at_:d8 (ns.map V.int) (i:Int)=some (.int ns[i]):=bI (by rw[A9,nn];rfl)
   have n1:=ns1 _ (BO (show i<ns.length by omega))
   have n24:=rB ns1 nn;have g6:=g5.trans gT;have tg6:=tg.same gT;generalize aL H5 T (.tup [.int i,.ref x])=H6 at gT g6 tg6⊢;have hs:=A0 (show i<ss.length by omega)
   generalize ss[i]=s at hs;have st0:=hst i x s hx hs;have stl:=tgl i (by omega)
   have stl1:=tgl (i+1) (by omega)
   have sT1:=sumT (i+1);have smx:∃cut,xJ K s.C yS yT y6 yW cut:=by
    rcases st0.kind with ⟨_,e|e⟩|⟨e,_⟩
    ·rw[e];exact ⟨true,⟨B.zT,B.zz,B.zo,B.zA,B.zw,B.zc⟩,B.zP,B.zt,B.Cg⟩
    ·rw[e];exact ⟨false,⟨B.zR,B.zm,B.zb,B.zn,B.zk,B.yZ⟩,B.zK,B.zq,B.zO⟩
    ·rw[e];exact ⟨false,⟨B.zE,B.zh,B.za,B.zi,B.zg,B.yY⟩,B.zJ,B.zp,B.zN⟩
   obtain ⟨cut,sm⟩:=smx;dsimp only;change rX _ _ _ _ [some (.ref r),some (.int pl),some vz,some (.ref tf),some (.ref tp),some (.ref lm),some (.ref l),some (.int i),some (.ref x),o9] H6;refine ⟨_,rfl,_,rfl,lm,_,_,_,rfl,rfl,aP.of (g6 _ _ em),at_,_,rfl,by omega,by omega,cT (fun j σ H'=>∃(o9:Option V),σ= [CH r,some (.int pl),some vz,CH tf,CH tp,CH lm,CH l,some (.int i),CH x,o9]/\au H3 H'/\TG H' l (aV ns i++(Ac j).map fun t:Nat=>((0+(i:Int):Int),(0+(t:Int):Int)))) ⟨_,rfl,g6,by simpa using tg6⟩ (fun j σ H7 hj hP=>?_) (fun σ H7 hP=>?_)⟩
   ·obtain ⟨o9,rfl,g7,tg7⟩:=hP;have jn:(j:Int)<ns[i]:=by omega
    have st:=st0.same (g13.trans g7);have F7:=(F12.same g3).same g7;obtain ⟨dy,u,sv,ff,ex,sf,eu,hsv⟩:=st.st.ex;obtain ⟨as7,_,a2,_⟩:=id tg7;refine ⟨_,rfl,.inl ⟨rfl,_,aP.of a2⟩,_,rfl,_,rfl,_,rfl,x,s.C,dy,ff,rfl,ex,sm.c.cl,sm.grown,sf.grown,_,rfl,x,s.C,tf,s.nm,s.l,s.m,fa,fb,s.us,s.c,u6 H7,cut,rfl,st.st,sm,⟨F7.at_,F7.pos,F7.bp.mono (by decide),F7.bq.mono (by decide)⟩,st.dues,fun lw H8 g8 wa=>⟨by show 3<=sizeLine;decide,fun t nt=>?_⟩⟩
    have g9:=ao nt (.tup [.int i,.int (0+(j:Int)),.ref lw]);obtain ⟨ys,y1,y2,y3⟩:=((tg7.same g8).same g9).snoc (a:=t) (t:=((0+(i:Int):Int),(0+(j:Int):Int))) (w:= .ref lw) (by rw[af,show ((0:Int)+(i:Int))=(i:Int) from C1 _])
    have yl:ys.length<=24:=by
     rw[y2,AB,A5,B7];have e2:(ns.take (i+1)).sum=(ns.take i).sum+ns[i]:=by rw[BF,nn,BQ,List.sum_append];simp
     omega
    refine ⟨l,ys,_,rfl,rfl,y1,by omega,_,rfl,dE ((g7.trans g8).trans g9) nl0 _,?_⟩
    rw[List.range_succ,B0,<-AQ];exact y3
   ·obtain ⟨o9,rfl,g7,tg7⟩:=hP;refine ⟨_,_,_,rfl,g7,?_⟩;show TG H7 l (aV ns i++_);rw[BG,nn];exact tg7
  ·rintro σ H5 ⟨o7,o8,o9,rfl,g5,tg⟩;rw[A5] at tg;rw[show xs.length=ns.length by omega] at tg
   exact hN _ _ ⟨o7,o8,o9,rfl,g5,tg⟩
 rintro σ H5 ⟨o7,o8,o9,rfl,g5,tg⟩;exact ⟨_,rfl,q l H5 (g13.trans g5) nl1 tg⟩
theorem wE {dV:Value} (F:a9 K "places_of" "places_of" vw dV f fd):a7 P w K mg base ba 1 f fd ["tasks","step"] gK:=by
 have sc:aD ["tasks","step"] ["tasks","step"] (ar vw):=dG (by decide+kernel)
 refine F.ok sc (fun vs H Q E h=>?_) (fun cdv A outer s H vs Q E hr h=>?_)
 ·obtain ⟨_,_,_,rfl,_⟩:=h
  rfl
 obtain ⟨lt,fs,x,rfl,⟨as,b1,b2,b3⟩,fl,q⟩:=h;have sl:sizeLine=16777216:=sizeLine_eq;refine ⟨_,(ai (aI (bY (own:= "place") (ys:= ["step","tasks"]) (js:= [1,0]) rfl (rS (jS (jS rR)) (.cons rfl (.cons rfl .nil)) (by decide) rfl rfl rfl rfl rfl rfl rfl rfl) (bz rfl B.yR (@aa _ _ _ _ _ (aU aY rfl B.ze boot_len (@aa _ _ _ _ _ (pv 0) ag rfl)) ag rfl)) (fun C fp s H=>(aC ce (av (cy (K:=K) rfl) (av (qM (K:=K) rfl) (pv 2) (pv 0) (fun _ _=>rfl)) ad (fun _ _=>rfl)) (pv 1) (aJ _))) (fun C fp s H=>(pv 0))))),?_⟩
 try dsimp only[cxK]
 refine ⟨_,rfl,lt,_,rfl,.inl (aP.of b2),_,rfl,by omega,(by rw[A5];omega),?_⟩
 refine cH (fun i=>decide (fs.getD i 0=x)) (fun i=> .int (0+(i:Int))) (by rw[A5];omega) (fun i hi H2 g2 R hR=>?_) (fun i hi H2 g2 Q' hQ=>⟨_,rfl,hQ⟩) (fun p2 H2 np2 g2 e3=>?_)
 ·have hi':i<as.length:=by rw[A5] at hi;omega
  obtain ⟨f,hf,hd⟩:=bT (d:=(0:Int)) b1 (A0 hi');obtain ⟨v,w,e⟩:=b3 i _ f (A0 hi') hf;have at_:d8 (as.map V.ref) (0+(i:Int))=some (.ref as[i]):=by
   rw[C1];exact bI (by rw[A9,A0 hi'];rfl)
  rw[hd] at hR;exact ⟨_,rfl,_,rfl,lt,_,_,_,rfl,rfl,aP.of (g2 _ _ b2),at_,_,_,_,_,rfl,rfl,bF.of (g2 _ _ e),rfl,_,rfl,rfl,_,rfl,by rw[vg];exact hR⟩
 ·refine q p2 H2 np2 g2 ?_;rw[e3,gI,BK,A5,b1]
theorem wF {dV:Value} (F:a9 K "arcs_of_link" "arcs_of_link" vx dV f fd):a7 P w K mg base ba 1 f fd ["link","one","other"] gL:=by
 have sc:aD ["link","one","other","begin","end"] ["link","one","other"] (ar vx):=dG (by decide+kernel)
 refine F.ok sc (fun vs H Q E h=>?_) (fun cdv A outer s H vs Q E hr h=>?_)
 ·obtain ⟨_,_,_,_,rfl,_⟩:=h
  rfl
 obtain ⟨a,k,s,o,rfl,ea,s0,s1,o0,o1,q⟩:=h;have sl:sizeLine=16777216:=sizeLine_eq;refine ⟨_,(ae (cD 3 sc (ak bv ad (pv 1))) (ae (cD 4 sc (ak aT (ak bv ad (pv 2)) ad)) (ae (bh (aC ce (av aK (pv 0) ad (fun _ _=>rfl)) bP (aJ _)) (ai (aI (@bL _ _ _ _ (@aa _ _ _ _ _ (@bB _ _ _ _ _ (@aa _ _ _ _ _ (pv 4) (@aa _ _ _ _ _ (pv 3) (@aa _ _ _ _ _ ad ag rfl) rfl) rfl)) (@aa _ _ _ _ _ (@bB _ _ _ _ _ (@aa _ _ _ _ _ (pv 3) (@aa _ _ _ _ _ (pv 4) (@aa _ _ _ _ _ (hV eR (av aK (pv 0) ad (fun _ _=>rfl))) ag rfl) rfl) rfl)) ag rfl) rfl)))) aS) (ai (aI (@bL _ _ _ _ (@aa _ _ _ _ _ (@bB _ _ _ _ _ (@aa _ _ _ _ _ (pv 4) (@aa _ _ _ _ _ (pv 3) (@aa _ _ _ _ _ ad ag rfl) rfl) rfl)) ag rfl))))))),?_⟩
 try dsimp only[cxK]
 refine ⟨_,rfl,_,_,rfl,rfl,IntMulOk.of_left (by decide),?_⟩
 refine ⟨_,rfl,_,_,rfl,rfl,IntMulOk.of_left (by decide),_,_,rfl,rfl,?_⟩
 dsimp only[b9,c9];refine ⟨_,rfl,a,_,_,_,rfl,rfl,bF.of ea,rfl,rfl,_,rfl,tK (fun c=>?_) fun c=>?_⟩
 ·refine ⟨_,rfl,_,rfl,by show 3<=sizeLine;decide,fun t1 n1=>?_⟩
  have g1:=ao n1 (.tup [.int (2*o+1),.int (2*s),.int 0]);have e1:aL H t1 (.tup [.int (2*o+1),.int (2*s),.int 0]) t1=some (.tup ([2*o+1,2*s,0].map V.int)):=af;generalize aL H t1 (.tup [.int (2*o+1),.int (2*s),.int 0])=H1 at g1 e1⊢;refine ⟨_,rfl,_,rfl,_,rfl,a,_,_,_,rfl,rfl,bF.of (g1 _ _ ea),rfl,?_⟩;refine ⟨_,rfl,by show 3<=sizeLine;decide,fun t2 n2=>?_⟩
  have g2:=ao n2 (.tup [.int (2*s),.int (2*o+1),.int (-k.2.2.2)]);refine ⟨by show 2<=sizeLine;decide,fun p np=>?_⟩
  refine q p _ ((g1.trans g2).free np) ((g1.trans g2).trans (ao np _)) ?_;unfold gJ;rw[if_pos c];exact rk (k1:= [2*o+1,2*s,0]) (k2:= [2*s,2*o+1,-k.2.2.2]) (g2 _ _ e1) af np
 ·refine ⟨_,rfl,_,rfl,by show 3<=sizeLine;decide,fun t1 n1=>⟨by show 1<=sizeLine;decide,fun p np=>?_⟩⟩
  refine q p _ ((ao n1 _).free np) ((ao n1 _).trans (ao np _)) ?_;unfold gJ;rw[if_neg c];exact rq (k1:= [2*o+1,2*s,0]) af np
theorem wG {dV:Value} (F:a9 K "links_of" "links_of" vy dV f fd) (DZ18:Dx P w K mg base ba 1 "places_of" ["tasks","step"] [] gK) (DZ19:Dx P w K mg base ba 1 "arcs_of_link" ["link","one","other"] [] gL):a7 P w K mg base ba 3 f fd ["recipe","tasks"] (gO K):=by
 have sc:aD ["recipe","tasks","arcs","pairs","link","one","other"] ["recipe","tasks"] (ar vy):=dG (by decide+kernel)
 refine F.ok sc (fun vs H Q E h=>?_) (fun cdv A outer s H vs Q E hr h=>?_)
 ·obtain ⟨_,_,_,_,_,_,_,_,rfl,_⟩:=h
  rfl
 obtain ⟨r,C,dx,lk,lt,fl,ks,fs,rfl,er,cl,na,lu,hk,ht,k100,f100,p3,k24,few,q⟩:=h;have sl:sizeLine=16777216:=sizeLine_eq;refine ⟨_,(ae (cD 2 sc (@bL _ _ _ _ ag)) (ae (cD 3 sc (@bL _ _ _ _ ag)) (ae (bG PassesOwn.never rfl (bD (bW (pv 0) rfl)) (fG 4 sc) (ai (bG PassesOwn.never rfl (bD (dh DZ18 hr (@aa _ _ _ _ _ (pv 1) (@aa _ _ _ _ _ (av aK (pv 4) ad (fun _ _=>rfl)) ag rfl) rfl))) (fG 5 sc) (ai (bG PassesOwn.never rfl (bD (dh DZ18 hr (@aa _ _ _ _ _ (pv 1) (@aa _ _ _ _ _ (av aK (pv 4) ad (fun _ _=>rfl)) ag rfl) rfl))) (fG 6 sc) (ai (bh (aC ce (av aK (pv 4) ad (fun _ _=>rfl)) bP (aJ _)) (ai (bQ (dL Ao Au As a8 (pv 3) (@aa _ _ _ _ _ (@bB _ _ _ _ _ (@aa _ _ _ _ _ (aU (ic rfl) rfl B.Cc boot_min (@aa _ _ _ _ _ (pv 5) (@aa _ _ _ _ _ (pv 6) ag rfl) rfl)) (@aa _ _ _ _ _ (aU (n6 rfl) rfl B.Co boot_max (@aa _ _ _ _ _ (pv 5) (@aa _ _ _ _ _ (pv 6) ag rfl) rfl)) ag rfl) rfl)) ag rfl)))) (ai (bQ (dL Ao PySem.F.slot_list_extend PySem.F.type_list_extend oi (pv 2) (@aa _ _ _ _ _ (dh DZ19 hr (@aa _ _ _ _ _ (pv 4) (@aa _ _ _ _ _ (pv 5) (@aa _ _ _ _ _ (pv 6) ag rfl) rfl) rfl)) ag rfl))))))))))) (ai (aI (@bB _ _ _ _ _ (@aa _ _ _ _ _ (Su.fQ rfl hr.units rfl B.zH rfl B.Cb PyProof.Rows.Boot.«sorted» PyProof.Rows.Boot.«set» (pv 2)) (@aa _ _ _ _ _ (Su.fQ rfl hr.units rfl B.zH rfl B.Cb PyProof.Rows.Boot.«sorted» PyProof.Rows.Boot.«set» (pv 3)) ag rfl) rfl))))))),?_⟩
 try dsimp only[cxK]
 refine ⟨by show 0<=sizeLine;decide,fun la nla=>?_⟩
 have g1:=ao nla (.lst []);have ea:aL H la (.lst []) la=some (.lst []):=af;generalize aL H la (.lst [])=H1 at g1 ea⊢;refine ⟨by show 0<=sizeLine;decide,fun lb nlb=>?_⟩
 have g2:=ao nlb (.lst []);have eb:aL H1 lb (.lst []) lb=some (.lst []):=af;have ab:la≠lb:=fun z=>by rw[<-z,ea] at nlb;cases nlb
 have ea:=g2 _ _ ea;have nb0:=g1.free nlb;have g12:=g1.trans g2;generalize aL H1 lb (.lst [])=H2 at g2 eb ea g12⊢;dsimp only[b9,c9];obtain ⟨as,a1,a2,a3⟩:=hk.ex;refine cut (fun σ H'=>∃o4 o5 o6,σ= [CH r,CH lt,CH la,CH lb,o4,o5,o6]/\au H H'/\aR H' la (eJ ks fs).1/\aR H' lb (eJ ks fs).2) (fun N hN=>?_) ?_
 ·refine ⟨_,rfl,r,C,dx,fl,_,rfl,g12 _ _ er,cl,na,lu,lk,rfl,⟨_,aP.of (g12 _ _ a2)⟩,bH (xs:=as.map V.ref) (fun i σ H'=>∃o4 o5 o6,σ= [CH r,CH lt,CH la,CH lb,o4,o5,o6]/\au H H'/\aR H' la (((ks.take i).foldl (cY fs) (([],[]):AP))).1/\aR H' lb (((ks.take i).foldl (cY fs) (([],[]):AP))).2/\(((ks.take i).foldl (cY fs) (([],[]):AP))).1.length+(((ks.take i).foldl (cY fs) (([],[]):AP))).2.length<=1152*i) ⟨none,none,none,rfl,g12,.nil ea,.nil eb,by simp⟩ (fun i σ H' _ h=>by obtain ⟨_,_,_,_,g,_⟩:=h;exact aP.of (g _ _ a2)) ?_ ?_⟩
  ·rintro i x σ H3 hx ⟨o4,o5,o6,rfl,g3,ta,tb,l1⟩;obtain ⟨a,ha,rfl⟩:=cr hx;obtain ⟨k,hk',_⟩:=bT (d:=pG) a1 ha;have i24:i<24:=by have:=(A3.mp hk').1;omega
   have et:=a3 i a k ha hk';have ftk:=cE (cY fs) (([],[]):AP) hk';have lK:=rg p3 ((ks.take i).foldl (cY fs) ([],[])) k;rw[<-ftk] at lK;rw[ftk];rw[ftk] at lK;generalize hb0:(ks.take i).foldl (cY fs) ([],[])=ap0 at ta tb l1 lK⊢;refine ⟨_,rfl,_,rfl,a,_,_,_,rfl,rfl,bF.of (g3 _ _ et),rfl,lt,fs,k.2.1,rfl,ht.same g3,by omega,fun p H4 np g4 ep=>?_⟩
   have g34:=g3.trans g4;have pa:p≠la:=fun z=>by obtain ⟨_,e,_⟩:=ta;rw[z,e] at np;cases np
   have pb:p≠lb:=fun z=>by obtain ⟨_,e,_⟩:=tb;rw[z,e] at np;cases np
   refine ⟨p,rfl,⟨_,aP.of ep⟩,bH (xs:=(bA fs k.2.1).map V.int) (fun j σ H'=>∃o5 o6,σ= [CH r,CH lt,CH la,CH lb,CH a,o5,o6]/\au H H'/\H' p=some (.lst ((bA fs k.2.1).map V.int))/\aR H' la (((bA fs k.2.1).take j).foldl (jo k (bA fs k.2.2.1)) ap0).1/\aR H' lb (((bA fs k.2.1).take j).foldl (jo k (bA fs k.2.2.1)) ap0).2/\(((bA fs k.2.1).take j).foldl (jo k (bA fs k.2.2.1)) ap0).1.length+(((bA fs k.2.1).take j).foldl (jo k (bA fs k.2.2.1)) ap0).2.length<=1152*i+48*j) ⟨_,_,rfl,g34,ep,ta.same g4,tb.same g4,by simpa using l1⟩ (fun j σ H' _ h=>by obtain ⟨_,_,_,_,e,_⟩:=h;exact aP.of e) ?_ ?_⟩
   ·rintro j x σ H5 hx ⟨o5,o6,rfl,g5,ep5,ta,tb,l2⟩;rw[A9] at hx;obtain ⟨s,hs,rfl⟩:=AO.mp hx;have j3:j<24:=by have:=(A3.mp hs).1;have:=p3 k.2.1;omega
    have sb:=fE (AR hs);rw[cE (jo k (bA fs k.2.2.1)) ap0 hs];generalize hb1:((bA fs k.2.1).take j).foldl (jo k (bA fs k.2.2.1)) ap0=ap1 at ta tb l2⊢;refine ⟨_,rfl,_,rfl,a,_,_,_,rfl,rfl,bF.of (g5 _ _ et),rfl,lt,fs,k.2.2.1,rfl,ht.same g5,by omega,fun p2 H6 np2 g6 ep2=>?_⟩
    have g56:=g5.trans g6;have pa2:p2≠la:=fun z=>by obtain ⟨_,e,_⟩:=ta;rw[z,e] at np2;cases np2
    have pb2:p2≠lb:=fun z=>by obtain ⟨_,e,_⟩:=tb;rw[z,e] at np2;cases np2
    refine ⟨p2,rfl,⟨_,aP.of ep2⟩,bH (xs:=(bA fs k.2.2.1).map V.int) (fun u σ H'=>∃o6,σ= [CH r,CH lt,CH la,CH lb,CH a,some (.int s),o6]/\au H H'/\H' p=some (.lst ((bA fs k.2.1).map V.int))/\H' p2=some (.lst ((bA fs k.2.2.1).map V.int))/\aR H' la (((bA fs k.2.2.1).take u).foldl (dZ k s) ap1).1/\aR H' lb (((bA fs k.2.2.1).take u).foldl (dZ k s) ap1).2/\(((bA fs k.2.2.1).take u).foldl (dZ k s) ap1).1.length+(((bA fs k.2.2.1).take u).foldl (dZ k s) ap1).2.length<=1152*i+48*j+2*u) ⟨_,rfl,g56,g6 _ _ ep5,ep2,ta.same g6,tb.same g6,by simpa using l2⟩ (fun u σ H' _ h=>by obtain ⟨_,_,_,_,e,_⟩:=h;exact aP.of e) ?_ ?_⟩
    ·rintro u x σ H7 hx ⟨o6,rfl,g7,ep7,ep27,ta,tb,l3⟩;rw[A9] at hx;obtain ⟨o,ho,rfl⟩:=AO.mp hx;have u3:u<24:=by have:=(A3.mp ho).1;have:=p3 k.2.2.1;omega
     have ob:=fE (AR ho);rw[cE (dZ k s) ap1 ho];have lO:=jp k s (((bA fs k.2.2.1).take u).foldl (dZ k s) ap1) o;generalize hb2:((bA fs k.2.2.1).take u).foldl (dZ k s) ap1=ap2 at ta tb l3 lO⊢;refine ⟨_,rfl,a,_,_,_,rfl,rfl,bF.of (g7 _ _ et),rfl,rfl,_,rfl,tK (fun c=>?_) fun c=>?_⟩
     ·have e2:dZ k s ap2 o=(ap2.1,ap2.2++ [[mn s o,mx s o]]):=if_pos c;obtain ⟨_,eb7,_⟩:=id tb;refine ⟨_,rfl,.inl ⟨rfl,_,aP.of eb7⟩,_,rfl,_,rfl,_,_,rfl,_,rfl,_,rfl,_,_,rfl,by show 2<=sizeLine;decide,fun t nt=>?_⟩
      have g8:=ao nt (.tup [.int (mn s o),.int (mx s o)]);obtain ⟨xs,x1,x2,x3⟩:=(tb.same g8).snoc (t:=t) (k:= [mn s o,mx s o]) af;obtain ⟨_,ea7,_⟩:=id ta;refine ⟨lb,xs,_,rfl,rfl,x1,by omega,_,rfl,dE (g7.trans g8) nb0 _,by rw[am pb];exact g8 _ _ ep7,by rw[am pb2];exact g8 _ _ ep27,?_,?_,by omega⟩
      ·rw[e2];exact (ta.same g8).other x1 (Ne.symm ab)
      ·rw[e2];exact x3
     ·have e2:dZ k s ap2 o=(ap2.1++gJ k s o,ap2.2):=if_neg c;obtain ⟨_,ea7,_⟩:=id ta;refine ⟨_,rfl,.inl ⟨rfl,_,aP.of ea7⟩,_,rfl,_,rfl,_,rfl,a,k,s,o,rfl,g7 _ _ et,by omega,by omega,by omega,by omega,fun p3 H8 n8 g8 t8=>?_⟩
      obtain ⟨xs,ys,x1,x2,x3,x4,x5⟩:=(ta.same g8).ext t8;have al:=kH k s o;refine ⟨la,p3,xs,ys,rfl,rfl,x1,x2,by omega,_,rfl,dE (g7.trans g8) nla _,by rw[am pa];exact g8 _ _ ep7,by rw[am pa2];exact g8 _ _ ep27,?_,?_,by omega⟩
      ·rw[e2];exact x5
      ·rw[e2];exact (tb.same g8).other x1 ab
    ·rintro σ H7 ⟨o6,rfl,g7,ep7,ep27,ta,tb,l3⟩;rw[A5,bZ] at ta tb l3;have:=p3 k.2.2.1;exact ⟨_,_,rfl,g7,ep7,ta,tb,by unfold jo;omega⟩
   ·rintro σ H5 ⟨o5,o6,rfl,g5,ep5,ta,tb,l2⟩;rw[A5,bZ] at ta tb l2;have:=p3 k.2.1;exact ⟨_,_,_,rfl,g5,ta,tb,by unfold cY;omega⟩
  ·rintro σ H3 ⟨o4,o5,o6,rfl,g3,ta,tb,l1⟩;rw[A5,a1,bZ] at ta tb;exact hN _ _ ⟨o4,o5,o6,rfl,g3,ta,tb⟩
 rintro σ H3 ⟨o4,o5,o6,rfl,g3,ta,tb⟩;have ne:=vf ks fs;obtain ⟨xs,x1,x2,x3⟩:=ta.kn ne.1;refine ⟨_,rfl,la,xs,rfl,aP.of x1,?_,x3,fun pa ys npa y1 y2 y3 y4=>?_⟩
 ·have:=congrArg Bt x2;rw[A5] at this;omega
 have g4:=ao npa (.lst (ys.map fun y=>V.ref y.2))
 have tA:aR (aL H3 pa (.lst (ys.map fun y=>V.ref y.2))) pa (ys.map fun y=>y.1):=nH af fun y hy=>g4 _ _ (x3 y (y1 y hy)).1
 generalize aL H3 pa (.lst (ys.map fun y=>V.ref y.2))=H4 at g4 tA⊢
 obtain ⟨ws,w1,w2,w3⟩:=(tb.same g4).kn ne.2;refine ⟨_,rfl,lb,ws,rfl,aP.of w1,?_,w3,fun pb zs npb z1 z2 z3 z4=>?_⟩
 ·have:=congrArg Bt w2;rw[A5] at this;omega
 have g5:=ao npb (.lst (zs.map fun y=>V.ref y.2))
 have tB:aR (aL H4 pb (.lst (zs.map fun y=>V.ref y.2))) pb (zs.map fun y=>y.1):=nH af fun y hy=>g5 _ _ (w3 y (z1 y hy)).1
 have pab:pa≠pb:=fun z=>by obtain ⟨_,e,_⟩:=tA;rw[z,npb] at e;cases e
 generalize aL H4 pb (.lst (zs.map fun y=>V.ref y.2))=H5 at g5 tB⊢
 refine ⟨by show 2<=sizeLine;decide,fun t nt=>?_⟩
 have g6:=ao nt (.tup [.ref pa,.ref pb]);rw[x2] at y3;rw[w2] at z3;exact q t pa pb _ _ _ (((g3.trans g4).trans g5).trans g6) (g3.free npa) ((g3.trans g4).free npb) pab af ((tA.same g5).same g6) (tB.same g6) ⟨y2,y3,y4⟩ ⟨z2,z3,z4⟩
theorem wH {dV:Value} (F:a9 K "plates_of" "plates_of" vA dV f fd):a7 P w K mg base ba 1 f fd ["recipe","tasks"] (iM K):=by
 have sc:aD ["recipe","tasks","waited_for"] ["recipe","tasks"] (ar vA):=dG (by decide+kernel)
 refine F.ok sc (fun vs H Q E h=>?_) (fun cdv A outer s H vs Q E hr h=>?_)
 ·obtain ⟨_,_,_,_,_,_,_,_,rfl,_⟩:=h
  rfl
 obtain ⟨r,C,dx,lk,lt,fl,ks,fs,rfl,er,cl,na,lu,hk,⟨bs,b1,b2,b3⟩,kl,tl,q⟩:=h;have s4:(5000:Nat)<=sizeLine:=by decide
 refine ⟨_,(ae (cQ (i:=2) sc.nd rfl (Or.inr rfl) (bY (own:= "link") (ys:= []) (js:= []) rfl (rS rR .nil (by decide) rfl rfl rfl rfl rfl rfl rfl rfl) (bD (bW (pv 0) rfl)) (fun C fp s H=>(aC hW (av (cy (K:=K) rfl) (pv 0) ad (fun _ _=>rfl)) bP (aJ _))) (fun C fp s H=>(av (cy (K:=K) rfl) (pv 0) ad (fun _ _=>rfl))))) (ai (aI (bY (own:= "place") (ys:= ["waited_for","tasks"]) (js:= [2,1]) rfl (rS (jS (jS rR)) (.cons rfl (.cons rfl .nil)) (by decide) rfl rfl rfl rfl rfl rfl rfl rfl) (bz rfl B.yR (@aa _ _ _ _ _ (aU aY rfl B.ze boot_len (@aa _ _ _ _ _ (pv 1) ag rfl)) ag rfl)) (fun C fp s H=>(aC (iB (K:=K) rfl) (av (cy (K:=K) rfl) (av (qM (K:=K) rfl) (pv 2) (pv 0) (fun _ _=>rfl)) ad (fun _ _=>rfl)) (pv 1) (by with_unfolding_all rfl))) (fun C fp s H=>(pv 0)))))),?_⟩
 try dsimp only[cxK]
 obtain ⟨as,a1,a2,a3⟩:=hk.ex;refine ⟨_,rfl,r,C,dx,fl,_,rfl,er,cl,na,lu,lk,rfl,⟨_,aP.of a2⟩,?_⟩;refine iC (xs:=as.map V.ref) (fun i=> !decide (V.str (ks.getD i pG).1=V.str "apart")) (fun i=> .int (ks.getD i pG).2.2.1) (aP.of a2) (by rw[A5];omega) (fun i x hx H2 g2 R hR=>?_) (fun i x hx H2 g2 Q' hQ=>?_) (fun p H1 np g1 e1=>?_)
 ·obtain ⟨a,ha,rfl⟩:=cr hx;obtain ⟨k,hk',hd⟩:=bT (d:=pG) a1 ha;have et:=g2 _ _ (a3 i a k ha hk');rw[hd] at hR;exact ⟨_,rfl,a,_,_,_,rfl,rfl,bF.of et,rfl,rfl,_,rfl,hR⟩
 ·obtain ⟨a,ha,rfl⟩:=cr hx;obtain ⟨k,hk',hd⟩:=bT (d:=pG) a1 ha;have et:=g2 _ _ (a3 i a k ha hk');rw[hd] at hQ;exact ⟨_,rfl,a,_,_,_,rfl,rfl,bF.of et,rfl,hQ⟩
 have ew:H1 p=some (.lst (dU ks)):=by
  rw[e1,A5,a1]
  rfl
 have e2:=g1 _ _ b2;refine ⟨_,rfl,lt,_,rfl,.inl (aP.of e2),_,rfl,by omega,(by rw[A5];omega),?_⟩
 refine cH (fun i=> !v3 (.int (fs.getD i 0)) (dU ks)) (fun i=> .int (0+(i:Int))) (by rw[A5];omega) (fun i hi H2 g2 R hR=>?_) (fun i hi H2 g2 Q' hQ=>⟨_,rfl,hQ⟩) (fun p2 H2 np2 g2 e3=>?_)
 ·have hi':i<bs.length:=by rw[A5] at hi;omega
  obtain ⟨t,ht',hd⟩:=bT (d:=(0:Int)) b1 (A0 hi');obtain ⟨v,w,k1⟩:=b3 i _ t (A0 hi') ht';have at_:d8 (bs.map V.ref) (0+(i:Int))=some (.ref bs[i]):=by
   rw[C1];exact bI (by rw[A9,A0 hi'];rfl)
  rw[hd] at hR;exact ⟨_,rfl,_,rfl,lt,_,_,_,rfl,rfl,aP.of (g2 _ _ e2),at_,_,_,_,_,rfl,rfl,bF.of (g2 _ _ (g1 _ _ k1)),rfl,_,rfl,p,_,rfl,.inl (aP.of (g2 _ _ ew)),rfl,fN ks,_,rfl,hR⟩
 ·refine q p2 H2 (g1.free np2) (g1.trans g2) ?_;rw[e3];rw[BK,A5,b1]
theorem wI {dV:Value} (F:a9 K "_law_cell_at" "_law_cell_at" vB dV f fd):a7 P w K mg base ba 1 f fd ["_law_script","_law_k"] (lI K):=by
 have sc:aD ["_law_script","_law_k"] ["_law_script","_law_k"] (ar vB):=dG (by decide+kernel)
 refine F.ok sc (fun vs H Q E h=>?_) (fun cdv A outer s H vs Q E hr h=>?_)
 ·obtain ⟨_,_,_,rfl,_⟩:=h
  rfl
 obtain ⟨a,ns,k,rfl,hS,h0,q⟩:=h;refine ⟨_,(ae (bh (aC dJ (pv 1) (aU aY rfl B.ze boot_len (@aa _ _ _ _ _ (pv 0) ag rfl)) (aJ _)) (ai (aI (av aW (pv 0) (pv 1) (fun _ _=>rfl)))) aS) (ai (aI ad))),?_⟩
 try dsimp only[cxK]
 refine ⟨_,rfl,_,rfl,a,_,rfl,.inl hS,_,_,rfl,rfl,_,rfl,d2 (fun c=>?_) (fun c=>?_)⟩
 ·obtain ⟨v,hv⟩:=sE h0 c;exact ⟨_,rfl,_,rfl,a,_,_,_,rfl,rfl,hS,hv,q v⟩
 ·exact q 0
theorem wJ {dV:Value} (F:a9 K "_law_names" "_law_names" vC dV f fd):a7 P w K mg base ba 1 f fd ["_law_number","_law_many"] j6:=by
 have sc:aD ["_law_number","_law_many","_law_cell","_law_letters","_law_base","_law_k","_law_at","_law_size","_law_step_here","_law_core","_law_names_here","_law_sign"] ["_law_number","_law_many"] (ar vC):=dG (by decide+kernel)
 refine F.ok sc (fun vs H Q E h=>?_) (fun cdv A outer s H vs Q E hr h=>?_)
 ·obtain ⟨_,_,rfl,_⟩:=h
  rfl
 obtain ⟨nb,many,rfl,m0,m1,q⟩:=h;refine ⟨_,(ae (cD 2 sc (ak aw (pv 0) ad)) (ae (cD 3 sc bP) (ae (cD 4 sc bP) (ae (bG PassesOwn.never rfl (bz rfl B.yR (@aa _ _ _ _ _ ad ag rfl)) (fG 5 sc) (ai (cD 4 sc (ak bM (pv 4) (av lE (pv 3) (ak aw (ak aw (ak bv (ak aT (pv 2) ad) (ak aT (ak aT (ak bv (pv 5) (pv 5)) (ak bv ad (pv 5))) ad)) ad) ad) (fun _ _=>rfl)))))) (ae (cD 6 sc (ak aw (ak aH (pv 2) ad) ad)) (ae (cD 7 sc (ak aw (ak aH (pv 2) ad) ad)) (ae (cD 8 sc (av aW (@bL _ _ _ _ (@aa _ _ _ _ _ ad (@aa _ _ _ _ _ ad (@aa _ _ _ _ _ ad (@aa _ _ _ _ _ ad (@aa _ _ _ _ _ ad (@aa _ _ _ _ _ ad (@aa _ _ _ _ _ ad (@aa _ _ _ _ _ ad ag rfl) rfl) rfl) rfl) rfl) rfl) rfl) rfl)) (ak aw (ak aH (pv 2) ad) ad) (fun _ _=>rfl))) (ae (cD 9 sc (cf dR (pv 4) c7 (cu (pv 7)))) (ae (cD 10 sc (@bL _ _ _ _ ag)) (ae (bG PassesOwn.never rfl (bz rfl B.yR (@aa _ _ _ _ _ (pv 1) ag rfl)) (fG 5 sc) (ae (cD 11 sc (av lE (pv 3) (ak aw (ak aT (ak aH (pv 2) ad) (ak bv (pv 5) (pv 8))) ad) (fun _ _=>rfl))) (ai (bh (aC jD (pv 1) ad (aJ _)) (ai (bQ (dL Ao Au As a8 (pv 10) (@aa _ _ _ _ _ (ak bM (ak bM (ak bM (cf dR (pv 9) c7 (cu (pv 6))) (av lE (pv 3) (ak aH (pv 5) ad) (fun _ _=>rfl))) (pv 11)) (cf dR (pv 9) (cu (pv 6)) c7)) ag rfl)))) (ai (bh (PW.pt (eP (aC ce (ak aw (pv 2) ad) ad (aJ _)) (dA (aC jC (pv 1) ad (aJ _))))) (ai (bQ (dL Ao Au As a8 (pv 10) (@aa _ _ _ _ _ (cf dR (pv 4) c7 (cu (ak aT (pv 5) ad))) ag rfl)))) (ai (bh (aC ce (ak aw (pv 2) ad) ad (aJ _)) (ai (bQ (dL Ao Au As a8 (pv 10) (@aa _ _ _ _ _ (ak bM (cf dR (pv 4) c7 (cu (ak aw (pv 5) ad))) (pv 11)) ag rfl)))) (ai (bQ (dL Ao Au As a8 (pv 10) (@aa _ _ _ _ _ (ak bM (ak bM (cf dR (pv 9) c7 (cu (pv 6))) (pv 11)) (cf dR (pv 9) (cu (pv 6)) c7)) ag rfl)))))))))))) (ai (aI (pv 10))))))))))))),?_⟩
 try dsimp only[cxK]
 refine ⟨_,rfl,_,_,rfl,rfl,(by show (1000003:Int)≠0;decide),?_⟩
 have c0:=AJ nb (show (0:Int)<1000003 by decide)
 have c1:=AY nb (show (0:Int)<1000003 by decide)
 have s9:(9000:Nat)<=sizeLine:=by decide
 have one:∀c:Nat,(⟨#[c]⟩:Str).length=1:=fun _=>rfl
 have sm:∀(x:Int),0<=x->x<2^30->Bd 30 x:=fun x h0 h1=>by unfold Bd;omega
 have bd3:Bd 30 (3:Int):=by unfold Bd;decide
 try dsimp only[b9,c9]
 refine cut (fun σ H'=>H=H'/\∃c:Int,0<=c/\c<1000003/\σ= [some (.int nb),some (.int many),some (.int c),some (.str dn),none,none,none,none,none,none,none,none]) (fun N hN=>hN _ _ ⟨rfl,_,c0,c1,rfl⟩) ?_
 clear c0 c1;rintro σ _ ⟨rfl,c,c0,c1,rfl⟩;refine cut (fun σ H'=>H=H'/\σ= [some (.int nb),some (.int many),some (.int c),some (.str dn),some (.str ""),none,none,none,none,none,none,none]) (fun N hN=>hN _ _ ⟨rfl,rfl⟩) ?_
 rintro σ _ ⟨rfl,rfl⟩;refine cut (fun σ H'=>H=H'/\∃(b:Str) (o5:Option V),σ= [some (.int nb),some (.int many),some (.int c),some (.str dn),some (.str b),o5,none,none,none,none,none,none]/\b.length<=12) (fun N hN=>?_) ?_
 ·refine ⟨_,rfl,by decide,by decide,cT (fun i σ H'=>H=H'/\∃(b:Str) (o5:Option V),σ= [some (.int nb),some (.int many),some (.int c),some (.str dn),some (.str b),o5,none,none,none,none,none,none]/\b.length=i) ⟨rfl,_,none,rfl,rfl⟩ (fun i σ H' hi hP=>?_) (fun σ H' hP=>?_)⟩
  ·obtain ⟨rfl,b,o5,rfl,hb⟩:=hP;have hi':i<12:=hi;have bk:Bd 30 (0+(i:Int)):=sm _ (by omega) (by omega)
   have b1:Bd 60 ((0+(i:Int))*(0+(i:Int))):=bk.mul bk;have b2:Bd 60 (3*(0+(i:Int))):=bd3.mul bk;have b3:Bd 62 ((0+(i:Int))*(0+(i:Int))+3*(0+(i:Int))+7):=(b1.add b2).add ((show Bd 61 (7:Int) by unfold Bd;decide))
   have i0:=AJ (((c+1)*((0+(i:Int))*(0+(i:Int))+3*(0+(i:Int))+7)).fmod 1013) (show (0:Int)<26 by decide)
   have i1:=AY (((c+1)*((0+(i:Int))*(0+(i:Int))+3*(0+(i:Int))+7)).fmod 1013) (show (0:Int)<26 by decide)
   obtain ⟨ch,hch⟩:=ja i0 i1;refine ⟨_,rfl,_,rfl,_,rfl,_,_,rfl,rfl,_,rfl,_,rfl,_,_,rfl,rfl,bk.ok bk,_,rfl,_,_,rfl,rfl,bd3.ok bk,_,_,rfl,rfl,_,_,rfl,rfl,_,_,rfl,rfl,(sm (c+1) (by omega) (by omega)).ok b3,_,_,rfl,rfl,(by show (1013:Int)≠0;decide),_,_,rfl,rfl,(by show (26:Int)≠0;decide),dn,_,ch,rfl,rfl,by decide,hch,_,_,rfl,rfl,?_,?_⟩
   ·rw[one];omega
   ·exact ⟨rfl,_,_,rfl,by rw[Str.length_append,one,hb]⟩
  ·obtain ⟨rfl,b,o5,rfl,hb⟩:=hP;exact hN _ _ ⟨rfl,b,o5,rfl,by rw[hb];exact A7 _⟩
 rintro σ _ ⟨rfl,b,o5,rfl,hb⟩;have hz:b.length<=sizeLine:=by omega
 have a0:=AJ (c.fdiv 3) (show (0:Int)<11 by decide)
 have z0:=AJ (c.fdiv 40) (show (0:Int)<11 by decide)
 have t0:=AJ (c.fdiv 500) (show (0:Int)<8 by decide)
 have t1:=AY (c.fdiv 500) (show (0:Int)<8 by decide)
 refine ⟨_,rfl,_,_,rfl,rfl,⟨by show (3:Int)≠0;decide,AC (by decide)⟩,_,_,rfl,rfl,(by show (11:Int)≠0;decide),?_⟩
 refine ⟨_,rfl,_,_,rfl,rfl,⟨by show (40:Int)≠0;decide,AC (by decide)⟩,_,_,rfl,rfl,(by show (11:Int)≠0;decide),?_⟩
 refine ⟨by show 8<=sizeLine;decide,fun ls ns=>?_⟩
 have g1:=ao ns (.lst [.int 1,.int 3,.int 5,.int 7,.int 9,.int 11,.int 15,.int 17]);obtain ⟨v,hv,ev⟩:=lU (xs:= [V.int 1,V.int 3,V.int 5,V.int 7,V.int 9,V.int 11,V.int 15,V.int 17]) t0 (by show (c.fdiv 500).fmod 8<((8:Nat):Int);exact t1)
 obtain ⟨st,rfl,st0,st1⟩:∃y:Int,v= .int y/\0<=y/\y<20:=by
  simp at hv;rcases hv with rfl|rfl|rfl|rfl|rfl|rfl|rfl|rfl
  all_goals exact ⟨_,rfl,by decide,by decide⟩
 refine ⟨_,rfl,_,_,rfl,rfl,⟨by show (500:Int)≠0;decide,AC (by decide)⟩,_,_,rfl,rfl,(by show (8:Int)≠0;decide),ls,_,_,_,rfl,rfl,aP.of af,ev,?_⟩
 refine ⟨_,rfl,_,rfl,_,rfl,b,rfl,hz,?_⟩;have hc:(gl b none (some ((c.fdiv 40).fmod 11))).length<=12:=B4 (cM _ _ _) hb;refine ⟨by show 0<=sizeLine;decide,fun lp np=>?_⟩
 generalize gl b none (some ((c.fdiv 40).fmod 11))=core at*;have cz:core.length<=sizeLine:=by omega
 have g2:=g1.trans (ao np (.lst []));have cl:∀lo hi,(gl core lo hi).length<=12:=fun lo hi=>B4 (cM _ _ _) hc
 have bl:∀lo hi,(gl b lo hi).length<=12:=fun lo hi=>B4 (cM _ _ _) hb
 try dsimp only[b9,c9]
 refine cut (fun σ H'=>au H H'/\∃(zs:CB) (o5 o11:Option V),σ= [some (.int nb),some (.int many),some (.int c),some (.str dn),some (.str b),o5,some (.int ((c.fdiv 3).fmod 11)),some (.int ((c.fdiv 40).fmod 11)),some (.int st),some (.str core),CH lp,o11]/\(zs.length:Int)=many/\H' lp=some (.lst (zs.map V.str))) (fun N hN=>?_) ?_
 ·refine ⟨_,rfl,_,rfl,by omega,by omega,cT (fun i σ H'=>au H H'/\∃(zs:CB) (o5 o11:Option V),σ= [some (.int nb),some (.int many),some (.int c),some (.str dn),some (.str b),o5,some (.int ((c.fdiv 3).fmod 11)),some (.int ((c.fdiv 40).fmod 11)),some (.int st),some (.str core),CH lp,o11]/\zs.length=i/\H' lp=some (.lst (zs.map V.str))) ⟨g2,[],o5,none,rfl,rfl,af⟩ (fun i σ H' hi hP=>?_) (fun σ H' hP=>?_)⟩
  ·obtain ⟨g,zs,o5,o11,rfl,hl,e⟩:=hP;have hi':(i:Int)<many:=by have:i<many.toNat:=hi;omega
   have i0:=AJ (c.fdiv 7+(0+(i:Int))*st) (show (0:Int)<26 by decide)
   have i1:=AY (c.fdiv 7+(0+(i:Int))*st) (show (0:Int)<26 by decide)
   obtain ⟨ch,hch⟩:=ja i0 i1;have k0:0<=(0+(i:Int)).fdiv 26:=by rw[BU _ (by decide)];omega
   have k1:(0+(i:Int)).fdiv 26<26:=by rw[BU _ (by decide)];omega
   obtain ⟨ch2,hch2⟩:=ja k0 k1;have app:∀(z:Str),au H (aL H' lp (.lst (zs.map V.str++ [.str z])))/\aL H' lp (.lst (zs.map V.str++ [.str z])) lp=some (.lst ((zs++ [z]).map V.str)):=fun z=>⟨dE g (g1.free np) _,by rw[af,B0];rfl⟩
   have lnp:(zs.map V.str).length<sizeLine:=by rw[A5,hl];omega
   refine ⟨_,rfl,_,rfl,_,_,rfl,rfl,⟨by show (7:Int)≠0;decide,AC (by decide)⟩,_,rfl,_,rfl,_,_,rfl,rfl,(sm _ (by omega) (by omega)).ok (sm st (by omega) (by omega)),_,_,rfl,rfl,_,_,rfl,rfl,(by show (26:Int)≠0;decide),dn,_,ch,rfl,rfl,by decide,hch,?_⟩
   refine ⟨_,rfl,_,_,rfl,rfl,_,rfl,d2 (fun _=>?_) (fun _=>?_)⟩
   ·refine ⟨_,rfl,.inl ⟨rfl,_,aP.of e⟩,_,rfl,_,rfl,_,rfl,core,rfl,cz,_,rfl,_,rfl,_,_,rfl,rfl,⟨by show (26:Int)≠0;decide,AC (by decide)⟩,dn,_,ch2,rfl,rfl,by decide,hch2,_,_,rfl,rfl,?_,_,rfl,_,_,rfl,rfl,?_,_,rfl,_,rfl,_,rfl,core,rfl,cz,_,_,rfl,rfl,?_,lp,_,_,rfl,rfl,e,lnp,(app _).1,_,_,_,rfl,by rw[AB,hl];rfl,(app _).2⟩
    all_goals (simp only[Str.length_append,one];have l1:=cl none (some ((c.fdiv 3).fmod 11));have l2:=cl (some ((c.fdiv 3).fmod 11)) none;have l3:=bl none (some ((0+(i:Int)).fmod 11));omega)
   ·refine ⟨_,rfl,_,_,rfl,rfl,(by show (3:Int)≠0;decide),rfl,_,rfl,rP (fun _=>⟨_,rfl,_,_,rfl,rfl,_,rfl,d2 (fun _=>?_) (fun _=>?_)⟩) (fun _=>?_)⟩
    ·exact ⟨_,rfl,.inl ⟨rfl,_,aP.of e⟩,_,rfl,_,rfl,_,_,rfl,rfl,_,rfl,b,rfl,hz,lp,_,_,rfl,rfl,e,lnp,(app _).1,_,_,_,rfl,by rw[AB,hl];rfl,(app _).2⟩
    ·refine ⟨_,rfl,_,_,rfl,rfl,(by show (3:Int)≠0;decide),rfl,_,rfl,rP (fun _=>?_) (fun _=>?_)⟩
     ·refine ⟨_,rfl,.inl ⟨rfl,_,aP.of e⟩,_,rfl,_,rfl,_,_,rfl,rfl,(by show (11:Int)≠0;decide),_,rfl,b,rfl,hz,_,rfl,_,_,rfl,rfl,?_,lp,_,_,rfl,rfl,e,lnp,(app _).1,_,_,_,rfl,by rw[AB,hl];rfl,(app _).2⟩
      (simp only[Str.length_append,one];have l1:=cl none (some ((c.fdiv 3).fmod 11));have l2:=cl (some ((c.fdiv 3).fmod 11)) none;have l3:=bl none (some ((0+(i:Int)).fmod 11));omega)
     ·refine ⟨_,rfl,.inl ⟨rfl,_,aP.of e⟩,_,rfl,_,rfl,_,rfl,core,rfl,cz,_,rfl,_,_,rfl,rfl,?_,_,rfl,_,rfl,_,rfl,core,rfl,cz,_,_,rfl,rfl,?_,lp,_,_,rfl,rfl,e,lnp,(app _).1,_,_,_,rfl,by rw[AB,hl];rfl,(app _).2⟩
      all_goals (simp only[Str.length_append,one];have l1:=cl none (some ((c.fdiv 3).fmod 11));have l2:=cl (some ((c.fdiv 3).fmod 11)) none;have l3:=bl none (some ((0+(i:Int)).fmod 11));omega)
    ·refine ⟨_,rfl,_,_,rfl,rfl,(by show (3:Int)≠0;decide),rfl,_,rfl,rP (fun _=>?_) (fun _=>?_)⟩
     ·refine ⟨_,rfl,.inl ⟨rfl,_,aP.of e⟩,_,rfl,_,rfl,_,_,rfl,rfl,(by show (11:Int)≠0;decide),_,rfl,b,rfl,hz,_,rfl,_,_,rfl,rfl,?_,lp,_,_,rfl,rfl,e,lnp,(app _).1,_,_,_,rfl,by rw[AB,hl];rfl,(app _).2⟩
      (simp only[Str.length_append,one];have l1:=cl none (some ((c.fdiv 3).fmod 11));have l2:=cl (some ((c.fdiv 3).fmod 11)) none;have l3:=bl none (some ((0+(i:Int)).fmod 11));omega)
     ·refine ⟨_,rfl,.inl ⟨rfl,_,aP.of e⟩,_,rfl,_,rfl,_,rfl,core,rfl,cz,_,rfl,_,_,rfl,rfl,?_,_,rfl,_,rfl,_,rfl,core,rfl,cz,_,_,rfl,rfl,?_,lp,_,_,rfl,rfl,e,lnp,(app _).1,_,_,_,rfl,by rw[AB,hl];rfl,(app _).2⟩
      all_goals (simp only[Str.length_append,one];have l1:=cl none (some ((c.fdiv 3).fmod 11));have l2:=cl (some ((c.fdiv 3).fmod 11)) none;have l3:=bl none (some ((0+(i:Int)).fmod 11));omega)
  ·obtain ⟨g,zs,o5,o11,rfl,hl,e⟩:=hP;exact hN _ _ ⟨g,zs,o5,o11,rfl,by omega,e⟩
 rintro σ H1 ⟨g,zs,o5',o11,rfl,hl,e⟩;exact ⟨_,rfl,q lp H1 zs g e hl⟩
theorem wK {dV:Value} (F:a9 K "_law_step" "_law_step" vD dV f fd) (DZ7:ju P w K mg base ba 1 y8 ["self","name","least","most","uses","second"] [.non,.non] (fY K)) (DZ13:ju P w K mg base ba 2 zd ["self","name","least","most","fill","uses","second"] [.non,.non] (je K)):a7 P w K mg base ba 4 f fd ["_law_cell","_law_name"] (kP yP yL on):=by
 have sc:aD ["_law_cell","_law_name"] ["_law_cell","_law_name"] (ar vD):=dG (by decide+kernel)
 refine F.ok sc (fun vs H Q E h=>?_) (fun cdv A outer s H vs Q E hr h=>?_)
 ·obtain ⟨_,_,rfl,_⟩:=h
  rfl
 obtain ⟨c,z,rfl,k⟩:=h;refine ⟨_,(ae (bh (aC ce (ak aw (pv 0) ad) ad (aJ _)) (ai (aI (i3 B.Ce DZ7 hr (by decide) rfl B.Cm (@aa _ _ _ _ _ (pv 1) (@aa _ _ _ _ _ (ak aT ad (ak aw (ak aH (pv 0) ad) ad)) (@aa _ _ _ _ _ (ak aT ad (ak aw (ak aH (pv 0) ad) ad)) ag rfl) rfl) rfl)))) aS) (ae (bh (aC ce (ak aw (pv 0) ad) ad (aJ _)) (ai (aI (i3 B.z8 DZ13 hr (by decide) rfl B.Ch (@aa _ _ _ _ _ (pv 1) (@aa _ _ _ _ _ (ak aT ad (ak aw (ak aH (pv 0) ad) ad)) (@aa _ _ _ _ _ (ak aT ad (ak aw (ak aH (pv 0) ad) ad)) (@aa _ _ _ _ _ (@bB _ _ _ _ _ (@aa _ _ _ _ _ (ak aT ad (ak aw (ak aH (pv 0) ad) ad)) (@aa _ _ _ _ _ ad ag rfl) rfl)) ag rfl) rfl) rfl) rfl)))) aS) (ai (aI (i3 B.At DZ7 hr (by decide) rfl B.Cj (@aa _ _ _ _ _ (pv 1) (@aa _ _ _ _ _ (ak aT ad (ak aw (ak aH (pv 0) ad) ad)) (@aa _ _ _ _ _ (ak aT ad (ak aw (ak aH (pv 0) ad) ad)) ag rfl) rfl) rfl)))))),?_⟩
 try dsimp only[cxK]
 have m1:=AJ (c.fdiv 3) (show (0:Int)<9 by decide)
 have m2:=AY (c.fdiv 3) (show (0:Int)<9 by decide)
 have m3:=AJ (c.fdiv 27) (show (0:Int)<9 by decide)
 have m4:=AY (c.fdiv 27) (show (0:Int)<9 by decide)
 have b1:Bd 210 (1+(c.fdiv 3).fmod 9):=cq (by omega) (by omega) (by decide)
 have b2:Bd 210 (10+(c.fdiv 27).fmod 9):=cq (by omega) (by omega) (by decide)
 refine ⟨_,rfl,_,_,rfl,rfl,(by show (3:Int)≠0;decide),rfl,_,rfl,rP (fun c1=>?_) (fun c1=>?_)⟩
 ·exact ⟨_,rfl,_,rfl,_,_,rfl,rfl,⟨by decide,AC (by decide)⟩,_,_,rfl,rfl,(by show (9:Int)≠0;decide),_,_,rfl,rfl,_,rfl,_,_,rfl,rfl,⟨by decide,AC (by decide)⟩,_,_,rfl,rfl,(by show (9:Int)≠0;decide),_,_,rfl,rfl,fun x dx nx nd nxd=>⟨x,_,dx,z,_,_,.non,.non,[],none,rfl,af,⟨B.zT,B.zz,B.zo,B.zA,B.zw,B.zc⟩,.inl ⟨rfl,rfl⟩,rfl,fun u s H6 k6 ux nu eu hs6 ex=>⟨rfl,k x _ H6 (cX nx nd k6) fun G kg=>iK (mG (mi nx nd gA nu eu hs6 ex) kg) (.inl rfl) b1 b2⟩⟩⟩
 refine ⟨_,rfl,_,_,rfl,rfl,(by show (3:Int)≠0;decide),rfl,_,rfl,rP (fun c2=>?_) (fun c2=>?_)⟩
 ·have m5:=AJ (c.fdiv 9) (show (0:Int)<4 by decide)
  have m6:=AY (c.fdiv 9) (show (0:Int)<4 by decide)
  refine ⟨_,rfl,_,rfl,_,_,rfl,rfl,⟨by decide,AC (by decide)⟩,_,_,rfl,rfl,(by show (9:Int)≠0;decide),_,_,rfl,rfl,_,rfl,_,_,rfl,rfl,⟨by decide,AC (by decide)⟩,_,_,rfl,rfl,(by show (9:Int)≠0;decide),_,_,rfl,rfl,_,rfl,_,_,rfl,rfl,⟨by decide,AC (by decide)⟩,_,_,rfl,rfl,(by show (4:Int)≠0;decide),_,_,rfl,rfl,by show 2<=sizeLine;decide,fun tfl nt=>?_⟩
  refine fun x dx nx nd nxd=>⟨x,_,dx,z,_,_,.ref tfl,.non,.non,[],none,rfl,af,⟨B.zE,B.zh,B.za,B.zi,B.zg,B.yY⟩,B.zj,.inl ⟨rfl,rfl⟩,rfl,fun u s H6 k6 ux nu eu hs6 ex=>⟨rfl,k x _ H6 ((ao nt _).trans (cX nx nd k6)) fun G kg=>rL (mG ((mi nx nd qT nu eu hs6 ex).base (ao nt _)) kg) (kg _ _ ((ao nt _).free nx) ex) lW (kg _ _ nt (cX nx nd k6 _ _ af)) (by omega) (by decide) (cq (by omega) (by omega) (by decide)) (Bd.one.mono (by decide)) b1 b2⟩⟩
 ·exact ⟨_,rfl,_,rfl,_,_,rfl,rfl,⟨by decide,AC (by decide)⟩,_,_,rfl,rfl,(by show (9:Int)≠0;decide),_,_,rfl,rfl,_,rfl,_,_,rfl,rfl,⟨by decide,AC (by decide)⟩,_,_,rfl,rfl,(by show (9:Int)≠0;decide),_,_,rfl,rfl,fun x dx nx nd nxd=>⟨x,_,dx,z,_,_,.non,.non,[],none,rfl,af,⟨B.zR,B.zm,B.zb,B.zn,B.zk,B.yZ⟩,.inl ⟨rfl,rfl⟩,rfl,fun u s H6 k6 ux nu eu hs6 ex=>⟨rfl,k x _ H6 (cX nx nd k6) fun G kg=>iK (mG (mi nx nd gA nu eu hs6 ex) kg) (.inr rfl) b1 b2⟩⟩⟩
theorem wL {dV:Value} (F:a9 K "_law_links" "_law_links" vE dV f fd):a7 P w K mg base ba 2 f fd ["_law_script","_law_many"] (iP K):=by
 have sc:aD ["_law_script","_law_many","_law_links_here","_law_cell","_law_at","_law_other","_law_turns"] ["_law_script","_law_many"] (ar vE):=dG (by decide+kernel)
 refine F.ok sc (fun vs H Q E h=>?_) (fun cdv A outer s H vs Q E hr h=>?_)
 ·obtain ⟨_,_,_,rfl,_⟩:=h
  rfl
 obtain ⟨a,ns,m,rfl,hS,h63,m0,m8,q⟩:=h;have s4:(5000:Nat)<=sizeLine:=by decide
 refine ⟨_,(ae (cD 2 sc (@bL _ _ _ _ ag)) (ae (bG PassesOwn.never rfl (bD (cf si (pv 0) (cu ad) (cu ad))) (fG 3 sc) (ae (cD 4 sc (ak aw (ak aH (pv 3) ad) (pv 1))) (ae (cD 5 sc (ak aw (ak aT (ak aT (pv 4) ad) (ak aw (ak aH (ak aH (pv 3) ad) (pv 1)) (ak dj (pv 1) ad))) (pv 1))) (ae (cD 6 sc ad) (ae (bh (aC ce (ak aw (pv 3) ad) ad (aJ _)) (ai (cD 6 sc (ak aw (ak aH (pv 3) ad) ad))) aS) (ai (bQ (dL Ao Au As a8 (pv 2) (@aa _ _ _ _ _ (@bB _ _ _ _ _ (@aa _ _ _ _ _ (av aW (@bL _ _ _ _ (@aa _ _ _ _ _ bP (@aa _ _ _ _ _ bP (@aa _ _ _ _ _ bP ag rfl) rfl) rfl)) (ak aw (pv 3) ad) (fun _ _=>rfl)) (@aa _ _ _ _ _ (pv 4) (@aa _ _ _ _ _ (pv 5) (@aa _ _ _ _ _ (pv 6) ag rfl) rfl) rfl) rfl)) ag rfl))))))))) (ai (aI (pv 2))))),?_⟩
 try dsimp only[cxK]
 refine ⟨by show 0<=sizeLine;decide,fun l nl=>?_⟩
 have g0:=ao nl (.lst []);have lk0:LK (aL H l (.lst [])) l []:=⟨[],rfl,af,fun i a t e=>by simp at e⟩
 try dsimp only[b9,c9]
 refine cut (fun σ H'=>∃(ks:List dg) (o3 o4 o5 o6:Option V),σ= [CH a,some (.int m),CH l,o3,o4,o5,o6]/\au H H'/\LK H' l ks/\ks.length<=17/\∀k∈ks,k.2.1≠k.2.2.1) (fun N hN=>?_) ?_
 ·refine ⟨_,rfl,_,rfl,_,rfl,a,_,rfl,g0.seq hS,fun c hc=>?_⟩
  have hcl:=fH (ns.map V.int) (some 3) (some 20);have hcl2:(fT (ns.map V.int) (some 3) (some 20)).length<=17:=by
   exact wv _
  rw[A5] at hcl;have nc:H c=none:=g0.free hc;have cn:c≠l:=fun z=>by rw[z,af] at hc;cases hc
  have g1:=g0.trans (ao hc (.lst (fT (ns.map V.int) (some 3) (some 20))));have lk1:=lk0.same (ao hc (.lst (fT (ns.map V.int) (some 3) (some 20))));refine ⟨c,rfl,⟨_,aP.of af⟩,bH (xs:=fT (ns.map V.int) (some 3) (some 20)) (fun i σ H'=>H' c=some (.lst (fT (ns.map V.int) (some 3) (some 20)))/\∃(ks:List dg) (o3 o4 o5 o6:Option V),σ= [CH a,some (.int m),CH l,o3,o4,o5,o6]/\au H H'/\LK H' l ks/\ks.length=i/\∀k∈ks,k.2.1≠k.2.2.1) ⟨af,[],none,none,none,none,rfl,g1,lk1,rfl,fun k hk=>by cases hk⟩ (fun i σ H' _ h=>aP.of h.1) ?_ ?_⟩
  ·rintro i x σ H2 hx ⟨ec,ks,o3,o4,o5,o6,rfl,g,lk,kl,kn⟩;have il:=(A3.mp hx).1;obtain ⟨v,rfl⟩:∃v:Int,x= .int v:=by
    have mm:=AR hx;unfold fT at mm;have mm:=List.mem_of_mem_drop (Bu mm);obtain ⟨c,_,e⟩:=AX.mp mm;exact ⟨c,e.symm⟩
   have mz:m≠0:=by omega
   refine ⟨_,rfl,_,_,rfl,rfl,⟨by decide,AC (by decide)⟩,_,rfl,_,_,rfl,rfl,mz,?_⟩
   refine ⟨_,rfl,_,_,rfl,rfl,_,rfl,_,_,rfl,rfl,⟨by decide,AC (by decide)⟩,_,rfl,_,_,rfl,rfl,⟨mz,AC (by omega)⟩,_,rfl,_,_,rfl,rfl,_,_,rfl,rfl,by omega,_,_,rfl,rfl,_,rfl,_,_,rfl,rfl,mz,?_⟩
   try dsimp only[b9,c9]
   refine cut (fun σ H'=>H2=H'/\∃at_ ot:Int,at_≠ot/\σ= [CH a,some (.int m),CH l,some (.int v),some (.int at_),some (.int ot),some (.int 0)]) (fun N hN=>hN _ _ ⟨rfl,_,_,tO m0,rfl⟩) ?_
   rintro σ _ ⟨rfl,at_,ot,ano,rfl⟩;refine cut (fun σ H'=>au H2 H'/\∃t:Int,σ= [CH a,some (.int m),CH l,some (.int v),some (.int at_),some (.int ot),some (.int t)]) (fun N hN=>?_) ?_
   ·refine ⟨_,rfl,_,_,rfl,rfl,(by show (3:Int)≠0;decide),rfl,_,rfl,rP (fun _=>?_) (fun _=>hN _ _ ⟨.refl _,_,rfl⟩)⟩
    exact ⟨_,rfl,_,_,rfl,rfl,⟨by decide,AC (by decide)⟩,_,_,rfl,rfl,(by show (61:Int)≠0;decide),hN _ _ ⟨.refl _,_,rfl⟩⟩
   rintro σ H9 ⟨gq,t,rfl⟩;have lk:=lk.same gq;have ec:=gq _ _ ec;have g:=g.trans gq;obtain ⟨as,a1,a2,a3⟩:=lk.ex;have r0:=AJ v (show (0:Int)<3 by decide)
   have r1:=AY v (show (0:Int)<3 by decide)
   obtain ⟨w,hw,hat⟩:=lU (xs:=([Str.ofString "after",Str.ofString "within",Str.ofString "apart"]).map V.str) r0 (by simpa using r1)
   obtain ⟨wd,_,rfl⟩:=AX.mp hw;refine ⟨_,rfl,.inl ⟨rfl,_,aP.of a2⟩,by show 3<=sizeLine;decide,fun p np=>⟨_,rfl,_,_,rfl,rfl,(by show (3:Int)≠0;decide),p,_,_,.str wd,rfl,rfl,aP.of af,hat,_,rfl,_,rfl,_,rfl,by show 4<=sizeLine;decide,fun b nb=>?_⟩⟩
   have g3:=ao np (.lst [.str (Str.ofString "after"),.str (Str.ofString "within"),.str (Str.ofString "apart")]);have g4:=ao nb (.tup [.str wd,.int at_,.int ot,.int t]);have g34:=g3.trans g4;obtain ⟨xs,ex,xl,lk4⟩:=(lk.same g34).snoc (a:=b) (k:=(wd,at_,ot,t)) af;refine ⟨l,xs,_,rfl,rfl,ex,by omega,?_⟩
   exact ⟨by rw[am cn];exact g34 _ _ ec,ks++ [(wd,at_,ot,t)],_,_,_,_,rfl,dE (g.trans g34) nl _,lk4,by simp[kl],fun k hk=>by
    rcases AI.mp hk with z|z
    ·exact kn k z
    ·rw[AS.mp z];exact ano⟩
  ·rintro σ H2 ⟨ec,ks,o3,o4,o5,o6,rfl,g,lk,kl,kn⟩;exact hN _ _ ⟨ks,o3,o4,o5,o6,rfl,g,lk,by omega,kn⟩
 rintro σ H' ⟨ks,o3,o4,o5,o6,rfl,g,lk,kl,kn⟩;exact ⟨_,rfl,q l H' ks g lk kl kn⟩
theorem wM {dV:Value} (F:a9 K "_law_times" "_law_times" vF dV f fd) (DZ22:Dx P w K mg base ba 1 "_law_cell_at" ["_law_script","_law_k"] [] (lI K)):a7 P w K mg base ba 2 f fd ["_law_script","_law_many"] (iO K):=by
 have sc:aD ["_law_script","_law_many","_law_times_here","_law_turn","_law_k","_law_cell","_law_begin","_law_end","_law_by"] ["_law_script","_law_many"] (ar vF):=dG (by decide+kernel)
 refine F.ok sc (fun vs H Q E h=>?_) (fun cdv A outer s H vs Q E hr h=>?_)
 ·obtain ⟨_,_,_,rfl,_⟩:=h
  rfl
 obtain ⟨a,ns,m,rfl,hS,h63,m1,m24,q⟩:=h;have sl:sizeLine=16777216:=sizeLine_eq;refine ⟨_,(ae (cQ (i:=2) sc.nd rfl (Or.inr rfl) (@bL _ _ _ _ ag)) (ae (cD 3 sc ad) (ae (bG PassesOwn.never rfl (bz rfl B.yR (@aa _ _ _ _ _ (pv 1) ag rfl)) (fG 4 sc) (ae (cD 5 sc (ak aw (dh DZ22 hr (@aa _ _ _ _ _ (pv 0) (@aa _ _ _ _ _ (ak aT ad (pv 4)) ag rfl) rfl)) (ak mW ad ad))) (ae (cD 6 sc (ak aw (pv 5) ad)) (ae (bh (aC ce (ak aw (dh DZ22 hr (@aa _ _ _ _ _ (pv 0) (@aa _ _ _ _ _ ad ag rfl) rfl)) ad) ad (aJ _)) (ai (cD 6 sc (ak aT (pv 3) (ak aw (pv 5) ad)))) aS) (ae (cD 7 sc (ak aT (ak aT (pv 6) ad) (ak aw (ak aH (pv 5) ad) ad))) (ae (cD 3 sc (pv 7)) (ai (bQ (dL Ao Au As a8 (pv 2) (@aa _ _ _ _ _ (@bB _ _ _ _ _ (@aa _ _ _ _ _ (pv 6) (@aa _ _ _ _ _ (pv 7) ag rfl) rfl)) ag rfl)))))))))) (ae (cQ (i:=8) sc.nd rfl (Or.inr rfl) (ak aT ad (ak aw (ak aH (dh DZ22 hr (@aa _ _ _ _ _ (pv 0) (@aa _ _ _ _ _ ad ag rfl) rfl)) ad) ad))) (ae (bh (aC ce (ak aw (dh DZ22 hr (@aa _ _ _ _ _ (pv 0) (@aa _ _ _ _ _ ad ag rfl) rfl)) ad) ad (aJ _)) (ai (aI (qu (hd:=none) (own:= "_law_k") (ys:= ["_law_times_here","_law_by","_law_many"]) (js:= [2,8,1]) hr.hd (rS (jS (jS (jS rR))) (.cons rfl (.cons rfl (.cons rfl .nil))) (by decide) rfl rfl rfl rfl rfl rfl rfl rfl) (iy rfl B.yR (@aa _ _ _ _ _ (pv 1) ag rfl)) (fun C fp s H=>(av (ki (K:=K) rfl) (pv 1) (d7 (aC ce (pv 2) ad (aJ _)) (ak dj (ak dj (pv 3) ad) (pv 0)) (ak aw (ak aT (pv 0) (pv 2)) (pv 3))) (fun _ _=>rfl)))))) aS) (ai (aI (pv 2)))))))),?_⟩
 try dsimp only[cxK]
 refine ⟨by show 0<=sizeLine;decide,fun l nl=>?_⟩
 have g1:=ao nl (.lst []);have el:aL H l (.lst []) l=some (.lst []):=af;generalize aL H l (.lst [])=H1 at g1 el⊢;dsimp only[b9,c9];change L2.jA (k7 _ _) _ _ [some (.ref a),some (.int m),some (.ref l),none,none,none,none,none,none] H1;refine cut (fun σ H'=>σ= [CH a,some (.int m),CH l,some (.int 0),none,none,none,none,none]/\H1=H') (fun N hN=>hN _ _ ⟨rfl,rfl⟩) ?_
 rintro σ _ ⟨rfl,rfl⟩;refine cut (fun σ H'=>∃(T:fF) (tu:Int) (o4 o5 o6 o7:Option V),σ= [CH a,some (.int m),CH l,some (.int tu),o4,o5,o6,o7,none]/\au H H'/\nO H' l T/\T.length=m) (fun N hN=>?_) ?_
 ·refine ⟨_,rfl,_,rfl,by omega,by omega,cT (fun i σ H'=>∃(T:fF) (tu:Int) (o4 o5 o6 o7:Option V),σ= [CH a,some (.int m),CH l,some (.int tu),o4,o5,o6,o7,none]/\au H H'/\nO H' l T/\T.length=i) ⟨[],0,none,none,none,none,rfl,g1,.nil el,rfl⟩ (fun i σ H2 hi hP=>?_) (fun σ H2 hP=>?_)⟩
  ·obtain ⟨T,tu,o4,o5,o6,o7,rfl,g2,tma,Tl⟩:=hP;have S2:=g2.seq hS;refine cut (fun σ H'=>∃c:Int,σ= [CH a,some (.int m),CH l,some (.int tu),some (.int (0+(i:Int))),some (.int c),o6,o7,none]/\H2=H') (fun N hN=>?_) ?_
   ·exact ⟨_,rfl,_,rfl,_,_,rfl,rfl,a,ns,_,rfl,S2,by omega,fun c0=>⟨_,_,rfl,rfl,⟨by decide,by decide⟩,_,_,rfl,rfl,(by show (10^9:Int)≠0;decide),hN _ _ ⟨_,rfl,rfl⟩⟩⟩
   rintro σ _ ⟨c,rfl,rfl⟩;refine cut (fun σ H'=>∃b:Int,σ= [CH a,some (.int m),CH l,some (.int tu),some (.int (0+(i:Int))),some (.int c),some (.int b),o7,none]/\H2=H') (fun N hN=>⟨_,rfl,_,_,rfl,rfl,(by show (201:Int)≠0;decide),hN _ _ ⟨_,rfl,rfl⟩⟩) ?_
   rintro σ _ ⟨b0,rfl,rfl⟩;refine cut (fun σ H'=>∃b:Int,σ= [CH a,some (.int m),CH l,some (.int tu),some (.int (0+(i:Int))),some (.int c),some (.int b),o7,none]/\H2=H') (fun N hN=>?_) ?_
   ·refine ⟨_,rfl,a,ns,2,rfl,S2,by decide,fun c0=>⟨_,_,rfl,rfl,(by show (2:Int)≠0;decide),rfl,_,rfl,rP (fun _=>?_) fun _=>hN _ _ ⟨_,rfl,rfl⟩⟩⟩
    exact ⟨_,rfl,_,rfl,_,_,rfl,rfl,(by show (7:Int)≠0;decide),_,_,rfl,rfl,hN _ _ ⟨_,rfl,rfl⟩⟩
   rintro σ _ ⟨b,rfl,rfl⟩;refine cut (fun σ H'=>∃e:Int,σ= [CH a,some (.int m),CH l,some (.int tu),some (.int (0+(i:Int))),some (.int c),some (.int b),some (.int e),none]/\H2=H') (fun N hN=>⟨_,rfl,_,_,rfl,rfl,_,rfl,_,_,rfl,rfl,⟨by decide,AC (by decide)⟩,_,_,rfl,rfl,(by show (30:Int)≠0;decide),_,_,rfl,rfl,hN _ _ ⟨_,rfl,rfl⟩⟩) ?_
   rintro σ _ ⟨e,rfl,rfl⟩;refine cut (fun σ H'=>σ= [CH a,some (.int m),CH l,some (.int e),some (.int (0+(i:Int))),some (.int c),some (.int b),some (.int e),none]/\H2=H') (fun N hN=>⟨_,rfl,hN _ _ ⟨rfl,rfl⟩⟩) ?_
   rintro σ _ ⟨rfl,rfl⟩;obtain ⟨zs,z1,_⟩:=id tma;refine ⟨_,rfl,.inl ⟨rfl,_,aP.of z1⟩,_,rfl,_,rfl,by show 2<=sizeLine;decide,fun t nt=>?_⟩
   have g3:=ao nt (.tup [.int b,.int e]);obtain ⟨xs,x1,x2,x3⟩:=nO.snoc (aR.same tma g3) (t:=t) (b:=b) (e:=e) af;exact ⟨l,xs,_,rfl,rfl,x1,by omega,T++ [(b,e)],e,_,_,_,_,rfl,dE (g2.trans g3) nl _,x3,by simp[Tl]⟩
  ·obtain ⟨T,tu,o4,o5,o6,o7,rfl,g2,tma,Tl⟩:=hP;exact hN _ _ ⟨T,tu,o4,o5,o6,o7,rfl,g2,tma,by omega⟩
 rintro σ H2 ⟨T,tu,o4,o5,o6,o7,rfl,g2,tma,Tl⟩;have S2:=g2.seq hS;refine cut (fun σ H'=>∃by_:Int,σ= [CH a,some (.int m),CH l,some (.int tu),o4,o5,o6,o7,some (.int by_)]/\H2=H') (fun N hN=>?_) ?_
 ·exact ⟨_,rfl,a,ns,2,rfl,S2,by decide,fun c0=>⟨_,_,rfl,rfl,⟨by decide,AC (by decide)⟩,_,_,rfl,rfl,(by show (5:Int)≠0;decide),_,_,rfl,rfl,hN _ _ ⟨_,rfl,rfl⟩⟩⟩
 rintro σ _ ⟨by_,rfl,rfl⟩;refine cut (fun σ H'=>σ= [CH a,some (.int m),CH l,some (.int tu),o4,o5,o6,o7,some (.int by_)]/\H2=H') (fun N hN=>?_) ?_
 ·refine ⟨_,rfl,a,ns,2,rfl,S2,by decide,fun c0=>⟨_,_,rfl,rfl,(by show (4:Int)≠0;decide),rfl,_,rfl,rP (fun _=>?_) fun _=>hN _ _ ⟨rfl,rfl⟩⟩⟩
  obtain ⟨cs,c1,c2,c3⟩:=tma.at_;refine ⟨_,rfl,m,rfl,by omega,by omega,sK (n:=m) (fun i y=>∃(a:Addr) (t:Int×Int),y= .ref a/\H2 a=some (.tup [.int t.1,.int t.2])) iY.no (by omega) (fun i hi H3 g3 Q' hQ=>?_) (fun p ys H' np hl ht g' e'=>?_)⟩
  ·refine ⟨_,rfl,_,rfl,rfl,_,rfl,rP (fun _=>?_) fun _=>?_⟩
   ·obtain ⟨a1,at1,e1⟩:=c3 ((m:Int)-1-(0+(i:Int))) (by omega) (by omega)
    exact ⟨_,rfl,_,_,rfl,rfl,_,rfl,_,_,rfl,rfl,l,_,_,_,rfl,rfl,aP.of (g3 _ _ c1),at1,hQ _ _ ⟨a1,_,rfl,e1⟩ (.refl _)⟩
   ·have f0:=AJ (0+(i:Int)+by_) (show (0:Int)<(m:Int) by omega)
    have f1:=AY (0+(i:Int)+by_) (show (0:Int)<(m:Int) by omega)
    obtain ⟨a1,at1,e1⟩:=c3 ((0+(i:Int)+by_).fmod m) f0 (by omega)
    exact ⟨_,rfl,_,rfl,_,_,rfl,rfl,_,rfl,_,_,rfl,rfl,by omega,l,_,_,_,rfl,rfl,aP.of (g3 _ _ c1),at1,hQ _ _ ⟨a1,_,rfl,e1⟩ (.refl _)⟩
  ·obtain ⟨T',t1,t2⟩:=vk e' fun i y hy=>let ⟨a,t,e1,e2⟩:=ht i y hy;⟨a,t,e1,g' _ _ e2⟩
   exact q p H' T' (g2.trans g') t1 (by omega)
 rintro σ _ ⟨rfl,rfl⟩;exact ⟨_,rfl,q l H2 T g2 tma Tl⟩
theorem wN {dV:Value} (F:a9 K "_law_meet" "_law_meet" vG dV f fd):a7 P w K mg base ba 1 f fd ["_law_one","_law_other"] gP:=by
 have sc:aD ["_law_one","_law_other"] ["_law_one","_law_other"] (ar vG):=dG (by decide+kernel)
 refine F.ok sc (fun vs H Q E h=>?_) (fun cdv A outer s H vs Q E hr h=>?_)
 ·obtain ⟨_,_,_,_,rfl,_⟩:=h
  rfl
 obtain ⟨a,b,x,y,rfl,ea,eb,q⟩:=h;refine ⟨_,(ai (aI (pR (fW dJ (av aK (pv 0) ad (fun _ _=>rfl)) (av aK (pv 1) ad (fun _ _=>rfl)) (aJ _)) (pQ (fW dJ (av aK (pv 1) ad (fun _ _=>rfl)) (av aK (pv 0) ad (fun _ _=>rfl)) (aJ _)))))),?_⟩
 try dsimp only[cxK]
 refine ⟨_,rfl,a,_,_,_,rfl,rfl,bF.of ea,rfl,_,rfl,b,_,_,_,rfl,rfl,bF.of eb,rfl,_,_,rfl,rfl,_,rfl,?_⟩
 by_cases c:x.1<y.2
 ·rw[decide_eq_true c] at q⊢;rw[Bool.true_and] at q;exact om ⟨_,rfl,b,_,_,_,rfl,rfl,bF.of eb,rfl,_,rfl,a,_,_,_,rfl,rfl,bF.of ea,rfl,_,_,rfl,rfl,q⟩
 ·rw[decide_eq_false c] at q⊢;rw[Bool.false_and] at q;exact eU q
theorem wO {dV:Value} (F:a9 K "_law_words_hold" "_law_words_hold" vH dV f fd) (DZ27:Dx P w K mg base ba 1 "_law_meet" ["_law_one","_law_other"] [] gP):a7 P w K mg base ba 2 f fd ["_law_links_here","_law_tasks","_law_times_here"] nR:=by
 have sc:aD ["_law_links_here","_law_tasks","_law_times_here","_law_held","_law_word","_law_at","_law_other","_law_turns","_law_s","_law_o"] ["_law_links_here","_law_tasks","_law_times_here"] (ar vH):=dG (by decide+kernel)
 refine F.ok sc (fun vs H Q E h=>?_) (fun cdv A outer s H vs Q E hr h=>?_)
 ·obtain ⟨_,_,_,_,_,_,rfl,_⟩:=h
  rfl
 obtain ⟨lk,lt,lm,ks,fs,T,rfl,hk,ht,tma,f100,Tl,q⟩:=h;have sl:sizeLine=16777216:=sizeLine_eq;refine ⟨_,(ae (cD 3 sc (@bL _ _ _ _ (@aa _ _ _ _ _ bV (@aa _ _ _ _ _ bV ag rfl) rfl))) (ae (bG PassesOwn.never rfl (bD (pv 0)) (dO rfl (aX (fG 4 sc) (aX (c5 (i:=5) sc.nd rfl (Or.inr rfl)) (aX (c5 (i:=6) sc.nd rfl (Or.inr rfl)) (aX (fG 7 sc) c6))))) (ai (bG PassesOwn.never rfl (bD (bY (own:= "_law_k") (ys:= ["_law_at","_law_tasks"]) (js:= [5,1]) rfl (rS (jS (jS rR)) (.cons rfl (.cons rfl .nil)) (by decide) rfl rfl rfl rfl rfl rfl rfl rfl) (bz rfl B.yR (@aa _ _ _ _ _ (aU aY rfl B.ze boot_len (@aa _ _ _ _ _ (pv 1) ag rfl)) ag rfl)) (fun C fp s H=>(aC ce (av (cy (K:=K) rfl) (av (qM (K:=K) rfl) (pv 2) (pv 0) (fun _ _=>rfl)) ad (fun _ _=>rfl)) (pv 1) (aJ _))) (fun C fp s H=>(pv 0)))) (fG 8 sc) (ai (bG PassesOwn.never rfl (bD (bY (own:= "_law_k") (ys:= ["_law_other","_law_tasks"]) (js:= [6,1]) rfl (rS (jS (jS rR)) (.cons rfl (.cons rfl .nil)) (by decide) rfl rfl rfl rfl rfl rfl rfl rfl) (bz rfl B.yR (@aa _ _ _ _ _ (aU aY rfl B.ze boot_len (@aa _ _ _ _ _ (pv 1) ag rfl)) ag rfl)) (fun C fp s H=>(aC ce (av (cy (K:=K) rfl) (av (qM (K:=K) rfl) (pv 2) (pv 0) (fun _ _=>rfl)) ad (fun _ _=>rfl)) (pv 1) (aJ _))) (fun C fp s H=>(pv 0)))) (fG 9 sc) (ae (bh (PW.pt (eP (aC ce (pv 4) bP (aJ _)) (dA (eO (dh DZ27 hr (@aa _ _ _ _ _ (av aW (pv 2) (pv 8) (fun _ _=>rfl)) (@aa _ _ _ _ _ (av aW (pv 2) (pv 9) (fun _ _=>rfl)) ag rfl) rfl)))))) (ai (eQ bV (f9 (pv 3) ad set_list))) aS) (ae (bh (PW.pt (eP (aC hW (pv 4) bP (aJ _)) (dA (aC dJ (av aK (av aW (pv 2) (pv 8) (fun _ _=>rfl)) ad (fun _ _=>rfl)) (av aK (av aW (pv 2) (pv 9) (fun _ _=>rfl)) ad (fun _ _=>rfl)) (aJ _))))) (ai (eQ bV (f9 (pv 3) ad set_list))) aS) (ai (bh (PW.pt (eP (aC ce (pv 4) bP (aJ _)) (dA (aC jD (av aK (av aW (pv 2) (pv 8) (fun _ _=>rfl)) ad (fun _ _=>rfl)) (ak aT (av aK (av aW (pv 2) (pv 9) (fun _ _=>rfl)) ad (fun _ _=>rfl)) (pv 7)) (aJ _))))) (ai (eQ bV (f9 (pv 3) ad set_list))) aS))))))))) (ai (aI (pv 3))))),?_⟩
 try dsimp only[cxK]
 refine ⟨by show 2<=sizeLine;decide,fun lh nlh=>?_⟩
 have g12:=ao nlh (.lst [.bl true,.bl true]);have eh:aL H lh (.lst [.bl true,.bl true]) lh=some (.lst [.bl true,.bl true]):=af;generalize aL H lh (.lst [.bl true,.bl true])=H2 at g12 eh⊢;dsimp only[b9,c9];change L2.jA _ _ _ [some (.ref lk),some (.ref lt),some (.ref lm),some (.ref lh),none,none,none,none,none,none] H2;obtain ⟨as,a1,a2,a3⟩:=hk.ex;obtain ⟨bs,b1,b2,b3⟩:=id ht;obtain ⟨cs,c1,c2,c3⟩:=tma.at_;refine cut (fun σ H'=>∃o4 o5 o6 o7 o8 o9,σ= [CH lk,CH lt,CH lm,CH lh,o4,o5,o6,o7,o8,o9]/\au H H'/\nQ H' lh (bE T (eJ ks fs))) (fun N hN=>?_) ?_
 ·refine ⟨_,rfl,lk,rfl,⟨_,aP.of (g12 _ _ a2)⟩,bH (xs:=as.map V.ref) (fun i σ H'=>∃o4 o5 o6 o7 o8 o9,σ= [CH lk,CH lt,CH lm,CH lh,o4,o5,o6,o7,o8,o9]/\au H H'/\nQ H' lh (bE T ((ks.take i).foldl (cY fs) (([],[]):AP)))) ⟨none,none,none,none,none,none,rfl,g12,eh⟩ (fun i σ H' _ h=>by obtain ⟨_,_,_,_,_,_,_,g,_⟩:=h;exact aP.of (g _ _ a2)) ?_ ?_⟩
  ·rintro i x σ H3 hx ⟨o4,o5,o6,o7,o8,o9,rfl,g3,ta⟩;obtain ⟨a,ha,rfl⟩:=cr hx;obtain ⟨k,hk',_⟩:=bT (d:=pG) a1 ha;have et:=a3 i a k ha hk';have ftk:=cE (cY fs) (([],[]):AP) hk';rw[ftk];generalize hb0:(ks.take i).foldl (cY fs) ([],[])=ap0 at ta⊢;refine ⟨a,_,rfl,bF.of (g3 _ _ et),rfl,_,_,rfl,_,_,rfl,_,_,rfl,_,_,rfl,rfl,?_⟩;change rX _ _ _ _ [some (.ref lk),some (.ref lt),some (.ref lm),some (.ref lh),some (.str k.1),some (.int k.2.1),some (.int k.2.2.1),some (.int k.2.2.2),o8,o9] H3;refine ⟨_,rfl,lt,_,rfl,.inl (aP.of (g3 _ _ b2)),_,rfl,by omega,(by rw[A5];omega),?_⟩
   refine cH (fun i=>decide (fs.getD i 0=k.2.1)) (fun i=> .int (0+(i:Int))) (by rw[A5];omega) (fun i hi H8 g8 R hR=>?_) (fun i hi H8 g8 Q' hQ=>⟨_,rfl,hQ⟩) (fun p H4 np g4 e4=>?_)
   ·have hi':i<bs.length:=by rw[A5] at hi;omega
    obtain ⟨f,hf,hd⟩:=bT (d:=(0:Int)) b1 (A0 hi');obtain ⟨v,w,e⟩:=b3 i _ f (A0 hi') hf;have at_:d8 (bs.map V.ref) (0+(i:Int))=some (.ref bs[i]):=by
     rw[C1];exact bI (by rw[A9,A0 hi'];rfl)
    rw[hd] at hR;exact ⟨_,rfl,_,rfl,lt,_,_,_,rfl,rfl,aP.of (g8 _ _ (g3 _ _ b2)),at_,_,_,_,_,rfl,rfl,bF.of (g8 _ _ (g3 _ _ e)),rfl,_,rfl,rfl,_,rfl,by rw[vg];exact hR⟩
   have g34:=g3.trans g4;have ep:H4 p=some (.lst ((bA fs k.2.1).map V.int)):=by rw[e4,gI,BK,A5,b1]
   have ph:p≠lh:=fun z=>by rw[z,show H3 lh=_ from ta] at np;cases np
   refine ⟨p,rfl,⟨_,aP.of ep⟩,bH (xs:=(bA fs k.2.1).map V.int) (fun j σ H'=>∃o8 o9,σ= [CH lk,CH lt,CH lm,CH lh,some (.str k.1),some (.int k.2.1),some (.int k.2.2.1),some (.int k.2.2.2),o8,o9]/\au H H'/\H' p=some (.lst ((bA fs k.2.1).map V.int))/\nQ H' lh (bE T (((bA fs k.2.1).take j).foldl (jo k (bA fs k.2.2.1)) ap0))) ⟨_,_,rfl,g34,ep,g4 _ _ ta⟩ (fun j σ H' _ h=>by obtain ⟨_,_,_,_,e,_⟩:=h;exact aP.of e) ?_ ?_⟩
   ·rintro j x σ H5 hx ⟨o8,o9,rfl,g5,ep5,ta⟩;rw[A9] at hx;obtain ⟨s,hs,rfl⟩:=AO.mp hx;have sb:=fE (AR hs);rw[cE (jo k (bA fs k.2.2.1)) ap0 hs];generalize hb1:((bA fs k.2.1).take j).foldl (jo k (bA fs k.2.2.1)) ap0=ap1 at ta⊢;change rX _ _ _ _ [some (.ref lk),some (.ref lt),some (.ref lm),some (.ref lh),some (.str k.1),some (.int k.2.1),some (.int k.2.2.1),some (.int k.2.2.2),some (.int s),o9] H5;refine ⟨_,rfl,lt,_,rfl,.inl (aP.of (g5 _ _ b2)),_,rfl,by omega,(by rw[A5];omega),?_⟩
    refine cH (fun i=>decide (fs.getD i 0=k.2.2.1)) (fun i=> .int (0+(i:Int))) (by rw[A5];omega) (fun i hi H8 g8 R hR=>?_) (fun i hi H8 g8 Q' hQ=>⟨_,rfl,hQ⟩) (fun p2 H6 np2 g6 e6=>?_)
    ·have hi':i<bs.length:=by rw[A5] at hi;omega
     obtain ⟨f,hf,hd⟩:=bT (d:=(0:Int)) b1 (A0 hi');obtain ⟨v,w,e⟩:=b3 i _ f (A0 hi') hf;have at_:d8 (bs.map V.ref) (0+(i:Int))=some (.ref bs[i]):=by
      rw[C1];exact bI (by rw[A9,A0 hi'];rfl)
     rw[hd] at hR;exact ⟨_,rfl,_,rfl,lt,_,_,_,rfl,rfl,aP.of (g8 _ _ (g5 _ _ b2)),at_,_,_,_,_,rfl,rfl,bF.of (g8 _ _ (g5 _ _ e)),rfl,_,rfl,rfl,_,rfl,by rw[vg];exact hR⟩
    have g56:=g5.trans g6;have ep2:H6 p2=some (.lst ((bA fs k.2.2.1).map V.int)):=by rw[e6,gI,BK,A5,b1]
    have ph2:p2≠lh:=fun z=>by rw[z,show H5 lh=_ from ta] at np2;cases np2
    refine ⟨p2,rfl,⟨_,aP.of ep2⟩,bH (xs:=(bA fs k.2.2.1).map V.int) (fun u σ H'=>∃o9,σ= [CH lk,CH lt,CH lm,CH lh,some (.str k.1),some (.int k.2.1),some (.int k.2.2.1),some (.int k.2.2.2),some (.int s),o9]/\au H H'/\H' p=some (.lst ((bA fs k.2.1).map V.int))/\H' p2=some (.lst ((bA fs k.2.2.1).map V.int))/\nQ H' lh (bE T (((bA fs k.2.2.1).take u).foldl (dZ k s) ap1))) ⟨_,rfl,g56,g6 _ _ ep5,ep2,g6 _ _ ta⟩ (fun u σ H' _ h=>by obtain ⟨_,_,_,_,e,_⟩:=h;exact aP.of e) ?_ ?_⟩
    ·rintro u x σ H7 hx ⟨o9,rfl,g7,ep7,ep27,ta⟩;rw[A9] at hx;obtain ⟨o,ho,rfl⟩:=AO.mp hx;have ob:=fE (AR ho);rw[cE (dZ k s) ap1 ho];generalize hb2:((bA fs k.2.2.1).take u).foldl (dZ k s) ap1=ap2 at ta⊢;obtain ⟨h0,h1,eh2⟩:∃h0 h1,bE T ap2=(h0,h1):=⟨_,_,rfl⟩;rw[eh2] at ta;obtain ⟨ts,at1,e1⟩:=c3 s sb.1 (by omega)
     obtain ⟨to,at2,e2⟩:=c3 o ob.1 (by omega)
     change L2.jA _ _ _ [some (.ref lk),some (.ref lt),some (.ref lm),some (.ref lh),some (.str k.1),some (.int k.2.1),some (.int k.2.2.1),some (.int k.2.2.2),some (.int s),some (.int o)] H7;refine cut (fun σ H'=>σ= [CH lk,CH lt,CH lm,CH lh,some (.str k.1),some (.int k.2.1),some (.int k.2.2.1),some (.int k.2.2.2),some (.int s),some (.int o)]/\au H H'/\H' p=some (.lst ((bA fs k.2.1).map V.int))/\H' p2=some (.lst ((bA fs k.2.2.1).map V.int))/\nQ H' lh (h0,if k.1= "apart" then h1&& !cP T s o else h1)) (fun N hN=>?_) ?_
     ·refine ⟨_,rfl,rfl,_,rfl,tK (fun c=>?_) fun c=>eU (hN _ _ ⟨rfl,g7,ep7,ep27,by rw[if_neg c];exact ta⟩)⟩
      refine ⟨_,rfl,_,rfl,lm,_,_,_,rfl,rfl,aP.of (g7 _ _ c1),at1,_,rfl,_,rfl,lm,_,_,_,rfl,rfl,aP.of (g7 _ _ c1),at2,ts,to,_,_,rfl,g7 _ _ e1,g7 _ _ e2,_,rfl,?_⟩;show if cP T s o=true then _ else _
      cases mt:cP T s o with
      |true=>exact om ⟨_,rfl,lh,_,1,1,rfl,rfl,ta,rfl,hN _ _ ⟨rfl,dE g7 nlh _,by rw[am ph];exact ep7,by rw[am ph2];exact ep27,by rw[if_pos c,mt,B1,BR];exact af⟩⟩
      |false=>exact eU (hN _ _ ⟨rfl,g7,ep7,ep27,by rw[if_pos c,mt,Be,BM];exact ta⟩)
     rintro σ H8 ⟨rfl,g8,ep8,ep28,ta⟩;generalize hb1':(if k.1= "apart" then h1&& !cP T s o else h1)=b1 at ta
     refine cut (fun σ H'=>σ= [CH lk,CH lt,CH lm,CH lh,some (.str k.1),some (.int k.2.1),some (.int k.2.2.1),some (.int k.2.2.2),some (.int s),some (.int o)]/\au H H'/\H' p=some (.lst ((bA fs k.2.1).map V.int))/\H' p2=some (.lst ((bA fs k.2.2.1).map V.int))/\nQ H' lh (if k.1= "apart" then h0 else h0&& !decide ((eM T s).1<(eM T o).2),b1)) (fun N hN=>?_) ?_
     ·refine ⟨_,rfl,rfl,_,rfl,xP (fun c=>?_) fun c=>eU (hN _ _ ⟨rfl,g8,ep8,ep28,by rw[if_pos c];exact ta⟩)⟩
      refine ⟨_,rfl,_,rfl,lm,_,_,_,rfl,rfl,aP.of (g8 _ _ c1),at1,ts,_,_,_,rfl,rfl,bF.of (g8 _ _ e1),rfl,_,rfl,_,rfl,lm,_,_,_,rfl,rfl,aP.of (g8 _ _ c1),at2,to,_,_,_,rfl,rfl,bF.of (g8 _ _ e2),rfl,_,_,rfl,rfl,_,rfl,d2 (fun d=>?_) fun d=>hN _ _ ⟨rfl,g8,ep8,ep28,by rw[if_neg c,decide_eq_false d,Be,BM];exact ta⟩⟩
      exact ⟨_,rfl,lh,_,0,0,rfl,rfl,ta,rfl,hN _ _ ⟨rfl,dE g8 nlh _,by rw[am ph];exact ep8,by rw[am ph2];exact ep28,by rw[if_neg c,decide_eq_true d,B1,BR];exact af⟩⟩
     rintro σ H9 ⟨rfl,g9,ep9,ep29,ta⟩;generalize hb2':(if k.1= "apart" then h0 else h0&& !decide ((eM T s).1<(eM T o).2))=b0 at ta
     have fin:∀H':Hp,au H H'->H' p=some (.lst ((bA fs k.2.1).map V.int))->H' p2=some (.lst ((bA fs k.2.2.1).map V.int))->nQ H' lh (if k.1= "within" then b0&& !decide ((eM T s).1>(eM T o).2+k.2.2.2) else b0,b1)->∃o9:Option V,([some (.ref lk),some (.ref lt),some (.ref lm),some (.ref lh),some (.str k.1),some (.int k.2.1),some (.int k.2.2.1),some (.int k.2.2.2),some (.int s),some (.int o)]:L2.St)= [some (.ref lk),some (.ref lt),some (.ref lm),some (.ref lh),some (.str k.1),some (.int k.2.1),some (.int k.2.2.1),some (.int k.2.2.2),some (.int s),o9]/\au H H'/\H' p=some (.lst ((bA fs k.2.1).map V.int))/\H' p2=some (.lst ((bA fs k.2.2.1).map V.int))/\nQ H' lh (bE T (dZ k s ap2 o)):=fun H' g q1 q2 hd=>by
      refine ⟨_,rfl,g,q1,q2,?_⟩
      by_cases ca:k.1= "apart"
      ·rw[mE ca,eh2];rw[if_neg (fun z=>by rw[ca] at z;exact absurd z (by decide)),<-hb1',<-hb2',if_pos ca,if_pos ca] at hd
       exact hd
      ·by_cases cw:k.1= "within"
       ·rw[kJ cw,eh2];rw[if_pos cw,<-hb1',<-hb2',if_neg ca,if_neg ca] at hd;exact hd
       ·rw[pF ca cw,eh2];rw[if_neg cw,<-hb1',<-hb2',if_neg ca,if_neg ca] at hd;exact hd
     refine ⟨_,rfl,rfl,_,rfl,tK (fun c=>?_) fun c=>eU (fin _ g9 ep9 ep29 (by rw[if_neg c];exact ta))⟩
     refine ⟨_,rfl,_,rfl,lm,_,_,_,rfl,rfl,aP.of (g9 _ _ c1),at1,ts,_,_,_,rfl,rfl,bF.of (g9 _ _ e1),rfl,_,rfl,_,rfl,lm,_,_,_,rfl,rfl,aP.of (g9 _ _ c1),at2,to,_,_,_,rfl,rfl,bF.of (g9 _ _ e2),rfl,_,rfl,_,_,rfl,rfl,_,_,rfl,rfl,_,rfl,d2 (fun d=>?_) fun d=>fin _ g9 ep9 ep29 (by rw[if_pos c,decide_eq_false d,Be,BM];exact ta)⟩
     exact ⟨_,rfl,lh,_,0,0,rfl,rfl,ta,rfl,fin _ (dE g9 nlh _) (by rw[am ph];exact ep9) (by rw[am ph2];exact ep29) (by rw[if_pos c,decide_eq_true d,B1,BR];exact af)⟩
    ·rintro σ H7 ⟨o9,rfl,g7,ep7,ep27,ta⟩;rw[A5,bZ] at ta;exact ⟨_,_,rfl,g7,ep7,ta⟩
   ·rintro σ H5 ⟨o8,o9,rfl,g5,ep5,ta⟩;rw[A5,bZ] at ta;exact ⟨_,_,_,_,_,_,rfl,g5,ta⟩
  ·rintro σ H3 ⟨o4,o5,o6,o7,o8,o9,rfl,g3,ta⟩;rw[A5,a1,bZ] at ta;exact hN _ _ ⟨o4,o5,o6,o7,o8,o9,rfl,g3,ta⟩
 rintro σ H3 ⟨o4,o5,o6,o7,o8,o9,rfl,g3,ta⟩;exact ⟨_,rfl,q lh H3 g3 ta⟩
theorem wP {dV:Value} (F:a9 K "_law_told_hold" "_law_told_hold" vI dV f fd) (DZ27:Dx P w K mg base ba 1 "_law_meet" ["_law_one","_law_other"] [] gP):a7 P w K mg base ba 2 f fd ["_law_arcs","_law_apart","_law_times_here"] kN:=by
 have sc:aD ["_law_arcs","_law_apart","_law_times_here","_law_held","_law_p","_law_q","_law_lag","_law_one","_law_other"] ["_law_arcs","_law_apart","_law_times_here"] (ar vI):=dG (by decide+kernel)
 refine F.ok sc (fun vs H Q E h=>?_) (fun cdv A outer s H vs Q E hr h=>?_)
 ·obtain ⟨_,_,_,_,_,_,rfl,_⟩:=h
  rfl
 obtain ⟨la,lb,lm,A1,P1,T,rfl,⟨as,a1,a2,a3⟩,⟨bs,b1,b2,b3⟩,tma,rm,q⟩:=h;refine ⟨_,(ae (cD 3 sc (@bL _ _ _ _ (@aa _ _ _ _ _ bV (@aa _ _ _ _ _ bV ag rfl) rfl))) (ae (bG PassesOwn.never rfl (bD (pv 0)) (dO rfl (aX (fG 4 sc) (aX (fG 5 sc) (aX (fG 6 sc) c6)))) (ai (bh (aC dJ (av aK (av aW (pv 2) (ak aH (pv 5) ad) (fun _ _=>rfl)) (ak aw (pv 5) ad) (fun _ _=>rfl)) (ak aT (av aK (av aW (pv 2) (ak aH (pv 4) ad) (fun _ _=>rfl)) (ak aw (pv 4) ad) (fun _ _=>rfl)) (pv 6)) (aJ _)) (ai (eQ bV (f9 (pv 3) ad set_list))) aS))) (ae (bG PassesOwn.never rfl (bD (pv 1)) (dO rfl (aX (fG 7 sc) (aX (fG 8 sc) c6))) (ai (bh (eO (dh DZ27 hr (@aa _ _ _ _ _ (av aW (pv 2) (pv 7) (fun _ _=>rfl)) (@aa _ _ _ _ _ (av aW (pv 2) (pv 8) (fun _ _=>rfl)) ag rfl) rfl))) (ai (eQ bV (f9 (pv 3) ad set_list))) aS))) (ai (aI (pv 3)))))),?_⟩
 try dsimp only[cxK]
 refine ⟨by show 2<=sizeLine;decide,fun lh nlh=>?_⟩
 have g1:=ao nlh (.lst [.bl true,.bl true]);have eh:aL H lh (.lst [.bl true,.bl true]) lh=some (.lst [.bl true,.bl true]):=af;generalize aL H lh (.lst [.bl true,.bl true])=H1 at g1 eh⊢;dsimp only[b9,c9];change L2.jA _ _ _ [some (.ref la),some (.ref lb),some (.ref lm),some (.ref lh),none,none,none,none,none] H1;obtain ⟨cs,c1,c2,c3⟩:=tma.at_;refine cut (fun σ H'=>∃o4 o5 o6 o7 o8,σ= [CH la,CH lb,CH lm,CH lh,o4,o5,o6,o7,o8]/\au H H'/\nQ H' lh (A1.all (rC T),true)) (fun N hN=>?_) ?_
 ·refine ⟨_,rfl,la,rfl,⟨_,aP.of (g1 _ _ a1)⟩,bH (xs:=as.map V.ref) (fun i σ H'=>∃o4 o5 o6 o7 o8,σ= [CH la,CH lb,CH lm,CH lh,o4,o5,o6,o7,o8]/\au H H'/\nQ H' lh ((A1.take i).all (rC T),true)) ⟨none,none,none,none,none,rfl,g1,eh⟩ (fun i σ H' _ h=>by obtain ⟨_,_,_,_,_,_,g,_⟩:=h;exact aP.of (g _ _ a1)) ?_ ?_⟩
  ·rintro i x σ H2 hx ⟨o4,o5,o6,o7,o8,rfl,g2,eh2⟩;obtain ⟨a,ha,rfl⟩:=cr hx;have il:i<A1.length:=by have:=(A3.mp ha).1;omega
   have hk:=A0 il;have et:=a3 i a _ ha hk;obtain ⟨p,q',lag,er,p0,p1,q0,q1⟩:=rm.1 _ (BO il);rw[er] at et hk;have et:=g2 _ _ et;have tk:(A1.take (i+1)).all (rC T)=((A1.take i).all (rC T)&&rC T [p,q',lag]):=by rw[BF,hk,BQ,List.all_append,C6,List.all_nil,BM]
   rw[tk];refine ⟨a,_,rfl,bF.of et,rfl,_,_,rfl,_,_,rfl,_,_,rfl,rfl,?_⟩;have hq:=nP q0 q1;have hp:=nP p0 p1;obtain ⟨ta,at1,e1⟩:=c3 _ hq.1 hq.2;obtain ⟨tb,at2,e2⟩:=c3 _ hp.1 hp.2;have w1:=rO (eM T (q'.fdiv 2)) q';have w2:=rO (eM T (p.fdiv 2)) p;dsimp only;refine ⟨_,rfl,_,rfl,_,_,rfl,rfl,⟨by decide,AC (by decide)⟩,lm,_,_,_,rfl,rfl,aP.of (g2 _ _ c1),at1,_,rfl,_,_,rfl,rfl,(by show (2:Int)≠0;decide),ta,_,_,_,rfl,rfl,bF.of (g2 _ _ e1),w1,?_⟩
   refine ⟨_,rfl,_,rfl,_,_,rfl,rfl,⟨by decide,AC (by decide)⟩,lm,_,_,_,rfl,rfl,aP.of (g2 _ _ c1),at2,_,rfl,_,_,rfl,rfl,(by show (2:Int)≠0;decide),tb,_,_,_,rfl,rfl,bF.of (g2 _ _ e2),w2,_,rfl,_,_,rfl,rfl,_,_,rfl,rfl,_,rfl,d2 (fun c=>?_) fun c=>?_⟩
   ·have ok:rC T [p,q',lag]=false:=by
     have c:tm T q'<tm T p+lag:=c;show (!decide (tm T q'<tm T p+lag))=false;rw[decide_eq_true c]
     rfl
    exact ⟨_,rfl,lh,_,0,0,rfl,rfl,eh2,rfl,_,_,_,_,_,rfl,dE g2 nlh _,by rw[ok,BR];exact af⟩
   ·have ok:rC T [p,q',lag]=true:=by
     have c:¬tm T q'<tm T p+lag:=c;show (!decide (tm T q'<tm T p+lag))=true;rw[decide_eq_false c]
     rfl
    exact ⟨_,_,_,_,_,rfl,g2,by rw[ok,BM];exact eh2⟩
  ·rintro σ H2 ⟨o4,o5,o6,o7,o8,rfl,g2,eh2⟩;rw[A5,a2,List.take_length] at eh2;exact hN _ _ ⟨o4,o5,o6,o7,o8,rfl,g2,eh2⟩
 rintro σ H2 ⟨o4,o5,o6,o7,o8,rfl,g2,eh2⟩;refine cut (fun σ H'=>∃o4 o5 o6 o7 o8,σ= [CH la,CH lb,CH lm,CH lh,o4,o5,o6,o7,o8]/\au H H'/\nQ H' lh (bE T (A1,P1))) (fun N hN=>?_) ?_
 ·refine ⟨_,rfl,lb,rfl,⟨_,aP.of (g2 _ _ b1)⟩,bH (xs:=bs.map V.ref) (fun i σ H'=>∃o4 o5 o6 o7 o8,σ= [CH la,CH lb,CH lm,CH lh,o4,o5,o6,o7,o8]/\au H H'/\nQ H' lh (A1.all (rC T),(P1.take i).all (wq T))) ⟨_,_,_,_,_,rfl,g2,eh2⟩ (fun i σ H' _ h=>by obtain ⟨_,_,_,_,_,_,g,_⟩:=h;exact aP.of (g _ _ b1)) ?_ ?_⟩
  ·rintro i x σ H3 hx ⟨o4,o5,o6,o7,o8,rfl,g3,eh3⟩;obtain ⟨a,ha,rfl⟩:=cr hx;have il:i<P1.length:=by have:=(A3.mp ha).1;omega
   have hk:=A0 il;have et:=b3 i a _ ha hk;obtain ⟨p,q',er,p0,p1,q1⟩:=rm.2 _ (BO il);rw[er] at et hk;have et:=g3 _ _ et;have tk:(P1.take (i+1)).all (wq T)=((P1.take i).all (wq T)&& !cP T p q'):=by rw[BF,hk,BQ,List.all_append,C6,List.all_nil,BM];rfl
   rw[tk];refine ⟨a,_,rfl,bF.of et,rfl,_,_,rfl,_,_,rfl,rfl,?_⟩;obtain ⟨ta,at1,e1⟩:=c3 p p0 (by omega)
   obtain ⟨tb,at2,e2⟩:=c3 q' (by omega) q1
   dsimp only;refine ⟨_,rfl,_,rfl,lm,_,_,_,rfl,rfl,aP.of (g3 _ _ c1),at1,_,rfl,_,rfl,lm,_,_,_,rfl,rfl,aP.of (g3 _ _ c1),at2,ta,tb,_,_,rfl,g3 _ _ e1,g3 _ _ e2,_,rfl,?_⟩;show if cP T p q'=true then _ else _
   cases c:cP T p q' with
   |true=>exact om ⟨_,rfl,lh,_,1,1,rfl,rfl,eh3,rfl,_,_,_,_,_,rfl,dE g3 nlh _,by rw[B1,BR];exact af⟩
   |false=>exact eU ⟨_,_,_,_,_,rfl,g3,by rw[Be,BM];exact eh3⟩
  ·rintro σ H3 ⟨o4,o5,o6,o7,o8,rfl,g3,eh3⟩;rw[A5,b2,List.take_length] at eh3;exact hN _ _ ⟨o4,o5,o6,o7,o8,rfl,g3,eh3⟩
 rintro σ H3 ⟨o4,o5,o6,o7,o8,rfl,g3,eh3⟩;exact ⟨_,rfl,q lh H3 g3 eh3⟩
theorem wQ {dV:Value} (F:a9 K "_law_in_room" "_law_in_room" vJ dV f fd):a7 P w K mg base ba 1 f fd ["_law_arcs","_law_apart","_law_many"] kO:=by
 have sc:aD ["_law_arcs","_law_apart","_law_many","_law_p","_law_q","_law_lag","_law_one","_law_other"] ["_law_arcs","_law_apart","_law_many"] (ar vJ):=dG (by decide+kernel)
 refine F.ok sc (fun vs H Q E h=>?_) (fun cdv A outer s H vs Q E hr h=>?_)
 ·obtain ⟨_,_,_,_,_,rfl,_⟩:=h
  rfl
 obtain ⟨la,lb,A1,P1,n,rfl,⟨as,a1,a2,a3⟩,⟨bs,b1,b2,b3⟩,rm,q⟩:=h;refine ⟨_,(ae (bG PassesOwn.never rfl (bD (pv 0)) (dO rfl (aX (fG 3 sc) (aX (fG 4 sc) (aX (fG 5 sc) c6)))) (ai (bh (PW.pt (pP (dN (jE jC dJ ad (pv 3) (ak bv ad (pv 2)))) (kZ (dN (jE jC dJ ad (pv 4) (ak bv ad (pv 2))))))) (ai (aI bV)) aS))) (ae (bG PassesOwn.never rfl (bD (pv 1)) (dO rfl (aX (fG 6 sc) (aX (fG 7 sc) c6))) (ai (bh (dN (oE jC dJ dJ ad (pv 6) (pv 7) (pv 2))) (ai (aI bV)) aS))) (ai (aI bV)))),?_⟩;try dsimp only[cxK]
 refine cut (fun σ H'=>∃o3 o4 o5 o6 o7,σ= [CH la,CH lb,some (.int n),o3,o4,o5,o6,o7]/\H=H') (fun N hN=>?_) ?_
 ·refine ⟨_,rfl,la,rfl,⟨_,aP.of a1⟩,bH (xs:=as.map V.ref) (fun i σ H'=>∃o3 o4 o5 o6 o7,σ= [CH la,CH lb,some (.int n),o3,o4,o5,o6,o7]/\H=H') ⟨none,none,none,none,none,rfl,rfl⟩ (fun i σ H' _ h=>by obtain ⟨_,_,_,_,_,_,rfl⟩:=h;exact aP.of a1) ?_ ?_⟩
  ·rintro i x σ _ hx ⟨o3,o4,o5,o6,o7,rfl,rfl⟩;obtain ⟨a,ha,rfl⟩:=cr hx;have hk:=A0 (show i<A1.length by have:=(A3.mp ha).1;omega)
   have et:=a3 i a _ ha hk;obtain ⟨p,q',lag,er,p0,p1,q0,q1⟩:=rm.1 _ (BO _:A1[i]'(by have:=(A3.mp ha).1;omega)∈A1)
   rw[er] at et;refine ⟨a,_,rfl,bF.of et,rfl,_,_,rfl,_,_,rfl,_,_,rfl,rfl,?_⟩;dsimp only;refine ⟨_,rfl,_,_,rfl,rfl,_,rfl,d2 (fun _=>?_) fun c=>absurd p0 c⟩
   refine ⟨_,rfl,_,_,rfl,rfl,IntMulOk.of_left (by decide),_,_,rfl,rfl,_,rfl,nF p1 ?_⟩
   refine ⟨_,rfl,_,_,rfl,rfl,_,rfl,d2 (fun _=>?_) fun c=>absurd q0 c⟩
   exact ⟨_,rfl,_,_,rfl,rfl,IntMulOk.of_left (by decide),_,_,rfl,rfl,_,rfl,nF q1 ⟨_,_,_,_,_,rfl,rfl⟩⟩
  ·rintro σ _ ⟨o3,o4,o5,o6,o7,rfl,rfl⟩;exact hN _ _ ⟨o3,o4,o5,o6,o7,rfl,rfl⟩
 rintro σ _ ⟨o3,o4,o5,o6,o7,rfl,rfl⟩;refine cut (fun σ H'=>∃o3 o4 o5 o6 o7,σ= [CH la,CH lb,some (.int n),o3,o4,o5,o6,o7]/\H=H') (fun N hN=>?_) ?_
 ·refine ⟨_,rfl,lb,rfl,⟨_,aP.of b1⟩,bH (xs:=bs.map V.ref) (fun i σ H'=>∃o3 o4 o5 o6 o7,σ= [CH la,CH lb,some (.int n),o3,o4,o5,o6,o7]/\H=H') ⟨_,_,_,_,_,rfl,rfl⟩ (fun i σ H' _ h=>by obtain ⟨_,_,_,_,_,_,rfl⟩:=h;exact aP.of b1) ?_ ?_⟩
  ·rintro i x σ _ hx ⟨o3,o4,o5,o6,o7,rfl,rfl⟩;obtain ⟨a,ha,rfl⟩:=cr hx;have il:i<P1.length:=by have:=(A3.mp ha).1;omega
   have et:=b3 i a _ ha (A0 il);obtain ⟨p,q',er,p0,p1,q1⟩:=rm.2 _ (BO il);rw[er] at et;refine ⟨a,_,rfl,bF.of et,rfl,_,_,rfl,_,_,rfl,rfl,?_⟩;dsimp only;refine ⟨_,rfl,_,_,rfl,rfl,_,rfl,d2 (fun _=>?_) fun c=>absurd p0 c⟩
   refine ⟨_,rfl,_,_,rfl,rfl,_,rfl,d2 (fun _=>?_) fun c=>absurd p1 c⟩
   exact ⟨_,rfl,_,_,rfl,rfl,_,rfl,nF q1 ⟨_,_,_,_,_,rfl,rfl⟩⟩
  ·rintro σ _ ⟨o3,o4,o5,o6,o7,rfl,rfl⟩;exact hN _ _ ⟨o3,o4,o5,o6,o7,rfl,rfl⟩
 rintro σ _ ⟨o3,o4,o5,o6,o7,rfl,rfl⟩;exact q _ (.refl _)
theorem wR {dV:Value} (F:a9 K "_law_in_order" "_law_in_order" vK dV f fd):a7 P w K mg base ba 1 f fd ["_law_tasks"] iN:=by
 have sc:aD ["_law_tasks","_law_k","_law_number","_law_turn","_law_ahead"] ["_law_tasks"] (ar vK):=dG (by decide+kernel)
 refine F.ok sc (fun vs H Q E h=>?_) (fun cdv A outer s H vs Q E hr h=>?_)
 ·obtain ⟨_,_,_,rfl,_⟩:=h
  rfl
 obtain ⟨lt,ts,n,rfl,⟨as,b1,b2,b3⟩,od,tl,q⟩:=h;have sl:sizeLine=16777216:=sizeLine_eq;refine ⟨_,(ae (bG PassesOwn.never rfl (bz rfl B.yR (@aa _ _ _ _ _ (aU aY rfl B.ze boot_len (@aa _ _ _ _ _ (pv 0) ag rfl)) ag rfl)) (fG 1 sc) (ae (cD 2 sc (av aK (av aW (pv 0) (pv 1) (fun _ _=>rfl)) ad (fun _ _=>rfl))) (ae (cD 3 sc (av aK (av aW (pv 0) (pv 1) (fun _ _=>rfl)) ad (fun _ _=>rfl))) (ae (cD 4 sc (@bB _ _ _ _ _ (@aa _ _ _ _ _ (hV eR ad) (@aa _ _ _ _ _ ad ag rfl) rfl))) (ae (bh (aC jD (pv 1) ad (aJ _)) (ai (cD 4 sc (@bB _ _ _ _ _ (@aa _ _ _ _ _ (av aK (av aW (pv 0) (ak dj (pv 1) ad) (fun _ _=>rfl)) ad (fun _ _=>rfl)) (@aa _ _ _ _ _ (av aK (av aW (pv 0) (ak dj (pv 1) ad) (fun _ _=>rfl)) ad (fun _ _=>rfl)) ag rfl) rfl)))) aS) (ae (bh (PW.pt (eP (aC jD (pv 3) ad (aJ _)) (dA (aC (sU hr.units0) (pv 4) (@bB _ _ _ _ _ (@aa _ _ _ _ _ (pv 2) (@aa _ _ _ _ _ (ak dj (pv 3) ad) ag rfl) rfl)) (aJ _))))) (ai (aI bV)) aS) (ai (bh (PW.pt (eP (aC ce (pv 3) ad (aJ _)) (dA (aC hW (av aK (pv 4) ad (fun _ _=>rfl)) (ak dj (pv 2) ad) (aJ _))))) (ai (aI bV)) aS)))))))) (ai (aI (fW jC (aU aY rfl B.ze boot_len (@aa _ _ _ _ _ (pv 0) ag rfl)) ad (aJ _))))),?_⟩
 try dsimp only[cxK]
 refine cut (fun σ H'=>∃o1 o2 o3 o4,σ= [CH lt,o1,o2,o3,o4]/\au H H') (fun N hN=>?_) ?_
 ·refine ⟨_,rfl,lt,_,rfl,.inl (aP.of b2),_,rfl,by omega,(by rw[A5];omega),cT (fun i σ H'=>∃o1 o2 o3 o4,σ= [CH lt,o1,o2,o3,o4]/\au H H') ⟨none,none,none,none,rfl,.refl _⟩ (fun i σ H1 hi hP=>?_) (fun σ H1 hP=>hN _ _ hP)⟩
  obtain ⟨o1,o2,o3,o4,rfl,g1⟩:=hP;have il:i<as.length:=by rw[A5] at hi;omega
  have ha:=A0 il;have hk:=A0 (show i<ts.length by omega)
  obtain ⟨w,et⟩:=b3 i _ _ ha hk;have et:=g1 _ _ et;have eb:=g1 _ _ b2;generalize ts[i]=t at hk et;have tn:=od.nn t (AR hk);have at_:d8 (as.map V.ref) (0+(i:Int))=some (.ref as[i]):=by
   rw[C1];exact bI (by rw[A9,ha];rfl)
  refine ⟨_,rfl,_,rfl,lt,_,_,_,rfl,rfl,aP.of eb,at_,_,_,_,_,rfl,rfl,bF.of et,rfl,?_⟩;dsimp only;refine ⟨_,rfl,_,rfl,lt,_,_,_,rfl,rfl,aP.of eb,at_,_,_,_,_,rfl,rfl,bF.of et,rfl,?_⟩;dsimp only;change L2.jA (k7 _ _) _ _ [some (.ref lt),some (.int (0+(i:Int))),some (.int t.1),some (.int t.2),o4] H1;refine cut (fun σ H'=>∃ah:Addr,σ= [CH lt,some (.int (0+(i:Int))),some (.int t.1),some (.int t.2),CH ah]/\au H H'/\H' ah=some (.tup [.int (-1),.int 0])) (fun N hN=>⟨_,rfl,by show 2<=sizeLine;decide,fun ah nah=>hN _ _ ⟨ah,rfl,g1.trans (ao nah _),af⟩⟩) ?_
  rintro σ H2 ⟨ah,rfl,g2,eah⟩;refine cut (fun σ H'=>∃(ah:Addr) (x y:Int),σ= [CH lt,some (.int (0+(i:Int))),some (.int t.1),some (.int t.2),CH ah]/\au H H'/\H' ah=some (.tup [.int x,.int y])/\(0<t.2->x=t.1/\y=t.2-1)/\(t.2=0->x=t.1-1)) (fun N hN=>?_) ?_
  ·refine ⟨_,rfl,_,_,rfl,rfl,_,rfl,d2 (fun c=>?_) fun c=>hN _ _ ⟨ah,-1,0,rfl,g2,eah,fun tp=>?_,fun tz=>?_⟩⟩
   ·obtain ⟨k,rfl⟩:∃k,i=k+1:=⟨i-1,by omega⟩
    have ha1:=A0 (show k<as.length by omega)
    have hk1:=A0 (show k<ts.length by omega)
    obtain ⟨w1,et1⟩:=b3 k _ _ ha1 hk1;generalize ts[k]=u at hk1 et1;have et1:=g2 _ _ et1;have at1:d8 (as.map V.ref) (0+((k+1:Nat):Int)-1)=some (.ref as[k]):=by
     rw[show (0+((k+1:Nat):Int)-1)=(k:Int) by omega]
     exact bI (by rw[A9,ha1];rfl)
    refine ⟨_,rfl,_,rfl,_,_,rfl,rfl,lt,_,_,_,rfl,rfl,aP.of (g2 _ _ b2),at1,_,_,_,_,rfl,rfl,bF.of et1,rfl,_,rfl,_,rfl,_,_,rfl,rfl,lt,_,_,_,rfl,rfl,aP.of (g2 _ _ b2),at1,_,_,_,_,rfl,rfl,bF.of et1,rfl,by show 2<=sizeLine;decide,fun a2 n2=>hN _ _ ⟨a2,u.1,u.2,rfl,g2.trans (ao n2 _),af,fun tp=>?_,fun tz=>?_⟩⟩
    ·obtain ⟨j,e1,e2⟩:=od.up _ t hk tp;obtain rfl:k=j:=by omega
     rw[hk1] at e2;cases e2;exact ⟨rfl,rfl⟩
    ·rcases od.zero _ t hk tz with ⟨e1,_⟩|⟨j,v,e1,e2,e3⟩
     ·omega
     ·obtain rfl:k=j:=by omega
      rw[hk1] at e2;cases e2;exact e3
   ·obtain ⟨j,e1,e2⟩:=od.up _ t hk tp;omega
   ·rcases od.zero _ t hk tz with ⟨e1,e2⟩|⟨j,v,e1,e2,e3⟩
    ·omega
    ·omega
  rintro σ H3 ⟨a3,x,y,rfl,g3,e3,h1,h2⟩;refine cut (fun σ H'=>σ= [CH lt,some (.int (0+(i:Int))),some (.int t.1),some (.int t.2),CH a3]/\au H3 H') (fun N hN=>?_) ?_
  ·refine ⟨_,rfl,_,_,rfl,rfl,_,rfl,d2 (fun c=>?_) fun c=>hN _ _ ⟨rfl,.refl _⟩⟩
   obtain ⟨rfl,rfl⟩:=h1 c;refine ⟨_,rfl,_,rfl,_,rfl,_,_,rfl,rfl,by show 2<=sizeLine;decide,fun t9 n9=>?_⟩
   have g9:=ao n9 (.tup [.int t.1,.int (t.2-1)]);exact ⟨a3,t9,_,_,rfl,rfl,bF.of (g9 _ _ e3),bF.of af,_,rfl,eU (hN _ _ ⟨rfl,g9⟩)⟩
  rintro σ H4 ⟨rfl,g4⟩;refine ⟨_,rfl,rfl,_,rfl,rP (fun c=>?_) fun c=>⟨_,_,_,_,rfl,g3.trans g4⟩⟩
  have ex:=h2 c;exact ⟨_,rfl,a3,_,_,_,rfl,rfl,bF.of (g4 _ _ e3),rfl,_,rfl,_,_,rfl,rfl,rfl,_,rfl,nF (by rw[ex]) ⟨_,_,_,_,rfl,g3.trans g4⟩⟩
 rintro σ H1 ⟨o1,o2,o3,o4,rfl,g1⟩;refine ⟨_,rfl,lt,_,rfl,.inl (aP.of (g1 _ _ b2)),_,_,rfl,rfl,?_⟩;show Q (.bl (decide (((as.map V.ref).length:Int)<=24))) H1;rw[decide_eq_true (by rw[A5];omega)]
 exact q _ g1
theorem wS {dV:Value} (F:a9 K "law" "law" jr dV f fd) (DZ15:ju P w K mg base ba 1 zB ["self","name","plates","takes","steps","links"] [] (nS K)) (DZ20:Dx P w K mg base ba 3 "links_of" ["recipe","tasks"] [] (gO K)) (DZ21:Dx P w K mg base ba 1 "plates_of" ["recipe","tasks"] [] (iM K)) (DZ22:Dx P w K mg base ba 1 "_law_cell_at" ["_law_script","_law_k"] [] (lI K)) (DZ23:Dx P w K mg base ba 1 "_law_names" ["_law_number","_law_many"] [] j6) (DZ24:Dx P w K mg base ba 4 "_law_step" ["_law_cell","_law_name"] [] (kP yP yL on)) (DZ25:Dx P w K mg base ba 2 "_law_links" ["_law_script","_law_many"] [] (iP K)) (DZ26:Dx P w K mg base ba 2 "_law_times" ["_law_script","_law_many"] [] (iO K)) (DZ28:Dx P w K mg base ba 2 "_law_words_hold" ["_law_links_here","_law_tasks","_law_times_here"] [] nR) (DZ29:Dx P w K mg base ba 2 "_law_told_hold" ["_law_arcs","_law_apart","_law_times_here"] [] kN) (DZ30:Dx P w K mg base ba 1 "_law_in_room" ["_law_arcs","_law_apart","_law_many"] [] kO) (DZ31:Dx P w K mg base ba 1 "_law_in_order" ["_law_tasks"] [] iN) (XZ17:Dx P w K mg base (jt P w) 8 "tasks_of" ["recipe","plates","size"] [.non] (gN K yP yL on yM)):a7 P w K mg base ba 9 f fd ["_law_script"] (mZ K):=by
 have sc:aD ["_law_script","_law_head","_law_many","_law_names_here","_law_steps","_law_first","_law_plates","_law_links_here","_law_recipe","_law_tasks","_law_arcs","_law_apart","_law_times_here","_law_named"] ["_law_script"] (ar jr):=dG (by decide+kernel)
 refine F.ok sc (fun vs H Q E h=>?_) (fun cdv A outer s H vs Q E hr h=>?_)
 ·obtain ⟨_,_,rfl,_⟩:=h
  rfl
 obtain ⟨a,ns,rfl,hS,h63,qq⟩:=h;have sl:sizeLine=16777216:=sizeLine_eq;refine ⟨_,(ae (cQ (i:=1) sc.nd rfl (Or.inr rfl) (ak aw (dh DZ22 hr (@aa _ _ _ _ _ (pv 0) (@aa _ _ _ _ _ ad ag rfl) rfl)) (ak mW ad ad))) (ae (cD 2 sc (ak aT ad (ak aw (pv 1) ad))) (ae (cQ (i:=3) sc.nd rfl (Or.inr rfl) (dh DZ23 hr (@aa _ _ _ _ _ (dh DZ22 hr (@aa _ _ _ _ _ (pv 0) (@aa _ _ _ _ _ ad ag rfl) rfl)) (@aa _ _ _ _ _ (pv 2) ag rfl) rfl))) (ae (qw (hd:=none) (own:= "_law_k") (ys:= ["_law_names_here","_law_head"]) (js:= [3,1]) sc.nd (i:=4) rfl rfl hr.hd (rS (jS (jS rR)) (.cons rfl (.cons rfl .nil)) (by decide) rfl rfl rfl rfl rfl rfl rfl rfl) (iy rfl B.yR (@aa _ _ _ _ _ (pv 2) ag rfl)) (fun C fp s H=>(dh DZ24 hr (@aa _ _ _ _ _ (ak aT (ak aH (ak aH (pv 2) ad) (ak aT (pv 0) ad)) (ak bv (ak bv ad (pv 0)) (pv 0))) (@aa _ _ _ _ _ (av (ki (K:=K) rfl) (pv 1) (pv 0) (fun _ _=>rfl)) ag rfl) rfl)))) (ae (cD 5 sc (ak aT ad (ak aw (dh DZ22 hr (@aa _ _ _ _ _ (pv 0) (@aa _ _ _ _ _ ad ag rfl) rfl)) ad))) (ae (cD 6 sc (av aW (@bL _ _ _ _ (@aa _ _ _ _ _ (aU (ic rfl) rfl B.Cc boot_min (@aa _ _ _ _ _ ad (@aa _ _ _ _ _ (ak bv (pv 5) (ak aT ad (ak aw (ak aH (pv 1) ad) ad))) ag rfl) rfl)) (@aa _ _ _ _ _ (ak aT ad (ak aw (ak aH (pv 1) ad) ad)) ag rfl) rfl)) (ak aw (ak aH (pv 1) ad) ad) (fun _ _=>rfl))) (ae (cD 7 sc (dh DZ25 hr (@aa _ _ _ _ _ (pv 0) (@aa _ _ _ _ _ (pv 2) ag rfl) rfl))) (ae (cD 8 sc (uR B.zW DZ15 hr (by decide) rfl B.zY (@aa _ _ _ _ _ bP (@aa _ _ _ _ _ (pv 5) (@aa _ _ _ _ _ (@bL _ _ _ _ ag) (@aa _ _ _ _ _ (pv 4) (@aa _ _ _ _ _ (pv 7) ag rfl) rfl) rfl) rfl) rfl))) (ae (uK rfl rfl (fun pins E=>(ai (cQ (i:=9) sc.nd rfl (Or.inr rfl) (uP XZ17 hr (by decide) rfl tX (@aa _ _ _ _ _ (pv 8) (@aa _ _ _ _ _ (pv 6) (@aa _ _ _ _ _ (@bB _ _ _ _ _ (@aa _ _ _ _ _ (ak aT ad (ak aw (ak aH (pv 1) ad) ad)) (@aa _ _ _ _ _ ad ag rfl) rfl)) ag rfl) rfl) rfl))))) (v9 B.zV rfl B.zM (fun pins a=>(ai (aI bV))) uL)) (ae (bh (PW.pt (pP (dN (eO (dh DZ31 hr (@aa _ _ _ _ _ (pv 9) ag rfl)))) (kZ (aC hW (av aK (av aW (pv 9) (hV eR ad) (fun _ _=>rfl)) ad (fun _ _=>rfl)) (ak dj (pv 2) ad) (aJ _))))) (ai (aI bV)) aS) (ae (eQ (dh DZ20 hr (@aa _ _ _ _ _ (pv 8) (@aa _ _ _ _ _ (pv 9) ag rfl) rfl)) (dO rfl (aX (fG 10 sc) (aX (fG 11 sc) c6)))) (ae (bh (dN (eO (dh DZ30 hr (@aa _ _ _ _ _ (pv 10) (@aa _ _ _ _ _ (pv 11) (@aa _ _ _ _ _ (aU aY rfl B.ze boot_len (@aa _ _ _ _ _ (pv 9) ag rfl)) ag rfl) rfl) rfl)))) (ai (aI bV)) aS) (ae (cD 12 sc (dh DZ26 hr (@aa _ _ _ _ _ (pv 0) (@aa _ _ _ _ _ (aU aY rfl B.ze boot_len (@aa _ _ _ _ _ (pv 9) ag rfl)) ag rfl) rfl))) (ae (bh (aC (tJ 0 (Nat.lt_trans (Nat.add_lt_add_left (by decide:0+1<64) _) hr.units)) (dh DZ28 hr (@aa _ _ _ _ _ (pv 7) (@aa _ _ _ _ _ (pv 9) (@aa _ _ _ _ _ (pv 12) ag rfl) rfl) rfl)) (dh DZ29 hr (@aa _ _ _ _ _ (pv 10) (@aa _ _ _ _ _ (pv 11) (@aa _ _ _ _ _ (pv 12) ag rfl) rfl) rfl)) (aJ _)) (ai (aI bV)) aS) (ae (cQ (i:=13) sc.nd rfl (Or.inr rfl) (bY (own:= "_law_link") (ys:= []) (js:= []) rfl (rS rR .nil (by decide) rfl rfl rfl rfl rfl rfl rfl rfl) (bD (pv 7)) (fun C fp s H=>(aC hW (av (cy (K:=K) rfl) (pv 0) ad (fun _ _=>rfl)) bP (aJ _))) (fun C fp s H=>(av (cy (K:=K) rfl) (pv 0) ad (fun _ _=>rfl))))) (ai (aI (fW (uV 0 (Nat.lt_trans (Nat.add_lt_add_left (by decide:0+1<64) _) hr.units)) (dh DZ21 hr (@aa _ _ _ _ _ (pv 8) (@aa _ _ _ _ _ (pv 9) ag rfl) rfl)) (bY (own:= "_law_k") (ys:= ["_law_named","_law_tasks"]) (js:= [13,9]) rfl (rS (jS (jS rR)) (.cons rfl (.cons rfl .nil)) (by decide) rfl rfl rfl rfl rfl rfl rfl rfl) (bz rfl B.yR (@aa _ _ _ _ _ (aU aY rfl B.ze boot_len (@aa _ _ _ _ _ (pv 9) ag rfl)) ag rfl)) (fun C fp s H=>(aC (iB (K:=K) rfl) (av (cy (K:=K) rfl) (av (qM (K:=K) rfl) (pv 2) (pv 0) (fun _ _=>rfl)) ad (fun _ _=>rfl)) (pv 1) (by with_unfolding_all rfl))) (fun C fp s H=>(pv 0))) (aJ _))))))))))))))))))),?_⟩
 try dsimp only[cxK]
 refine cut (fun σ H'=>∃hd:Int,σ= [CH a,some (.int hd),none,none,none,none,none,none,none,none,none,none,none,none]/\H=H'/\0<=hd) (fun N hN=>?_) ?_
 ·exact ⟨_,rfl,a,ns,0,rfl,hS,by decide,fun c0=>⟨_,_,rfl,rfl,⟨by decide,by decide⟩,_,_,rfl,rfl,(by show (10^12:Int)≠0;decide),hN _ _ ⟨_,rfl,rfl,AJ c0 (show (0:Int)<10^12 by decide)⟩⟩⟩
 rintro σ _ ⟨hd,rfl,rfl,hd0⟩;refine cut (fun σ H'=>∃mk:Nat,σ= [CH a,some (.int hd),some (.int mk),none,none,none,none,none,none,none,none,none,none,none]/\H=H'/\2<=mk/\mk<=6) (fun N hN=>?_) ?_
 ·have f0:=AJ hd (show (0:Int)<5 by decide)
  have f1:=AY hd (show (0:Int)<5 by decide)
  refine ⟨_,rfl,_,_,rfl,rfl,(by show (5:Int)≠0;decide),_,_,rfl,rfl,hN _ _ ⟨(2+hd.fmod 5).toNat,?_,rfl,by omega,by omega⟩⟩
  show [some (.ref a),some (.int hd),some (V.int (2+hd.fmod 5)),none,none,none,none,none,none,none,none,none,none,none]=_;rw[show (((2+hd.fmod 5).toNat:Nat):Int)=2+hd.fmod 5 by omega]
 rintro σ _ ⟨mk,rfl,rfl,k2,k6⟩;refine cut (fun σ H'=>∃(ln:Addr) (zs:CB),σ= [CH a,some (.int hd),some (.int mk),CH ln,none,none,none,none,none,none,none,none,none,none]/\au H H'/\H' ln=some (.lst (zs.map V.str))/\zs.length=mk) (fun N hN=>?_) ?_
 ·exact ⟨_,rfl,a,ns,1,rfl,hS,by decide,fun c1=>⟨_,rfl,c1,_,rfl,by omega,by omega,fun ln H2 zs g2 en zl=>hN _ _ ⟨ln,zs,rfl,g2,en,by omega⟩⟩⟩
 rintro σ H1 ⟨ln,zs,rfl,g1,en,zl⟩;refine cut (fun σ H'=>∃(ls:Addr) (xs:CC) (ss:List Sq),σ= [CH a,some (.int hd),some (.int mk),CH ln,CH ls,none,none,none,none,none,none,none,none,none]/\au H1 H'/\H' ls=some (.lst (xs.map V.ref))/\xs.length=mk/\ss.length=mk/\∀(i:Nat) (x:Addr) (s:Sq),xs[i]?=some x->ss[i]?=some s->rz yP yL on H' x s) (fun N hN=>?_) ?_
 ·refine ⟨_,rfl,mk,rfl,by omega,by omega,oQ (n:=mk) (fun G i y G'=>∃(x:Addr) (s:Sq),y= .ref x/\∀G2:Hp,(∀b o,G b=none->G' b=some o->G2 b=some o)->rz yP yL on G2 x s) iY.no (by omega) (fun i hi H3 g3 Q' hQ=>?_) (fun p ys H' np hl ht g' e'=>?_)⟩
  ·have az:d8 (zs.map V.str) (0+(i:Int))=some (.str (zs[i]'(by omega))):=by
    rw[C1];exact bI (by rw[A9,A0 (by omega)];rfl)
   have ib:Bd 20 (0+(i:Int)):=cq (by omega) (by omega) (by decide)
   have b7:Bd 20 (7:Int):=cq (by decide) (by decide) (by decide)
   refine ⟨_,rfl,_,_,rfl,rfl,⟨by decide,AC (by decide)⟩,_,rfl,_,_,rfl,rfl,_,_,rfl,rfl,⟨by omega,AC (by omega)⟩,_,rfl,_,_,rfl,rfl,b7.ok ib,_,rfl,_,_,rfl,rfl,(b7.mul ib).ok ib,_,_,rfl,rfl,_,rfl,_,rfl,ln,_,_,_,rfl,rfl,aP.of (g3 _ _ en),az,_,_,rfl,fun x s H4 g4 st=>hQ _ _ ⟨x,s,rfl,st⟩ g4⟩
  ·have gen:∀ys:List V,(∀(i:Nat) (y:V),ys[i]?=some y->∃(x:Addr) (s:Sq),y= .ref x/\rz yP yL on H' x s)->∃(xs:CC) (ss:List Sq),ys=xs.map V.ref/\ss.length=ys.length/\∀(i:Nat) (x:Addr) (s:Sq),xs[i]?=some x->ss[i]?=some s->rz yP yL on H' x s:=rM;obtain ⟨xs,ss,rfl,sl',st⟩:=gen ys fun i y hy=>by
    obtain ⟨G,G',_,gp,⟨x,s,e,st⟩,kp⟩:=ht i y hy;exact ⟨x,s,e,st H' fun b o gb eb=>kp b o (fun z=>gp (by rw[<-z];exact gb)) eb⟩
   rw[A5] at hl sl';exact hN _ _ ⟨p,xs,ss,rfl,g',e',hl,by omega,st⟩
 rintro σ H2 ⟨ls,xs,ss,rfl,g2,els,xl,ssl,st2⟩;have S2:=(g1.trans g2).seq hS;refine cut (fun σ H'=>∃fi:Int,σ= [CH a,some (.int hd),some (.int mk),CH ln,CH ls,some (.int fi),none,none,none,none,none,none,none,none]/\H2=H'/\1<=fi/\fi<=1000) (fun N hN=>?_) ?_
 ·refine ⟨_,rfl,a,ns,1,rfl,S2,by decide,fun c1=>⟨_,_,rfl,rfl,(by show (1000:Int)≠0;decide),_,_,rfl,rfl,hN _ _ ⟨_,rfl,rfl,?_,?_⟩⟩⟩
  ·have:=AJ c1 (show (0:Int)<1000 by decide)
   omega
  ·have:=AY c1 (show (0:Int)<1000 by decide)
   omega
 rintro σ _ ⟨fi,rfl,rfl,fi1,fi2⟩;refine cut (fun σ H'=>∃pl:Int,σ= [CH a,some (.int hd),some (.int mk),CH ln,CH ls,some (.int fi),some (.int pl),none,none,none,none,none,none,none]/\au H2 H'/\1<=pl/\pl<=1000) (fun N hN=>?_) ?_
 ·have q0:=AJ (hd.fdiv 7) (show (0:Int)<3 by decide)
  have q1:=AY (hd.fdiv 7) (show (0:Int)<3 by decide)
  have q2:=AJ (hd.fdiv 7) (show (0:Int)<1000 by decide)
  have q3:=AY (hd.fdiv 7) (show (0:Int)<1000 by decide)
  have r0:=AJ (hd.fdiv 3) (show (0:Int)<2 by decide)
  have r1:=AY (hd.fdiv 3) (show (0:Int)<2 by decide)
  have bf:Bd 20 fi:=cq (by omega) (by omega) (by decide)
  have b3:Bd 20 (1+(hd.fdiv 7).fmod 3):=cq (by omega) (by omega) (by decide)
  have pf:1<=fi*(1+(hd.fdiv 7).fmod 3):=by
   have:=Int.mul_le_mul fi1 (show (1:Int)<=1+(hd.fdiv 7).fmod 3 by omega) (by decide) (by omega)
   omega
  obtain ⟨w,hw,hat⟩:=lU (xs:= [V.int (if fi*(1+(hd.fdiv 7).fmod 3)<1000 then fi*(1+(hd.fdiv 7).fmod 3) else 1000),V.int (1+(hd.fdiv 7).fmod 1000)]) r0 (by simpa using r1)
  obtain ⟨pl,rfl,pl1,pl2⟩:∃pl:Int,w= .int pl/\1<=pl/\pl<=1000:=by
   simp only[AU,Bf,or_false] at hw;rcases hw with rfl|rfl
   ·exact ⟨_,rfl,by split<;>omega,by split<;>omega⟩
   ·exact ⟨_,rfl,by omega,by omega⟩
  exact ⟨_,rfl,_,rfl,_,_,rfl,rfl,⟨by decide,AC (by decide)⟩,_,_,rfl,rfl,(by show (3:Int)≠0;decide),_,_,rfl,rfl,_,_,rfl,rfl,bf.ok b3,_,_,rfl,_,rfl,_,_,rfl,rfl,⟨by decide,AC (by decide)⟩,_,_,rfl,rfl,(by show (1000:Int)≠0;decide),_,_,rfl,rfl,by show 2<=sizeLine;decide,fun p np=>⟨_,rfl,_,_,rfl,rfl,⟨by decide,AC (by decide)⟩,_,_,rfl,rfl,(by show (2:Int)≠0;decide),p,_,_,_,rfl,rfl,aP.of af,hat,hN _ _ ⟨pl,rfl,ao np _,pl1,pl2⟩⟩⟩
 rintro σ H3 ⟨pl,rfl,g3,pl1,pl2⟩;have g13:=(g1.trans g2).trans g3;refine cut (fun σ H'=>∃(lk:Addr) (ks:List dg),σ= [CH a,some (.int hd),some (.int mk),CH ln,CH ls,some (.int fi),some (.int pl),CH lk,none,none,none,none,none,none]/\au H3 H'/\LK H' lk ks/\ks.length<=17/\∀k∈ks,k.2.1≠k.2.2.1) (fun N hN=>?_) ?_
 ·exact ⟨_,rfl,_,rfl,a,ns,mk,rfl,g3.seq S2,h63,by omega,by omega,fun lk H4 ks g4 hk kl kn=>hN _ _ ⟨lk,ks,rfl,g4,hk,kl,kn⟩⟩
 rintro σ H4 ⟨lk,ks,rfl,g4,hk,kl,kn⟩;have els4:=g4 _ _ (g3 _ _ els);have st4:=fun i x s h1 h2=>((st2 i x s h1 h2).same g3).same g4
 refine cut (fun σ H'=>au H4 H'/\∃r1 dx u v nm t,σ= [CH a,some (.int hd),some (.int mk),CH ln,CH ls,some (.int fi),some (.int pl),CH lk,CH r1,none,none,none,none,none]/\H' r1=some (.ins yO dx (ko nm (.int fi) t (.ref v) (.ref u)))/\LK H' u ks/\H' v=some (.lst (xs.map V.ref))) (fun N hN=>?_) ?_
 ·obtain ⟨as,a1,a2,a3⟩:=hk.ex;refine ⟨_,rfl,by show 0<=sizeLine;decide,fun l0 n0=>?_⟩
  have g5:=ao n0 (.lst []);refine ⟨_,rfl,_,rfl,fun x dx nx nd nxd=>⟨x,_,dx,l0,ls,lk,_,_,[],_,_,rfl,af,⟨B.y9,B.zF,B.yV,B.zD,B.yX,B.yU⟩,fo nx nd af,fo nx nd (g5 _ _ els4),fo nx nd (g5 _ _ a2),fun u v t H8 k8 eu ev ex=>⟨rfl,?_⟩⟩⟩
  have g8:=g5.trans (cX nx nd k8);exact hN _ _ ⟨g8,x,dx,u,v,_,t,rfl,ex,hk.copy g8 a2 eu,ev⟩
 rintro σ H5 ⟨g5,r1,dx1,u1,v1,nm1,t1,rfl,er1,hu1,ev1⟩;have g15:=(g13.trans g4).trans g5;have hk5:=hk.same g5;refine cut (fun σ H'=>∃(lt:Addr) (ms:List Int),σ= [CH a,some (.int hd),some (.int mk),CH ln,CH ls,some (.int fi),some (.int pl),CH lk,CH r1,CH lt,none,none,none,none]/\au H5 H'/\TG H' lt (aV ms ms.length)/\ms.length=mk/\(∀n∈ms,1<=n)/\ms.sum<=24) (fun N hN=>?_) ?_
 ·have f0:=AJ (hd.fdiv 11) (show (0:Int)<4 by decide)
  have f1:=AY (hd.fdiv 11) (show (0:Int)<4 by decide)
  refine ⟨_,rfl,_,rfl,_,rfl,_,_,rfl,rfl,⟨by decide,AC (by decide)⟩,_,_,rfl,rfl,(by show (4:Int)≠0;decide),_,_,rfl,rfl,by show 2<=sizeLine;decide,fun tz ntz=>?_⟩
  have g6:=ao ntz (.tup [.int (1+(hd.fdiv 11).fmod 4),.int 1]);refine ⟨r1,_,dx1,v1,_,pl,fi,1+(hd.fdiv 11).fmod 4,1,_,xs,ss,rfl,g6 _ _ er1,B.y9,B.yV,B.yX,kQ,mH,fi1,fi2,pl1,by omega,.inr ⟨tz,rfl,⟨bF.of af,by decide,cq (by omega) (by omega) (by decide),Bd.one.mono (by decide)⟩⟩,by omega,g6 _ _ ev1,by omega,by omega,fun i x s h1 h2=>((st4 i x s h1 h2).same g5).same g6,fun fa fb ms F ml rn=>⟨fun _ H7 g7=>?_,fun s24 lt H7 g7 nlt tg=>hN _ _ ⟨lt,ms,rfl,g6.trans g7,tg,by omega,?_,s24⟩⟩⟩
  ·intro xa nxa;refine ⟨yM,true,rfl,B.zf,om ?_⟩;exact qq _
  ·intro n hn;obtain ⟨i,hi⟩:=Ab.mp hn;have il:=(A3.mp hi).1;have hs:=A0 (show i<ss.length by omega)
   have hx:=A0 (show i<xs.length by omega)
   have r:=rn i _ n hs hi;rcases (st4 i _ _ hx hs).kind with ⟨fn,_⟩|⟨_,a1,a2,_,_,_,ef,_,_,_,b1,b2,_⟩
   ·rw[fn] at r;have r:n=1:=r;omega
   ·rw[ef] at r;exact nL r b1 b2 (rA F (by omega) (by omega)) F.pos (by omega) (by decide)
 rintro σ H6 ⟨lt,ms,rfl,g6,tg,ml,ms1,s24⟩;have g16:=g15.trans g6;have tl:=dW ms1 ms.length (A7 _);rw[List.take_length] at tl;have od:=wu ms1 ms.length (A7 _);have lens:=gM ms1;generalize aV ms ms.length=ts at tg tl od;have tne:ts≠ []:=fun z=>by rw[z] at tl;simp at tl;omega
 have hk6:=hk5.same g6;have er6:=g6 _ _ er1;have hu6:=hu1.same g6;obtain ⟨as,t1',t2,t3⟩:=id tg;refine cut (fun σ H'=>σ= [CH a,some (.int hd),some (.int mk),CH ln,CH ls,some (.int fi),some (.int pl),CH lk,CH r1,CH lt,none,none,none,none]/\au H6 H') (fun N hN=>?_) ?_
 ·refine ⟨_,rfl,lt,ts,ms.length,rfl,tg,od,by omega,fun H7 g7=>⟨_,rfl,eU ?_⟩⟩
  obtain ⟨n,hn⟩:∃n,ts.length=n+1:=⟨ts.length-1,by have:=List.length_pos_iff.mpr tne;omega⟩
  have ha:=A0 (show n<as.length by omega)
  have ht:=A0 (show n<ts.length by omega)
  obtain ⟨w,et⟩:=t3 n _ _ ha ht;have hl:ts.getLast?=some (ts[n]'(by omega)):=by rw[List.getLast?_eq_getElem?,show ts.length-1=n from by omega];exact ht
  have e9:=od.last _ hl;have at1:d8 (as.map V.ref) (-1)=some (.ref as[n]):=rN (n:=n) (by rw[A5];omega) (by rw[A9,ha];rfl)
  exact ⟨_,rfl,_,rfl,lt,_,_,_,rfl,rfl,aP.of (g7 _ _ t2),at1,_,_,_,_,rfl,rfl,bF.of (g7 _ _ et),rfl,_,rfl,_,_,rfl,rfl,rfl,_,rfl,nF (by rw[e9,ml]) (hN _ _ ⟨rfl,g7⟩)⟩
 rintro σ H7 ⟨rfl,g7⟩;have tg7:=tg.same g7;have tf7:=tg7.tf;have few:=rJ (fs:=ts.map fun t=>t.1) kn (by rw[A5];omega)
 have rm:=rH (fs:=ts.map fun t=>t.1) kn
 have fl:(ts.map fun t=>t.1).length=ts.length:=A5 _
 refine cut (fun σ H'=>∃(la lb:Addr) (A1 P1:List Ky),σ= [CH a,some (.int hd),some (.int mk),CH ln,CH ls,some (.int fi),some (.int pl),CH lk,CH r1,CH lt,CH la,CH lb,none,none]/\au H7 H'/\aR H' la A1/\aR H' lb P1/\vM A1 (eJ ks (ts.map fun t=>t.1)).1/\vM P1 (eJ ks (ts.map fun t=>t.1)).2) (fun N hN=>?_) ?_
 ·refine ⟨_,rfl,_,rfl,r1,_,dx1,u1,lt,_,ks,_,rfl,g7 _ _ er6,B.y9,B.yU,gw,hu6.same g7,tf7,by omega,by omega,vh (by omega),by omega,by omega,fun tp la lb A1 P1 H8 g8 _ _ _ etp tA tB sA sB=>?_⟩
  exact ⟨tp,_,rfl,bF.of etp,rfl,_,_,rfl,_,_,rfl,rfl,hN _ _ ⟨la,lb,A1,P1,rfl,g8,tA,tB,sA,sB⟩⟩
 rintro σ H8 ⟨la,lb,A1,P1,rfl,g8,tA,tB,sA,sB⟩;have rmA:mF ts.length (A1,P1):=by
  rw[fl] at rm;exact ⟨fun r hr=>rm.1 r ((sA.2.1 r).mp hr),fun r hr=>rm.2 r ((sB.2.1 r).mp hr)⟩
 have g18:=(g16.trans g7).trans g8;refine cut (fun σ H'=>σ= [CH a,some (.int hd),some (.int mk),CH ln,CH ls,some (.int fi),some (.int pl),CH lk,CH r1,CH lt,CH la,CH lb,none,none]/\au H8 H') (fun N hN=>?_) ?_
 ·exact ⟨_,rfl,_,rfl,_,rfl,lt,_,rfl,.inl (aP.of ((g7.trans g8) _ _ t2)),la,lb,A1,P1,_,rfl,tA,tB,by rw[A5,t1'];exact rmA,fun H9 g9=>⟨_,rfl,eU (hN _ _ ⟨rfl,g9⟩)⟩⟩
 rintro σ H9 ⟨rfl,g9⟩;have g19:=g18.trans g9;have g69:=(g7.trans g8).trans g9;refine cut (fun σ H'=>∃(lm:Addr) (T:fF),σ= [CH a,some (.int hd),some (.int mk),CH ln,CH ls,some (.int fi),some (.int pl),CH lk,CH r1,CH lt,CH la,CH lb,CH lm,none]/\au H9 H'/\nO H' lm T/\T.length=ts.length) (fun N hN=>?_) ?_
 ·exact ⟨_,rfl,_,rfl,lt,_,rfl,.inl (aP.of (g69 _ _ t2)),a,ns,ts.length,by rw[A5,t1'];rfl,g19.seq hS,h63,List.length_pos_iff.mpr tne,by omega,fun lm H10 T g10 tma Tl=>hN _ _ ⟨lm,T,rfl,g10,tma,Tl⟩⟩
 rintro σ H10 ⟨lm,T,rfl,g10,tma,Tl⟩;have g610:=g69.trans g10;refine cut (fun σ H'=>σ= [CH a,some (.int hd),some (.int mk),CH ln,CH ls,some (.int fi),some (.int pl),CH lk,CH r1,CH lt,CH la,CH lb,CH lm,none]/\au H10 H') (fun N hN=>?_) ?_
 ·refine ⟨_,rfl,_,rfl,_,rfl,lk,lt,lm,ks,_,T,rfl,hk6.same g610,(tg.same g610).tf,tma,by omega,by omega,fun lh H11 g11 h1=>?_⟩
  have g811:=(g9.trans g10).trans g11;refine ⟨_,rfl,_,rfl,_,rfl,la,lb,lm,A1,P1,T,rfl,tA.same g811,tB.same g811,aR.same tma g11,by rw[Tl];exact rmA,fun lh2 H12 g12 h2=>?_⟩
  rw[rF sA sB] at h2;exact ⟨lh,lh2,_,_,rfl,rfl,aP.of (g12 _ _ h1),aP.of h2,⟨⟨rfl,trivial⟩,⟨rfl,trivial⟩,trivial⟩,_,rfl,eU (hN _ _ ⟨rfl,g11.trans g12⟩)⟩
 rintro σ H11 ⟨rfl,g11⟩;have g611:=g610.trans g11;have hk11:=hk6.same g611;obtain ⟨ksA,k1,k2',k3⟩:=hk11.ex;refine cut (fun σ H'=>∃lw:Addr,σ= [CH a,some (.int hd),some (.int mk),CH ln,CH ls,some (.int fi),some (.int pl),CH lk,CH r1,CH lt,CH la,CH lb,CH lm,CH lw]/\au H11 H'/\H' lw=some (.lst (dU ks))) (fun N hN=>?_) ?_
 ·refine ⟨_,rfl,lk,rfl,⟨_,aP.of k2'⟩,?_⟩;refine iC (xs:=ksA.map V.ref) (fun i=> !decide (V.str (ks.getD i pG).1=V.str "apart")) (fun i=> .int (ks.getD i pG).2.2.1) (aP.of k2') (by rw[A5];omega) (fun i x hx H2 g2 R hR=>?_) (fun i x hx H2 g2 Q' hQ=>?_) (fun p H1 np g1 e1=>?_)
  ·obtain ⟨a,ha,rfl⟩:=cr hx;obtain ⟨k,hk',hd⟩:=bT (d:=pG) k1 ha;have et:=g2 _ _ (k3 i a k ha hk');rw[hd] at hR;exact ⟨_,rfl,a,_,_,_,rfl,rfl,bF.of et,rfl,rfl,_,rfl,hR⟩
  ·obtain ⟨a,ha,rfl⟩:=cr hx;obtain ⟨k,hk',hd⟩:=bT (d:=pG) k1 ha;have et:=g2 _ _ (k3 i a k ha hk');rw[hd] at hQ;exact ⟨_,rfl,a,_,_,_,rfl,rfl,bF.of et,rfl,hQ⟩
  ·refine hN _ _ ⟨p,rfl,g1,?_⟩;rw[e1,A5,k1]
   rfl
 rintro σ H12 ⟨lw,rfl,g12,elw⟩;have g612:=g611.trans g12;have tf12:=(tg.same g612).tf;refine ⟨_,rfl,_,rfl,r1,_,dx1,u1,lt,_,ks,_,rfl,g612 _ _ er6,B.y9,B.yU,gw,hu6.same g612,tf12,by omega,by omega,fun l1 H13 n1 g13' e1=>?_⟩
 obtain ⟨bs,b1,b2,b3⟩:=tf12.same g13';have elw:=g13' _ _ elw;refine ⟨_,rfl,lt,_,rfl,.inl (aP.of b2),_,rfl,by omega,(by rw[A5];omega),?_⟩
 refine cH (fun i=> !v3 (.int ((ts.map fun t=>t.1).getD i 0)) (dU ks)) (fun i=> .int (0+(i:Int))) (by rw[A5];omega) (fun i hi H2 g2 R hR=>?_) (fun i hi H2 g2 Q' hQ=>⟨_,rfl,hQ⟩) (fun p2 H2 np2 g2 e3=>?_)
 ·have hi':i<bs.length:=by rw[A5] at hi;omega
  obtain ⟨t,ht',hd⟩:=bT (d:=(0:Int)) b1 (A0 hi');obtain ⟨v,w,k1⟩:=b3 i _ t (A0 hi') ht';have at_:d8 (bs.map V.ref) (0+(i:Int))=some (.ref bs[i]):=by
   rw[C1];exact bI (by rw[A9,A0 hi'];rfl)
  rw[hd] at hR;exact ⟨_,rfl,_,rfl,lt,_,_,_,rfl,rfl,aP.of (g2 _ _ b2),at_,_,_,_,_,rfl,rfl,bF.of (g2 _ _ k1),rfl,_,rfl,lw,_,rfl,.inl (aP.of (g2 _ _ elw)),rfl,fN ks,_,rfl,hR⟩
 ·rw[BK,A5,b1] at e3;refine ⟨l1,p2,_,_,rfl,rfl,aP.of (g2 _ _ e1),aP.of e3,iL fun v hv=>?_,qq _⟩
  obtain ⟨i,_,rfl⟩:=AX.mp hv;exact ⟨rfl,trivial⟩
end
theorem vL {l:PySem.W.OpenLaw} {w:World} {K:A4} {h:Heap} {mg:Cy} {fa fp fq d6 fr fs ft fw d9 c6 dJ dK dV dY ea eb ec ed ef eg eh ei ej ek c7 yP yO yL yN yQ yM on y8 y6 zu yW yT yS zd zC zB:Addr} (X:K.In h) (G:h.Ns mainGlobals mg) (hfa:mg "law" =some (.ref fa))
  {dj cz:CF} {dl:CA} {dn c0 c1 c2 bM c3:Value}
  {aM:Tok}
  {fi:Addr} {el:Value} {em:CF} {en:Nat} {eo:CA}
  {dp:Addr} {dr:Value} {dt:CF} {dw:Nat} {dx:CA}
  {fj:Addr} {ep:Value} {eq:CF} {er:Nat} {es:CA} {c9:Tok}
  {dy:Addr} {dz:Value} {d0:CF} {d1:Nat} {d3:CA}
  (fx:cJ K fp "is_whole" xQ .none)
  (fy:cJ K fq "divisor" xR .none)
  (fz:Ag K mainGlobals "fraction" =some (some (.ref d6)))
  (f0:FnAt K d6 "fraction" "fraction" wZ (.ref fj))
  (f1:cJ K fr "product" xS .none)
  (f2:cJ K fs "quotient" xT .none)
  (f3:cJ K ft "round_up" xU .none)
  (f4:cJ K fw "grown_length" xV .none)
  (et:cJ K d9 "factor_of" vv .none)
  (eu:Ag K mainGlobals "tasks_of" =some (some (.ref c6)))
  (ev:FnAt K c6 "tasks_of" "tasks_of" tQ (.ref dy))
  (ew:cJ K dJ "places_of" vw .none)
  (ex:cJ K dK "arcs_of_link" vx .none)
  (ey:cJ K dV "links_of" vy .none)
  (ez:cJ K dY "plates_of" vA .none)
  (e0:cJ K ea "_law_cell_at" vB .none)
  (e1:cJ K eb "_law_names" vC .none)
  (e2:cJ K ec "_law_step" vD .none)
  (e3:cJ K ed "_law_links" vE .none)
  (e4:cJ K ef "_law_times" vF .none)
  (e5:cJ K eg "_law_meet" vG .none)
  (e6:cJ K eh "_law_words_hold" vH .none)
  (e7:cJ K ei "_law_told_hold" vI .none)
  (e8:cJ K ej "_law_in_room" vJ .none)
  (e9:cJ K ek "_law_in_order" vK .none)
  (eA:Ag K mainGlobals "law" =some (some (.ref c7)))
  (eL:K.lookup c7=some ⟨dn,dj,.func (BB "law" "law" (cx jr) (bS jr) (ar jr) .none c0 c1 c2 cz bM c3),dl⟩) (eR:PySem.W.codeIn K bM "law" =true) (eX:BC K (.ref c7)=true)
  (aN:Ag K mainGlobals "MOST_TASKS" =some (some (.int 24 aM)))
  (cC:Ag K mainGlobals "abs" =some none)
  (ch:Ag K mainGlobals "bool" =some none)
  (bp:Ag K mainGlobals "enumerate" =some none)
  (cR:Ag K mainGlobals "int" =some none)
  (aS:Ag K mainGlobals "isinstance" =some none)
  (cV:Ag K mainGlobals "len" =some none)
  (ck:Ag K mainGlobals "list" =some none)
  (cW:Ag K mainGlobals "max" =some none)
  (da:Ag K mainGlobals "min" =some none)
  (bR:Ag K mainGlobals "range" =some none)
  (db:Ag K mainGlobals "set" =some none)
  (b6:Ag K mainGlobals "sorted" =some none)
  (dc:Ag K mainGlobals "sum" =some none)
  (dd:Ag K mainGlobals "Cut" =some (some (.ref yP)))
  (b7:Ag K mainGlobals "Recipe" =some (some (.ref yO)))
  (cl:Ag K mainGlobals "Rest" =some (some (.ref yL)))
  (cm:Ag K mainGlobals "Step" =some (some (.ref yN)))
  (aT:Ag K mainGlobals "StoveError" =some (some (.ref yQ)))
  (b0:Ag K mainGlobals "TooMany" =some (some (.ref yM)))
  (cn:Ag K mainGlobals "Warm" =some (some (.ref on)))
  (atZ7:Aw K (.ref yN) "__init__" =some (some (.ref y8)))
  (f5:FnAt K y8 "__init__" "Step.__init__" w6 (.ref fi))
  (f6:kq K yN y6 "span" "Step.span" xW .none)
  (f7:kq K yN zu "rounds" "Step.rounds" xX .none)
  (eY:kq K yP yW "span" "Cut.span" vm .none)
  (fb:kq K yN yT "grown_way" "Step.grown_way" vn .none)
  (fc:kq K yN yS "grown" "Step.grown" vo .none)
  (atZ13:Aw K (.ref on) "__init__" =some (some (.ref zd)))
  (fe:FnAt K zd "__init__" "Warm.__init__" tP (.ref dp))
  (ff:kq K on zC "rounds" "Warm.rounds" vq .none)
  (fg:kq K yO zB "__init__" "Recipe.__init__" vt .none)
  (fk:K.lookup fi=some ⟨el,em,.seq #[.none,.none] en,eo⟩)
  (d4:K.lookup dp=some ⟨dr,dt,.seq #[.none,.none] dw,dx⟩)
  (fl:K.lookup fj=some ⟨ep,eq,.seq #[.int 1 c9] er,es⟩)
  (d5:K.lookup dy=some ⟨dz,d0,.seq #[.none] d1,d3⟩)
  (b1:PySem.W.excIn K yM xE "ValueError.__new__" =true)
  (b2:XI K yM)
  (b3:XT K yM)
  (tx:PySem.W.subIn K (.ref yM) (.ref yM)=some true)
  (ca:eT K yN)
  (cb:Mk K yN y8)
  (de:bu K yN "span" y6)
  (dg:bu K yN "rounds" zu)
  (co:bu K yN "grown" yS)
  (cp:bu K yN "grown_way" yT)
  (cs:eT K yP)
  (ct:Mk K yP y8)
  (cv:bu K yP "span" yW)
  (a2:bu K yP "rounds" zu)
  (aW:bu K yP "grown" yS)
  (ag:bu K yP "grown_way" yT)
  (cc:eT K yL)
  (cd:Mk K yL y8)
  (aY:bu K yL "span" y6)
  (ax:bu K yL "rounds" zu)
  (a3:bu K yL "grown" yS)
  (ab:bu K yL "grown_way" yT)
  (ce:eT K on)
  (cg:Mk K on zd)
  (bb:bu K on "span" y6)
  (cw:bu K on "rounds" zC)
  (a4:bu K on "grown" yS)
  (ac:bu K on "grown_way" yT)
  (b4:eT K yO)
  (b5:Mk K yO zB)
  (bc:aj K yN "name")
  (a5:aj K yN "least")
  (bd:aj K yN "most")
  (be:aj K yN "uses")
  (ay:aj K yN "second")
  (bs:aj K yP "name")
  (bf:aj K yP "least")
  (bt:aj K yP "most")
  (bv:aj K yP "uses")
  (a8:aj K yP "second")
  (bg:aj K yL "name")
  (aH:aj K yL "least")
  (bi:aj K yL "most")
  (bj:aj K yL "uses")
  (az:aj K yL "second")
  (bk:aj K on "name")
  (aK:aj K on "least")
  (bl:aj K on "most")
  (bm:aj K on "uses")
  (a0:aj K on "second")
  (bn:aj K on "fill")
  (a1:aj K yO "name")
  (ah:aj K yO "plates")
  (an:aj K yO "takes")
  (ap:aj K yO "steps")
  (aw:aj K yO "links")
  (al:uQ K yN "__init__" y8)
  :∃fd:FuncData,(∀(s:Shared) (v:Value),BindsTo s fd ⟨[v],[]⟩ [("_law_script",v)])/\∀base:Heap,K.In base->base.Ns mainGlobals mg->a7 l.prog w K mg base ba 9 fa fd ["_law_script"] (mZ K):=by
 have e:=hfa.symm.trans (BA X G eA);cases e;have B:Bn K mg yP yO yL yN yQ yM on y8 y6 zu yW yT yS zd zC zB:=⟨Exists.intro _<|BA X G aN,Ak X G cC,Ak X G ch,Ak X G bp,Ak X G cR,Ak X G aS,Ak X G cV,Ak X G ck,Ak X G cW,Ak X G da,Ak X G bR,Ak X G db,Ak X G b6,Ak X G dc,BA X G dd,BA X G b7,BA X G cl,BA X G cm,BA X G aT,BA X G b0,BA X G cn,b1,b2,b3,tx,ca,cb,de,dg,co,cp,cs,ct,cv,a2,aW,ag,cc,cd,aY,ax,a3,ab,ce,cg,bb,cw,a4,ac,b4,b5,bc,a5,bd,be,ay,bs,bf,bt,bv,a8,bg,aH,bi,bj,az,bk,aK,bl,bm,a0,bn,a1,ah,an,ap,aw,al⟩;obtain ⟨_,_,_,_,_,_,_,_,_,lZ2,cZ2,kZ2⟩:=f0;obtain ⟨_,_,_,_,_,_,_,_,_,lZ17,cZ17,kZ17⟩:=ev;obtain ⟨_,_,_,_,_,_,_,_,_,lZ7,cZ7,kZ7⟩:=f5;obtain ⟨_,_,_,_,_,_,_,_,_,lZ13,cZ13,kZ13⟩:=fe;have FZ2:=dB (st:=wZ) lZ2 cZ2 kZ2;have FZ7:=dB (st:=w6) lZ7 cZ7 kZ7;have FZ13:=dB (st:=tP) lZ13 cZ13 kZ13;have FZ17:=dB (st:=tQ) lZ17 cZ17 kZ17;have Flaw:=dB (st:=jr) eL eR eX;refine ⟨BB "law" "law" (cx jr) (bS jr) (ar jr) .none c0 c1 c2 cz bM c3,?bind,fun base _ _=>?ok⟩
 case bind=>exact fun s v=> .of_eq rfl
 case ok=>
  have z9:Bx l.prog w base:=⟨⟩;have DZ0:=gX z9 X G fx (fun _ _ _ _ _ _=>lZ fun _=>rfl) fun F=>xY B F
  have DZ1:=gX z9 X G fy (fun _ _ _ _ _ _=>bN fun _ _=>rfl) fun F=>xZ B F
  have DZ2:Dx l.prog w K mg base ba 2 "fraction" ["top","bottom"] [.int 1] lJ:=⟨d6,_,x6 B FZ2 DZ0 DZ1,BA X G fz,kZ2,FZ2.binds (ps:= ["top","bottom"]) (ds:= []) fl rfl fun _ _ _ _ _ _ us hl=>match us,hl with| [_,_],_=>⟨_,rfl,rfl⟩,⟨[.int 1 c9],FZ2.binds (ps:= ["top","bottom"]) (ds:= [.int 1 c9]) fl rfl fun _ _ _ _ _ _ us hl=>match us,hl with| [_],_=>⟨_,rfl,rfl⟩| [],h=>absurd h (by simp)|_::_::_,h=>absurd h (by simp),.cons ⟨_,rfl⟩ .nil⟩⟩
  have DZ3:=gX z9 X G f1 (fun _ _ _ _ _ _=>bN fun _ _=>rfl) fun F=>x8 B F DZ2
  have DZ4:=gX z9 X G f2 (fun _ _ _ _ _ _=>bN fun _ _=>rfl) fun F=>x9 B F DZ2
  have DZ5:=gX z9 X G f3 (fun _ _ _ _ _ _=>lZ fun _=>rfl) fun F=>ya B F
  have DZ6:=gX z9 X G f4 (fun _ _ _ _ _ _=>bN fun _ _=>rfl) fun F=>yc B F DZ2 DZ3 DZ5
  have DZ7:ju l.prog w K mg base ba 1 y8 ["self","name","least","most","uses","second"] [.non,.non] (fY K):=⟨_,yd B FZ7,FZ7.binds (ps:= ["self","name","least","most","uses","second"]) (ds:= []) fk rfl fun _ _ _ _ _ _ us hl=>match us,hl with| [_,_,_,_,_,_],_=>⟨_,rfl,rfl⟩,⟨[.none,.none],FZ7.binds (ps:= ["self","name","least","most","uses","second"]) (ds:= [.none,.none]) fk rfl fun _ _ _ _ _ _ us hl=>match us,hl with| [_,_,_,_],_=>⟨_,rfl,rfl⟩| [],h=>absurd h (by simp)| [_],h=>absurd h (by simp)| [_,_],h=>absurd h (by simp)| [_,_,_],h=>absurd h (by simp)|_::_::_::_::_::_,h=>absurd h (by simp),.cons rfl (.cons rfl .nil)⟩⟩
  have DZ8:=uY z9 f6 (fun _ _ _ _ _ _=>qP fun _ _ _ _=>rfl) fun F=>ye B F
  have DZ9:=uY z9 f7 (fun _ _ _ _ _ _=>fu fun _ _ _=>rfl) fun F=>yf B F
  have DZ10:=uY z9 eY (fun _ _ _ _ _ _=>qP fun _ _ _ _=>rfl) fun F=>ww B F DZ6
  have DZ11:=uY z9 fb (fun _ _ _ _ _ _=>uW fun _ _ _ _ _=>rfl) fun F=>wx B F DZ8 DZ10
  have DZ12:=uY z9 fc (fun _ _ _ _ _ _=>bN fun _ _=>rfl) fun F=>wy B F DZ11
  have DZ13:ju l.prog w K mg base ba 2 zd ["self","name","least","most","fill","uses","second"] [.non,.non] (je K):=⟨_,wz B FZ13 DZ7,FZ13.binds (ps:= ["self","name","least","most","fill","uses","second"]) (ds:= []) d4 rfl fun _ _ _ _ _ _ us hl=>match us,hl with| [_,_,_,_,_,_,_],_=>⟨_,rfl,rfl⟩,⟨[.none,.none],FZ13.binds (ps:= ["self","name","least","most","fill","uses","second"]) (ds:= [.none,.none]) d4 rfl fun _ _ _ _ _ _ us hl=>match us,hl with| [_,_,_,_,_],_=>⟨_,rfl,rfl⟩| [],h=>absurd h (by simp)| [_],h=>absurd h (by simp)| [_,_],h=>absurd h (by simp)| [_,_,_],h=>absurd h (by simp)| [_,_,_,_],h=>absurd h (by simp)|_::_::_::_::_::_::_,h=>absurd h (by simp),.cons rfl (.cons rfl .nil)⟩⟩
  have DZ14:=uY z9 ff (fun _ _ _ _ _ _=>fu fun _ _ _=>rfl) fun F=>wA B F DZ3 DZ4 DZ5
  have DZ15:=uY z9 fg (fun _ _ _ _ _ _=>uX fun _ _ _ _ _ _=>rfl) fun F=>wB B F
  have DZ16:=gX z9 X G et (fun _ _ _ _ _ _=>bN fun _ _=>rfl) fun F=>wC B F DZ2
  have XZ17:Dx l.prog w K mg base (jt l.prog w) 8 "tasks_of" ["recipe","plates","size"] [.non] (gN K yP yL on yM):=⟨c6,_,wD B FZ17 DZ2 DZ9 DZ12 DZ14 DZ16,BA X G eu,kZ17,FZ17.binds (ps:= ["recipe","plates","size"]) (ds:= []) d5 rfl fun _ _ _ _ _ _ us hl=>match us,hl with| [_,_,_],_=>⟨_,rfl,rfl⟩,⟨[.none],FZ17.binds (ps:= ["recipe","plates","size"]) (ds:= [.none]) d5 rfl fun _ _ _ _ _ _ us hl=>match us,hl with| [_,_],_=>⟨_,rfl,rfl⟩| [],h=>absurd h (by simp)| [_],h=>absurd h (by simp)|_::_::_::_,h=>absurd h (by simp),.cons rfl .nil⟩⟩
  have DZ18:=gX z9 X G ew (fun _ _ _ _ _ _=>bN fun _ _=>rfl) fun F=>wE B F
  have DZ19:=gX z9 X G ex (fun _ _ _ _ _ _=>fu fun _ _ _=>rfl) fun F=>wF B F
  have DZ20:=gX z9 X G ey (fun _ _ _ _ _ _=>bN fun _ _=>rfl) fun F=>wG B F DZ18 DZ19
  have DZ21:=gX z9 X G ez (fun _ _ _ _ _ _=>bN fun _ _=>rfl) fun F=>wH B F
  have DZ22:=gX z9 X G e0 (fun _ _ _ _ _ _=>bN fun _ _=>rfl) fun F=>wI B F
  have DZ23:=gX z9 X G e1 (fun _ _ _ _ _ _=>bN fun _ _=>rfl) fun F=>wJ B F
  have DZ24:=gX z9 X G e2 (fun _ _ _ _ _ _=>bN fun _ _=>rfl) fun F=>wK B F DZ7 DZ13
  have DZ25:=gX z9 X G e3 (fun _ _ _ _ _ _=>bN fun _ _=>rfl) fun F=>wL B F
  have DZ26:=gX z9 X G e4 (fun _ _ _ _ _ _=>bN fun _ _=>rfl) fun F=>wM B F DZ22
  have DZ27:=gX z9 X G e5 (fun _ _ _ _ _ _=>bN fun _ _=>rfl) fun F=>wN B F
  have DZ28:=gX z9 X G e6 (fun _ _ _ _ _ _=>fu fun _ _ _=>rfl) fun F=>wO B F DZ27
  have DZ29:=gX z9 X G e7 (fun _ _ _ _ _ _=>fu fun _ _ _=>rfl) fun F=>wP B F DZ27
  have DZ30:=gX z9 X G e8 (fun _ _ _ _ _ _=>fu fun _ _ _=>rfl) fun F=>wQ B F
  have DZ31:=gX z9 X G e9 (fun _ _ _ _ _ _=>lZ fun _=>rfl) fun F=>wR B F
  exact wS B Flaw DZ15 DZ20 DZ21 DZ22 DZ23 DZ24 DZ25 DZ26 DZ28 DZ29 DZ30 DZ31 XZ17
theorem walk {l:PySem.W.OpenLaw} {q:Program} {loose:CB} {XP:Cy->Heap->Prop} {YP:World->Heap->Prop} {d:DefRec} {K:Params->A4} (hn:l.most=some 63) (hdf:d.params.defaults= [])
  (hY:∀(w:World) (h:Heap),YP w h->(K w.params).In h)
  (F:∀(w:World) (mg:Cy) (fa:Addr) (h:Heap),(K w.params).In h->h.Ns mainGlobals mg->mg d.name=some (.ref fa)->
   ∃fd:FuncData,(∀(s:Shared) (u:Value),BindsTo s fd ⟨[u],[]⟩ [("_law_script",u)])/\∀base:Heap,(K w.params).In base->base.Ns mainGlobals mg->a7 l.prog w (K w.params) mg base ba 9 fa fd ["_law_script"] (mZ (K w.params))):
  PySem.W.WalkO q loose XP YP l.row.toRowW d [] (fun f vs=>PySem.call f vs):=
 L2.sC (n:=63) (k:=9) (x:= "_law_script") (CX:=fun _=>ba) (sp:=fun w=>mZ (K w.params)) hn (by decide) hdf ⟨rfl,by decide,by decide⟩ hY F (fun _ _ a ns hl _ hS=>⟨a,ns,rfl,hS,hl,fun _=>rfl⟩) fun _ _ _ _ _ z=>z
end Lk47
open PySem PySem.W PyProof.Rows
set_option maxRecDepth 100000 in
set_option maxHeartbeats 0 in
theorem PySem.Challenge.cw_stovework_k47_whole_words_are_arcs_holds : PySem.Challenge.rw_stovework_k47_whole_words_are_arcs.Holds := by
 refine Lk47.hd ?_
 k_fill
 refine Lk47.walk (l:=PySem.Challenge.rw_stovework_k47_whole_words_are_arcs) rfl rfl (fun w h Y=>PySem.W.kIn_of Y) ?F
 case F=>
  intro w mg fa h KX G hmg
  refine' Lk47.vL KX G hmg ?a ?b ?c ?d ?e ?f ?g ?h ?i ?j ?k ?l ?m ?n ?o ?p ?q ?r ?s ?t ?u ?v ?w ?x ?y ?z ?A ?B ?C ?D ?E ?F ?G ?H ?I ?J ?K ?L ?M ?N ?O ?P ?Q ?R ?S ?T ?U ?V ?W ?X ?Y ?Z ?aa ?ab ?ac ?ad ?ae ?af ?ag ?ah ?ai ?aj ?ak ?al ?am ?an ?ao ?ap ?aq ?ar ?au ?av ?aw ?ax ?ay ?az ?aA ?aB ?aC ?aD ?aE ?aF ?aG ?aH ?aI ?aJ ?aK ?aL ?aM ?aN ?aO ?aP ?aQ ?aR ?aS ?aT ?aU ?aV ?aW ?aX ?aY ?aZ ?ba ?bb ?bc ?bd ?be ?bf ?bg ?bh ?bi ?bj ?bk ?bl ?bm ?bn ?bo ?bp ?bq ?br ?bs ?bt
  case a|b=>exact ⟨by k_is,_,_,_,_,_,_,_,_,_,by k_is,by k_is,by k_is⟩
  case c=>k_is
  case d=>exact ⟨_,_,_,_,_,_,_,_,_,by k_is,by k_is,by k_is⟩
  case e|f|g|h|i=>exact ⟨by k_is,_,_,_,_,_,_,_,_,_,by k_is,by k_is,by k_is⟩
  case j=>k_is
  case k=>exact ⟨_,_,_,_,_,_,_,_,_,by k_is,by k_is,by k_is⟩
  case l|m|n|o|p|q|r|s|t|u|v|w|x|y=>exact ⟨by k_is,_,_,_,_,_,_,_,_,_,by k_is,by k_is,by k_is⟩
  case z|A|B|C|D|E|F|G|H|I|J|K|L|M|N|O|P|Q|R|S|T|U|V|W|X|Y=>k_is
  case Z=>exact ⟨_,_,_,_,_,_,_,_,_,by k_is,by k_is,by k_is⟩
  case aa|ab|ac|ad|ae=>exact ⟨by k_is,_,_,_,_,_,_,_,_,_,by k_is,by k_is,by k_is⟩
  case af=>k_is
  case ag=>exact ⟨_,_,_,_,_,_,_,_,_,by k_is,by k_is,by k_is⟩
  case ah|ai=>exact ⟨by k_is,_,_,_,_,_,_,_,_,_,by k_is,by k_is,by k_is⟩
  case aj|ak|al|am=>k_is
  case an=>kernel_rfl
  case ao=>exact ⟨⟨by k_is,by k_is,by k_is⟩,by kernel_rfl,by k_is,by k_is,by k_is,by k_is⟩
  case ap=>exact ⟨by k_is,by kernel_rfl,by k_is⟩
  case aq=>k_is
  case ar|au=>exact ⟨by k_is,by k_is,by k_is,by k_is⟩
  case av|aw|ax|ay=>exact ⟨by k_is,by k_is,by k_is⟩
  case az|aA=>exact ⟨by k_is,by k_is,by k_is,by k_is⟩
  case aB|aC|aD|aE=>exact ⟨by k_is,by k_is,by k_is⟩
  case aF|aG=>exact ⟨by k_is,by k_is,by k_is,by k_is⟩
  case aH|aI|aJ|aK=>exact ⟨by k_is,by k_is,by k_is⟩
  case aL|aM=>exact ⟨by k_is,by k_is,by k_is,by k_is⟩
  case aN|aO|aP|aQ=>exact ⟨by k_is,by k_is,by k_is⟩
  case aR|aS=>exact ⟨by k_is,by k_is,by k_is,by k_is⟩
  case aT|aU|aV|aW|aX|aY|aZ|ba|bb|bc|bd|be|bf|bg|bh|bi|bj|bk|bl|bm|bn|bo|bp|bq|br|bs=>(unfold L2.aj;k_is)
  case bt=>exact ⟨by k_is,by k_is,by k_is,by k_is⟩
