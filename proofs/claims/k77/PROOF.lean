import PyProof.Rows.All
import Wide.All
import OpenK.AllK
import Wide.FinOn
import Lean
import PyProof.EqAt
import PyProof.EqKinds
import PyProof.TupleCall
import PyProof.NeKinds
import PyProof.StationsW
import PyProof.RulesAs
import PyProof.ExcArgsOwn
import PyProof.CompFree
import PyProof.ExcInit
import PyProof.ConsumeWalk
import PyProof.Rows.SeqGen
import PyProof.StrWalks
import PyProof.SliceStr2
import PyProof.MeetsStr
import KE.KIntText
import PyProof.Rows.FStr
import PyProof.StrCalls6
import PyProof.StrBlockL
import PyProof.ToksMono
import PyProof.WalkInts
import PyProof.Rows.MinMaxN
import PyProof.StrLawsReplace
import PyProof.StrLawsTight
import PyProof.Rows.StrLawsPart
import PyProof.DictWalks
import KE.KEqDict
import KE.KDictLaws
import KE.KRevIter
import PyProof.ListCopy
import PyProof.CollectIter
import PyProof.Rows.SetFrom
import PyProof.Rows.SortShellK
import PyProof.Rows.SortStr
import PyProof.Rows.SortWalk
import KE.KDictSum
import KE.KSortTup
import PyProof.TupleOfSeq
import PyProof.Rows.SortRuns
import PyProof.FactsAll.tuple_2
import PyProof.WalksEnum
import PyProof.EnumMake
import PyProof.EnumFor
import PyProof.ZipIter
import KE.KDictOf
import PyProof.DictItems
import PyProof.FactsAll.dict_itemiterator_1
import PyProof.Rows.StrMul
import KE.KDictList
import PyProof.Rows.SumAny
import KE.KIsAll
import PyProof.StrLaws
import PyProof.Rows.SortRev
import PyProof.FactsAll.tuple_1
import PyProof.PureInt
import PyProof.Conv_int_bool
import PyProof.Rows.CallKwBuiltin
import PySem.Challenge.RW_stovework_k77_whole_papers_said_otherwis
set_option maxHeartbeats 4000000
noncomputable section
abbrev FN:=PySem.Value->PySem.Shared->Prop
abbrev FO:=PySem.Str->Option PySem.Value
abbrev FP:=List (PySem.Addr×PySem.Obj)
abbrev FQ:=List PySem.Str
abbrev FR:=List PySem.Addr
abbrev FS:=List PySem.Value
abbrev FT:=Option PySem.Addr
abbrev FU:=Option PySem.Value
open Array renaming length_toList → Dr, getElem?_toList → EJ
open Bool renaming and_eq_true → DH, false_ne_true → DX, false_or → Du, eq_iff_iff → E5, true_and → EC, false_and → EN, and_false → EO, not_eq_true → EX, or_false → Eb, not_true → Ei, true_or → Ex, and_true → F3
open Int renaming toNat_natCast → DQ, toNat_of_nonneg → E7, mul_le_mul_of_nonneg_right → EM, le_refl → EW, zero_add → Ef
open List renaming length_map → D3, getElem?_eq_getElem → D4, getElem?_eq_some_iff → D5, mem_of_getElem? → D6, length_append → D8, mem_append_right → DA, all_eq_true → DD, getElem?_map → DE, mem_cons → DG, mem_singleton → DI, map_map → DJ, length_cons → DL, mem_append → DM, size_toArray → DN, getElem_mem → DO, mem_map → DP, mem_iff_getElem? → DR, map_append → DS, take_length → DV, mem_cons_of_mem → DW, not_mem_nil → DZ, eq_nil_of_length_eq_zero → Dg, range → Dh, any_eq_true → Di, mem_cons_self → Dk, getD_eq_getElem?_getD → Dl, length_take → Ds, length_reverse → Dv, getElem?_append_right → Dw, mem_range → Dy, append_assoc → Dz, mem_append_left → E1, map_cons → E2, getElem?_append_left → E4, length_drop → E6, length_range → E8, replicate → EA, any_cons → EB, find?_cons → EE, length_replicate → EK, filter_append → EL, append_nil → EQ, any_append → ER, getElem?_eq_none → EY, mem_filter → Ea, take_of_length_le → Ee, nodup_cons → Eg, all_cons → Eh, take_append_drop → Ej, length_filter_le → Ek, nodup_append → El, mem_of_mem_take → Es, any_nil → Ew, mem_of_find?_eq_some → Ey, map_congr_left → Ez, length_pos_iff → F0, range_succ → F4, all_append → F5
open Nat renaming le_refl → D9, ne_of_lt → DF, lt_of_lt_of_le → Dm, zero_le → Dn, lt_succ_of_lt → E3, le_trans → EF, ne_of_gt → EU, lt_irrefl → Ec, le_succ → Eu
open Option renaming map_eq_some_iff → DB, bind_eq_some_iff → DY, isSome_iff_exists → Do, map_some → EI
open Option.some renaming inj → EG
open PyProof renaming noPylong_small → DC
open PyProof.Rows renaming callWith_type1 → Dt
open PySem renaming mem_of_lookup → Dq
open PySem.F renaming plainAttrs_list → DK, type_list_append → DT, slot_list_append → DU, plain_min_loop → ET
open PySem.W renaming Frag → D7, nsIn → Dj, mg_none_of → Dp, mg_of → E9, kia_one → ED, emptyDict → EH, fnOf → ES, findIn → EV, instObj → EZ, keepIn → Ed
open PySem.W.Fast renaming te14364793385576792824 → Em, te14289696077712309145 → En, te11892475500146522536 → Eo, te10274390034422433532 → Ep, te10156331382660048174 → Er, te6613529449190102663 → Et
namespace Ht
open PySem PySem.W PyProof.Rows
noncomputable def pj (ok:Thread->Bool) (st:SharedT->Thread->Option (SharedT×Thread)) (n:Nat):SharedT->Thread->Option SharedT:=
 Nat.rec (motive:=fun _=>SharedT->Thread->Option SharedT) (fun _ _=>none) (fun _ ih s t=>
  Bool.rec (motive:=fun _=>Option SharedT)
   (Bool.rec (motive:=fun _=>Option SharedT) none (Option.rec (motive:=fun _=>Option SharedT) none (fun r=>Prod.rec (motive:=fun _=>Option SharedT) (fun s' t'=>ih s' t') r) (st s t)) (ok t))
   (some s) (through t)) n
theorem qw {tb:String->Option Builtin} {p:Program} {w:World} {m:Nat} {ann:FU}:∀{n:Nat} {s s':SharedT} {t:Thread},pj (stepOk m ann) (stepT (denote tb) p w) n s t=some s'->topRun tb p w m ann n s.abs t=some s'.abs
 |0,_,_,_,h=>by cases h
 |n+1,s,s',t,h=>by
  unfold topRun;have h':Bool.rec (motive:=fun _=>Option SharedT)
   (Bool.rec (motive:=fun _=>Option SharedT) none (Option.rec (motive:=fun _=>Option SharedT) none (fun r=>Prod.rec (motive:=fun _=>Option SharedT) (fun s' t'=>pj (stepOk m ann) (stepT (denote tb) p w) n s' t') r) (stepT (denote tb) p w s t)) (stepOk m ann t))
   (some s) (through t)=some s':=h
  cases ht:through t with
  |true=>rw[ht] at h';cases h';rfl
  |false=>
   rw[ht] at h';cases hk:stepOk m ann t with
   |false=>rw[hk] at h';cases h'
   |true=>
    rw[hk] at h';cases hs:stepT (denote tb) p w s t with
    |none=>rw[hs] at h';cases h'
    |some r=>
     obtain ⟨s₂,t₂⟩:=r;rw[hs] at h';dsimp only;rw[stepT_spec hs];exact qw h'
noncomputable def grow (l:List Obj):Nat->BT->Option BT:=
 List.rec (motive:=fun _=>Nat->BT->Option BT) (fun _ t=>some t) (fun o _ ih n t=>
  Bool.rec (motive:=fun _=>Option BT) none (ih (n+1) (t.ins n o)) ((t.ins n o).get n).isSome) l
theorem qx {life:Life}:∀{l:List Obj} {n:Nat} {t t':BT},grow l n t=some t'->absHeap t' (n+l.length) life=⟨(absHeap t n life).objs++l.toArray,life⟩
 | [],n,t,t',h=>by
  cases h;simp[absHeap]
 |o::l,n,t,t',h=>by
  have h':Bool.rec (motive:=fun _=>Option BT) none (grow l (n+1) (t.ins n o)) ((t.ins n o).get n).isSome=some t':=h
  cases e:((t.ins n o).get n).isSome with
  |false=>rw[e] at h';cases h'
  |true=>
   rw[e] at h';have z:=qx (life:=life) h';rw[absHeap_ins e] at z;rw[show n+(o::l).length=n+1+l.length by rw[DL];omega,z]
   simp[Heap.push]
noncomputable def treeOf (s:Shared):Option SharedT:=
 Option.rec (motive:=fun _=>Option SharedT) none (fun t=>some ⟨t,s.heap.objs.size,s.heap.life,s.gens,s.drawn,s.toks,s.os⟩) (grow s.heap.objs.toList 0 .nil)
theorem pp {s:Shared} {s':SharedT} (h:treeOf s=some s'):s'.abs=s:=by
 have h':Option.rec (motive:=fun _=>Option SharedT) none (fun t=>some ⟨t,s.heap.objs.size,s.heap.life,s.gens,s.drawn,s.toks,s.os⟩) (grow s.heap.objs.toList 0 .nil)=some s':=h
 cases e:grow s.heap.objs.toList 0 .nil with
 |none=>rw[e] at h';cases h'
 |some t=>
  rw[e] at h';cases h';have z:=qx (life:=s.heap.life) e;obtain ⟨⟨objs,life⟩,gens,drawn,toks,os⟩:=s;simp only[SharedT.abs];have z':absHeap t objs.size life=⟨objs,life⟩:=by
   simpa [absHeap,BT.list] using z
  rw[z']
noncomputable def tL (ok:Nat->FU->Thread->Bool) (st:SharedT->Thread->Option (SharedT×Thread)) (p:Program) (N:Nat) (s₀:Shared):Option Shared:=
 Bool.rec (motive:=fun _=>Option Shared) none
  ((treeOf s₀).bind fun t₀=>(pj (ok s₀.heap.objs.size (s₀.heap.nsMap mainGlobals "__annotations__")) st N t₀ (topStub p)).bind fun t₁=>
   (fun s₁=>Bool.rec (motive:=fun _=>Option Shared) none (some s₁) (staticsOk (importedModules p.main.body) s₀.heap s₁.heap&&namesBound p s₁.heap&&gensDone s₁&&laidKept s₀.heap s₁.heap)) t₁.abs)
  (s₀.heap.isNs mainGlobals&&s₀.gens.size==0)
theorem tM {tb:String->Option Builtin} {p:Program} {w:World} {N:Nat} {s₀ s:Shared} (h:tL stepOk (stepT (denote tb) p w) p N s₀=some s):topFrom tb p w N s₀=some s:=by
 unfold tL at h;unfold topFrom;cases e:s₀.heap.isNs mainGlobals&&s₀.gens.size==0 with
 |false=>rw[e] at h;cases h
 |true=>
  rw[e] at h;obtain ⟨t₀,e0,h⟩:=DY.mp h;obtain ⟨t₁,e1,h⟩:=DY.mp h;have r:=qw e1;rw[pp e0] at r;dsimp only;rw[r];dsimp only at h;show (match staticsOk (importedModules p.main.body) s₀.heap t₁.abs.heap&&namesBound p t₁.abs.heap&&gensDone t₁.abs&&laidKept s₀.heap t₁.abs.heap with|true=>some t₁.abs|false=>none)=some s
  cases q:staticsOk (importedModules p.main.body) s₀.heap t₁.abs.heap&&namesBound p t₁.abs.heap&&gensDone t₁.abs&&laidKept s₀.heap t₁.abs.heap with
  |false=>rw[q] at h;cases h
  |true=>rw[q] at h;exact h
noncomputable def mZ (ok:Nat->FU->Thread->Bool) (st:SharedT->Thread->Option (SharedT×Thread)) (p:Program) (N:Nat) (s₀:Shared):Option Shared:=
 (treeOf s₀).bind fun t₀=>(pj (ok s₀.heap.objs.size (s₀.heap.nsMap mainGlobals "__annotations__")) st N t₀ (topStub p)).map fun t₁=>t₁.abs
def vK (p:Program) (s₀ s₁:Shared):Bool:=(s₀.heap.isNs mainGlobals&&s₀.gens.size==0)&&(staticsOk (importedModules p.main.body) s₀.heap s₁.heap&&namesBound p s₁.heap&&gensDone s₁&&laidKept s₀.heap s₁.heap)
theorem tN {tb:String->Option Builtin} {p:Program} {w:World} {N:Nat} {s₀ s:Shared} (h:mZ stepOk (stepT (denote tb) p w) p N s₀=some s) (c:vK p s₀ s=true):topFrom tb p w N s₀=some s:=by
 apply tM;unfold mZ at h;obtain ⟨t₀,e0,h⟩:=DY.mp h;obtain ⟨t₁,e1,rfl⟩:=DB.mp h;unfold vK at c;rw[DH] at c;unfold tL;rw[c.1];show ((treeOf s₀).bind fun t₀=>_)=_
 rw[e0];show ((pj _ _ N t₀ (topStub p)).bind fun t₁=>_)=_
 rw[e1];show (Bool.rec (motive:=fun _=>Option Shared) none (some t₁.abs) (staticsOk (importedModules p.main.body) s₀.heap t₁.abs.heap&&namesBound p t₁.abs.heap&&gensDone t₁.abs&&laidKept s₀.heap t₁.abs.heap):Option Shared)=_
 rw[c.2]
abbrev Look (p:Program) (N:Nat) {α:Type} (f:Shared->Shared->α) (v:World->α):Prop:=∀w:World,((importEnds treeTable (opening p) w N (start (opening p)).1 (start (opening p)).2).bind fun s=>(fenceModules? p s).bind fun s₀=>(mZ stepOk (stepT (denote treeTable) p w) p N s₀).map fun s₁=>f s₀ s₁)=some (v w)
theorem Look.at_ {p:Program} {N:Nat} {α:Type} {f:Shared->Shared->α} {v:World->α} (h:Look p N f v) (w:World) {s s₀ s₁:Shared} (a:importEnds treeTable (opening p) w N (start (opening p)).1 (start (opening p)).2=some s) (b:fenceModules? p s=some s₀) (c:mZ stepOk (stepT (denote treeTable) p w) p N s₀=some s₁):f s₀ s₁=v w:=by
 have:=h w;rw[a] at this;replace this:((fenceModules? p s).bind fun s₀=>(mZ stepOk (stepT (denote treeTable) p w) p N s₀).map fun s₁=>f s₀ s₁)=some (v w):=this
 rw[b] at this;replace this:((mZ stepOk (stepT (denote treeTable) p w) p N s₀).map fun s₁=>f s₀ s₁)=some (v w):=this
 rw[c] at this;injection this
theorem tO {p q:Program} {loose:FQ} {Xt:Shared->Bool} {α:Type} {Yf:Shared->α} {Ya:World->α} {N:Nat} {g0:Bool} (hc:Look p N (fun s₀ s₁=>vK p s₀ s₁) fun _=>true)
  (h1:Look p N (fun _ s=>openSeen q loose (importedModules p.main.body) Xt g0 s) fun _=>openGood q loose) (h2:Look p N (fun _ s=>Yf s) Ya):LeftO p q loose Xt Yf Ya N g0:=fun w=>by
 obtain ⟨s,a,e⟩:=DY.mp (hc w);obtain ⟨s₀,b,e⟩:=DY.mp e;obtain ⟨s₁,c,e⟩:=DB.mp e;have z:openEnds treeTable p w N=some s₁:=by
  unfold openEnds fencedOpening;rw[a];show (fenceModules? p s).bind _=_;rw[b];exact tN c e
 rw[z];show some (_,_)=some (_,_);rw[h1.at_ w a b c,h2.at_ w a b c]
noncomputable def qy (t:SharedT) (a:Addr):Option Obj:=Bool.rec (motive:=fun _=>Option Obj) none ((fun o=>Bool.rec (motive:=fun _=>Option Obj) (some o) none (Obj.isFreed o)) ((t.tree.get a).getD default)) (Nat.blt a t.n)
theorem rN (t:SharedT) (a:Addr):qy t a=t.abs.heap.get? a:=by
 unfold qy SharedT.abs Heap.get?;dsimp only;rw[absHeap_at];cases h:Nat.blt a t.n with
 |false=>
  rw[if_neg fun z=>by rw[Nat.blt_eq.mpr z] at h;cases h]
 |true=>
  rw[if_pos (Nat.blt_eq.mp h)];obtain ⟨cls,dict,data,slots⟩:=(t.tree.get a).getD default;cases data<;>rfl
theorem rO {p:Program} {N:Nat} {as:FR} {v:World->List (Option Obj)}
  (h:∀w:World,((importEnds treeTable (opening p) w N (start (opening p)).1 (start (opening p)).2).bind fun s=>(fenceModules? p s).bind fun s₀=>(treeOf s₀).bind fun t₀=>(pj (stepOk s₀.heap.objs.size (s₀.heap.nsMap mainGlobals "__annotations__")) (stepT (denote treeTable) p w) N t₀ (topStub p)).map fun t₁=>as.map (qy t₁))=some (v w)):
  Look p N (fun _ s=>as.map s.heap.get?) v:=fun w=>by
 obtain ⟨s,a,e⟩:=DY.mp (h w);obtain ⟨s₀,b,e⟩:=DY.mp e;obtain ⟨t₀,c,e⟩:=DY.mp e;obtain ⟨t₁,d,e⟩:=DB.mp e;rw[a];show (fenceModules? p s).bind _=_;rw[b];show (mZ stepOk (stepT (denote treeTable) p w) p N s₀).map _=_;unfold mZ;rw[c];show ((pj _ _ N t₀ (topStub p)).map fun t₁=>t₁.abs).map _=_
 rw[d];show some (as.map t₁.abs.heap.get?)=_;rw[<-e,show (as.map (qy t₁))=as.map t₁.abs.heap.get? from Ez fun a _=>rN t₁ a]
end Ht
set_option Elab.async false
set_option linter.all false
set_option maxRecDepth 100000
namespace Lk77
open PySem PySem.W PyProof.Rows
def qv:Program:={PySem.Challenge.pw_stovework_k77_whole_papers_said_otherwis with main:={PySem.Challenge.pw_stovework_k77_whole_papers_said_otherwis.main with body:=([1,2,3,5,6,7,9,10,11,12,13,14,15,16,17,18,19,20,21,22,23,24,25,27,28,29,30,31,32,33,34,36,37,38,39,41,42,43,44,45,47,48,49,50,52,53,54,55,56,57,58,59,60,61,62,64,65,66,67,68,69,70,71,72,73,74,75,76,77,78,79,80,81,82,83,84,85,86,87,88]:List Nat).filterMap fun i=>PySem.Challenge.pw_stovework_k77_whole_papers_said_otherwis.main.body[i]?}}
def lo:FQ:= []
theorem head {α:Type} {Yf:Shared->α} {Ya:World->α} {YP:World->Heap->Prop} {d:DefRec} {kwd:List (Str×Expr)} (left:LeftO PySem.Challenge.pw_stovework_k77_whole_papers_said_otherwis qv lo (fun s=>xlAt qv [] s&&recOk [] s) Yf Ya 8500)
  (hY:∀w s,Yf s=Ya w->YP w s.heap) (hYk:∀w h h',YP w h->(∀b o,h.get? b=some o->h'.get? b=some o)->YP w h') (hd:defOf qv PySem.Challenge.rw_stovework_k77_whole_papers_said_otherwis.row.name=some (d,kwd))
  (hp:PySem.Challenge.rw_stovework_k77_whole_papers_said_otherwis.row.prog.theDef PySem.Challenge.rw_stovework_k77_whole_papers_said_otherwis.row.name=some (d.params,d.body,d.scope)) (hk:kwWritten? d.params.kwonlyargs d.params.kw_defaults=some kwd)
  (said:PySem.Challenge.rw_stovework_k77_whole_papers_said_otherwis.row.wellSaid=true) (hw:PySem.Challenge.rw_stovework_k77_whole_papers_said_otherwis.row.toRowW.promised) (call:WalkO qv lo (XL qv []) YP PySem.Challenge.rw_stovework_k77_whole_papers_said_otherwis.row.toRowW d kwd fun f vs=>PySem.call f vs):PySem.Challenge.rw_stovework_k77_whole_papers_said_otherwis.row.Holds:=
 holds_open left hY hYk (fun s e=>xl_of s (Bool.and_eq_true_iff.mp e).1) XL.keeps hd hp hk (fun s e=>recFacts_of (Bool.and_eq_true_iff.mp e).2) rfl said (by decide+kernel) ⟨rfl,rfl,rfl,rfl,rfl,by decide+kernel⟩ hw call
set_option maxHeartbeats 0 in
theorem la:Ht.Look PySem.Challenge.pw_stovework_k77_whole_papers_said_otherwis 8500 (fun s₀ s₁=>Ht.vK PySem.Challenge.pw_stovework_k77_whole_papers_said_otherwis s₀ s₁) (fun _=>true):=by
 (intro w;rw[Ep,En,Et,Er,Eo,Em];kernel_rfl)
set_option maxHeartbeats 0 in
theorem lb:Ht.Look PySem.Challenge.pw_stovework_k77_whole_papers_said_otherwis 8500 (fun _ s=>openSeen qv lo (importedModules PySem.Challenge.pw_stovework_k77_whole_papers_said_otherwis.main.body) (fun s=>xlAt qv [] s&&recOk [] s) true s) (fun _=>openGood qv lo):=by
 (intro w;rw[Ep,En,Et,Er,Eo,Em,PySem.W.Fast.te4187177175401517315];kernel_rfl)
end Lk77
local macro_rules| `(tactic|o_head $H)=> `(tactic|(refine Lk77.head (Yf:=PySem.W.Hook.obs $H) (Ya:=PySem.W.Hook.val $H) (YP:=PySem.W.Hook.says $H) ?hl (PySem.W.Hook.of $H) (PySem.W.Hook.keeps $H) (by rfl) (by rfl) (by rfl) (by assumption) ?hw ?hc;(case hl=>(refine Ht.tO Lk77.la Lk77.lb ?c;(case c=>(refine Ht.rO ?c2;(case c2=>(intro w;rw[Ep,En,Et,Er,Eo,Em];kernel_rfl))))))))
namespace PySem.W.Fast
def tw9329162902541371034:PySem.Program:=PySem.Challenge.pw_stovework_k77_whole_papers_said_otherwis
theorem te9329162902541371034:PySem.Challenge.pw_stovework_k77_whole_papers_said_otherwis=tw9329162902541371034:=rfl
end PySem.W.Fast
set_option maxHeartbeats 0 in
open_top Lk77.hd for PySem.Challenge.rw_stovework_k77_whole_papers_said_otherwis
namespace L2
open PySem PySem.Spec PyProof.Rows
abbrev Key:=Sum Int Str
def kB:Key->Value->Bool
 | .inl k,v=>Value.isInt k v
 | .inr x,v=>Value.isStrOf x v
def BO (w:World):Key->Int
 | .inl k=>hashInt k
 | .inr x=>hashStr w x
theorem b7:∀{k:Key} {v:Value},kB k v=true->(∃i t,k=Sum.inl i/\v=Value.int i t)∨(∃x t,k=Sum.inr x/\v=Value.str x t)
 | .inl i,v,h=>by
  obtain ⟨t,e⟩:=Value.isInt_shape (k:=i) (v:=v) h;exact .inl ⟨i,t,rfl,e⟩
 | .inr x,v,h=>by
  obtain ⟨t,e⟩:=Value.isStrOf_shape (x:=x) (v:=v) h;exact .inr ⟨x,t,rfl,e⟩
theorem rP (i:Int) (t:Tok):kB (.inl i) (.int i t)=true:=by simp[kB,Value.isInt]
theorem rQ (x:Str) (t:Tok):kB (.inr x) (.str x t)=true:=by simp[kB,Value.isStrOf]
theorem xz (a b:Int):decide ((Sum.inl a:Key)=Sum.inl b)=(a==b):=by
 by_cases e:a=b
 ·subst e;simp
 ·have h:¬(Sum.inl a:Key)=Sum.inl b:=fun q=>e (Sum.inl.inj q)
  rw[decide_eq_false h];exact (beq_eq_false_iff_ne.mpr e).symm
theorem xA (a b:Str):decide ((Sum.inr a:Key)=Sum.inr b)=decide (a=b):=by
 by_cases e:a=b
 ·subst e;simp
 ·have h:¬(Sum.inr a:Key)=Sum.inr b:=fun q=>e (Sum.inr.inj q)
  rw[decide_eq_false h,decide_eq_false e]
theorem xB (a:Int) (b:Str):decide ((Sum.inl a:Key)=Sum.inr b)=false:=decide_eq_false (fun q=>nomatch q)
theorem xC (a:Str) (b:Int):decide ((Sum.inr a:Key)=Sum.inl b)=false:=decide_eq_false (fun q=>nomatch q)
def aJ (prog:Program) (w:World):PySem.KeyKind prog w Key where
 is:=kB
 hash:=BO w
 inj:=fun v a b ha hb=>by
  rcases b7 ha with ⟨i,t,rfl,rfl⟩|⟨x,t,rfl,rfl⟩
  ·rcases b7 hb with ⟨j,u,rfl,e⟩|⟨y,u,rfl,e⟩
   ·injection e with e1 _;rw[e1]
   ·exact nomatch e
  ·rcases b7 hb with ⟨j,u,rfl,e⟩|⟨y,u,rfl,e⟩
   ·exact nomatch e
   ·injection e with e1 _;rw[e1]
 byValue:=fun k v h=>by
  rcases b7 h with ⟨i,t,rfl,rfl⟩|⟨x,t,rfl,rfl⟩<;>rfl
 pyHash:=fun hv h=>by
  rcases b7 hv with ⟨i,t,rfl,rfl⟩|⟨x,t,rfl,rfl⟩
  ·exact wpAny_pyHash_int h
  ·exact wpAny_pyHash_str h
 eqBool:=fun hu hv h=>by
  rcases b7 hu with ⟨i,t,rfl,rfl⟩|⟨x,t,rfl,rfl⟩
  ·rcases b7 hv with ⟨j,u,rfl,rfl⟩|⟨y,u,rfl,rfl⟩
   ·rw[xz] at h;exact wpAny_eqBool_int h
   ·rw[xB] at h;exact SeqAt.EqAt.int_str i t y u _ _ _ _ h
  ·rcases b7 hv with ⟨j,u,rfl,rfl⟩|⟨y,u,rfl,rfl⟩
   ·rw[xC] at h;exact SeqAt.EqAt.str_int x t j u _ _ _ _ h
   ·rw[xA] at h;exact wpAny_eqBool_str h
 «strs» :=fun k x t v h=>by
  rcases b7 h with ⟨i,u,rfl,e⟩|⟨y,u,rfl,e⟩
  ·exact nomatch e
  ·injection e with e1 _
   subst e1;cases v<;>rfl
theorem m6 (prog:Program) (w:World) (i:Int) (t:Tok):(aJ prog w).is (.inl i) (.int i t)=true:=rP i t
theorem m7 (prog:Program) (w:World) (x:Str) (t:Tok):(aJ prog w).is (.inr x) (.str x t)=true:=rQ x t
inductive V where
 |non|bl (b:Bool)|int (i:Int)|str (x:Str)|byt (b:Array UInt8)|flt (b:UInt64)|ref (a:Addr)|ty (n:String)
 deriving DecidableEq
def RelV:V->Value->Prop
 | .non,u=>u=Value.none
 | .bl b,u=>u=Value.bool b
 | .int i,u=>∃t,u=Value.int i t
 | .str x,u=>∃t,u=Value.str x t
 | .byt b,u=>∃t,u=Value.bytes b t
 | .flt b,u=>∃t,u=Value.float b t
 | .ref a,u=>u=Value.ref a
 | .ty n,u=>u=Value.type n
abbrev bg:List V->FS->Prop:=Paired RelV
theorem bg.length {xs:List V} {us:FS} (r:bg xs us):xs.length=us.length:=Paired.length r
theorem bg.get:∀{xs:List V} {us:FS} {i:Nat} {x:V},bg xs us->xs[i]?=some x->∃u,us[i]?=some u/\RelV x u
 |_,_,_,_,.nil,e=>by simp at e
 |_,_,0,_,.cons r _,e=>by simp at e;subst e;exact ⟨_,rfl,r⟩
 |_,_,i+1,x,.cons _ t,e=>by
  obtain ⟨u,h1,h2⟩:=bg.get (i:=i) (x:=x) t (by simpa using e)
  exact ⟨u,by simpa using h1,h2⟩
theorem bg.set {x:V} {u:Value} (r:RelV x u):∀{xs:List V} {us:FS} (i:Nat),bg xs us->bg (xs.set i x) (us.set i u)
 |_,_,_,.nil=> .nil
 |_,_,0,.cons _ t=> .cons r t
 |_,_,i+1,.cons q t=> .cons q (bg.set r i t)
theorem bg.append:∀{xs ys:List V} {us ws:FS},bg xs us->bg ys ws->bg (xs++ys) (us++ws)
 |_,_,_,_,.nil,s=>s
 |_,_,_,_,.cons r t,s=> .cons r (bg.append t s)
theorem bg.take:∀{xs:List V} {us:FS} (n:Nat),bg xs us->bg (xs.take n) (us.take n)
 |_,_,0,_=> .nil
 |_,_,_+1,.nil=> .nil
 |_,_,n+1,.cons r t=> .cons r (bg.take n t)
theorem bg.drop:∀{xs:List V} {us:FS} (n:Nat),bg xs us->bg (xs.drop n) (us.drop n)
 |_,_,0,r=>r
 |_,_,_+1,.nil=> .nil
 |_,_,n+1,.cons _ t=>bg.drop n t
def gW:Option V->FU->Prop
 |some v,some u=>RelV v u
 |none,none=>True
 |_,_=>False
def KV {κ:Type}:List (κ×V)->List (κ×Value)->Prop:=Paired fun (p:κ×V) (q:κ×Value)=>p.1=q.1/\RelV p.2 q.2
def kV:Key->V
 | .inl i=> .int i
 | .inr x=> .str x
inductive HO where
  |lst (xs:List V)
  |tup (xs:List V)
  |dK (kvs:List (Key×V))|dT (kvs:List (List Key×V))
  |set (S:Int->Bool) (n:Nat)
  |ins (C dx:Addr) (fs:List (Str×V))
  |own (x:Addr)
  |xd (fs:List (Str×V))
  |met (f x:Addr)
  |rng (lo hi:Int)
  |frz (o:Obj) (u:HO)
  |tbl (ps:Array Value)
  |ext (φ:Heap->Prop)
abbrev Hp:=Addr->Option HO
def aG (H:Hp) (a:Addr) (o:HO):Hp:=fun b=>if b=a then some o else H b
theorem ah {H:Hp} {a:Addr} {o:HO}:aG H a o a=some o:=by unfold aG;rw[if_pos rfl]
theorem aH {H:Hp} {a b:Addr} {o:HO} (h:b≠a):aG H a o b=H b:=by unfold aG;rw[if_neg h]
theorem im {H:Hp} {a b:Addr} {o u:HO} (h:H a=some o) (h':H b=some u) (d:o≠u):a≠b:=by
 intro e;subst e;rw[h] at h';exact d (EG h')
theorem dB {H:Hp} {a b:Addr} {o:HO} (h:H a=some o) (h':H b=none):a≠b:=by
 intro e;subst e;rw[h] at h';cases h'
section
variable (P:Program) (w:World)
def bM (H:Hp) (h:Heap) (a:Addr):HO->Prop
 | .lst xs=>xs.length<=sizeLine/\∃(its:FS) (n:Nat),bg xs its/\h.get? a=some {cls:= .type "list",data:= .seq its.toArray n}
 | .tup xs=>xs.length<=sizeLine/\∃its:FS,bg xs its/\IsTup h a its.toArray
 | .dK kvs=>kvs.length<=sizeLine/\(a==sysModules)=false/\∃vs,KV kvs vs/\h.DictOf (aJ P w) a vs
 | .dT kvs=>kvs.length<=sizeLine/\(a==sysModules)=false/\∃xs:List (List Key×Addr×Value),
   Paired (fun (p:List Key×V) (q:List Key×Addr×Value)=>p.1=q.1/\H q.2.1=some (.tup (p.1.map kV))/\RelV p.2 q.2.2) kvs xs/\
   ∃o es ep,h.get? a=some o/\o.ExactDict/\o.data= .dict es ep/\es.toList=xs.map (entryOfKey (tupleKind (aJ P w)))/\(xs.map (·.1)).Nodup
 | .set S n=>h.SetOf (intKind P w) a S n
 | .ins C dx fs=>H dx=some (.own a)/\fs.length<=1000/\dx≠a/\h.get? a=some (EZ C dx)/\
   ∃mA,h.Ns1 dx mA/\(∀f,gW (fs.lookup f) (mA f))/\PySem.Within mA (fs.map (·.1))
 | .own _=>∃o,h.get? a=some o
 | .xd fs=>∃mA,h.Ns1 a mA/\∀f,gW (fs.lookup f) (mA f)
 | .rng lo hi=>∃t u v,h.get? a=some {cls:= .type "range",data:= .fields #[.int lo t,.int hi u,.int 1 v]}
 | .frz o u=>h.get? a=some o/\bM H h a u
 | .tbl ps=>h.get? a=some {cls:= .none,data:= .fields ps}
 | .met f x=>h.get? a=some (PySem.W.methodObj (.ref f) (.ref x))
 | .ext φ=>φ h/\(∃o,h.get? a=some o)/\∀h1 h2:Heap,φ h1->(∀o,h1.get? a=some o->h2.get? a=some o)->φ h2
def gP (H:Hp) (h:Heap):Prop:=∀a o,H a=some o->bM P w H h a o
end
section
variable {P:Program} {w:World} {H H':Hp} {h h':Heap} {a:Addr} {o:HO}
theorem bM.lt (x:bM P w H h a o):a<h.objs.size:=by
 cases o with
 |lst xs=>obtain ⟨_,_,_,_,e⟩:=x;exact Heap.lt_size e
 |tup xs=>obtain ⟨_,_,_,p⟩:=x;exact p.lt
 |dK kvs=>obtain ⟨_,_,_,_,o,_,_,e,_⟩:=x;exact Heap.lt_size e
 |dT kvs=>obtain ⟨_,_,_,_,o,_,_,e,_⟩:=x;exact Heap.lt_size e
 |set S n=>obtain ⟨o,_,_,_,e,_⟩:=x;exact Heap.lt_size e
 |ins C dx fs=>obtain ⟨_,_,_,e,_⟩:=x;exact Heap.lt_size e
 |own y=>obtain ⟨_,e⟩:=x;exact Heap.lt_size e
 |xd fs=>obtain ⟨_,⟨_,_,_,e,_⟩,_⟩:=x;exact Heap.lt_size e
 |rng lo hi=>obtain ⟨_,_,_,e⟩:=x;exact Heap.lt_size e
 |frz ob u=>obtain ⟨e,_⟩:=x;exact Heap.lt_size e
 |tbl ps=>exact Heap.lt_size (show h.get? a=some _ from x)
 |met f y=>exact Heap.lt_size (show h.get? a=some _ from x)
 |ext φ=>obtain ⟨_,⟨_,e⟩,_⟩:=x;exact Heap.lt_size e
theorem Paired.mapP {α β:Type} {F G:α->β->Prop}:∀{l₁:List α} {l₂:List β},Paired F l₁ l₂->(∀a b,F a b->G a b)->Paired G l₁ l₂
 |_,_,.nil,_=> .nil
 |_,_,.cons r t,f=> .cons (f _ _ r) (Paired.mapP t f)
theorem bM.stay (x:bM P w H h a o) (k:∀b u,(b=a∨H b=some (.own a))->h.get? b=some u->h'.get? b=some u)
  (ho:∀b,H b=some (.own a)->H' b=some (.own a)) (ht:∀b xs,H b=some (.tup xs)->H' b=some (.tup xs)):bM P w H' h' a o:=by
 induction o with
 |lst xs=>obtain ⟨z,its,n,r,e⟩:=x;exact ⟨z,its,n,r,k _ _ (.inl rfl) e⟩
 |tup xs=>obtain ⟨z,its,r,ob,e,c⟩:=x;exact ⟨z,its,r,ob,k _ _ (.inl rfl) e,c⟩
 |dK kvs=>obtain ⟨z,y,vs,r,ob,es,ep,e,c⟩:=x;exact ⟨z,y,vs,r,ob,es,ep,k _ _ (.inl rfl) e,c⟩
 |dT kvs=>
  obtain ⟨z,y,xs,r,ob,es,ep,e,c⟩:=x;exact ⟨z,y,xs,Paired.mapP r fun p q z=>⟨z.1,ht _ _ z.2.1,z.2.2⟩,ob,es,ep,k _ _ (.inl rfl) e,c⟩
 |set S n=>obtain ⟨ob,es,ep,t,e,c⟩:=x;exact ⟨ob,es,ep,t,k _ _ (.inl rfl) e,c⟩
 |ins C dx fs=>
  obtain ⟨d,z,ne,e,mA,⟨od,es,ep,e2,c⟩,r⟩:=x;exact ⟨ho _ d,z,ne,k _ _ (.inl rfl) e,mA,⟨od,es,ep,k _ _ (.inr d) e2,c⟩,r⟩
 |own y=>obtain ⟨ob,e⟩:=x;exact ⟨ob,k _ _ (.inl rfl) e⟩
 |xd fs=>obtain ⟨mA,⟨od,es,ep,e,c⟩,r⟩:=x;exact ⟨mA,⟨od,es,ep,k _ _ (.inl rfl) e,c⟩,r⟩
 |rng lo hi=>obtain ⟨t,u,v,e⟩:=x;exact ⟨t,u,v,k _ _ (.inl rfl) e⟩
 |frz ob u ih=>obtain ⟨e,q⟩:=x;exact ⟨k _ _ (.inl rfl) e,ih q⟩
 |tbl ps=>
  have e:h.get? a=some {cls:= .none,data:= .fields ps}:=x;show h'.get? a=some {cls:= .none,data:= .fields ps};exact k a _ (.inl rfl) e
 |met f y=>
  have e:h.get? a=some (PySem.W.methodObj (.ref f) (.ref y)):=x;show h'.get? a=some (PySem.W.methodObj (.ref f) (.ref y));exact k a _ (.inl rfl) e
 |ext φ=>obtain ⟨p,⟨o,e⟩,st⟩:=x;exact ⟨st _ _ p fun o q=>k _ _ (.inl rfl) q,⟨o,k _ _ (.inl rfl) e⟩,st⟩
theorem gP.lt (x:gP P w H h) (e:H a=some o):a<h.objs.size:=(x a o e).lt
theorem gP.fresh (x:gP P w H h) (e:h.objs.size<=a):H a=none:=by
 cases q:H a with
 |none=>rfl
 |some u=>exact absurd (Dm (x.lt q) e) (Ec _)
theorem gP.kept (x:gP P w H h) (k:∀b u,h.get? b=some u->h'.get? b=some u):gP P w H h':=fun a o e=>
 (x a o e).stay (fun b u _ q=>k b u q) (fun _ q=>q) fun _ _ q=>q
theorem gP.laid (x:gP P w H h) (k:∀b u,h.get? b=some u->h'.get? b=some u) (hp:h.objs.size<=a) (new:bM P w (aG H a o) h' a o):gP P w (aG H a o) h':=fun b u e=>by
 have hn:=x.fresh hp
 by_cases hb:b=a
 ·subst hb;rw[ah] at e;cases e;exact new
 ·rw[aH hb] at e;exact (x b u e).stay (fun c v _ q=>k c v q) (fun c q=>by rw[aH (dB q hn)];exact q) fun c xs q=>by rw[aH (dB q hn)];exact q
end
def Rd (H:Hp) (a:Addr) (u:HO):Prop:=H a=some u∨∃o,H a=some (.frz o u)
theorem Rd.ok {P:Program} {w:World} {H:Hp} {h:Heap} {a:Addr} {u:HO} (r:Rd H a u) (x:gP P w H h):bM P w H h a u:=by
 rcases r with r|⟨o,r⟩
 ·exact x a u r
 ·obtain ⟨_,q⟩:=x a _ r;exact q
def zE:Option HO->Prop
 |some (.lst _)=>True
 |some (.dK _)=>True
 |some (.dT _)=>True
 |some (.set _ _)=>True
 |some (.ins _ _ _)=>True
 |some (.ext _)=>True
 |_=>False
section
variable {P:Program} {w:World} {H:Hp} {h h':Heap} {x e:Addr} {o':HO}
theorem gP.write (ok:gP P w H h) (mu:zE (H x)) (he:e=x∨H e=some (.own x)) (k:∀b u,b≠e->h.get? b=some u->h'.get? b=some u) (heo:∃u,h'.get? e=some u)
  (new:bM P w (aG H x o') h' x o'):gP P w (aG H x o') h':=fun b u q=>by
 have nown:∀c y,H c=some (.own y)->c≠x:=fun c y r z=>by subst z;rw[r] at mu;exact mu
 have ntup:∀c xs,H c=some (.tup xs)->c≠x:=fun c xs r z=>by subst z;rw[r] at mu;exact mu
 by_cases hb:b=x
 ·subst hb;rw[ah] at q;cases q;exact new
 ·rw[aH hb] at q
  by_cases hbe:b=e
  ·have q':H b=some (.own x):=by
    rcases he with z|z
    ·exact absurd (hbe.trans z) hb
    ·rw[hbe];exact z
   rw[q] at q';cases q';obtain ⟨v,hv⟩:=heo;exact ⟨v,by rw[hbe];exact hv⟩
  ·refine (ok b u q).stay (fun c v hc r=>k c v ?_ r) (fun c r=>by rw[aH (nown c b r)];exact r) fun c xs r=>by rw[aH (ntup c xs r)];exact r
   rcases hc with rfl|hc
   ·exact hbe
   ·rintro rfl;rcases he with z|z
    ·exact nown c b hc z
    ·rw[hc] at z;cases z;exact hb rfl
end
structure Un (fs ex:FR) (H H':Hp) (h h':Heap):Prop where
 keep:∀b o,h.get? b=some o->H b=none->b∉fs->b∉ex->h'.get? b=some o
 slot:∀b o,h.get? b=some o->H b=none->b∈fs->b∉ex->∃sl,h'.get? b=some {o with slots:=sl}
 free:∀b o,h.get? b=some o->H b=none->b∉ex->H' b=none
 there:∀b o,h.get? b=some o->b∉ex->∃o',h'.get? b=some o'
 tups:∀b xs,H b=some (.tup xs)->H' b=some (.tup xs)
 frzs:∀b o u,H b=some (.frz o u)->H' b=some (.frz o u)
 tbls:∀b ps,H b=some (.tbl ps)->∃more,H' b=some (.tbl (ps++more))
section
variable {fs fs' ex ex':FR} {H H1 H2:Hp} {h h1 h2 h':Heap} {a x e:Addr} {o:HO}
theorem Un.any (u:Un fs ex H H1 h h1) {b:Addr} {ob:Obj} (q:h.get? b=some ob) (n:H b=none) (hx:b∉ex):∃sl,h1.get? b=some {ob with slots:=sl}:=by
 by_cases hb:b∈fs
 ·exact u.slot b ob q n hb hx
 ·exact ⟨ob.slots,u.keep b ob q n hb hx⟩
theorem Un.kept (k:∀b u,h.get? b=some u->h'.get? b=some u):Un fs ex H H h h':=
 ⟨fun b ob q _ _ _=>k b ob q,fun b ob q _ _ _=>⟨ob.slots,k b ob q⟩,fun _ _ _ n _=>n,fun b ob q _=>⟨ob,k b ob q⟩,fun _ _ q=>q,fun _ _ _ q=>q,fun _ ps q=>⟨#[],by rw[q];simp⟩⟩
theorem Un.refl:Un fs ex H H h h:=Un.kept fun _ _ q=>q
theorem Un.laid (k:∀b u,h.get? b=some u->h'.get? b=some u) (hp:h.objs.size<=a) (hn:H a=none):Un fs ex H (aG H a o) h h' where
 keep:=fun b u q _ _ _=>k b u q
 slot:=fun b u q _ _ _=>⟨u.slots,k b u q⟩
 free:=fun b u q n _=>by rw[aH (DF (Dm (Heap.lt_size q) hp))];exact n
 there:=fun b u q _=>⟨u,k b u q⟩
 tups:=fun b xs q=>by rw[aH (dB q hn)];exact q
 frzs:=fun b u xs q=>by rw[aH (dB q hn)];exact q
 tbls:=fun b ps q=>⟨#[],by rw[aH (dB q hn),q];simp⟩
theorem Un.write (mu:zE (H x)) (he:e=x∨H e=some (.own x)) (k:∀b u,b≠e->h.get? b=some u->h'.get? b=some u) (heo:∃u,h'.get? e=some u):Un fs ex H (aG H x o) h h':=by
 have hx:∀b,H b=none->b≠x:=fun b n z=>by subst z;rw[n] at mu;exact mu
 have hb:∀b,H b=none->b≠e:=fun b n z=>by
  subst z;rcases he with r|r
  ·exact hx b n r
  ·rw[n] at r;cases r
 have hm:∀b u,H b=some u->¬zE (some u)->b≠x:=fun b u q nm z=>by subst z;rw[q] at mu;exact nm mu
 refine ⟨fun b u q n _ _=>k b u (hb b n) q,fun b u q n _ _=>⟨u.slots,k b u (hb b n) q⟩,fun b u q n _=>by rw[aH (hx b n)];exact n,fun b u q _=>?_,
  fun b xs q=>by rw[aH (hm b _ q fun z=>z)];exact q,fun b u xs q=>by rw[aH (hm b _ q fun z=>z)];exact q,fun b ps q=>⟨#[],by rw[aH (hm b _ q fun z=>z),q];simp⟩⟩
 by_cases hbe:b=e
 ·subst hbe;exact heo
 ·exact ⟨u,k b u hbe q⟩
end
def Bz (h:Heap) (H:Hp):FR:=(Dh h.objs.size).filter fun a=>(H a).isSome
def lU (h:Heap) (H:Hp):Heap:=PySem.W.hideAll h (Bz h H)
theorem rR (h:Heap) (H:Hp):(lU h H).objs.size=h.objs.size:=PySem.W.hideAll_size _ _
theorem tP {h:Heap} {H:Hp} {b:Addr} {o:Obj} (e:h.get? b=some o) (n:H b=none):(lU h H).get? b=some o:=
 PySem.W.hideAll_get _ e fun hm=>by
  have q:(H b).isSome=true:=(Ea.mp hm).2;rw[n] at q;simp at q
theorem vL {h:Heap} {H:Hp} {b:Addr} {o:Obj} (e:(lU h H).get? b=some o):h.get? b=some o/\H b=none:=by
 have e':h.get? b=some o:=PySem.W.of_hideAll (Bz h H) e;refine ⟨e',?_⟩;cases q:H b with
 |none=>rfl
 |some x=>
  have hm:b∈Bz h H:=Ea.mpr ⟨Dy.mpr (Heap.lt_size e'),by simp[q]⟩
  have z:(lU h H).get? b=none:=PySem.W.hideAll_none (Bz h H) hm;rw[z] at e;cases e
structure Mod (K:D7) (mg:FO) (base:Heap):Prop where
 kin:K.In base
 glob:base.Ns mainGlobals mg
 blt:∃mb,base.Ns builtinsNs mb/\∀x:Str,x≠ "__name__" ->mb x=bootBuiltins x
 nolimit:base.NoLimit
structure Cx where
 prog:Program
 w:World
 K:D7
 mg:Str->FU
 base:Heap
 A:Around
 N:FQ
 s₀:Shared
 H₀:Hp
 env:Env
 outer:List Env
 stack:List Env
 ex:FR
 fn:Str->Bool
 calm:Bool
 pn:FP
 xe:Value->Shared->Prop
def rV (l:List Env):FR:=l.filterMap (·.frame)
abbrev Cx.fs (X:Cx):FR:=rV X.outer
def BA (sc:Scope) (x:Str):Prop:=sc.names.lookup x=some .local∨sc.names.lookup x=some .cell∨sc.names.lookup x=some .free
def Loc (sc:Scope) (x:Str):Prop:=sc.names.lookup x=some .local∨sc.names.lookup x=some .cell
def Look (env:Env) (h:Heap) (m:FO) (x:Str) (u:Value):Prop:=
 (env.kindOf x=some .local/\m x=some u)∨((env.kindOf x=some .cell∨env.kindOf x=some .free)/\∃c,env.cells.lookup x=some c/\h.IsCell c (some u))
structure Cx.Ok (X:Cx):Prop where
 mod:Mod X.K X.mg X.base
 kind:X.env.scope.kind= .function
 glob:X.env.globals=mainGlobals
 blt:X.env.builtins=builtinsNs
 above:X.s₀.heap.objs.size<=X.env.locals
 inj:∀x y c,X.env.cells.lookup x=some c->X.env.cells.lookup y=some c->x=y
 has:∀x,(X.env.kindOf x=some .cell∨X.env.kindOf x=some .free)->∃c,X.env.cells.lookup x=some c
 cab:∀x c,X.fn x=true->X.env.cells.lookup x=some c->X.s₀.heap.objs.size<=c
 hd:X.calm=true->X.A.handled=none
 frames:X.A.frames=some X.stack
 stk:X.stack=X.outer∨(X.stack=X.env::X.outer/\X.env.frame=some X.env.locals)
 exf:∀b∈X.ex,b≠X.env.locals/\∀x c,X.env.cells.lookup x=some c->c≠b
 bs:∀b o,X.base.get? b=some o->X.s₀.heap.get? b=some o/\X.H₀ b=none
 bsz:X.base.objs.size<=X.s₀.heap.objs.size
 noex:∀b o,X.base.get? b=some o->b∉X.ex
 exfs:∀b∈X.ex,b∉X.fs
 funs:X.s₀.heap.FunFrames X.base X.outer
 frf:∀b∈X.fs,X.H₀ b=none
structure aP (X:Cx) (pins:FP) (σ:List (Option V)) (H:Hp) (s:Shared):Prop where
 ok:X.Ok
 os:s.os=X.s₀.os
 bare:AllBare s.gens
 base:Un X.fs X.ex X.H₀ H X.s₀.heap s.heap
 loc:∃m,s.heap.Ns X.env.locals m/\∀(i:Nat) (x:Str) (v:V),X.N[i]?=some x->σ[i]?=some (some v)->BA X.env.scope x->∃u,RelV v u/\Look X.env s.heap m x u
 cell:∀x c,X.env.cells.lookup x=some c->∃v,s.heap.IsCell c v
 free:H X.env.locals=none
 freeC:∀x c,X.env.cells.lookup x=some c->H c=none
 pin:∀p∈X.pn++pins,s.heap.get? p.1=some p.2/\H p.1=none/\p.1≠X.env.locals/\p.1∉X.fs/\∀v,p.2.data≠ .cell v
 hok:gP X.prog X.w H s.heap
 len:σ.length=X.N.length
variable {X:Cx} {pins:FP} {σ:List (Option V)} {H H':Hp} {s:Shared} {h':Heap}
theorem Cx.Ok.nofr (ok:X.Ok) {b:Addr} {o:Obj} (e:X.base.get? b=some o):b∉X.fs:=fun hb=>by
 have:=(ok.funs.mem hb).1;rw[e] at this;cases this
theorem aP.bs (I:aP X pins σ H s):∀b o,X.base.get? b=some o->s.heap.get? b=some o/\H b=none:=fun b o e=>
 ⟨I.base.keep b o (I.ok.bs b o e).1 (I.ok.bs b o e).2 (I.ok.nofr e) (I.ok.noex b o e),I.base.free b o (I.ok.bs b o e).1 (I.ok.bs b o e).2 (I.ok.noex b o e)⟩
theorem aP.bk (I:aP X pins σ H s):∀b o,X.base.get? b=some o->s.heap.get? b=some o:=fun b o e=>(I.bs b o e).1
theorem aP.mod (I:aP X pins σ H s):Mod X.K X.mg X.base:=I.ok.mod
theorem aP.kIn (I:aP X pins σ H s):X.K.In s.heap:=I.ok.mod.kin.keeps I.bk
theorem aP.lt (I:aP X pins σ H s):X.env.locals<s.heap.objs.size:=let ⟨_,hn,_⟩:=I.loc;hn.lt
theorem aP.sz (I:aP X pins σ H s):X.s₀.heap.objs.size<=s.heap.objs.size:=EF I.ok.above (Nat.le_of_lt I.lt)
theorem aP.nofs (I:aP X pins σ H s) {a:Addr} (h:s.heap.objs.size<=a):a∉X.fs:=fun hb=>by
 obtain ⟨_,o,ho,_⟩:=I.ok.funs.mem hb;exact absurd (Dm (Heap.lt_size ho) (EF I.sz h)) (Ec _)
theorem aP.cne (I:aP X pins σ H s):∀x c,X.env.cells.lookup x=some c->c≠X.env.locals:=fun x c e z=>by
 obtain ⟨v,o,ho,hd⟩:=I.cell x c e;obtain ⟨m,⟨o',es,ep,ho',hd',_⟩,_⟩:=I.loc;rw[z,ho'] at ho;cases ho;rw[hd'] at hd;cases hd
theorem aP.funs (I:aP X pins σ H s):s.heap.FunFrames X.base X.outer:=by
 have all:∀(l:List Env),(∀b∈rV l,b∈X.fs)->X.s₀.heap.FunFrames X.base l->s.heap.FunFrames X.base l:=by
  intro l
  induction l with
  |nil=>intro _ _;trivial
  |cons env r ih=>
   intro hs hl;obtain ⟨hk,⟨L,o,hf,hn,ho,hd⟩,hr⟩:=hl;have hL:L∈X.fs:=hs L (by unfold rV;rw[List.filterMap_cons,hf];exact Dk)
   obtain ⟨sl,e⟩:=I.base.slot L o ho (I.ok.frf L hL) hL fun z=>I.ok.exfs L z hL
   exact ⟨hk,⟨L,_,hf,hn,e,hd⟩,ih (fun b hb=>hs b (by unfold rV;rw[List.filterMap_cons,hf];exact DW _ hb)) hr⟩
 exact all X.outer (fun _ hb=>hb) I.ok.funs
theorem aP.stack (I:aP X pins σ H s):s.heap.FunFrames X.base X.stack:=by
 rcases I.ok.stk with e|⟨e,hf⟩
 ·rw[e];exact I.funs
 ·rw[e];obtain ⟨m,hn,_⟩:=I.loc;refine .cons (by rw[I.ok.kind];decide) hf hn ?_ I.funs
  exact Heap.get?_none_of_le (EF I.ok.bsz I.ok.above)
theorem aP.stkSub (I:aP X pins σ H s):∀b∈rV X.stack,b∈X.env.locals::X.fs:=fun b hb=>by
 rcases I.ok.stk with e|⟨e,hf⟩
 ·rw[e] at hb;exact DW _ hb
 ·rw[e] at hb;unfold rV at hb;rw[List.filterMap_cons,hf] at hb;exact hb
theorem aP.stkFree (I:aP X pins σ H s):∀b∈rV X.stack,H b=none:=fun b hb=>by
 rcases DG.mp (I.stkSub b hb) with e|hb
 ·rw[e];exact I.free
 ·obtain ⟨_,o,ho,_⟩:=I.ok.funs.mem hb;exact I.base.free b o ho (I.ok.frf b hb) fun z=>I.ok.exfs b z hb
theorem aP.step {g':Array GenState} {t':Nat} {d':Drawn} {ch:FR} (I:aP X pins σ H s)
  (hch:∀b∈ch,(b∈X.ex∨X.s₀.heap.objs.size<=b)/\b≠X.env.locals/\(∀x c,X.env.cells.lookup x=some c->c≠b)/\∀p∈X.pn++pins,p.1≠b)
  (keep:∀b o,b≠X.env.locals->b∉X.fs->b∉ch->s.heap.get? b=some o->H b=none->h'.get? b=some o)
  (slot:∀b o,b≠X.env.locals->b∈X.fs->b∉ch->s.heap.get? b=some o->H b=none->∃sl,h'.get? b=some {o with slots:=sl}) (free:∀b o,b∉ch->s.heap.get? b=some o->H b=none->H' b=none)
  (there:∀b o,b∉ch->s.heap.get? b=some o->∃o',h'.get? b=some o')
  (tups:∀b xs,H b=some (.tup xs)->H' b=some (.tup xs)) (frzs:∀b o u,H b=some (.frz o u)->H' b=some (.frz o u)) (tbls:∀b ps,H b=some (.tbl ps)->∃more,H' b=some (.tbl (ps++more)))
  (ns:∀m,s.heap.Ns X.env.locals m->h'.Ns X.env.locals m) (hok:gP X.prog X.w H' h') (hg:AllBare g'):
  aP X pins σ H' {s with heap:=h',gens:=g',drawn:=d',toks:=t'}:=by
 have neL:∀b o,X.s₀.heap.get? b=some o->b≠X.env.locals:=fun b o e=>DF (Dm (Heap.lt_size e) I.ok.above)
 have neC:∀b o,X.s₀.heap.get? b=some o->b∉X.ex->b∉ch:=fun b o e hx hb=>by
  rcases (hch b hb).1 with z|z
  ·exact hx z
  ·exact absurd (Dm (Heap.lt_size e) z) (Ec _)
 have cellK:∀x c,X.env.cells.lookup x=some c->∀v,s.heap.IsCell c v->h'.IsCell c v:=fun x c e v ⟨o,ho,hd⟩=>by
  have nch:c∉ch:=fun z=>(hch c z).2.2.1 x c e rfl
  by_cases hc:c∈X.fs
  ·obtain ⟨sl,q⟩:=slot c o (I.cne x c e) hc nch ho (I.freeC x c e);exact ⟨_,q,hd⟩
  ·exact ⟨o,keep c o (I.cne x c e) hc nch ho (I.freeC x c e),hd⟩
 refine ⟨I.ok,I.os,hg,⟨fun b o e n hb hx=>?_,fun b o e n hb hx=>?_,fun b o e n hx=>?_,fun b o e hx=>?_,fun b xs e=>tups b xs (I.base.tups b xs e),fun b o xs e=>frzs b o xs (I.base.frzs b o xs e),fun b ps e=>?_⟩,?_,fun x c e=>?_,?_,fun x c e=>?_,fun p hp=>?_,hok,I.len⟩
 ·exact keep b o (neL b o e) hb (neC b o e hx) (I.base.keep b o e n hb hx) (I.base.free b o e n hx)
 ·obtain ⟨sl,e1⟩:=I.base.slot b o e n hb hx;obtain ⟨sl',e2⟩:=slot b _ (neL b o e) hb (neC b o e hx) e1 (I.base.free b o e n hx);exact ⟨sl',e2⟩
 ·obtain ⟨o',e1⟩:=I.base.there b o e hx;exact free b o' (neC b o e hx) e1 (I.base.free b o e n hx)
 ·obtain ⟨o',e1⟩:=I.base.there b o e hx;exact there b o' (neC b o e hx) e1
 ·obtain ⟨m1,e1⟩:=I.base.tbls b ps e;obtain ⟨m2,e2⟩:=tbls b _ e1;exact ⟨m1++m2,by rw[e2,Array.append_assoc]⟩
 ·obtain ⟨m,hn,hl⟩:=I.loc;refine ⟨m,ns m hn,fun i x v e1 e2 e3=>?_⟩
  obtain ⟨u,r,l⟩:=hl i x v e1 e2 e3;refine ⟨u,r,?_⟩;rcases l with l|⟨k,c,e,z⟩
  ·exact .inl l
  ·exact .inr ⟨k,c,e,cellK x c e _ z⟩
 ·obtain ⟨v,z⟩:=I.cell x c e;exact ⟨v,cellK x c e v z⟩
 ·obtain ⟨m,⟨o,_,_,ho,_⟩,_⟩:=I.loc;exact free _ o (fun z=>(hch _ z).2.1 rfl) ho I.free
 ·obtain ⟨v,o,ho,hd⟩:=I.cell x c e;exact free c o (fun z=>(hch c z).2.2.1 x c e rfl) ho (I.freeC x c e)
 ·obtain ⟨e,n,ne,nf,d⟩:=I.pin p hp;have nch:p.1∉ch:=fun z=>(hch p.1 z).2.2.2 p hp rfl
  exact ⟨keep p.1 p.2 ne nf nch e n,free p.1 p.2 nch e n,ne,nf,d⟩
theorem aP.un {t':Nat} (I:aP X pins σ H s) (u:Un X.fs [] H H' s.heap h') (hok:gP X.prog X.w H' h'):aP X pins σ H' {s with heap:=h',toks:=t'}:=by
 obtain ⟨m,⟨o,es,ep,ho,r⟩,_⟩:=id I.loc;obtain ⟨sl,hL⟩:=u.any ho I.free (by simp)
 exact I.step (g':=s.gens) (d':=s.drawn) (ch:= []) (fun _ z=>nomatch z) (fun b o _ hb _ e n=>u.keep b o e n hb (by simp)) (fun b o _ hb _ e n=>u.slot b o e n hb (by simp)) (fun b o _ e n=>u.free b o e n (by simp)) (fun b o _ e=>u.there b o e (by simp)) u.tups u.frzs u.tbls (fun m' hm=>by
  obtain ⟨o',es',ep',ho',r'⟩:=hm;rw[ho] at ho';cases ho';exact ⟨_,es',ep',hL,r'⟩) hok I.bare
theorem aP.call {g':Array GenState} {t':Nat} {d':Drawn} {ch:FR} (I:aP X pins σ H s) (u:Un (rV X.stack) ch H H' s.heap h') (hok:gP X.prog X.w H' h') (hg:AllBare g')
  (hch:∀b∈ch,(b∈X.ex∨X.s₀.heap.objs.size<=b)/\b≠X.env.locals/\(∀x c,X.env.cells.lookup x=some c->c≠b)/\∀p∈X.pn++pins,p.1≠b):
  aP X pins σ H' {s with heap:=h',gens:=g',drawn:=d',toks:=t'}:=by
 obtain ⟨m,⟨o,es,ep,ho,r⟩,_⟩:=id I.loc;obtain ⟨sl,hL⟩:=u.any ho I.free fun z=>(hch _ z).2.1 rfl
 exact I.step (ch:=ch) hch (fun b o hL hb hc e n=>u.keep b o e n (fun z=>(DG.mp (I.stkSub b z)).elim hL hb) hc) (fun b o _ _ hc e n=>u.any e n hc) (fun b o hc e n=>u.free b o e n hc) (fun b o hc e=>u.there b o e hc) u.tups u.frzs u.tbls (fun m' hm=>by
  obtain ⟨o',es',ep',ho',r'⟩:=hm;rw[ho] at ho';cases ho';exact ⟨_,es',ep',hL,r'⟩) hok hg
theorem aP.turned {t':Nat} {it:Addr} (I:aP X pins σ H s) (k:∀b o,b≠it->s.heap.get? b=some o->h'.get? b=some o) (hn:H it=none) (hL:it≠X.env.locals)
  (h1:it∈X.ex∨X.s₀.heap.objs.size<=it) (h2:∀x c,X.env.cells.lookup x=some c->c≠it) (h3:∀p∈X.pn++pins,p.1≠it):aP X pins σ H {s with heap:=h',toks:=t'}:=by
 have nit:∀b u,H b=some u->b≠it:=fun b u e z=>by rw[z,hn] at e;cases e
 refine I.step (g':=s.gens) (d':=s.drawn) (ch:= [it]) (fun b hb=>?_) (fun b o _ _ hc e _=>k b o (fun z=>hc (by simp[z])) e) (fun b o _ _ hc e _=>⟨o.slots,k b o (fun z=>hc (by simp[z])) e⟩) (fun _ _ _ _ n=>n)
  (fun b o hc e=>⟨o,k b o (fun z=>hc (by simp[z])) e⟩) (fun _ _ e=>e) (fun _ _ _ e=>e) (fun b ps e=>⟨#[],by rw[e];simp⟩) (fun m hm=>?_) (fun b u e=>?_) I.bare
 ·have e:b=it:=by simpa using hb
  subst e;exact ⟨h1,hL,h2,h3⟩
 ·obtain ⟨o,es,ep,ho,r⟩:=hm;exact ⟨o,es,ep,k _ o (Ne.symm hL) ho,r⟩
 ·refine (I.hok b u e).stay (fun c v hc q=>k c v ?_ q) (fun _ q=>q) fun _ _ q=>q
  rcases hc with z|z
  ·rw[z];exact nit b u e
  ·exact nit c _ z
theorem aP.tok (I:aP X pins σ H s) (t:Nat):aP X pins σ H {s with toks:=t}:=I.un (h':=s.heap) (t':=t) Un.refl I.hok
theorem aP.kept {t':Nat} (I:aP X pins σ H s) (k:∀b u,s.heap.get? b=some u->h'.get? b=some u):aP X pins σ H {s with heap:=h',toks:=t'}:=I.un (Un.kept k) (I.hok.kept k)
theorem aP.laid {a:Addr} {o:HO} {t':Nat} (I:aP X pins σ H s) (k:∀b u,s.heap.get? b=some u->h'.get? b=some u) (hp:s.heap.objs.size<=a) (new:bM X.prog X.w (aG H a o) h' a o):
  aP X pins σ (aG H a o) {s with heap:=h',toks:=t'}:=I.un (Un.laid k hp (I.hok.fresh hp)) (I.hok.laid k hp new)
theorem aP.write {x e:Addr} {o:HO} {t':Nat} (I:aP X pins σ H s) (mu:zE (H x)) (he:e=x∨H e=some (.own x)) (k:∀b u,b≠e->s.heap.get? b=some u->h'.get? b=some u) (heo:∃u,h'.get? e=some u)
  (new:bM X.prog X.w (aG H x o) h' x o):aP X pins σ (aG H x o) {s with heap:=h',toks:=t'}:=I.un (Un.write mu he k heo) (I.hok.write mu he k heo new)
theorem aP.pins_of {pins':FP} (I:aP X pins σ H s) (h:∀p∈pins',s.heap.get? p.1=some p.2/\H p.1=none/\p.1≠X.env.locals/\p.1∉X.fs/\∀v,p.2.data≠ .cell v):aP X pins' σ H s:=
 ⟨I.ok,I.os,I.bare,I.base,I.loc,I.cell,I.free,I.freeC,fun p hp=>(DM.mp hp).elim (fun z=>I.pin p (E1 _ z)) (h p),I.hok,I.len⟩
theorem m9 {N:FQ} (hN:N.Nodup) {i j:Nat} {x:Str} (a:N[i]?=some x) (b:N[j]?=some x):i=j:=by
 obtain ⟨h1,e1⟩:=D5.mp a;obtain ⟨h2,e2⟩:=D5.mp b;exact (List.getElem_inj hN).mp (e1.trans e2.symm)
theorem gD {M:Model} {A:Around} {E:FN} {i:Nat} {x:Str} {v:V} {u:Value} {Q:Unit->Shared->Prop} (I:aP X pins σ H s) (hN:X.N.Nodup) (hi:X.N[i]?=some x) (hx:Loc X.env.scope x) (r:RelV v u)
  (h:∀s',aP X pins (σ.set i (some v)) H s'->(∃a,Heap.SameBut a s.heap s'.heap/\(a=X.env.locals∨X.env.cells.lookup x=some a))->Q () s') (hf:X.fn x=true∨X.env.scope.names.lookup x=some .local:=by first|exact .inl rfl|exact .inr rfl|assumption):wpAny M A (storeName X.env x u) Q E s:=by
 obtain ⟨m,hn,hl⟩:=id I.loc;have hcls:(X.env.scope.kind== .class||(X.env.scope.kind== .module&&X.env.locals !=X.env.globals))=false:=by rw[I.ok.kind];rfl
 have hiσ:i<σ.length:=by rw[I.len];exact (D5.mp hi).1
 have cne:=I.cne;have tracked:∀{a:Addr} {h':Heap},(∃o,s.heap.get? a=some o/\H a=none)->Heap.SameBut a s.heap h'->gP X.prog X.w H h':=fun {a h'} ha hs b ob e=>by
  obtain ⟨_,_,hfree⟩:=ha;refine (I.hok b ob e).stay (fun c w' hc q=>(hs.2 c ?_).trans q) (fun _ q=>q) fun _ _ q=>q
  rintro rfl;rcases hc with rfl|hc
  ·rw[hfree] at e;cases e
  ·rw[hfree] at hc;cases hc
 rcases hx with hk|hk
 ·refine wpAny_storeName_local hk hn (fun h' hn' hs=>?_) hcls
  obtain ⟨oL,_,_,hoL,_⟩:=id hn;refine h _ ⟨I.ok,I.os,I.bare,⟨fun b o e n hb hx=>?_,fun b o e n hb hx=>?_,I.base.free,fun b o e hx=>?_,I.base.tups,I.base.frzs,I.base.tbls⟩,⟨_,hn',fun j y v' e1 e2 e3=>?_⟩,fun y c e=>?_,I.free,I.freeC,fun p hp=>?_,tracked ⟨oL,hoL,I.free⟩ hs,by simpa using I.len⟩ ⟨_,hs,.inl rfl⟩
  ·exact (hs.2 b (DF (Dm (Heap.lt_size e) I.ok.above))).trans (I.base.keep b o e n hb hx)
  ·obtain ⟨sl,e1⟩:=I.base.slot b o e n hb hx;exact ⟨sl,(hs.2 b (DF (Dm (Heap.lt_size e) I.ok.above))).trans e1⟩
  ·obtain ⟨o',e1⟩:=I.base.there b o e hx;exact ⟨o',(hs.2 b (DF (Dm (Heap.lt_size e) I.ok.above))).trans e1⟩
  ·by_cases hj:j=i
   ·subst hj;rw[hi] at e1;cases e1;rw[List.getElem?_set_self hiσ] at e2;cases e2;exact ⟨u,r,.inl ⟨hk,by simp⟩⟩
   ·rw[List.getElem?_set_ne (Ne.symm hj)] at e2;obtain ⟨u',r',q⟩:=hl j y v' e1 e2 e3;refine ⟨u',r',?_⟩;rcases q with ⟨k,e⟩|⟨k,c,e,z⟩
    ·refine .inl ⟨k,?_⟩;have:y≠x:=fun e=>hj (m9 hN e1 (e▸hi))
     simp[this,e]
    ·exact .inr ⟨k,c,e,z.sameBut hs (cne y c e)⟩
  ·obtain ⟨w',z⟩:=I.cell y c e;exact ⟨w',z.sameBut hs (cne y c e)⟩
  ·obtain ⟨e,n,ne,nf,d⟩:=I.pin p hp;exact ⟨(hs.2 p.1 ne).trans e,n,ne,nf,d⟩
 ·have hfn:X.fn x=true:=by
   rcases hf with z|z
   ·exact z
   ·rw[z] at hk;cases hk
  obtain ⟨c,hc⟩:=I.ok.has x (.inl hk);obtain ⟨w',z⟩:=I.cell x c hc;refine wpAny_storeName_cell I.ok.kind hk hc z (fun h' hc' hs=>?_)
  obtain ⟨oc,hoc,hocd⟩:=id z;refine h {s with heap:=h'} ⟨I.ok,I.os,I.bare,⟨fun b o e n hb hx=>?_,fun b o e n hb hx=>?_,I.base.free,fun b o e hx=>?_,I.base.tups,I.base.frzs,I.base.tbls⟩,⟨m,hn.sameBut hs (Ne.symm (cne x c hc)),fun j y v' e1 e2 e3=>?_⟩,fun y c' e=>?_,I.free,I.freeC,fun p hp=>?_,tracked ⟨oc,hoc,I.freeC x c hc⟩ hs,by simpa using I.len⟩ ⟨c,hs,.inr hc⟩
  ·exact (hs.2 b (DF (Dm (Heap.lt_size e) (I.ok.cab x c hfn hc)))).trans (I.base.keep b o e n hb hx)
  ·obtain ⟨sl,e1⟩:=I.base.slot b o e n hb hx;exact ⟨sl,(hs.2 b (DF (Dm (Heap.lt_size e) (I.ok.cab x c hfn hc)))).trans e1⟩
  ·obtain ⟨o',e1⟩:=I.base.there b o e hx;exact ⟨o',(hs.2 b (DF (Dm (Heap.lt_size e) (I.ok.cab x c hfn hc)))).trans e1⟩
  ·by_cases hj:j=i
   ·subst hj;rw[hi] at e1;cases e1;rw[List.getElem?_set_self hiσ] at e2;cases e2;exact ⟨u,r,.inr ⟨.inl hk,c,hc,hc'⟩⟩
   ·rw[List.getElem?_set_ne (Ne.symm hj)] at e2;obtain ⟨u',r',q⟩:=hl j y v' e1 e2 e3;refine ⟨u',r',?_⟩;rcases q with q|⟨k,c',e,z'⟩
    ·exact .inl q
    ·refine .inr ⟨k,c',e,z'.sameBut hs ?_⟩;rintro rfl;exact hj (m9 hN e1 (I.ok.inj _ _ _ e hc▸hi))
  ·by_cases hcc:c'=c
   ·subst hcc;exact ⟨_,hc'⟩
   ·obtain ⟨w2,z2⟩:=I.cell y c' e;exact ⟨w2,z2.sameBut hs hcc⟩
  ·obtain ⟨e,n,ne,nf,d⟩:=I.pin p hp;refine ⟨(hs.2 p.1 ?_).trans e,n,ne,nf,d⟩;intro q;rw[q,hoc] at e;have q':oc=p.2:=EG e;exact d w' (by rw[<-q'];exact hocd)
theorem jA {M:Model} {A:Around} {E:FN} {i:Nat} {x:Str} {v:V} {u:Value} {Q:Unit->Shared->Prop} (I:aP X pins σ H s) (hN:X.N.Nodup) (hi:X.N[i]?=some x) (hx:Loc X.env.scope x) (r:RelV v u)
  (h:∀s',aP X pins (σ.set i (some v)) H s'->Q () s') (hf:X.fn x=true∨X.env.scope.names.lookup x=some .local:=by first|exact .inl rfl|exact .inr rfl|assumption):wpAny M A (storeName X.env x u) Q E s:=
 gD I hN hi hx r (fun s' I' _=>h s' I') hf
theorem aP.call' {s':Shared} {ch:FR} (I:aP X pins σ H s) (ho:s'.os=s.os) (u:Un (rV X.stack) ch H H' s.heap s'.heap) (hok:gP X.prog X.w H' s'.heap) (hg:AllBare s'.gens)
  (hch:∀b∈ch,(b∈X.ex∨X.s₀.heap.objs.size<=b)/\b≠X.env.locals/\(∀x c,X.env.cells.lookup x=some c->c≠b)/\∀p∈X.pn++pins,p.1≠b):aP X pins σ H' s':=by
 obtain ⟨h',g',d',t',o'⟩:=s';have e:o'=s.os:=ho;subst e;exact I.call (g':=g') (t':=t') (d':=d') u hok hg hch
abbrev XK:=Value->FT->Hp->Prop
abbrev St:=List (Option V)
abbrev VK:=V->Hp->Prop
abbrev TE:=St->Hp->VK->Prop
abbrev TT:=St->Hp->(Bool->Hp->Prop)->Prop
abbrev TA:=St->Hp->(List V->Hp->Prop)->Prop
structure Ends where
 nx:St->Hp->Prop
 rt:VK
 bk:St->Hp->Prop:=fun _ _=>False
 ct:St->Hp->Prop:=fun _ _=>False
abbrev TS:=Ends->St->Hp->Prop
def EP (X:Cx) (pins:FP) (σ:St) (Q:VK) (u:Value) (s':Shared):Prop:=∃v H',aP X pins σ H' s'/\RelV v u/\Q v H'
def TP (X:Cx) (pins:FP) (σ:St) (Q:Bool->Hp->Prop) (b:Bool) (s':Shared):Prop:=∃H',aP X pins σ H' s'/\Q b H'
def AP (X:Cx) (pins:FP) (σ:St) (Q:List V->Hp->Prop) (us:FS) (s':Shared):Prop:=∃vs H',aP X pins σ H' s'/\bg vs us/\Q vs H'
def SP (X:Cx) (pins:FP) (D:Ends) (f:Flow) (s':Shared):Prop:=
 match f with
 | .next=>∃σ' H',aP X pins σ' H' s'/\D.nx σ' H'
 | .brk=>∃σ' H',aP X pins σ' H' s'/\D.bk σ' H'
 | .cont=>∃σ' H',aP X pins σ' H' s'/\D.ct σ' H'
 | .ret u=>∃v σ' H',aP X pins σ' H' s'/\RelV v u/\D.rt v H'
def PE (X:Cx) (e:Expr) (t:TE):Prop:=
 ∀(pins:FP) (s:Shared) (σ:St) (H:Hp) (Q:VK),aP X pins σ H s->t σ H Q->wpAny (model X.prog X.w) X.A (eval e X.env) (EP X pins σ Q) X.xe s
def PT (X:Cx) (e:Expr) (t:TT):Prop:=
 ∀(pins:FP) (s:Shared) (σ:St) (H:Hp) (Q:Bool->Hp->Prop),aP X pins σ H s->t σ H Q->wpAny (model X.prog X.w) X.A (isTrue e X.env (eval e X.env)) (TP X pins σ Q) X.xe s
def PW (X:Cx) (e:Expr) (t:TT):Prop:=
 ∀(whole:Sem Value) (pins:FP) (s:Shared) (σ:St) (H:Hp) (Q:Bool->Hp->Prop),aP X pins σ H s->t σ H Q->wpAny (model X.prog X.w) X.A (isTrue e X.env whole) (TP X pins σ Q) X.xe s
theorem PW.pt {X:Cx} {e:Expr} {t:TT} (h:PW X e t):PT X e t:=h _
def PA (X:Cx) (es:List Expr) (t:TA):Prop:=
 ∀(pos:Pos) (pins:FP) (s:Shared) (σ:St) (H:Hp) (Q:List V->Hp->Prop),aP X pins σ H s->t σ H Q->wpAny (model X.prog X.w) X.A (spliced (backTo pos (starEach es X.env))) (AP X pins σ Q) X.xe s
def PS (X:Cx) (st:Stmt) (t:TS):Prop:=
 ∀(pins:FP) (s:Shared) (σ:St) (H:Hp) (D:Ends),aP X pins σ H s->t D σ H->wpAny (model X.prog X.w) X.A (exec st X.env) (SP X pins D) X.xe s
def tK (X:Cx) (st:List Stmt) (t:TS):Prop:=
 ∀(pins:FP) (s:Shared) (σ:St) (H:Hp) (D:Ends),aP X pins σ H s->t D σ H->wpAny (model X.prog X.w) X.A (execs st X.env) (SP X pins D) X.xe s
theorem bi {α:Type} {t:Sem α} {Q Q':α->Shared->Prop} {M:Model} {A:Around} {E:FN} {s:Shared} (h:wpAny M A t Q E s) (hQ:∀a s,Q a s->Q' a s):wpAny M A t Q' E s:=wpAny_mono h hQ fun _ _ x=>x
section
def zF (i:Nat):TE:=fun σ H Q=>∃v,σ[i]?=some (some v)/\Q v H
def tC (v:V):TE:=fun _ H Q=>Q v H
theorem xD {i:Nat} {x:Str} {pos:Pos} (hN:X.N[i]?=some x) (hv:BA X.env.scope x) (hd:(x==("__debug__" :Str))=false:=by decide) (hcd:(x==("__classdict__" :Str))=false:=by decide):PE X (.Name x pos) (zF i):=by
 intro pins s σ H Q I h;obtain ⟨v,e,h⟩:=h;obtain ⟨m,hn,hl⟩:=I.loc;obtain ⟨u,r,l⟩:=hl i x v hN e hv;have fin:EP X pins σ Q u s:=⟨v,H,I,r,h⟩;rcases l with ⟨hk,hm⟩|⟨hk,c,hc,hcell⟩
 ·exact wpAny_Name (wpAny_loadName_local I.ok.kind hk hn hm fin) hd
 ·rcases hk with hk|hk
  ·exact wpAny_Name (wpAny_loadName_cell I.ok.kind hk hc hcell fin) hd
  ·exact wpAny_Name (wpAny_loadName_free I.ok.kind hk hc hcell fin hcd) hd
theorem af {i j pos}:PE X (.Constant (.int i) j pos) (tC (.int i)):=fun _ _ _ H _ I h=>wpAny_Constant_int ⟨.int i,H,I.tok _,⟨_,rfl⟩,h⟩
theorem bE {b j pos}:PE X (.Constant (.bool b) j pos) (tC (.bl b)):=fun _ _ _ H _ I h=>Constant_bool ⟨.bl b,H,I,rfl,h⟩
theorem aZ {j pos}:PE X (.Constant .none j pos) (tC .non):=fun _ _ _ H _ I h=>Constant_none ⟨.non,H,I,rfl,h⟩
theorem dh {x j pos}:PE X (.Constant (.str x) j pos) (tC (.str x)):=fun _ _ _ H _ I h=>Calls.Constant_str ⟨.str x,H,I.tok _,⟨_,rfl⟩,h⟩
def Gl (X:Cx) (x:Str):Prop:=X.env.kindOf x=some .globalImplicit
theorem lV {E:FN} {pins:FP} {s:Shared} {σ:St} {H:Hp} {x:Str} {u:Value} {pos:Pos} {Q:FN} (I:aP X pins σ H s) (hg:Gl X x) (hm:X.mg x=some u) (h:Q u s)
  (hd:(x==("__debug__" :Str))=false:=by decide):wpAny (model X.prog X.w) X.A (eval (.Name x pos) X.env) Q E s:=
 Calls.Name_function_global I.ok.kind hg (Calls.loadGlobal_global (by rw[I.ok.glob];exact I.mod.glob.keeps I.bk) hm h) hd
theorem dC {E:FN} {pins:FP} {s:Shared} {σ:St} {H:Hp} {x:Str} {u:Value} {pos:Pos} {Q:FN} (I:aP X pins σ H s) (hg:Gl X x) (hm:X.mg x=none) (hv:bootBuiltins x=some u) (h:Q u s)
  (hn:x≠ "__name__" :=by decide) (hd:(x==("__debug__" :Str))=false:=by decide):wpAny (model X.prog X.w) X.A (eval (.Name x pos) X.env) Q E s:=by
 obtain ⟨mb,h1,h2⟩:=I.mod.blt;exact Calls.Name_function_global I.ok.kind hg (Calls.loadGlobal_builtin (by rw[I.ok.glob];exact I.mod.glob.keeps I.bk) hm (by rw[I.ok.blt];exact h1.keeps I.bk) ((h2 x hn).trans hv) h) hd
theorem jv {x:Str} {v:V} {u:Value} {pos:Pos} (hg:Gl X x) (hm:X.mg x=some u) (r:RelV v u) (hd:(x==("__debug__" :Str))=false:=by decide):PE X (.Name x pos) (tC v):=
 fun _ _ _ H _ I h=>lV I hg hm ⟨v,H,I,r,h⟩ hd
theorem vM {x:Str} {v:V} {u:Value} {pos:Pos} (hg:Gl X x) (hm:X.mg x=none) (hv:bootBuiltins x=some u) (r:RelV v u) (hn:x≠ "__name__" :=by decide) (hd:(x==("__debug__" :Str))=false:=by decide):PE X (.Name x pos) (tC v):=
 fun _ _ _ H _ I h=>dC I hg hm hv ⟨v,H,I,r,h⟩ hn hd
variable {a b:Expr} {ta tb:TE} {pos:Pos}
def PC (X:Cx) (op:CmpOp) (a b:Expr) (t:TE):Prop:=
 ∀(pins:FP) (s:Shared) (σ:St) (H:Hp) (Q:VK),aP X pins σ H s->t σ H Q->
  wpAny (model X.prog X.w) X.A (eval a X.env) (fun v s₁=>wpAny (model X.prog X.w) X.A (eval b X.env) (fun u s₂=>wpAny (model X.prog X.w) X.A (compareOp op v u) (EP X pins σ Q) X.xe s₂) X.xe s₁) X.xe s
def tB (t:TE):TT:=fun σ H Q=>t σ H fun x H1=>∃c,x= .bl c/\Q c H1
theorem pw {op:CmpOp} {t:TE} (h:PC X op a b t) (h1:behindInMarks op b=false:=by first|exact nobehind _ (by decide) (by decide)|rfl):PT X (.Compare a [op] [b] pos) (tB t):=by
 intro pins s σ H Q I hw;refine wpAny_isTrue_Compare1 (bi (h pins s σ H _ I hw) fun v s1 h1=>bi h1 fun u s2 h2=>bi h2 fun c s3 ⟨x,H1,I1,r1,q1⟩=>?_) h1
 obtain ⟨d,rfl,q⟩:=q1;cases r1;exact wpAny_truthy_bool ⟨H1,I1,q⟩
theorem dj {e:Expr} {t:TE} (h:PE X e t) (he:∀whole,isTrue e X.env whole=(do let v<-whole;standAt e.pos;holding [v] (truthy v)):=by intro _;rfl):PT X e (tB t):=by
 intro pins s σ H Q I hw;refine isTrue_plain (bi (h pins s σ H _ I hw) fun v s1 ⟨x,H1,I1,r1,q1⟩=>?_) (he _)
 obtain ⟨d,rfl,q⟩:=q1;cases r1;exact wpAny_truthy_bool ⟨H1,I1,q⟩
variable {tA tB':TT} {rest:List Expr}
def BP (t u:TT):TT:=fun σ H Q=>t σ H fun c H1=>if c=true then u σ H1 Q else Q false H1
def CQ (t u:TT):TT:=fun σ H Q=>t σ H fun c H1=>if c=true then Q true H1 else u σ H1 Q
def BQ (t:TT):TT:=fun σ H Q=>t σ H fun c H1=>Q (!c) H1
theorem bW (ha:PT X a tA):PW X (.BoolOp .And [a] pos) tA:=by
 intro wh pins s σ H Q I h;refine isTrue_and (bi (ha pins s σ H Q I h) fun c s1 e=>?_)
 cases c with
 |true=>exact isTrue_and_nil e
 |false=>exact e
theorem dD (ha:PT X a tA):PW X (.BoolOp .Or [a] pos) tA:=by
 intro wh pins s σ H Q I h;refine isTrue_or (bi (ha pins s σ H Q I h) fun c s1 e=>?_)
 cases c with
 |false=>exact isTrue_or_nil e
 |true=>exact e
theorem cF (ha:PT X a tA) (hb:PW X (.BoolOp .And (b::rest) pos) tB'):PW X (.BoolOp .And (a::b::rest) pos) (BP tA tB'):=by
 intro wh pins s σ H Q I h;refine isTrue_and (bi (ha pins s σ H _ I h) fun c s1 ⟨H1,I1,q1⟩=>?_)
 cases c with
 |true=>exact hb wh pins s1 σ H1 Q I1 q1
 |false=>exact ⟨H1,I1,q1⟩
theorem dZ (ha:PT X a tA) (hb:PW X (.BoolOp .Or (b::rest) pos) tB'):PW X (.BoolOp .Or (a::b::rest) pos) (CQ tA tB'):=by
 intro wh pins s σ H Q I h;refine isTrue_or (bi (ha pins s σ H _ I h) fun c s1 ⟨H1,I1,q1⟩=>?_)
 cases c with
 |true=>exact ⟨H1,I1,q1⟩
 |false=>exact hb wh pins s1 σ H1 Q I1 q1
theorem cq (ha:PT X a tA):PT X (.UnaryOp .Not a pos) (BQ tA):=by
 intro pins s σ H Q I h;exact isTrue_not (ha pins s σ H (fun c H1=>Q (!c) H1) I h)
def zG (ta tb:TE):TE:=fun σ H Q=>ta σ H fun x H1=>∃c,x= .bl c/\if c=true then tb σ H1 Q else Q (.bl false) H1
def BR (ta tb:TE):TE:=fun σ H Q=>ta σ H fun x H1=>∃c,x= .bl c/\if c=true then Q (.bl true) H1 else tb σ H1 Q
theorem lW {op} {t:TE} (h:PE X a t):PE X (.BoolOp op [a] pos) t:=fun pins s σ H Q I hw=>BoolOp_one (h pins s σ H Q I hw)
theorem tQ (ha:PE X a ta) (hb:PE X (.BoolOp .And (b::rest) pos) tb):PE X (.BoolOp .And (a::b::rest) pos) (zG ta tb):=by
 intro pins s σ H Q I h;refine BoolOp_and (bi (ha pins s σ H _ I h) fun v s1 ⟨x,H1,I1,r1,q1⟩=>?_)
 obtain ⟨c,rfl,q1⟩:=q1;cases r1;refine wpAny_truthy_bool ?_;cases c with
 |true=>exact hb pins s1 σ H1 Q I1 q1
 |false=>exact ⟨.bl false,H1,I1,rfl,q1⟩
theorem tR (ha:PE X a ta) (hb:PE X (.BoolOp .Or (b::rest) pos) tb):PE X (.BoolOp .Or (a::b::rest) pos) (BR ta tb):=by
 intro pins s σ H Q I h;refine BoolOp_or (bi (ha pins s σ H _ I h) fun v s1 ⟨x,H1,I1,r1,q1⟩=>?_)
 obtain ⟨c,rfl,q1⟩:=q1;cases r1;refine wpAny_truthy_bool ?_;cases c with
 |false=>exact hb pins s1 σ H1 Q I1 q1
 |true=>exact ⟨.bl true,H1,I1,rfl,q1⟩
def CS (t:TT) (ta tb:TE):TE:=fun σ H Q=>t σ H fun c H1=>if c=true then ta σ H1 Q else tb σ H1 Q
theorem jB {c:Expr} (hc:PT X c tA) (ha:PE X a ta) (hb:PE X b tb):PE X (.IfExp c a b pos) (CS tA ta tb):=by
 intro pins s σ H Q I h;refine wpAny_IfExp (bi (hc pins s σ H _ I h) fun d s1 ⟨H1,I1,q1⟩=>?_)
 cases d with
 |true=>exact ha pins s1 σ H1 Q I1 q1
 |false=>exact hb pins s1 σ H1 Q I1 q1
end
def aC (K:D7) (H:Hp) (a:Addr) (xs:List V):Prop:=
 Rd H a (.lst xs)∨
  ∃(o:Obj) (its:Array Value) (n:Nat),K.lookup a=some o/\o.cls= .type "list" /\o.dict=none/\o.data= .seq its n/\its.size<=sizeLine/\bg xs its.toList
def bx (K:D7) (H:Hp) (a:Addr) (xs:List V):Prop:=
 Rd H a (.tup xs)∨
  ∃(o:Obj) (its:Array Value) (n:Nat),K.lookup a=some o/\o.cls= .type "tuple" /\o.data= .seq its n/\its.size<=sizeLine/\bg xs its.toList
def BS:Value->Option V
 | .none=>some .non
 | .bool b=>some (.bl b)
 | .int i _=>some (.int i)
 | .str x _=>some (.str x)
 | .bytes b _=>some (.byt b)
 | .float b _=>some (.flt b)
 | .ref a=>some (.ref a)
 | .type n=>some (.ty n)
 |_=>none
theorem RelV.abs {x:V} {u:Value} (r:RelV x u):BS u=some x:=by
 cases x with
 |non=>cases r;rfl
 |bl _=>cases r;rfl
 |int _=>obtain ⟨t,rfl⟩:=r;rfl
 |str _=>obtain ⟨t,rfl⟩:=r;rfl
 |byt _=>obtain ⟨t,rfl⟩:=r;rfl
 |flt _=>obtain ⟨t,rfl⟩:=r;rfl
 |ref _=>cases r;rfl
 |ty _=>cases r;rfl
theorem RelV.inj {x y:V} {u:Value} (r:RelV x u) (q:RelV y u):x=y:=EG (r.abs.symm.trans q.abs)
theorem bg.inj:∀{xs ys:List V} {us:FS},bg xs us->bg ys us->xs=ys
 |_,_,_,.nil,.nil=>rfl
 |_,_,_,.cons r t,.cons r' t'=>by rw[r.inj r',bg.inj t t']
variable {σ:St} {a:Addr} {xs ys:List V}
theorem aC.of {K:D7} (h:H a=some (.lst xs)):aC K H a xs:= .inl (.inl h)
theorem bx.of {K:D7} (h:H a=some (.tup xs)):bx K H a xs:= .inl (.inl h)
theorem aP.list (I:aP X pins σ H s) (h:aC X.K H a xs):∃its:FS,bg xs its/\PlainL s.heap a its.toArray/\xs.length<=sizeLine:=by
 rcases h with h|⟨o,its,n,hk,hc,hd,hs,hz,r⟩
 ·obtain ⟨z,its,n,r,e⟩:=h.ok I.hok;exact ⟨its,r,⟨_,n,e,rfl,rfl,rfl⟩,z⟩
 ·refine ⟨its.toList,r,⟨o,n,I.kIn a o hk,hc,hd,by simpa using hs⟩,?_⟩
  have e:=r.length;simp only[Dr] at e;omega
theorem aP.tuple (I:aP X pins σ H s) (h:bx X.K H a xs):∃its:FS,bg xs its/\IsTup s.heap a its.toArray/\xs.length<=sizeLine:=by
 rcases h with h|⟨o,its,n,hk,hc,hs,hz,r⟩
 ·obtain ⟨z,its,r,p⟩:=h.ok I.hok;exact ⟨its,r,p,z⟩
 ·refine ⟨its.toList,r,⟨o,I.kIn a o hk,hc,n,by simpa using hs⟩,?_⟩
  have e:=r.length;simp only[Dr] at e;omega
theorem aP.list_inj (I:aP X pins σ H s) (h:aC X.K H a xs) (h':aC X.K H a ys):xs=ys:=by
 obtain ⟨its,r,⟨o,n,e,_,_,d⟩,_⟩:=I.list h;obtain ⟨its',r',⟨o',n',e',_,_,d'⟩,_⟩:=I.list h';rw[e] at e';cases e';rw[d] at d';injection d' with d1 _
 have:its=its':=by simpa using congrArg Array.toList d1
 subst this;exact r.inj r'
abbrev Cx.wish (X:Cx) (E:FN):Cx:={X with xe:=E}
abbrev Cx.nox (X:Cx):Cx:=X.wish fun _ _=>False
theorem Cx.Ok.wish {X:Cx} (ok:X.Ok) (E:FN):(X.wish E).Ok:=
 ⟨ok.mod,ok.kind,ok.glob,ok.blt,ok.above,ok.inj,ok.has,ok.cab,ok.hd,ok.frames,ok.stk,ok.exf,ok.bs,ok.bsz,ok.noex,ok.exfs,ok.funs,ok.frf⟩
theorem Cx.Ok.unwish {X:Cx} {E:FN} (ok:(X.wish E).Ok):X.Ok:=
 ⟨ok.mod,ok.kind,ok.glob,ok.blt,ok.above,ok.inj,ok.has,ok.cab,ok.hd,ok.frames,ok.stk,ok.exf,ok.bs,ok.bsz,ok.noex,ok.exfs,ok.funs,ok.frf⟩
variable {E:FN}
theorem aP.wish (I:aP X pins σ H s) (E:FN):aP (X.wish E) pins σ H s:=⟨I.ok.wish E,I.os,I.bare,I.base,I.loc,I.cell,I.free,I.freeC,I.pin,I.hok,I.len⟩
theorem aP.unwish (I:aP (X.wish E) pins σ H s):aP X pins σ H s:=⟨I.ok.unwish,I.os,I.bare,I.base,I.loc,I.cell,I.free,I.freeC,I.pin,I.hok,I.len⟩
theorem SP.unwish {D:Ends} {f:Flow} {s':Shared} (h:SP (X.wish E) pins D f s'):SP X pins D f s':=by
 cases f with
 |next=>obtain ⟨σ',H',I,q⟩:=h;exact ⟨σ',H',I.unwish,q⟩
 |brk=>obtain ⟨σ',H',I,q⟩:=h;exact ⟨σ',H',I.unwish,q⟩
 |cont=>obtain ⟨σ',H',I,q⟩:=h;exact ⟨σ',H',I.unwish,q⟩
 |ret u=>obtain ⟨v,σ',H',I,r,q⟩:=h;exact ⟨v,σ',H',I.unwish,r,q⟩
theorem tK.nox {st:List Stmt} {t:TS} (h:tK X.nox st t):tK X st t:=fun pins s σ H D I hw=>
 wpAny_mono (h pins s σ H D (I.wish _) hw) (fun _ _ q=>q.unwish) fun _ _ z=>False.elim z
section
variable {st:Stmt} {rest:List Stmt} {t u:TS} {e:Expr} {te:TE} {pos:Pos}
def df:TS:=fun D σ H=>D.nx σ H
def xE (t u:TS):TS:=fun D σ H=>t {D with nx:=u D} σ H
theorem aw:tK X [] df:=fun _ _ σ H _ I h=>wpAny_execs_nil ⟨σ,H,I,h⟩
theorem ae (h1:PS X st t) (h2:tK X rest u):tK X (st::rest) (xE t u):=by
 intro pins s σ H D I h;refine wpAny_execs_cons (bi (h1 pins s σ H {D with nx:=u D} I h) fun f s1 q=>?_)
 cases f with
 |next=>
  obtain ⟨σ',H',I',q⟩:=q;exact h2 pins s1 σ' H' D I' q
 |ret v=>exact q
 |brk=>exact q
 |cont=>exact q
theorem aj (h1:PS X st t):tK X [st] t:=by
 intro pins s σ H D I h;refine wpAny_execs_cons (bi (h1 pins s σ H D I h) fun f s1 q=>?_)
 cases f with
 |next=>exact wpAny_execs_nil q
 |ret v=>exact q
 |brk=>exact q
 |cont=>exact q
def xF:TS:=fun D σ H=>D.bk σ H
theorem tT:PS X (.Break pos) xF:=fun _ _ σ H _ I h=>wpAny_Break ⟨σ,H,I,h⟩
theorem aP.quiet {pins:FP} {σ:St} {H:Hp} {s:Shared} (I:aP X pins σ H s):interactive X.env=false:=by simp[interactive,I.ok.kind]
def zH (te:TE):TS:=fun D σ H=>te σ H fun _ H1=>D.nx σ H1
theorem bC (he:PE X e te) (hs:swapsWith e none pos.line X.env=pure false:=by rfl):PS X (.Expr e pos) (zH te):=by
 intro pins s σ H D I h;exact wpAny_Expr_any (bi (he pins s σ H _ I h) fun v s1 ⟨x,H1,I1,r1,q1⟩=>⟨σ,H1,I1,q1⟩) I.quiet hs
def BU (te:TE):TS:=fun D σ H=>te σ H D.rt
theorem au (he:PE X e te):PS X (.Return (some e) pos) (BU te):=by
 intro pins s σ H D I h;exact wpAny_Return_some (bi (he pins s σ H _ I h) fun v s1 ⟨x,H1,I1,r1,q1⟩=>⟨x,σ,H1,I1,r1,q1⟩)
def BV (c:TT) (t u:TS):TS:=fun D σ H=>c σ H fun b H1=>if b=true then t D σ H1 else u D σ H1
theorem aL {c:Expr} {a b:List Stmt} {tc:TT} (hc:PT X c tc) (ha:tK X a t) (hb:tK X b u):PS X (.If c a b pos) (BV tc t u):=by
 intro pins s σ H D I h;refine wpAny_If (bi (hc pins s σ H _ I h) fun d s1 ⟨H1,I1,q1⟩=>?_)
 cases d with
 |true=>exact ha pins s1 σ H1 D I1 q1
 |false=>exact hb pins s1 σ H1 D I1 q1
def xG:TS:=fun _ _ _=>False
theorem bN:PS X st xG:=fun _ _ _ _ _ _ h=>h.elim
end
abbrev TG:=V->St->Hp->(St->Hp->Prop)->Prop
abbrev xg:=List V->St->Hp->(St->Hp->Prop)->Prop
def PG (X:Cx) (target:Expr) (t:TG):Prop:=
 ∀(pins:FP) (s:Shared) (σ:St) (H:Hp) (v:V) (u:Value) (Q:St->Hp->Prop),aP X pins σ H s->RelV v u->t v σ H Q->
  wpAny (model X.prog X.w) X.A (assign target X.env u) (fun _ s'=>∃σ' H',aP X pins σ' H' s'/\Q σ' H') X.xe s
def zI (X:Cx) (ts:List Expr) (t:xg):Prop:=
 ∀(pins:FP) (s:Shared) (σ:St) (H:Hp) (vs:List V) (us:FS) (Q:St->Hp->Prop),aP X pins σ H s->bg vs us->t vs σ H Q->
  wpAny (model X.prog X.w) X.A (assignInOrder ((assignEach ts X.env).map (·.2)) us) (fun _ s'=>∃σ' H',aP X pins σ' H' s'/\Q σ' H') X.xe s
abbrev xH:=V->V->V->Hp->(Hp->Prop)->Prop
def zJ (X:Cx) (t:xH):Prop:=
 ∀(pins:FP) (s:Shared) (σ:St) (H:Hp) (o i v:V) (ov iv u:Value) (Q:Hp->Prop),aP X pins σ H s->RelV o ov->RelV i iv->RelV v u->t o i v H Q->
  wpAny (model X.prog X.w) X.A (setItem ov iv u) (fun _ s'=>∃H',aP X pins σ H' s'/\Q H') X.xe s
abbrev BB:=V->V->Hp->VK->Prop
def CL (X:Cx) (op:Operator) (t:BB):Prop:=
 ∀(pins:FP) (s:Shared) (σ:St) (H:Hp) (x y:V) (v u:Value) (Q:VK),aP X pins σ H s->RelV x v->RelV y u->t x y H Q->
  wpAny (model X.prog X.w) X.A (inplaceOp op v u) (EP X pins σ Q) X.xe s
variable {pos:Pos}
def cu (i:Nat):TG:=fun v σ H Q=>Q (σ.set i (some v)) H
theorem dw {i:Nat} {x:Str} (hN:X.N.Nodup) (hi:X.N[i]?=some x) (hx:Loc X.env.scope x) (hf:X.fn x=true∨X.env.scope.names.lookup x=some .local:=by first|exact .inl rfl|exact .inr rfl|assumption):PG X (.Name x pos) (cu i):=by
 intro pins s σ H v u Q I r h;exact wpAny_assign_Name (jA I hN hi hx r (fun s' I'=>⟨_,H,I',h⟩) hf)
def BW:xg:=fun vs σ H Q=>vs= []/\Q σ H
def zK (t:TG) (u:xg):xg:=fun vs σ H Q=>∃v r,vs=v::r/\t v σ H fun σ' H'=>u r σ' H' Q
theorem bX:zI X [] BW:=by
 intro pins s σ H vs us Q I r h;obtain ⟨e,h⟩:=h;subst e;cases r;exact assignInOrder_nil ⟨σ,H,I,h⟩
theorem aI {e:Expr} {es:List Expr} {t:TG} {u:xg} (h1:PG X e t) (h2:zI X es u)
  (hs:(assignEach (e::es) X.env).map (·.2)=assign e X.env::(assignEach es X.env).map (·.2):=by rfl):zI X (e::es) (zK t u):=by
 intro pins s σ H vs us Q I r h;obtain ⟨v,vr,e1,h⟩:=h;subst e1;cases r with
 |cons r rr=>
  rw[hs];refine assignInOrder_cons (bi (h1 pins s σ H _ _ _ I r h) fun _ s1 ⟨σ1,H1,I1,q1⟩=>?_)
  exact h2 pins s1 σ1 H1 _ _ Q I1 rr q1
def zL (K:D7) (n:Nat) (t:xg):TG:=fun v σ H Q=>∃a xs,v= .ref a/\bx K H a xs/\xs.length=n/\t xs σ H Q
theorem cV {es:List Expr} {k:Nat} {t:xg} {n:Nat} (hc:X.calm=true) (h:zI X es t)
  (hn:(assignEach es X.env).length=n:=by rfl) (hst:(assignEach es X.env).findIdx? (·.1)=none:=by rfl):PG X (.Tuple es k pos) (zL X.K n t):=by
 intro pins s σ H v u Q I r hw;obtain ⟨a,xs,e1,hq,hl,hw⟩:=hw;subst e1;cases r;obtain ⟨its,rv,ht,hz⟩:=I.tuple hq;refine assign_Tuple_tuple (I.ok.hd hc) ht (by simp[hn,<-hl,rv.length]) hst fun h' hx=>?_
 have I1:aP X pins σ H {s with heap:=h'}:=I.kept (t':=s.toks) fun b o e=>hx b o (DF (Heap.lt_size e)) e
 exact h pins _ σ H xs _ Q I1 (by simpa using rv) hw
def BX (to ti:TE) (t:xH):TG:=fun v σ H Q=>to σ H fun o H1=>ti σ H1 fun i H2=>t o i v H2 fun H3=>Q σ H3
theorem xI {o i:Expr} {to ti:TE} {t:xH} (ho:PE X o to) (hi:PE X i ti) (hs:zJ X t)
  (ha:∀v,assign (.Subscript o i pos) X.env v=(do
   let ov<-holding [v] (eval o X.env)
   let iv<-holding [v,ov] (eval i X.env)
   standAt pos
   holding [v,ov,iv] (setItem ov iv v)
   release [v,ov,iv] []):=by intro _;rfl):PG X (.Subscript o i pos) (BX to ti t):=by
 intro pins s σ H v u Q I r h;rw[ha];refine wpAny_bind (wpAny_holding (bi (ho pins s σ H _ I h) fun ov s1 ⟨x,H1,I1,r1,q1⟩=>?_))
 refine wpAny_bind (wpAny_holding (bi (hi pins s1 σ H1 _ I1 q1) fun iv s2 ⟨y,H2,I2,r2,q2⟩=>?_))
 refine wpAny_bind (wpAny_standAt (wpAny_bind (wpAny_holding (bi (hs pins s2 σ H2 x y v ov iv u _ I2 r1 r2 r q2) fun _ s3 ⟨H3,I3,q3⟩=>?_))))
 exact wpAny_release ⟨σ,H3,I3,q3⟩
def rW (te:TE) (g:TG):TS:=fun D σ H=>te σ H fun x H1=>g x σ H1 D.nx
theorem jC {tg e:Expr} {te:TE} {g:TG} (he:PE X e te) (hg:PG X tg g) (hs:swapsWithSole [tg] e pos.line X.env=pure false:=by rfl) (hw:swappedStores [tg] e X.env=pure none:=by rfl)
  (h1:(assignEach [tg] X.env).map (·.2)= [assign tg X.env]:=by rfl):PS X (.Assign [tg] e pos) (rW te g):=by
 intro pins s σ H D I h;refine wpAny_Assign_stores (bi (he pins s σ H _ I h) fun v s1 ⟨x,H1,I1,r1,q1⟩=>?_) hs hw
 rw[h1];exact bi (hg pins s1 σ H1 x v _ I1 r1 q1) fun _ s2 q=>q
theorem fr {i:Nat} {x:Str} {e:Expr} {te:TE} {pos':Pos} (hN:X.N.Nodup) (hi:X.N[i]?=some x) (hx:Loc X.env.scope x) (he:PE X e te) (hs:swapsWith e (some (.Name x pos')) pos.line X.env=pure false:=by rfl) (hf:X.fn x=true∨X.env.scope.names.lookup x=some .local:=by first|exact .inl rfl|exact .inr rfl|assumption):
  PS X (.Assign [.Name x pos'] e pos) (rW te (cu i)):=by
 intro pins s σ H D I h;refine wpAny_Assign_Name (bi (he pins s σ H _ I h) fun v s1 ⟨y,H1,I1,r1,q1⟩=>?_) hs
 exact jA I1 hN hi hx r1 (fun s2 I2=>⟨_,H1,I2,q1⟩) hf
def BY (i:Nat) (te:TE) (ti:BB):TS:=fun D σ H=>∃x,σ[i]?=some (some x)/\te σ H fun y H1=>ti x y H1 fun z H2=>D.nx (σ.set i (some z)) H2
theorem xJ {i:Nat} {x:Str} {e:Expr} {te:TE} {op:Operator} {ti:BB} {pos':Pos} (hN:X.N.Nodup) (hi:X.N[i]?=some x) (hx:Loc X.env.scope x) (he:PE X e te) (ho:CL X op ti) (hf:X.fn x=true∨X.env.scope.names.lookup x=some .local:=by first|exact .inl rfl|exact .inr rfl|assumption):
  PS X (.AugAssign (.Name x pos') op e pos) (BY i te ti):=by
 intro pins s σ H D I h;obtain ⟨v,e1,h⟩:=h;obtain ⟨m,hn,hl⟩:=I.loc;have vis:BA X.env.scope x:=by rcases hx with k|k;exact .inl k;exact .inr (.inl k)
 obtain ⟨u,r,l⟩:=hl i x v hi e1 vis;refine wpAny_AugAssign_Name ?_;have go:wpAny (model X.prog X.w) X.A (eval e X.env) (fun w s₂=>wpAny (model X.prog X.w) X.A (inplaceOp op u w) (fun r s₃=>wpAny (model X.prog X.w) X.A (storeName X.env x r) (fun _=>SP X pins D .next) X.xe s₃) X.xe s₂) X.xe s:=by
  refine bi (he pins s σ H _ I h) fun w s1 ⟨y,H1,I1,r1,q1⟩=>?_
  refine bi (ho pins s1 σ H1 v y u w _ I1 r r1 q1) fun z s2 ⟨zv,H2,I2,r2,q2⟩=>?_
  exact jA I2 hN hi hx r2 (fun s3 I3=>⟨_,H2,I3,q2⟩) hf
 rcases l with ⟨hk,hm⟩|⟨hk,c,hc,hcell⟩
 ·exact wpAny_loadName_local I.ok.kind hk hn hm go
 ·rcases hk with hk|hk
  ·exact wpAny_loadName_cell I.ok.kind hk hc hcell go
  ·rcases hx with k|k
   ·have:X.env.scope.names.lookup x=some .free:=hk;rw[k] at this;cases this
   ·have:X.env.scope.names.lookup x=some .free:=hk;rw[k] at this;cases this
def CT (f:Int->Int->Int):BB:=fun x y H Q=>∃i j,x= .int i/\y= .int j/\Q (.int (f i j)) H
theorem xK:CL X .Add (CT fun i j=>i+j):=by
 intro pins s σ H x y v u Q I r1 r2 h;obtain ⟨i,j,e1,e2,q⟩:=h;subst e1;subst e2;obtain ⟨t,rfl⟩:=r1;obtain ⟨t',rfl⟩:=r2;exact iadd_int ⟨.int _,H,I.tok _,⟨_,rfl⟩,q⟩
structure It where
 go:Nat->Hp->Prop
 yld:Nat->Hp->V->Hp->Prop
 stop:Nat->Hp->Prop
def dM (X:Cx) (pins:FP) (H:Hp) (b:Addr):Prop:=
 H b=none/\b≠X.env.locals/\b∉X.fs/\(b∈X.ex∨X.s₀.heap.objs.size<=b)/\(∀x c,X.env.cells.lookup x=some c->c≠b)/\∀p∈X.pn++pins,p.1≠b
theorem aP.fpOk {X:Cx} {pins:FP} {σ:St} {H H':Hp} {s:Shared} {b:Addr} (I:aP X pins σ H s) (hb:s.heap.objs.size<=b) (hn:H' b=none):dM X pins H' b:=by
 refine ⟨hn,EU (Dm I.lt hb),I.nofs hb,.inr (EF I.sz hb),fun x c e z=>?_,fun p hp z=>?_⟩
 ·obtain ⟨v,q⟩:=I.cell x c e;exact absurd (Dm q.lt (by rw[z];exact hb)) (Ec _)
 ·exact absurd (Dm (Heap.lt_size (I.pin p hp).1) (by rw[z];exact hb)) (Ec _)
structure Turn (P:Program) (w:World) (K:D7) (tg:Expr) (J:It) (fp:FR) (it:Addr) (tn:Nat->Heap->Prop):Prop where
 mem:it∈fp
 obj:∀i h,tn i h->∀b∈fp,∃o,h.get? b=some o/\∀v,o.data≠ .cell v
 keep:∀i h h',tn i h->(∀b∈fp,∀o,h.get? b=some o->h'.get? b=some o)->tn i h'
 item:∀(X:Cx),X.prog=P->X.w=w->X.K=K->X.calm=true->∀(i:Nat) (pins:FP) (s:Shared) (σ:St) (H:Hp) (E:FN),aP X pins σ H s->(∀b∈fp,dM X pins H b)->tn i s.heap->J.go i H->
  wpAny (model P w) X.A (pyNext (.ref it)) (fun r s1=>∃u,r=some u/\
   wpAny (model P w) X.A (letOwnedTupleGo tg (.ref it) u) (fun _ s2=>∃x H',aP X pins σ H' s2/\RelV x u/\J.yld i H x H'/\tn (i+1) s2.heap/\∀b∈fp,H' b=none) E s1) E s
 done:∀(X:Cx),X.prog=P->X.w=w->X.K=K->X.calm=true->∀(i:Nat) (pins:FP) (s:Shared) (σ:St) (H:Hp) (E:FN),aP X pins σ H s->(∀b∈fp,dM X pins H b)->tn i s.heap->J.stop i H->
  wpAny (model P w) X.A (pyNext (.ref it)) (fun r s1=>r=none/\aP X pins σ H s1) E s
 self:∀(A:Around) (i:Nat) (s:Shared) (Q:FN) (E:FN),tn i s.heap->Q (.ref it) s->wpAny (model P w) A (pyIter (.ref it)) Q E s
abbrev TI:=St->Hp->(It->Hp->Prop)->Prop
def BZ (X:Cx) (pins:FP) (σ:St) (tg:Expr) (R:It->Hp->Prop) (itv:Value) (s2:Shared):Prop:=
 ∃(it:Addr) (fp:FR) (tn:Nat->Heap->Prop) (J:It) (H':Hp),itv= .ref it/\aP X pins σ H' s2/\Turn X.prog X.w X.K tg J fp it tn/\tn 0 s2.heap/\(∀b∈fp,dM X pins H' b)/\R J H'
def PI (X:Cx) (tg iter:Expr) (wi:TI):Prop:=
 ∀(pins:FP) (s:Shared) (σ:St) (H:Hp) (R:It->Hp->Prop),aP X pins σ H s->wi σ H R->
  wpAny (model X.prog X.w) X.A (eval iter X.env) (fun v s1=>wpAny (model X.prog X.w) X.A (pyIter v) (BZ X pins σ tg R) X.xe s1) X.xe s
theorem nc {M:Model} {A:Around} {E:FN} {s:Shared} {tg:Expr} {it:Addr} {u:Value} {o:Obj} {n:String} {vs:Array Value} {Q:Unit->Shared->Prop} (ho:s.heap.get? it=some o) (hc:o.cls= .type n) (hd:o.data= .fields vs)
    (hn: ["enumerate","zip","dict_itemiterator","dict_reverseitemiterator","odict_iterator","itertools.zip_longest","itertools.pairwise"].contains n=false) (hQ:Q () s):wpAny M A (letOwnedTupleGo tg (.ref it) u) Q E s:=by
  unfold letOwnedTupleGo;cases tg<;>first
    |exact wpAny_pure hQ
    | (cases u<;>first
        |exact wpAny_pure hQ
        | (refine wpAny_bind (wpAny_load ho ?_)
           rw[hc,hd];show wpAny M A (if (["enumerate","zip","dict_itemiterator","dict_reverseitemiterator","odict_iterator","itertools.zip_longest","itertools.pairwise"].contains n&&vs[0]?==some (rawInt _))=true then _ else _) Q E s
           rw[if_neg (by intro h;rw[hn,EN] at h;cases h)]
           exact wpAny_pure hQ))
def vN (K:D7) (a:Addr):It:=
 ⟨fun i H=>∃xs x,aC K H a xs/\xs[i]?=some x,fun i H x H'=>H'=H/\∀xs,aC K H a xs->xs[i]?=some x,fun i H=>∃xs,aC K H a xs/\xs.length<=i⟩
def xh (lo:Int) (n:Nat):It:=⟨fun i _=>i<n,fun i H x H'=>H'=H/\x= .int (lo+i),fun i _=>n<=i⟩
theorem rX {P:Program} {w:World} {K:D7} {tg:Expr} (a it:Addr):Turn P w K tg (vN K a) [it] it (fun i h=>h.IsListIter it a i) where
 mem:=by simp
 obj:=fun i h st b hb=>by
  have e:b=it:=by simpa using hb
  subst e;obtain ⟨o,e,c,d⟩:=st;exact ⟨o,e,fun v z=>by rw[d] at z;cases z⟩
 keep:=fun i h h' st k=>st.at fun o e=>k it (by simp) o e
 item:=by
  intro X hP hw hK hc i pins s σ H E I hf st hg;subst hP hw hK;obtain ⟨xs,x,hq,hx⟩:=hg;obtain ⟨its,rv,p,hz⟩:=I.list hq;obtain ⟨u,hu,ru⟩:=rv.get hx;obtain ⟨f0,f1,f2,f3,f4,f5⟩:=hf it (by simp)
  refine wpAny_pyNext_list_item st p.isList (x:=u) (by simpa using hu) fun h' st' sb=>?_
  have I1:aP X pins σ H {s with heap:=h'}:=I.turned (t':=s.toks) (fun b o hb e=>(sb.2 b hb).trans e) f0 f1 f3 f4 f5
  obtain ⟨o,e,c,d⟩:=id st';exact ⟨u,rfl,nc (s:={s with heap:=h'}) e c d (by decide) ⟨x,H,I1,ru,⟨rfl,fun ys hy=>by rw[I.list_inj hy hq];exact hx⟩,st',fun b hb=>(hf b hb).1⟩⟩
 done:=by
  intro X hP hw hK hc i pins s σ H E I hf st hg;subst hP hw hK;obtain ⟨xs,hq,hx⟩:=hg;obtain ⟨its,rv,p,hz⟩:=I.list hq;obtain ⟨f0,f1,f2,f3,f4,f5⟩:=hf it (by simp)
  have hl:=rv.length;exact wpAny_pyNext_list_end (I.ok.hd hc) st p.isList (by simp;omega) fun h' eb=>⟨rfl,I.turned (t':=s.toks) (fun b o hb e=>eb b o hb e) f0 f1 f3 f4 f5⟩
 self:=fun _ _ _ _ _ st h=>wpAny_pyIter_listiter st h
theorem pA {P:Program} {w:World} {K:D7} {tg:Expr} (it:Addr) (lo:Int) (n:Nat):Turn P w K tg (xh lo n) [it] it (fun i h=>IsRangeIter h it (lo+(i:Nat)*1) ((n:Int)-(i:Nat)) 1) where
 mem:=by simp
 obj:=fun i h st b hb=>by
  have e:b=it:=by simpa using hb
  subst e;exact ⟨_,st,fun v z=>by
   have z':Data.fields _=Data.cell v:=z;cases z'⟩
 keep:=fun i h h' st k=>k it (by simp) _ st
 item:=by
  intro X hP hw hK hc i pins s σ H E I hf st hg;subst hP hw hK;obtain ⟨f0,f1,f2,f3,f4,f5⟩:=hf it (by simp)
  have W:=Walks.range (prog:=X.prog) (w:=X.w) (I.ok.hd hc) it lo 1 n;refine W.item i s _ _ hg st fun v h' tk hv st' kk=>?_
  obtain ⟨t,rfl⟩:=hv;have I1:aP X pins σ H {s with heap:=h',toks:=tk}:=I.turned (fun b o hb e=>kk b o (by simpa using hb) e) f0 f1 f3 f4 f5
  refine ⟨_,rfl,nc (s:={s with heap:=h',toks:=tk}) (n:= "range_iterator") st' rfl rfl (by decide) ⟨.int (lo+i),H,I1,⟨t,?_⟩,⟨rfl,rfl⟩,st',fun b hb=>(hf b hb).1⟩⟩
  rw[Int.mul_one]
 done:=by
  intro X hP hw hK hc i pins s σ H E I hf st hg;subst hP hw hK;obtain ⟨f0,f1,f2,f3,f4,f5⟩:=hf it (by simp)
  exact wpAny_pyNext_range_end (I.ok.hd hc) st (by have:n<=i:=hg;omega) fun h' eb=>⟨rfl,I.turned (t':=s.toks) (fun b o hb e=>eb b o hb e) f0 f1 f3 f4 f5⟩
 self:=fun _ _ _ _ _ st h=>wpAny_pyIter_rangeiter st h
variable {tg:Expr}
def xi (K:D7) (tl:TE):TI:=fun σ H R=>tl σ H fun x H1=>∃a,x= .ref a/\(∃xs,aC K H1 a xs)/\R (vN K a) H1
theorem aF {l:Expr} {tl:TE} (hl:PE X l tl):PI X tg l (xi X.K tl):=by
 intro pins s σ H R I h;refine bi (hl pins s σ H _ I h) fun v s1 ⟨x,H1,I1,r1,q1⟩=>?_
 obtain ⟨a,e,⟨xs,hq⟩,q⟩:=q1;subst e;cases r1;obtain ⟨its,rv,p,hz⟩:=I1.list hq;refine wpAny_pyIter_list p.isList ?_;refine ⟨s1.heap.objs.size,[s1.heap.objs.size],_,_,H1,rfl,I1.kept (t':=s1.toks) fun b o e=>Heap.get?_push_of_some _ e,rX a _,⟨_,Heap.get?_push_size _ rfl,rfl,rfl⟩,fun b hb=>?_,q⟩
 have e:b=s1.heap.objs.size:=by simpa using hb
 subst e;exact I1.fpOk (D9 _) (I1.hok.fresh (D9 _))
theorem ng {pins:FP} {σ:St} {H:Hp} {s:Shared} {R:It->Hp->Prop} {E:FN} {lo hi:Int} {t u v:Tok} {tk:Nat} (I:aP X pins σ H s) (h1: -(2^62)<=lo) (h2:lo<2^62) (h3: -(2^62)<=hi) (h4:hi<2^62)
  (q:R (xh lo (hi-lo).toNat) H):wpAny (model X.prog X.w) X.A (pyIter (.ref s.heap.objs.size)) (BZ X pins σ tg R) E {s with heap:=s.heap.push {cls:= .type "range",data:= .fields #[.int lo t,.int hi u,.int 1 v]},toks:=tk}:=by
 refine wpAny_pyIter_range (IsRange.new ..) (small_one h1 h2 h3 h4) ?_;have I1:aP X pins σ H {s with heap:=s.heap.push {cls:= .type "range",data:= .fields #[.int lo t,.int hi u,.int 1 v]},toks:=tk}:=I.kept fun b o e=>Heap.get?_push_of_some _ e
 refine ⟨(s.heap.push {cls:= .type "range",data:= .fields #[.int lo t,.int hi u,.int 1 v]}).objs.size,[(s.heap.push {cls:= .type "range",data:= .fields #[.int lo t,.int hi u,.int 1 v]}).objs.size],_,_,H,rfl,
  I1.kept (t':=tk) fun b o e=>Heap.get?_push_of_some _ e,pA _ lo (hi-lo).toNat,?_,fun b hb=>?_,q⟩
 ·have e1:lo+((0:Nat):Int)*1=lo:=by simp
  have e2:(((hi-lo).toNat:Nat):Int)-((0:Nat):Int)=Builtin.Range.rangeSize lo hi 1:=by rw[rangeSize_one];split<;>omega
  show IsRangeIter _ _ (lo+((0:Nat):Int)*1) ((((hi-lo).toNat:Nat):Int)-((0:Nat):Int)) 1;rw[e1,e2];exact Heap.get?_push_size _ rfl
 ·have e:b=(s.heap.push {cls:= .type "range",data:= .fields #[.int lo t,.int hi u,.int 1 v]}).objs.size:=by simpa using hb
  subst e;exact I1.fpOk (D9 _) (I1.hok.fresh (D9 _))
def zM (ta:TA):TI:=fun σ H R=>ta σ H fun vs H1=>∃j:Int,vs= [.int j]/\ -(2^62)<=j/\j<2^62/\R (xh 0 j.toNat) H1
def zN (ta:TA):TI:=fun σ H R=>ta σ H fun vs H1=>∃i j:Int,vs= [.int i,.int j]/\(-(2^62)<=i/\i<2^62/\ -(2^62)<=j/\j<2^62)/\R (xh i (j-i).toNat) H1
theorem b9 {a:Expr} {ta:TA} {p pos:Pos} (hg:Gl X "range") (hm:X.mg "range" =none) (ha:PA X [a] ta) (hs:starEach [a] X.env= [(false,eval a X.env)]:=by rfl):PI X tg (.Call (.Name "range" p) [a] [] pos) (zM ta):=by
 intro pins s σ H R I h;refine Call_ (dC I hg hm boot_range (Dt (bi (ha pos pins s σ H _ I h) fun us s1 ⟨vs,H1,I1,r1,q1⟩=>?_) hs rfl))
 obtain ⟨j,e,q1,q2,q⟩:=q1;subst e;cases r1 with
 |cons r rr=>
  cases rr;obtain ⟨t,rfl⟩:=r;exact call_range_1 (ng I1 (by omega) (by omega) q1 q2 (by simpa using q))
theorem rY {a b:Expr} {ta:TA} {p pos:Pos} (hg:Gl X "range") (hm:X.mg "range" =none) (ha:PA X [a,b] ta) (hs:starEach [a,b] X.env= [(false,eval a X.env),(false,eval b X.env)]:=by rfl) (hs2:starEach [b] X.env= [(false,eval b X.env)]:=by rfl):
  PI X tg (.Call (.Name "range" p) [a,b] [] pos) (zN ta):=by
 intro pins s σ H R I h;refine Call_ (dC I hg hm boot_range (Dt (bi (ha pos pins s σ H _ I h) fun us s1 ⟨vs,H1,I1,r1,q1⟩=>?_) (by rw[hs,hs2]) (by rw[hs2];rfl)))
 obtain ⟨i,j,e,⟨q1,q2,q3,q4⟩,q⟩:=q1;subst e;cases r1 with
 |cons r rr=>
  cases rr with
  |cons r' rr=>
   cases rr;obtain ⟨t,rfl⟩:=r;obtain ⟨t',rfl⟩:=r';exact call_range_2 (ng I1 q1 q2 q3 q4 q)
def B1 (wi:TI) (g:TG) (tb:TS):TS:=fun D σ H=>wi σ H fun J H1=>∃W:Nat->Nat->St->Hp->Prop,(∃m,W 0 m σ H1)/\∀i m σ H,W i m σ H->
 (J.stop i H/\D.nx σ H)∨(J.go i H/\∃N:St->Hp->Prop,(∀σ' H',N σ' H'->∃m',m'<m/\W (i+1) m' σ' H')/\∀x H',J.yld i H x H'->g x σ H' fun σ2 H2=>tb {D with nx:=N,ct:=N,bk:=D.nx} σ2 H2)
def iM (fp:FR) (h:Heap):FP:=fp.filterMap fun b=>(h.get? b).map fun o=>(b,o)
theorem bz {fp:FR} {h:Heap} {b:Addr} {o:Obj} (hb:b∈fp) (e:h.get? b=some o):(b,o)∈iM fp h:=List.mem_filterMap.mpr ⟨b,hb,by rw[e];rfl⟩
theorem rZ {fp:FR} {h:Heap} {p:Addr×Obj} (hp:p∈iM fp h):p.1∈fp/\h.get? p.1=some p.2:=by
 obtain ⟨b,hb,e⟩:=List.mem_filterMap.mp hp;cases q:h.get? b with
 |none=>rw[q] at e;cases e
 |some o=>
  rw[q] at e;have e':(b,o)=p:=EG e;subst e';exact ⟨hb,q⟩
theorem aP.pinned {pins:FP} {σ:St} {H:Hp} {s:Shared} {fp:FR} (I:aP X pins σ H s) (hf:∀b∈fp,dM X pins H b) (ho:∀b∈fp,∃o,s.heap.get? b=some o/\∀v,o.data≠ .cell v):aP X (pins++iM fp s.heap) σ H s:=
 I.pins_of fun p hp=>(DM.mp hp).elim (fun z=>I.pin p (DA _ z)) fun z=>by
  obtain ⟨hb,e⟩:=rZ z;obtain ⟨f0,f1,f2,_⟩:=hf p.1 hb;obtain ⟨o,e',d⟩:=ho p.1 hb;rw[e] at e';cases e';exact ⟨e,f0,f1,f2,d⟩
theorem aP.unpinned {pins pl:FP} {σ:St} {H:Hp} {s:Shared} (I:aP X (pins++pl) σ H s):aP X pins σ H s:=I.pins_of fun p hp=>I.pin p (DA _ (E1 _ hp))
theorem aQ {iter:Expr} {body:List Stmt} {wi:TI} {g:TG} {tb:TS} {pos:Pos} (hp:PassesOwn (model X.prog X.w) X.A X.env X.xe) (hc:X.calm=true) (hi:PI X tg iter wi) (hg:PG X tg g) (hb:tK X body tb)
  (hs:∀x,foldedSetIterable iter X.env x=pure x:=by intro _;rfl):PS X (.For tg iter body [] pos) (B1 wi g tb):=by
 intro pins s σ H D I h;refine wpAny_For (bi (hi pins s σ H _ I h) fun v s1 h1=>bi h1 fun itv s2 h2=>?_) hs
 obtain ⟨it,fp,tn,J,H2,e,I2,T,st2,f2,W,⟨m0,w0⟩,turn⟩:=h2;subst e;have stat:∀{H':Hp},(∀b∈fp,H' b=none)->∀b∈fp,dM X pins H' b:=fun hn b hb=>⟨hn b hb,(f2 b hb).2⟩
 refine codeAny_forLoop_any (fun n s'=>∃i σ' H',aP X pins σ' H' s'/\tn i s'.heap/\(∀b∈fp,H' b=none)/\W i n σ' H') ?_ m0 ⟨0,σ,H2,I2,st2,fun b hb=>(f2 b hb).1,w0⟩
 rintro n s3 ⟨i,σ3,H3,I3,st3,fr3,w3⟩;rcases turn i n σ3 H3 w3 with ⟨stop,qn⟩|⟨go,N,hN,step⟩
 ·refine wpAny_passesOwn hp (bi (T.done X rfl rfl rfl hc i pins s3 σ3 H3 X.xe I3 (stat fr3) st3 stop) fun r s4 ⟨hr,I4⟩=>?_)
  subst hr;exact wpAny_execs_nil ⟨σ3,H3,I4,qn⟩
 ·refine wpAny_passesOwn hp (bi (T.item X rfl rfl rfl hc i pins s3 σ3 H3 X.xe I3 (stat fr3) st3 go) fun r s4 ⟨u,hr,h4⟩=>?_)
  subst hr;refine wpAny_passesOwn hp (bi h4 fun _ s5 ⟨x,H5,I5,r5,y5,st5,fr5⟩=>?_)
  have I5':=I5.pinned (stat fr5) (T.obj _ _ st5);refine wpAny_passesOwn hp (bi (hg _ s5 σ3 H5 x u _ I5' r5 (step x H5 y5)) fun _ s6 ⟨σ6,H6,I6,q6⟩=>?_)
  refine wpAny_passesOwn hp (bi (hb _ s6 σ6 H6 _ I6 q6) fun f s7 q7=>?_)
  have again:∀{σ7:St} {H7:Hp},aP X (pins++iM fp s5.heap) σ7 H7 s7->N σ7 H7->∃m,m<n/\∃i σ' H',aP X pins σ' H' s7/\tn i s7.heap/\(∀b∈fp,H' b=none)/\W i m σ' H':=fun {σ7 H7} I7 n7=>by
   obtain ⟨m',hm,w7⟩:=hN σ7 H7 n7;refine ⟨m',hm,i+1,σ7,H7,I7.unpinned,T.keep _ _ _ st5 fun b hb o e=>(I7.pin (b,o) (DA _ (DA _ (bz hb e)))).1,fun b hb=>?_,w7⟩
   obtain ⟨o,e,d⟩:=T.obj _ _ st5 b hb;exact (I7.pin (b,o) (DA _ (DA _ (bz hb e)))).2.1
  cases f with
  |next=>obtain ⟨σ7,H7,I7,n7⟩:=q7;exact again I7 n7
  |cont=>obtain ⟨σ7,H7,I7,n7⟩:=q7;exact again I7 n7
  |brk=>obtain ⟨σ7,H7,I7,q7⟩:=q7;exact ⟨σ7,H7,I7.unpinned,q7⟩
  |ret v=>obtain ⟨x7,σ7,H7,I7,r7,q7⟩:=q7;exact ⟨x7,σ7,H7,I7.unpinned,r7,q7⟩
theorem aR {K:D7} {a:Addr} {xs:List V} {g:TG} {tb:TS} {D:Ends} {σ:St} {H:Hp} (Pv:Nat->St->Hp->Prop) (h0:Pv 0 σ H) (hl:∀i σ H,i<=xs.length->Pv i σ H->aC K H a xs)
  (hs:∀i x σ H,xs[i]?=some x->Pv i σ H->g x σ H fun σ2 H2=>tb {D with nx:=Pv (i+1),ct:=Pv (i+1),bk:=D.nx} σ2 H2) (hd:∀σ H,Pv xs.length σ H->D.nx σ H):
  ∃W:Nat->Nat->St->Hp->Prop,(∃m,W 0 m σ H)/\∀i m σ H,W i m σ H->
   ((vN K a).stop i H/\D.nx σ H)∨((vN K a).go i H/\∃N:St->Hp->Prop,(∀σ' H',N σ' H'->∃m',m'<m/\W (i+1) m' σ' H')/\∀x H',(vN K a).yld i H x H'->g x σ H' fun σ2 H2=>tb {D with nx:=N,ct:=N,bk:=D.nx} σ2 H2):=by
 refine ⟨fun i m σ H=>m=xs.length-i/\i<=xs.length/\Pv i σ H,⟨xs.length,by simp,Dn _,h0⟩,?_⟩
 rintro i m σ H ⟨rfl,hi,p⟩;have q:=hl i σ H hi p
 by_cases hlt:i<xs.length
 ·refine .inr ⟨⟨xs,xs[i],q,by simp[hlt]⟩,Pv (i+1),fun σ' H' p'=>⟨xs.length-(i+1),by omega,rfl,hlt,p'⟩,fun x H' y=>?_⟩
  obtain ⟨e,y⟩:=y;subst e;exact hs i x σ _ (y xs q) p
 ·have e:i=xs.length:=by omega
  subst e;exact .inl ⟨⟨xs,q,D9 _⟩,hd σ H p⟩
theorem ca {lo:Int} {n:Nat} {g:TG} {tb:TS} {D:Ends} {σ:St} {H:Hp} (Pv:Nat->St->Hp->Prop) (h0:Pv 0 σ H)
  (hs:∀i σ H,i<n->Pv i σ H->g (.int (lo+i)) σ H fun σ2 H2=>tb {D with nx:=Pv (i+1),ct:=Pv (i+1),bk:=D.nx} σ2 H2) (hd:∀σ H,Pv n σ H->D.nx σ H):
  ∃W:Nat->Nat->St->Hp->Prop,(∃m,W 0 m σ H)/\∀i m σ H,W i m σ H->
   ((xh lo n).stop i H/\D.nx σ H)∨((xh lo n).go i H/\∃N:St->Hp->Prop,(∀σ' H',N σ' H'->∃m',m'<m/\W (i+1) m' σ' H')/\∀x H',(xh lo n).yld i H x H'->g x σ H' fun σ2 H2=>tb {D with nx:=N,ct:=N,bk:=D.nx} σ2 H2):=by
 refine ⟨fun i m σ H=>m=n-i/\i<=n/\Pv i σ H,⟨n,by simp,Dn _,h0⟩,?_⟩
 rintro i m σ H ⟨rfl,hi,p⟩
 by_cases hlt:i<n
 ·refine .inr ⟨hlt,Pv (i+1),fun σ' H' p'=>⟨n-(i+1),by omega,rfl,hlt,p'⟩,fun x H' y=>?_⟩
  obtain ⟨e,y⟩:=y;subst e y;exact hs i σ _ hlt p
 ·have e:i=n:=by omega
  subst e;exact .inl ⟨D9 _,hd σ H p⟩
abbrev R2:=V->V->Hp->VK->Prop
def fX (X:Cx) (f:Value->Value->Sem Value) (r:R2):Prop:=
 ∀(pins:FP) (s:Shared) (σ:St) (H:Hp) (x y:V) (v u:Value) (Q:VK),aP X pins σ H s->RelV x v->RelV y u->r x y H Q->
  wpAny (model X.prog X.w) X.A (f v u) (EP X pins σ Q) X.xe s
def B3 (X:Cx) (f:Value->Sem Value) (r:V->Hp->VK->Prop):Prop:=
 ∀(pins:FP) (s:Shared) (σ:St) (H:Hp) (x:V) (v:Value) (Q:VK),aP X pins σ H s->RelV x v->r x H Q->
  wpAny (model X.prog X.w) X.A (f v) (EP X pins σ Q) X.xe s
def dS (X:Cx) (f:Value) (r:List V->Hp->VK->Prop):Prop:=
 ∀(pins:FP) (s:Shared) (σ:St) (H:Hp) (xs:List V) (us:FS) (Q:VK),aP X pins σ H s->bg xs us->r xs H Q->
  wpAny (model X.prog X.w) X.A (call f us) (EP X pins σ Q) X.xe s
def BC (r:R2) (ta tb:TE):TE:=fun σ H Q=>ta σ H fun x H1=>tb σ H1 fun y H2=>r x y H2 Q
def CU (r:V->Hp->VK->Prop) (ta:TE):TE:=fun σ H Q=>ta σ H fun x H1=>r x H1 Q
def rI (C:Int->Int->Prop) (g:Int->Int->V):R2:=fun x y H Q=>∃i j,x= .int i/\y= .int j/\C i j/\Q (g i j) H
def xj (g:Int->Int->V):R2:=fun x y H Q=>∃i j,x= .int i/\y= .int j/\Q (g i j) H
def rU (g:Int->V):V->Hp->VK->Prop:=fun x H Q=>∃i,x= .int i/\Q (g i) H
section
variable {a b c:Expr} {ta tb tc:TE}
theorem xL (ha:PE X a ta) (hb:PE X b tb) {pins:FP} {s:Shared} {σ:St} {H:Hp} {R:V->V->Hp->Prop} (I:aP X pins σ H s)
  (h:ta σ H fun x H1=>tb σ H1 fun y H2=>R x y H2) {Q:FN} {f:Value->Value->Sem Value}
  (hf:∀v u s2 x y H2,aP X pins σ H2 s2->RelV x v->RelV y u->R x y H2->wpAny (model X.prog X.w) X.A (f v u) Q X.xe s2):
  wpAny (model X.prog X.w) X.A (eval a X.env) (fun v s₁=>wpAny (model X.prog X.w) X.A (eval b X.env) (fun u s₂=>wpAny (model X.prog X.w) X.A (f v u) Q X.xe s₂) X.xe s₁) X.xe s:=by
 refine bi (ha pins s σ H _ I h) fun v s1 ⟨x,H1,I1,r1,q1⟩=>?_
 refine bi (hb pins s1 σ H1 _ I1 q1) fun u s2 ⟨y,H2,I2,r2,q2⟩=>?_
 exact hf v u s2 x y H2 I2 r1 r2 q2
theorem am {op:Operator} {r:R2} (ho:fX X (binaryOp op) r) (ha:PE X a ta) (hb:PE X b tb):PE X (.BinOp a op b pos) (BC r ta tb):=by
 intro pins s σ H Q I h;exact wpAny_BinOp (xL ha hb I h fun v u s2 x y H2 I2 rx ry q=>ho pins s2 σ H2 x y v u Q I2 rx ry q)
theorem jD {op:UnaryOp} {r:V->Hp->VK->Prop} (ho:B3 X (unaryOp op) r) (ha:PE X a ta):PE X (.UnaryOp op a pos) (CU r ta):=by
 intro pins s σ H Q I h;exact UnaryOp_ (bi (ha pins s σ H _ I h) fun v s1 ⟨x,H1,I1,r1,q1⟩=>ho pins s1 σ H1 x v Q I1 r1 q1)
theorem BD {f:Value->Value->Sem Value} {C:Int->Int->Prop} {g:Int->Int->Int}
  (rule:∀(i j:Int) (t u:Tok) (s:Shared) (Q:FN) (E:FN),C i j->Q (.int (g i j) s.toks) {s with toks:=s.toks+1}->wpAny (model X.prog X.w) X.A (f (.int i t) (.int j u)) Q E s):
  fX X f (rI C fun i j=> .int (g i j)):=by
 intro pins s σ H x y v u Q I rx ry h;obtain ⟨i,j,rfl,rfl,hc,q⟩:=h;obtain ⟨t,rfl⟩:=rx;obtain ⟨t',rfl⟩:=ry;exact rule i j t t' s _ _ hc ⟨.int (g i j),H,I.tok _,⟨_,rfl⟩,q⟩
theorem zO {f:Value->Value->Sem Value} {g:Int->Int->Int}
  (rule:∀(i j:Int) (t u:Tok) (s:Shared) (Q:FN) (E:FN),Q (.int (g i j) s.toks) {s with toks:=s.toks+1}->wpAny (model X.prog X.w) X.A (f (.int i t) (.int j u)) Q E s):
  fX X f (xj fun i j=> .int (g i j)):=by
 intro pins s σ H x y v u Q I rx ry h;obtain ⟨i,j,rfl,rfl,q⟩:=h;obtain ⟨t,rfl⟩:=rx;obtain ⟨t',rfl⟩:=ry;exact rule i j t t' s _ _ ⟨.int (g i j),H,I.tok _,⟨_,rfl⟩,q⟩
theorem vO {f:Value->Value->Sem Value} {g:Int->Int->Bool}
  (rule:∀(i j:Int) (t u:Tok) (s:Shared) (Q:FN) (E:FN),Q (.bool (g i j)) s->wpAny (model X.prog X.w) X.A (f (.int i t) (.int j u)) Q E s):
  fX X f (xj fun i j=> .bl (g i j)):=by
 intro pins s σ H x y v u Q I rx ry h;obtain ⟨i,j,rfl,rfl,q⟩:=h;obtain ⟨t,rfl⟩:=rx;obtain ⟨t',rfl⟩:=ry;exact rule i j t t' s _ _ ⟨.bl (g i j),H,I,rfl,q⟩
theorem a7:fX X (binaryOp .Add) (xj fun i j=> .int (i+j)):=zO fun _ _ _ _ _ _ _ q=>add_int q
theorem gX:fX X (binaryOp .Sub) (xj fun i j=> .int (i-j)):=zO fun _ _ _ _ _ _ _ q=>sub_int q
theorem aS:fX X (binaryOp .Mod) (rI (fun _ j=>j≠0) fun i j=> .int (i.fmod j)):=BD fun _ _ _ _ _ _ _ hc q=>mod_int' hc q
theorem CV {f:Value->Sem Value} {g:Int->Int}
  (rule:∀(i:Int) (t:Tok) (s:Shared) (Q:FN) (E:FN),Q (.int (g i) s.toks) {s with toks:=s.toks+1}->wpAny (model X.prog X.w) X.A (f (.int i t)) Q E s):
  B3 X f (rU fun i=> .int (g i)):=by
 intro pins s σ H x v Q I rx h;obtain ⟨i,rfl,q⟩:=h;obtain ⟨t,rfl⟩:=rx;exact rule i t s _ _ ⟨.int (g i),H,I.tok _,⟨_,rfl⟩,q⟩
theorem gY:B3 X (unaryOp .USub) (rU fun i=> .int (-i)):=CV fun _ _ _ _ _ q=>neg_int q
end
def zP:V->V->Bool
 | .non,.non=>true| .non,.int _=>true| .int _,.non=>true| .non,.bl _=>true| .bl _,.non=>true| .non,.str _=>true| .str _,.non=>true
 | .int _,.int _=>true| .bl _,.bl _=>true| .str _,.str _=>true| .byt _,.byt _=>true
 | .int _,.str _=>true| .str _,.int _=>true| .bl _,.str _=>true| .str _,.bl _=>true
 |_,_=>false
def CW:R2:=fun x y H Q=>zP x y=true/\Q (.bl (decide (x=y))) H
def CY:R2:=fun x y H Q=>zP x y=true/\Q (.bl (!decide (x=y))) H
theorem qz {i j:Int}:decide (V.int i=V.int j)=(i==j):=by
 rw[E5];simp
theorem tU {i j:Bool}:decide (V.bl i=V.bl j)=(i==j):=by
 rw[E5];simp
theorem qA {i j:Str}:decide (V.str i=V.str j)=(i==j):=by
 rw[E5];simp
theorem qB {i j:Array UInt8}:decide (V.byt i=V.byt j)=(i.toList==j.toList):=by
 rw[E5];cases i;cases j;simp
section
variable {a b c:Expr} {ta tb tc:TE}
theorem bA {pins:FP} {σ:St} {H:Hp} {s:Shared} {Q:VK} {k k':Bool} (I:aP X pins σ H s) (q:Q (.bl k) H) (e:k=k'):EP X pins σ Q (.bool k') s:=by
 subst e;exact ⟨.bl k,H,I,rfl,q⟩
theorem b8:fX X (compareOp .Eq) CW:=by
 intro pins s σ H x y v u Q I rx ry h;obtain ⟨hs,q⟩:=h;cases x with
 |non=>
  cases rx;cases y with
  |non=>cases ry;exact PySem.EqNone.eq_none_none (bA I q (by simp))
  |bl j=>cases ry;exact PySem.EqNone.eq_none_bool (bA I q (by simp))
  |int j=>obtain ⟨t',rfl⟩:=ry;exact PySem.EqNone.eq_none_int (bA I q (by simp))
  |str j=>obtain ⟨t',rfl⟩:=ry;exact PySem.EqNone.eq_none_str (bA I q (by simp))
  |_=>exact absurd (show false=true from hs) DX
 |bl i=>
  cases rx;cases y with
  |non=>cases ry;exact PySem.EqNone.eq_bool_none (bA I q (by simp))
  |bl j=>cases ry;exact eq_bool (bA I q tU)
  |str j=>obtain ⟨t',rfl⟩:=ry;exact PySem.EqMixed.eq_bool_str (bA I q (by simp))
  |_=>exact absurd (show false=true from hs) DX
 |int i=>
  obtain ⟨t,rfl⟩:=rx;cases y with
  |non=>cases ry;exact PySem.EqNone.eq_int_none (bA I q (by simp))
  |int j=>obtain ⟨t',rfl⟩:=ry;exact eq_int (bA I q qz)
  |str j=>obtain ⟨t',rfl⟩:=ry;exact PySem.EqMixed.eq_int_str (bA I q (by simp))
  |_=>exact absurd (show false=true from hs) DX
 |str i=>
  obtain ⟨t,rfl⟩:=rx;cases y with
  |non=>cases ry;exact PySem.EqNone.eq_str_none (bA I q (by simp))
  |bl j=>cases ry;exact PySem.EqMixed.eq_str_bool (bA I q (by simp))
  |int j=>obtain ⟨t',rfl⟩:=ry;exact PySem.EqMixed.eq_str_int (bA I q (by simp))
  |str j=>obtain ⟨t',rfl⟩:=ry;exact eq_str (bA I q qA)
  |_=>exact absurd (show false=true from hs) DX
 |byt i=>
  obtain ⟨t,rfl⟩:=rx;cases y with
  |byt j=>obtain ⟨t',rfl⟩:=ry;exact PySem.W.eq_bytes (bA I q qB)
  |_=>exact absurd (show false=true from hs) DX
 |_=>cases y<;>exact absurd (show false=true from hs) DX
theorem eT:fX X (compareOp .NotEq) CY:=by
 intro pins s σ H x y v u Q I rx ry h;obtain ⟨hs,q⟩:=h;cases x with
 |non=>
  cases rx;cases y with
  |non=>cases ry;exact PySem.EqNone.ne_none_none (bA I q (by simp))
  |bl j=>cases ry;exact PySem.EqNone.ne_none_bool (bA I q (by simp))
  |int j=>obtain ⟨t',rfl⟩:=ry;exact PySem.EqNone.ne_none_int (bA I q (by simp))
  |str j=>obtain ⟨t',rfl⟩:=ry;exact PySem.EqNone.ne_none_str (bA I q (by simp))
  |_=>exact absurd (show false=true from hs) DX
 |bl i=>
  cases rx;cases y with
  |non=>cases ry;exact PySem.EqNone.ne_bool_none (bA I q (by simp))
  |bl j=>cases ry;exact ne_bool (bA I q (congrArg not tU))
  |str j=>obtain ⟨t',rfl⟩:=ry;exact PySem.EqMixed.ne_bool_str (bA I q (by simp))
  |_=>exact absurd (show false=true from hs) DX
 |int i=>
  obtain ⟨t,rfl⟩:=rx;cases y with
  |non=>cases ry;exact PySem.EqNone.ne_int_none (bA I q (by simp))
  |int j=>obtain ⟨t',rfl⟩:=ry;exact ne_int (bA I q (congrArg not qz))
  |str j=>obtain ⟨t',rfl⟩:=ry;exact PySem.EqMixed.ne_int_str (bA I q (by simp))
  |_=>exact absurd (show false=true from hs) DX
 |str i=>
  obtain ⟨t,rfl⟩:=rx;cases y with
  |non=>cases ry;exact PySem.EqNone.ne_str_none (bA I q (by simp))
  |bl j=>cases ry;exact PySem.EqMixed.ne_str_bool (bA I q (by simp))
  |int j=>obtain ⟨t',rfl⟩:=ry;exact PySem.EqMixed.ne_str_int (bA I q (by simp))
  |str j=>obtain ⟨t',rfl⟩:=ry;exact ne_str (bA I q (congrArg not qA))
  |_=>exact absurd (show false=true from hs) DX
 |byt i=>
  obtain ⟨t,rfl⟩:=rx;cases y with
  |byt j=>obtain ⟨t',rfl⟩:=ry;exact PySem.W.ne_bytes (bA I q (congrArg not qB))
  |_=>exact absurd (show false=true from hs) DX
 |_=>cases y<;>exact absurd (show false=true from hs) DX
theorem fD:fX X (compareOp .Lt) (xj fun i j=> .bl (decide (i<j))):=vO fun _ _ _ _ _ _ _ q=>lt_int q
theorem dq:fX X (compareOp .LtE) (xj fun i j=> .bl (decide (i<=j))):=vO fun _ _ _ _ _ _ _ q=>le_int q
theorem fR:fX X (compareOp .Gt) (xj fun i j=> .bl (decide (j<i))):=vO fun _ _ _ _ _ _ _ q=>gt_int q
theorem xk:fX X (compareOp .GtE) (xj fun i j=> .bl (decide (j<=i))):=vO fun _ _ _ _ _ _ _ q=>ge_int q
theorem fu:fX X (compareOp .Is) (fun x y H Q=>y= .non/\Q (.bl (decide (x= .non))) H):=by
 intro pins s σ H x y v u Q I rx ry h;obtain ⟨rfl,q⟩:=h;cases ry;refine is_none_gen (bA I q ?_);cases x<;>first
  |(cases rx;rfl)
  |(obtain ⟨t,rfl⟩:=rx;rfl)
theorem fg:fX X (compareOp .IsNot) (fun x y H Q=>y= .non/\Q (.bl (!decide (x= .non))) H):=by
 intro pins s σ H x y v u Q I rx ry h;obtain ⟨rfl,q⟩:=h;cases ry;refine isnot_none_gen (bA I q ?_);cases x<;>first
  |(cases rx;rfl)
  |(obtain ⟨t,rfl⟩:=rx;rfl)
theorem aD (b:Expr) {op:CmpOp} (h:op≠ .In:=by decide) (h2:op≠ .NotIn:=by decide):behindInMarks op b=false:=by
 have e1:(op==CmpOp.In)=false:=by cases op<;>first|rfl|exact absurd rfl h
 have e2:(op==CmpOp.NotIn)=false:=by cases op<;>first|rfl|exact absurd rfl h2
 cases b<;>simp[behindInMarks,e1,e2]
theorem eJ {op:CmpOp} {r:R2} (ho:fX X (compareOp op) r) (ha:PE X a ta) (hb:PE X b tb) (hm:behindInMarks op b=false):PE X (.Compare a [op] [b] pos) (BC r ta tb):=by
 intro pins s σ H Q I h;exact wpAny_Compare1 (xL ha hb I h fun v u s2 x y H2 I2 rx ry q=>ho pins s2 σ H2 x y v u Q I2 rx ry q) hm
def tV (t:TE):TT:=fun σ H Q=>t σ H fun x H'=>∃k,x= .bl k/\Q k H'
theorem ao {op:CmpOp} {r:R2} (ho:fX X (compareOp op) r) (ha:PE X a ta) (hb:PE X b tb) (hm:behindInMarks op b=false):PT X (.Compare a [op] [b] pos) (tV (BC r ta tb)):=by
 intro pins s σ H Q I h;refine wpAny_isTrue_Compare1 (bi (ha pins s σ H _ I h) fun v s1 ⟨x,H1,I1,r1,q1⟩=>bi (hb pins s1 σ H1 _ I1 q1) fun u s2 ⟨y,H2,I2,r2,q2⟩=>
  bi (ho pins s2 σ H2 x y v u _ I2 r1 r2 q2) fun c s3 ⟨z,H3,I3,r3,k,e,q3⟩=>?_) hm
 subst e;cases r3;exact wpAny_truthy_bool ⟨H3,I3,q3⟩
def xM (r r':R2) (ta tb tc:TE):TE:=fun σ H Q=>ta σ H fun x H1=>tb σ H1 fun y H2=>r x y H2 fun z H3=>∃k,z= .bl k/\
 (if k=true then tc σ H3 fun w' H4=>r' y w' H4 Q else Q (.bl false) H3)
theorem cG {op op':CmpOp} {r r':R2} (ho:fX X (compareOp op) r) (ho':fX X (compareOp op') r') (ha:PE X a ta) (hb:PE X b tb) (hc:PE X c tc)
  (hm:lastMarks [op,op'] [b,c]=false:=by with_unfolding_all rfl):PT X (.Compare a [op,op'] [b,c] pos) (tV (xM r r' ta tb tc)):=by
 intro pins s σ H Q I h;refine isTrue_chain (bi (ha pins s σ H _ I h) fun v s1 ⟨x,H1,I1,r1,q1⟩=>test_link (bi (hb pins s1 σ H1 _ I1 q1) fun u s2 ⟨y,H2,I2,r2,q2⟩=>
  bi (ho pins s2 σ H2 x y v u _ I2 r1 r2 q2) fun d s3 ⟨z,H3,I3,r3,k,e,q3⟩=>?_)) hm
 subst e;cases r3;refine wpAny_truthy_bool ?_;cases k with
 |false=>
  obtain ⟨k',e',q'⟩:=q3;cases e';exact ite_ff ⟨H3,I3,q'⟩
 |true=>
  refine ite_tt (test_last (bi (hc pins s3 σ H3 _ I3 q3) fun w' s4 ⟨z',H4,I4,r4,q4⟩=>bi (ho' pins s4 σ H4 y z' u w' _ I4 r2 r4 q4) fun d' s5 ⟨z2,H5,I5,r5,k2,e2,q5⟩=>?_))
  subst e2;cases r5;exact wpAny_truthy_bool ⟨H5,I5,q5⟩
theorem iN:(sizeLine:Nat)<2^63:=by rw[sizeLine_eq];decide
theorem eU:fX X (binaryOp .Add) (fun x y H Q=>∃i j,x= .str i/\y= .str j/\i.length+j.length<=sizeLine/\Q (.str (i++j)) H):=by
 intro pins s σ H x y v u Q I rx ry h;obtain ⟨i,j,rfl,rfl,hz,q⟩:=h;obtain ⟨t,rfl⟩:=rx;obtain ⟨t',rfl⟩:=ry;exact add_str (fun t' tk=>⟨.str (i++j),H,I.tok _,⟨_,rfl⟩,q⟩) hz
theorem vals1 {x:V} {us:FS} (r:bg [x] us):∃u,us= [u]/\RelV x u:=by
 cases r with
 |cons r1 r2=>cases r2;exact ⟨_,rfl,r1⟩
theorem vals2 {x y:V} {us:FS} (r:bg [x,y] us):∃u w',us= [u,w']/\RelV x u/\RelV y w':=by
 cases r with
 |cons r1 r2=>
  cases r2 with
  |cons r3 r4=>cases r4;exact ⟨_,_,rfl,r1,r3⟩
theorem tW:dS X (.builtin "abs") (fun xs H Q=>∃i,xs= [.int i]/\Q (.int (if i<0 then-i else i)) H):=by
 intro pins s σ H xs us Q I r h;obtain ⟨i,rfl,q⟩:=h;obtain ⟨u,rfl,t,rfl⟩:=vals1 r;exact call_abs_int fun u tk=>⟨.int (if i<0 then-i else i),H,I.tok _,⟨_,rfl⟩,q⟩
theorem r8 (hc:X.calm=true):dS X (.builtin "max") (fun xs H Q=>∃i j,xs= [.int i,.int j]/\Q (.int (if j>i then j else i)) H):=by
 intro pins s σ H xs us Q I r h;obtain ⟨i,j,rfl,q⟩:=h;obtain ⟨u,w',rfl,⟨t,rfl⟩,⟨t',rfl⟩⟩:=vals2 r;refine max_two_ints (I.ok.hd hc) fun h' tk k=>⟨_,H,I.kept k,?_,q⟩
 by_cases hj:j>i
 ·rw[if_pos hj,if_pos hj];exact ⟨_,rfl⟩
 ·rw[if_neg hj,if_neg hj];exact ⟨_,rfl⟩
end
structure sd (h:Heap) (x dx C:Addr) (mA:FO):Prop where
 obj:h.get? x=some (EZ C dx)
 ns:h.Ns1 dx mA
 ne:dx≠x
theorem sg {h:Heap} {dx:Addr} {mA:FO} (n:h.Ns1 dx mA):∃od,h.get? dx=some od/\∀name,PySem.W.lookIn name od=some (mA name):=by
 obtain ⟨o,es,ep,ho,hd,hk,_,hm⟩:=n;refine ⟨o,ho,fun name=>?_⟩
 have e:=hm name;unfold nsFind findBy at e;rw[<-Array.find?_toList] at e;unfold PySem.W.lookIn;rw[hd];dsimp only
 split
 ·rename_i y q;rw[q] at e;exact congrArg some e
 ·rename_i q;rw[q] at e;have a:es.toList.any (·.refKey)=false:=by
   rw[List.any_eq_false];intro y hy;obtain ⟨z,t,hkey⟩:=hk y (Array.mem_toList_iff.mp hy);simp[DictEntry.refKey,hkey]
  have a':¬es.toList.any (·.refKey)=true:=by rw[a];exact DX
  rw[if_neg a'];exact congrArg some e
theorem sd.look {h:Heap} {x dx C:Addr} {mA:FO} (I:sd h x dx C mA):∃od,PySem.W.InstAt h x (EZ C dx) C (some od)/\∀name,PySem.W.lookIn name od=some (mA name):=
 let ⟨od,ho,hl⟩:=sg I.ns
 ⟨od,⟨I.obj,rfl,rfl,ho⟩,hl⟩
section
variable {prog:Program} {w:World} {A:Around} {K:D7} {x dx C f:Addr} {mA:FO} {name:Str} {v:Value}
theorem vP {expr:Bool} {Q:FN} (X:K.In s.heap) (I:sd s.heap x dx C mA) (hg:PySem.W.plainGet K C name=true) (hh:PySem.W.hasDictIn K C=true)
  (ha:EV K (.ref C) name=some none) (hv:mA name=some v) (hv':PySem.W.handedIn v=true) (h:Q v {s with toks:=s.toks+1}):
  wpAny (model prog w) A (getAttr (.ref x) name expr) Q E s:=by
 obtain ⟨od,J,hl⟩:=I.look;exact PySem.W.get_value X J (PySem.W.plainGet_of hg).1 (PySem.W.findObj_own hh ha rfl (by rw[hl,hv])) hv' h
theorem vQ {ns:FQ} {Q:Unit->Shared->Prop} (X:K.In s.heap) (I:sd s.heap x dx C mA)
  (hs:EV K (.ref C) "__setattr__" =some (some (.builtin "object.__setattr__"))) (hp:PySem.W.plainOver K C=true) (ht:PySem.W.takerIn K C name=some none) (hh:PySem.W.hasDictIn K C=true)
  (hw:PySem.Within mA ns) (hsz:ns.length<=sizeLine)
  (h:∀h',sd h' x dx C (fun y=>if y=name then some v else mA y)->Heap.SameBut dx s.heap h'->Q () {s with heap:=h',toks:=s.toks+2}):
  wpAny (model prog w) A (setAttr (.ref x) name v) Q E s:=by
 obtain ⟨od,J,hl⟩:=I.look;refine PySem.W.set_plain X J hs (PySem.W.osa_open (s:={s with toks:=s.toks+1}) (r:=none) X J hp ht fun b=>?_)
 obtain ⟨cd,hc,hd'⟩:=PySem.W.any_some hh;have hx:s.heap.get? x=some ⟨.ref C,some dx,.plain,#[]⟩:=I.obj;refine wpAny_bind (wpAny_pure (wpAny_bind (wpAny_bind (wpAny_loadPart hx (wpAny_bind (PySem.W.Looks.here (s:={s with toks:=s.toks+1}) (PySem.W.looks_clsIn X hc) ?_))))))
 rw[hd'];refine wpAny_pure (a:=some dx) (wpAny_bind (wpAny_pure (wpAny_bind ?_)));refine wpAny_nsSet1 (s:={s with toks:=s.toks+1}) I.ns fun h' hn2 hs2=>?_
 obtain ⟨oD,esD,epD,hoD,hdD,hcD⟩:=hn2.count (PySem.Within.cons name v hw);refine wpAny_bind (wpAny_lookBehind hoD (by rw[hdD];exact pastItsLine_dict (EF hcD (by rw[DL];omega))) ?_)
 exact wpAny_pure (h _ ⟨(hs2.2 _ (Ne.symm I.ne)).trans I.obj,hn2,I.ne⟩ hs2)
theorem tX {R:Result->Shared->Prop} {vs:FS} {kw:List (Str×Value)} (X:K.In s.heap) (hm:PySem.W.makesIn K C=true)
  (hi:EV K (.ref C) "__init__" =some (some (.ref f))) (hf:PySem.W.typeIn K (.ref f)=some (.type "function"))
  (h:codeAny (model prog w) (A.under (.builtin "type.__call__" ⟨.ref C::vs,kw⟩)) (.call (.ref f) ⟨.ref (s.heap.objs.size+1)::vs,kw⟩) (PySem.W.InitBack (s.heap.objs.size+1) R)
   {s with heap:=(s.heap.push EH).push (EZ C s.heap.objs.size)}):
  codeAny (model prog w) A (.call (.ref C) ⟨vs,kw⟩) R s:=by
 obtain ⟨hh,g,d,t,os⟩:=s;exact PySem.W.make_core (PySem.W.makes_of X hm) (PySem.W.looks_findIn X hi) (fun self=>PySem.W.bind_fn X self hf) (.inl rfl) h
end
def bb (f:Str) (v:V):List (Str×V)->List (Str×V)
 | []=> [(f,v)]
 |(g,x)::r=>if g=f then (g,v)::r else (g,x)::bb f v r
theorem bc (f g:Str) (v:V):∀fs:List (Str×V),(bb f v fs).lookup g=if g=f then some v else fs.lookup g
 | []=>by
  show List.lookup g [(f,v)]=_
  by_cases h:g=f
  ·have hb:(g==f)=true:=beq_iff_eq.mpr h;simp only[List.lookup,hb,if_pos h]
  ·have hb:(g==f)=false:=beq_eq_false_iff_ne.mpr h;simp only[List.lookup,hb,if_neg h]
 |(k,x)::r=>by
  have ih:=bc f g v r;rw[show bb f v ((k,x)::r)=(if k=f then (k,v)::r else (k,x)::bb f v r) from rfl]
  by_cases hk:k=f
  ·rw[if_pos hk]
   by_cases h:g=k
   ·have hb:(g==k)=true:=beq_iff_eq.mpr h;simp only[List.lookup,hb,if_pos (h.trans hk)]
   ·have hb:(g==k)=false:=beq_eq_false_iff_ne.mpr h;simp only[List.lookup,hb,if_neg (fun e:g=f=>h (e.trans hk.symm))]
  ·rw[if_neg hk]
   by_cases h:g=k
   ·have hb:(g==k)=true:=beq_iff_eq.mpr h;simp only[List.lookup,hb,if_neg (fun e:g=f=>hk (h.symm.trans e))]
   ·have hb:(g==k)=false:=beq_eq_false_iff_ne.mpr h;simp only[List.lookup,hb];exact ih
theorem iO (f:Str) (v:V):∀fs:List (Str×V),f∈(bb f v fs).map (·.1)/\∀g,g∈fs.map (·.1)->g∈(bb f v fs).map (·.1)
 | []=>⟨by simp[bb],fun g h=>by simp at h⟩
 |(k,x)::r=>by
  obtain ⟨i1,i2⟩:=iO f v r;rw[show bb f v ((k,x)::r)=(if k=f then (k,v)::r else (k,x)::bb f v r) from rfl]
  by_cases hk:k=f
  ·rw[if_pos hk];subst hk;exact ⟨by simp,fun g h=>by simpa using h⟩
  ·rw[if_neg hk];refine ⟨?_,fun g h=>?_⟩
   ·rw[E2];exact DW _ i1
   ·rw[E2] at h⊢;rcases DG.mp h with e|e
    ·exact DG.mpr (.inl e)
    ·exact DW _ (i2 g e)
theorem bw (f:Str) (v:V):∀fs:List (Str×V),(bb f v fs).length<=fs.length+1
 | []=>by simp[bb]
 |(k,x)::r=>by
  have ih:=bw f v r;rw[show bb f v ((k,x)::r)=(if k=f then (k,v)::r else (k,x)::bb f v r) from rfl]
  by_cases hk:k=f
  ·rw[if_pos hk,DL,DL];omega
  ·rw[if_neg hk,DL,DL];omega
theorem gW.some_of {v:V} {o:FU} (r:gW (some v) o):∃u,o=some u/\RelV v u:=by
 cases o with
 |none=>exact (show False from r).elim
 |some u=>exact ⟨u,rfl,r⟩
theorem sj {v:V} {u:Value} (r:RelV v u):PySem.W.handedIn u=true:=by
 cases v with
 |non=>cases (show u=Value.none from r);rfl
 |bl b=>cases (show u=Value.bool b from r);rfl
 |int i=>obtain ⟨t,e⟩:=(show ∃t,u=Value.int i t from r);cases e;rfl
 |str x=>obtain ⟨t,e⟩:=(show ∃t,u=Value.str x t from r);cases e;rfl
 |byt b=>obtain ⟨t,e⟩:=(show ∃t,u=Value.bytes b t from r);cases e;rfl
 |flt b=>obtain ⟨t,e⟩:=(show ∃t,u=Value.float b t from r);cases e;rfl
 |ref a=>cases (show u=Value.ref a from r);rfl
 |ty n=>cases (show u=Value.type n from r);rfl
section
variable {P:Program} {w:World} {h:Heap} {C dx:Addr} {fs fs':List (Str×V)}
theorem lX (hok:gP P w H h) (e:H a=some (.ins C dx fs)):∃mA,sd h a dx C mA/\(∀f,gW (fs.lookup f) (mA f))/\PySem.Within mA (fs.map (·.1))/\fs.length<=1000/\H dx=some (.own a):=by
 obtain ⟨d,z,ne,ob,mA,n,r,q⟩:=(show bM P w H h a (.ins C dx fs) from hok a _ e)
 exact ⟨mA,⟨ob,n,ne⟩,r,q,z,d⟩
end
structure vR (K:D7) (C:Addr):Prop where
 pg:PySem.W.plainGet K C Str.empty=true
 hd:PySem.W.hasDictIn K C=true
 po:PySem.W.plainOver K C=true
 sa:EV K (.ref C) "__setattr__" =some (some (.builtin "object.__setattr__"))
theorem vR.get {K:D7} {C:Addr} (c:vR K C) (f:Str):PySem.W.plainGet K C f=true:=c.pg
def cx (K:D7) (C:Addr) (f:Str):Prop:=EV K (.ref C) f=some none
theorem cx.taker {K:D7} {C:Addr} {f:Str} (n:cx K C f):PySem.W.takerIn K C f=some none:=by
 unfold PySem.W.takerIn;rw[show EV K (.ref C) f=some none from n]
 rfl
section
variable {C dx:Addr} {fs:List (Str×V)} {f:Str} {v:V} {A:Around}
theorem pB {b:Bool} {Q:FN} (I:aP X pins σ H s) (e:H a=some (.ins C dx fs)) (c:vR X.K C) (n:cx X.K C f) (l:fs.lookup f=some v)
  (h:∀u s',aP X pins σ H s'->RelV v u->Q u s'):wpAny (model X.prog X.w) A (getAttr (.ref a) f b) Q E s:=by
 obtain ⟨mA,O,r,_,_,_⟩:=lX I.hok e;obtain ⟨u,hu,ru⟩:=gW.some_of (v:=v) (o:=mA f) (by rw[<-l];exact r f)
 exact vP I.kIn O (c.get f) c.hd n hu (sj ru) (h u _ (I.tok _) ru)
theorem pC {y:V} {u:Value} {Q:Unit->Shared->Prop} (I:aP X pins σ H s) (e:H a=some (.ins C dx fs)) (c:vR X.K C) (n:cx X.K C f) (hl:fs.length<1000) (ry:RelV y u)
  (h:∀s',aP X pins σ (aG H a (.ins C dx (bb f y fs))) s'->Q () s'):wpAny (model X.prog X.w) A (setAttr (.ref a) f u) Q E s:=by
 obtain ⟨mA,O,r,wi,_,ho⟩:=lX I.hok e;have hz:(fs.map (·.1)).length<=sizeLine:=by rw[D3,sizeLine_eq];omega
 refine vQ I.kIn O c.sa c.po n.taker c.hd wi hz fun h' O' sb=>h _ ?_
 have hd:∃o,h'.get? dx=some o:=let ⟨o,_,_,e',_⟩:=O'.ns;⟨o,e'⟩;refine I.write (x:=a) (e:=dx) (by rw[e];exact True.intro) (.inr ho) (fun b q hb z=>(sb.2 b hb).trans z) hd ?_
 refine ⟨by rw[aH O.ne];exact ho,?_,O.ne,O'.obj,_,O'.ns,fun g=>?_,fun g hg=>?_⟩
 ·have:=bw f y fs;omega
 ·show gW ((bb f y fs).lookup g) (if g=f then some u else mA g)
  rw[bc]
  by_cases q:g=f
  ·rw[if_pos q,if_pos q];exact ry
  ·rw[if_neg q,if_neg q];exact r g
 ·by_cases q:g=f
  ·rw[q];exact (iO f y fs).1
  ·refine (iO f y fs).2 g (wi g fun z=>hg ?_)
   show (if g=f then some u else mA g)=none
   rw[if_neg q];exact z
theorem aP.made (I:aP X pins σ H s):aP X pins σ (aG (aG H s.heap.objs.size (.own (s.heap.objs.size+1))) (s.heap.objs.size+1) (.ins C s.heap.objs.size []))
  {s with heap:=(s.heap.push EH).push (EZ C s.heap.objs.size)}:=by
 have e1:(s.heap.push EH).get? s.heap.objs.size=some EH:=Heap.get?_push_size s.heap rfl;have e2:((s.heap.push EH).push (EZ C s.heap.objs.size)).get? (s.heap.objs.size+1)=some (EZ C s.heap.objs.size):=by
  have:=Heap.get?_push_size (s.heap.push EH) (o:=EZ C s.heap.objs.size) rfl
  rwa [Heap.size_push] at this
 have e3:(s.heap.push EH).Ns s.heap.objs.size (fun _=>none):=⟨EH,#[],_,e1,rfl,(fun e he=>absurd he (by simp)),fun _=>rfl⟩
 have I1:=I.laid (a:=s.heap.objs.size) (o:= .own (s.heap.objs.size+1)) (h':=s.heap.push EH) (t':=s.toks) (fun b u q=>Heap.get?_push_of_some _ q) (D9 _) ⟨_,e1⟩
 refine I1.laid (a:=s.heap.objs.size+1) (o:= .ins C s.heap.objs.size []) (t':=s.toks) (fun b u q=>Heap.get?_push_of_some _ q) (Nat.le_of_eq (Heap.size_push _ _)) ?_
 have ne:s.heap.objs.size≠s.heap.objs.size+1:=DF (Nat.lt_succ_self _);refine ⟨by rw[aH ne,ah],Dn _,ne,e2,fun _=>none,(Heap.Ns1.of_empty e3).at fun o q=>Heap.get?_push_of_some _ q,fun _=>True.intro,fun y hy=>absurd rfl hy⟩
theorem vS {prog:Program} {w:World} {env:Env} {e:Expr} {f:Str} {pos:Pos} {s:Shared} {Q:FN} (hb:attributeBase e f env (eval e env)=eval e env)
  (h:wpAny (model prog w) A (eval e env) (fun o s₁=>wpAny (model prog w) A (getAttr o f true) Q E s₁) E s):wpAny (model prog w) A (eval (.Attribute e f pos) env) Q E s:=
 Attribute_any_ h (by rw[arm_eval_Attribute,hb])
end
def B4 (K:D7) (ta:TE) (f:Str):TE:=fun σ H Q=>ta σ H fun x H1=>∃a C dx fs v,x= .ref a/\H1 a=some (.ins C dx fs)/\vR K C/\cx K C f/\fs.lookup f=some v/\Q v H1
def B5 (K:D7) (ta tv:TE) (f:Str):TS:=fun D σ H=>tv σ H fun y H1=>ta σ H1 fun x H2=>∃a C dx fs,x= .ref a/\H2 a=some (.ins C dx fs)/\vR K C/\cx K C f/\fs.length<1000/\
 D.nx σ (aG H2 a (.ins C dx (bb f y fs)))
section
variable {o e value:Expr} {f:Str} {pos' tpos:Pos} {ta tv:TE}
theorem cH (he:PE X e ta) (hb:attributeBase e f X.env (eval e X.env)=eval e X.env):PE X (.Attribute e f pos) (B4 X.K ta f):=by
 intro pins s σ H Q I h;refine vS hb (bi (he pins s σ H _ I h) fun u s1 ⟨x,H1,I1,rx,a,C,dx,fs,v,ex,ea,c,n,l,q⟩=>?_)
 subst ex;obtain rfl:u=Value.ref a:=rx;exact pB I1 ea c n l fun u' s2 I2 ru=>⟨v,H1,I2,ru,q⟩
theorem jE (ha:PE X o ta) (hv:PE X value tv) (hs:swapsWith value (some (.Attribute o f pos')) pos.line X.env=pure false):PS X (.Assign [.Attribute o f pos'] value pos) (B5 X.K ta tv f):=by
 intro pins s σ H D I h;refine plainObj_wpAny_Assign_Attribute (bi (hv pins s σ H _ I h) fun u s1 ⟨y,H1,I1,ry,q⟩=>bi (ha pins s1 σ H1 _ I1 q) fun ov s2 ⟨x,H2,I2,rx,a,C,dx,fs,ex,ea,c,n,l,q2⟩=>?_) hs
 subst ex;obtain rfl:ov=Value.ref a:=rx;exact pC I2 ea c n l ry fun s3 I3=>⟨σ,_,I3,q2⟩
end
section
variable {A:Around} {Q:FN} {c:Value} {b:Bool}
inductive io (K:D7) (H:Hp):V->Value->Prop where
 |non:io K H .non (.type "NoneType")
 |bl (x:Bool):io K H (.bl x) (.type "bool")
 |int (i:Int):io K H (.int i) (.type "int")
 |str (x:Str):io K H (.str x) (.type "str")
 |flt (x:UInt64):io K H (.flt x) (.type "float")
 |lst {a:Addr} {xs:List V} (e:H a=some (.lst xs)):io K H (.ref a) (.type "list")
 |frz {a:Addr} {o:Obj} {xs:List V} (e:H a=some (.frz o (.lst xs))):io K H (.ref a) (.type "list")
 |tup {a:Addr} {xs:List V} (e:H a=some (.tup xs)):io K H (.ref a) (.type "tuple")
 |dK {a:Addr} {kvs:List (Key×V)} (e:H a=some (.dK kvs)):io K H (.ref a) (.type "dict")
 |dT {a:Addr} {kvs:List (List Key×V)} (e:H a=some (.dT kvs)):io K H (.ref a) (.type "dict")
 |ins {a C dx:Addr} {fs:List (Str×V)} (e:H a=some (.ins C dx fs)) (cl:vR K C) (ha:EV K (.ref C) "__class__" =some (some (.builtin "object.__class__")))
   (hn:PySem.W.specialIn K (.builtin "object.__class__") "__get__" =some (some (.builtin "getset_descriptor.__get__"))) (htk:PySem.W.takesIn K (.builtin "object.__class__")=some true)
   (hm:PySem.W.mroIn K C (.type "object")=some true):io K H (.ref a) (.ref C)
theorem sk {x:V} {u t:Value} (I:aP X pins σ H s) (rx:RelV x u) (ty:io X.K H x t) (e:PySem.W.kitOne X.K t c=some b) (h:∀tk,Q (.bool b) {s with toks:=tk}):
  wpAny (model X.prog X.w) A (call (.builtin "isinstance") [u,c]) Q E s:=by
 cases ty with
 |non=>cases (show u=Value.none from rx);exact ED PySem.W.kitx_none I.kIn True.intro e (fun z=>nomatch z) h
 |bl y=>cases (show u=Value.bool y from rx);exact ED PySem.W.kitx_bool I.kIn True.intro e (fun z=>nomatch z) h
 |int i=>obtain ⟨t,q⟩:=(show ∃t,u=Value.int i t from rx);cases q;exact ED PySem.W.kitx_int I.kIn True.intro e (fun z=>nomatch z) h
 |str y=>obtain ⟨t,q⟩:=(show ∃t,u=Value.str y t from rx);cases q;exact ED PySem.W.kitx_str I.kIn True.intro e (fun z=>nomatch z) h
 |flt y=>obtain ⟨t,q⟩:=(show ∃t,u=Value.float y t from rx);cases q;exact ED PySem.W.kitx_float I.kIn True.intro e (fun z=>nomatch z) h
 | @lst a xs ea=>
  cases (show u=Value.ref a from rx)
  obtain ⟨_,_,n,_,h1⟩:=(show bM X.prog X.w H s.heap a (.lst xs) from I.hok a _ ea)
  exact ED PySem.W.kitx_list I.kIn ⟨_,h1,rfl⟩ e (fun z=>nomatch z) h
 | @frz a ob xs ea=>
  cases (show u=Value.ref a from rx)
  obtain ⟨_,_,_,n,_,h1⟩:=(show bM X.prog X.w H s.heap a (.frz ob (.lst xs)) from I.hok a _ ea)
  exact ED PySem.W.kitx_list I.kIn ⟨_,h1,rfl⟩ e (fun z=>nomatch z) h
 | @tup a xs ea=>
  cases (show u=Value.ref a from rx)
  obtain ⟨_,_,_,p⟩:=(show bM X.prog X.w H s.heap a (.tup xs) from I.hok a _ ea)
  obtain ⟨o,h1,h2,_⟩:=p;exact ED PySem.W.kitx_tuple I.kIn ⟨o,h1,h2⟩ e (fun z=>nomatch z) h
 | @dK a kvs ea=>
  cases (show u=Value.ref a from rx)
  obtain ⟨_,_,vs,_,p⟩:=(show bM X.prog X.w H s.heap a (.dK kvs) from I.hok a _ ea)
  obtain ⟨o,es,ep,h1,h2,_⟩:=p;exact ED PySem.W.kitx_dict I.kIn ⟨o,h1,h2.1⟩ e (fun z=>nomatch z) h
 | @dT a kvs ea=>
  cases (show u=Value.ref a from rx)
  obtain ⟨_,_,xs,_,o,es,ep,h1,h2,_⟩:=(show bM X.prog X.w H s.heap a (.dT kvs) from I.hok a _ ea)
  exact ED PySem.W.kitx_dict I.kIn ⟨o,h1,h2.1⟩ e (fun z=>nomatch z) h
 | @ins a C dx fs ea cl ha hn htk hm=>
  cases (show u=Value.ref a from rx)
  obtain ⟨mA,O,_⟩:=lX I.hok ea;obtain ⟨od,J,_⟩:=O.look;exact ED (PySem.W.kitx_own (cl.get _) cl.hd ha hn htk hm) I.kIn J e (fun z=>nomatch z) h
end
structure dQ (k:Nat) (A:Around):Prop where
 hd:A.handled=none
 dp:A.depth+3*k+5<recursionLimit
 un:A.units+16*k+200<cLine
theorem dQ.mono {j k:Nat} {A:Around} (r:dQ k A) (h:j<=k):dQ j A:=⟨r.hd,by have:=r.dp;omega,by have:=r.un;omega⟩
theorem dQ.deeper {k:Nat} {A:Around} (r:dQ (k+1) A) (env:Env):dQ k (A.deeper env):=
 ⟨r.hd,by have:=r.dp;show A.depth+1+3*k+5<_;omega,by have:=r.un;show A.units+3+16*k+200<_;omega⟩
theorem pD {A:Around} {C:Addr} {us:FS} {kw:List (Str×Value)}:(A.under (.builtin "type.__call__" ⟨.ref C::us,kw⟩)).depth=A.depth+1:=by
 first|rfl|simp[Around.under,Code.weight,Code.isCreation,Code.isGuard,Code.isCaller,Code.frames,Code.isFrame,guardIds]
theorem pE {A:Around} {C:Addr} {us:FS} {kw:List (Str×Value)}:(A.under (.builtin "type.__call__" ⟨.ref C::us,kw⟩)).units=A.units+1:=by
 first|rfl|simp[Around.under,Code.cUnits,Code.frames,Code.isFrame]
theorem dQ.make {k:Nat} {A:Around} (r:dQ (k+1) A) (C:Addr) (us:FS) (kw:List (Str×Value)):dQ k (A.under (.builtin "type.__call__" ⟨.ref C::us,kw⟩)):=
 ⟨r.hd,by have:=r.dp;rw[pD];omega,by have:=r.un;rw[pE];omega⟩
theorem dQ.depth {k:Nat} {A:Around} (r:dQ k A):A.depth<recursionLimit:=by have:=r.dp;omega
theorem dQ.units {k:Nat} {A:Around} (r:dQ k A):A.units+64<cLine:=by have:=r.un;omega
theorem dQ.units0 {k:Nat} {A:Around} (r:dQ k A):A.units<cLine:=by have:=r.un;omega
def B6:TA:=fun _ H Q=>Q [] H
def zQ (ta:TE) (tr:TA):TA:=fun σ H Q=>ta σ H fun x H1=>tr σ H1 fun xs H2=>Q (x::xs) H2
section
variable {e:Expr} {es:List Expr} {te:TE} {t:TA}
theorem ac:PA X [] B6:=fun _ _ _ _ H Q I h=>Calls.spliced_nil ⟨[],H,I,.nil,h⟩
theorem aa (ha:PE X e te) (hr:PA X es t) (hs:starEach (e::es) X.env=(false,eval e X.env)::starEach es X.env:=by rfl):PA X (e::es) (zQ te t):=by
 intro pos pins s σ H Q I h;rw[hs];show wpAny _ _ (spliced ((false,eval e X.env)::backTo pos (starEach es X.env))) _ _ s;refine Calls.spliced_cons (bi (ha pins s σ H _ I h) fun u s1 ⟨x,H1,I1,r1,q1⟩=>?_)
 exact bi (hr pos pins s1 σ H1 _ I1 q1) fun us s2 ⟨xs,H2,I2,r2,q2⟩=>⟨x::xs,H2,I2,.cons r1 r2,q2⟩
def B7 (t:TA):TE:=fun σ H Q=>t σ H fun xs H1=>xs.length<=sizeLine/\∀p,H1 p=none->Q (.ref p) (aG H1 p (.tup xs))
def B8 (t:TA):TE:=fun σ H Q=>t σ H fun xs H1=>xs.length<=sizeLine/\∀p,H1 p=none->Q (.ref p) (aG H1 p (.lst xs))
theorem bj {x1} (h:PA X es t):PE X (.Tuple es x1 pos) (B7 t):=by
 intro pins s σ H Q I hq;refine wpAny_Tuple_spliced (bi (h pos pins s σ H _ I hq) fun us s1 ⟨xs,H1,I1,r,z,q⟩=>⟨by rw[<-r.length];exact z,?_⟩)
 have hf:H1 s1.heap.objs.size=none:=I1.hok.fresh (D9 _);refine ⟨.ref s1.heap.objs.size,aG H1 s1.heap.objs.size (.tup xs),I1.laid (t':=s1.toks) (fun b u e=>Heap.get?_push_of_some _ e) (D9 _) ?_,rfl,q _ hf⟩
 exact ⟨z,us,r,⟨_,Heap.get?_push_size _ rfl,rfl,_,rfl⟩⟩
theorem aU (h:PA X es t):PE X (.List es pos) (B8 t):=by
 intro pins s σ H Q I hq;refine wpAny_List_spliced (bi (h pos pins s σ H _ I hq) fun us s1 ⟨xs,H1,I1,r,z,q⟩=>⟨by rw[<-r.length];exact z,?_⟩)
 have hf:H1 s1.heap.objs.size=none:=I1.hok.fresh (D9 _);refine ⟨.ref s1.heap.objs.size,aG H1 s1.heap.objs.size (.lst xs),I1.laid (t':=s1.toks) (fun b u e=>Heap.get?_push_of_some _ e) (D9 _) ?_,rfl,q _ hf⟩
 exact ⟨z,us,0,r,Heap.get?_push_size _ rfl⟩
end
abbrev Sp:=List V->Hp->VK->XK->Prop
abbrev qC:=List Env->Hp->Shared->XK->Value->Shared->Prop
structure pF (P:Program) (w:World) (K:D7) (mg:FO) (base:Heap) (A:Around) (outer:List Env) (s:Shared) (H:Hp):Prop where
 frames:A.frames=some outer
 mod:Mod K mg base
 bs:∀b o,base.get? b=some o->s.heap.get? b=some o/\H b=none
 bsz:base.objs.size<=s.heap.objs.size
 funs:s.heap.FunFrames base outer
 frf:∀b∈rV outer,H b=none
 hok:gP P w H s.heap
 bare:AllBare s.gens
def CE (outer:List Env) (P:Program) (w:World) (H:Hp) (s:Shared) (Q:VK) (u:Value) (s':Shared):Prop:=
 ∃v H',s'.os=s.os/\AllBare s'.gens/\Un (rV outer) [] H H' s.heap s'.heap/\gP P w H' s'.heap/\RelV v u/\Q v H'
def CR (CX:qC) (outer:List Env) (P:Program) (w:World) (H:Hp) (s:Shared) (Q:VK) (E:XK) (r:Result) (s':Shared):Prop:=
 match r with
 | .ok (.ret u)=>CE outer P w H s Q u s'
 | .ok _=>False
 | .error e=>CX outer H s E e s'
structure bf (P:Program) (w:World) (K:D7) (mg:FO) (base:Heap) (CX:qC) (k:Nat) (f:Addr) (fd:FuncData) (ps:FQ) (sp:Sp):Prop where
 len:∀vs H Q E,sp vs H Q E->vs.length=ps.length
 run:∀(A:Around) (outer:List Env) (s:Shared) (H:Hp) (args:Args) (us:FS) (vs:List V) (Q:VK) (E:XK),dQ k A->pF P w K mg base A outer s H->BindsTo s fd args (ps.zip us)->bg vs us->sp vs H Q E->
  codeAny (model P w) A (.call (.ref f) args) (CR CX outer P w H s Q E) s
theorem pF.make {P:Program} {w:World} {K:D7} {mg:FO} {base:Heap} {A:Around} {outer:List Env} {s:Shared} {H:Hp} (e:pF P w K mg base A outer s H) (C:Addr) (us:FS) (kw:List (Str×Value)):
  pF P w K mg base (A.under (.builtin "type.__call__" ⟨.ref C::us,kw⟩)) outer s H:=⟨by first|exact e.frames|(simpa [Around.under,Code.envs,Code.isFrame,pushEnvs] using e.frames),e.mod,e.bs,e.bsz,e.funs,e.frf,e.hok,e.bare⟩
variable {s':Shared}
theorem aP.env0 (I:aP X pins σ H s):pF X.prog X.w X.K X.mg X.base X.A X.stack s H:=
 ⟨I.ok.frames,I.ok.mod,I.bs,EF I.ok.bsz I.sz,I.stack,I.stkFree,I.hok,I.bare⟩
theorem aP.after {Q:VK} {u:Value} (I:aP X pins σ H s) (h:CE X.stack X.prog X.w H s Q u s'):EP X pins σ Q u s':=by
 obtain ⟨v,H',os,bare,un,hok,r,q⟩:=h;obtain ⟨hh,g,d,t,os'⟩:=s';obtain rfl:os'=s.os:=os;exact ⟨v,H',I.call (h':=hh) (g':=g) (d':=d) (t':=t) (ch:= []) un hok bare (fun b z=>absurd z (by simp)),r,q⟩
def tY (sp:Sp) (dvs:List V) (E:XK) (t:TA):TE:=fun σ H Q=>t σ H fun vs H1=>sp (vs++dvs) H1 Q E
def xm (C:Addr) (sp:Sp) (dvs:List V) (E:XK) (t:TA):TE:=fun σ H Q=>t σ H fun vs H1=>∀x dx,H1 x=none->H1 dx=none->dx≠x->
 sp (.ref x::(vs++dvs)) (aG (aG H1 dx (.own x)) x (.ins C dx [])) (fun v H2=>v= .non/\Q (.ref x) H2) E
def Binds (K:D7) (fd:FuncData) (ps:FQ) (ds:FS):Prop:=
 ∀(s:Shared) (us:FS),K.In s.heap->(us++ds).length=ps.length->BindsTo s fd ⟨us,[]⟩ (ps.zip (us++ds))
theorem Binds.all {K:D7} {fd:FuncData} {ps:FQ} (h:∀us:FS,us.length=ps.length->bindArgs fd ⟨us,[]⟩=pure (ps.zip us)):Binds K fd ps []:=fun s us _ hl=>by
 rw[EQ] at hl⊢;exact .of_eq (h us hl)
def jF (CX:qC) (X:Cx) (E:XK):Prop:=∀(pins:FP) (σ:St) (H:Hp) (s:Shared) (e:Value) (s':Shared),aP X pins σ H s->CX X.stack H s E e s'->X.xe e s'
section
variable {CX:qC} {k:Nat} {f C:Addr} {fd:FuncData} {ps:FQ} {sp:Sp} {dvs:List V} {ds:FS} {E:XK} {x m:Str} {p apos:Pos} {e o:Expr} {es:List Expr} {ta:TE} {t:TA}
theorem xN {pins:FP} {σ:St} {H:Hp} {s:Shared} {Q:VK} {us:FS} {vs:List V} (F:bf X.prog X.w X.K X.mg X.base CX k f fd ps sp) (hr:dQ k X.A) (hb:Binds X.K fd ps ds) (hd:bg dvs ds) (hx:jF CX X E)
  (I:aP X pins σ H s) (r:bg vs us) (h:sp (vs++dvs) H Q E):wpAny (model X.prog X.w) X.A (call (.ref f) us) (EP X pins σ Q) X.xe s:=by
 have r2:bg (vs++dvs) (us++ds):=r.append hd;have hl:(us++ds).length=ps.length:=by rw[<-r2.length];exact F.len _ _ _ _ h
 refine wpAny_call (codeAny_mono (F.run X.A X.stack s H ⟨us,[]⟩ (us++ds) (vs++dvs) Q E hr I.env0 (hb s us I.kIn hl) r2 h) fun r s' hq=>?_)
 cases r with
 |error e=>exact hx pins σ H s e s' I hq
 |ok fl=>
  cases fl with
  |ret u=>exact I.after hq
  |next=>exact False.elim hq
  |brk=>exact False.elim hq
  |cont=>exact False.elim hq
theorem vT (F:bf X.prog X.w X.K X.mg X.base CX k f fd ps sp) (hr:dQ k X.A) (hg:Gl X x) (hm:X.mg x=some (.ref f)) (hk:Ed X.K (.ref f)=true) (hb:Binds X.K fd ps ds) (hd:bg dvs ds) (hx:jF CX X E)
  (ha:PA X (e::es) t) (hdb:(x==("__debug__" :Str))=false:=by decide) (he:starEach (e::es) X.env=(false,eval e X.env)::starEach es X.env:=by rfl) (hpl:(backTo pos (starEach es X.env)).any (·.1)=false:=by rfl):
  PE X (.Call (.Name x p) (e::es) [] pos) (tY sp dvs E t):=by
 intro pins s σ H Q I h;refine wpAny_Call_Name_kw (lV I hg hm ?_ hdb);refine PySem.W.callWith_K (h₀:=X.base) I.ok.mod.kin hk (bi (ha pos pins s σ H _ I h) fun us s1 ⟨vs,H1,I1,r,q⟩=>⟨I1.kIn,?_⟩) he hpl
 exact xN F hr hb hd hx I1 r q
structure Mk (K:D7) (C f:Addr):Prop where
 makes:PySem.W.makesIn K C=true
 init:EV K (.ref C) "__init__" =some (some (.ref f))
 fn:PySem.W.isFn K (.ref f)=true
 kp:Ed K (.ref C)=true
theorem tZ {pins:FP} {σ:St} {H:Hp} {s:Shared} {Q:VK} {us:FS} {vs:List V} (M:Mk X.K C f) (F:bf X.prog X.w X.K X.mg X.base CX k f fd ps sp) (hr:dQ (k+1) X.A) (hb:Binds X.K fd ps ds) (hd:bg dvs ds)
  (hx:jF CX X E) (I:aP X pins σ H s) (r:bg vs us)
  (h:∀x dx,H x=none->H dx=none->dx≠x->sp (.ref x::(vs++dvs)) (aG (aG H dx (.own x)) x (.ins C dx [])) (fun v H2=>v= .non/\Q (.ref x) H2) E):
  wpAny (model X.prog X.w) X.A (call (.ref C) us) (EP X pins σ Q) X.xe s:=by
 have hq:=h (s.heap.objs.size+1) s.heap.objs.size (I.hok.fresh (Eu _)) (I.hok.fresh (D9 _)) (DF (Nat.lt_succ_self _));have I2:=aP.made (C:=C) I;have r2:bg (V.ref (s.heap.objs.size+1)::(vs++dvs)) (Value.ref (s.heap.objs.size+1)::(us++ds)):= .cons rfl (r.append hd);have hl:(Value.ref (s.heap.objs.size+1)::us++ds).length=ps.length:=by
  have e:=r2.length;rw[F.len _ _ _ _ hq] at e;exact e.symm
 refine wpAny_call (tX (f:=f) I.kIn M.makes M.init (beq_iff_eq.mp M.fn) (codeAny_mono (F.run _ X.stack _ _ ⟨Value.ref (s.heap.objs.size+1)::us,[]⟩ (Value.ref (s.heap.objs.size+1)::(us++ds)) _ _ E (hr.make C us [])
  (I2.env0.make C us []) (hb _ (Value.ref (s.heap.objs.size+1)::us) I2.kIn hl) r2 hq) fun r s' hq'=>?_))
 cases r with
 |error e=>exact hx pins σ _ _ e s' I2 hq'
 |ok fl=>
  cases fl with
  |ret u=>
   obtain ⟨v,H',I3,rv,ev,q3⟩:=I2.after hq';subst ev;exact ⟨rv,⟨V.ref (s.heap.objs.size+1),H',I3,rfl,q3⟩⟩
  |next=>exact False.elim hq'
  |brk=>exact False.elim hq'
  |cont=>exact False.elim hq'
theorem vU (M:Mk X.K C f) (F:bf X.prog X.w X.K X.mg X.base CX k f fd ps sp) (hr:dQ (k+1) X.A) (hg:Gl X x) (hm:X.mg x=some (.ref C)) (hb:Binds X.K fd ps ds) (hd:bg dvs ds) (hx:jF CX X E)
  (ha:PA X (e::es) t) (hdb:(x==("__debug__" :Str))=false:=by decide) (he:starEach (e::es) X.env=(false,eval e X.env)::starEach es X.env:=by rfl) (hpl:(backTo pos (starEach es X.env)).any (·.1)=false:=by rfl):
  PE X (.Call (.Name x p) (e::es) [] pos) (xm C sp dvs E t):=by
 intro pins s σ H Q I h;refine wpAny_Call_Name_kw (lV I hg hm ?_ hdb);refine PySem.W.callWith_K (h₀:=X.base) I.ok.mod.kin M.kp (bi (ha pos pins s σ H _ I h) fun us s1 ⟨vs,H1,I1,r,q⟩=>⟨I1.kIn,?_⟩) he hpl
 exact tZ M F hr hb hd hx I1 r q
end
structure aE (N P:FQ) (sc:Scope):Prop where
 kind:sc.kind= .function
 co:sc.isCoroutine=false
 gen:sc.isGenerator=false
 nd:N.Nodup
 pre:N.take P.length=P
 par:∀x∈P,sc.names.lookup x=some .local∨sc.names.lookup x=some .cell
 nofree:∀y∈sc.names,y.2≠ .free
theorem kC {kindOf:Str->Option NameKind} {x:Str}:∀{binds:List (Str×Value)} {m:FO},(∀v,(x,v)∉binds)->bindL kindOf binds m x=m x
 | [],_,_=>rfl
 |(n,v)::r,m,h=>by
  unfold bindL;rw[kC fun w hw=>h w (DW _ hw)]
  split
  ·have:x≠n:=by rintro rfl;exact h v Dk
   simp[this]
  ·rfl
theorem kD {kindOf:Str->Option NameKind} {x:Str}:∀{binds:List (Str×Value)} {m:FO},(∀v,(x,v)∉binds)->bindC kindOf binds m x=m x
 | [],_,_=>rfl
 |(n,v)::r,m,h=>by
  unfold bindC;rw[kD fun w hw=>h w (DW _ hw)]
  split
  ·rfl
  ·have:x≠n:=by rintro rfl;exact h v Dk
   simp[this]
theorem kE {kindOf:Str->Option NameKind} {x:Str} {v:Value}:∀{P:FQ} {vs:FS} {i:Nat} {m:FO},P.Nodup->P[i]?=some x->vs[i]?=some v->kindOf x=some .local->
  bindL kindOf (P.zip vs) m x=some v
 | [],_,_,_,_,h,_,_=>by simp at h
 |_::_,[],_,_,_,_,h,_=>by simp at h
 |p::P,w::vs,0,m,nd,h1,h2,hk=>by
  simp at h1 h2;subst h1;subst h2;show bindL kindOf ((p,w)::P.zip vs) m p=_;unfold bindL;rw[kC fun v hv=>(Eg.mp nd).1 (List.of_mem_zip hv).1,if_pos hk]
  simp
 |p::P,w::vs,i+1,m,nd,h1,h2,hk=>by
  show bindL kindOf ((p,w)::P.zip vs) m x=_;unfold bindL;exact kE (i:=i) (Eg.mp nd).2 (by simpa using h1) (by simpa using h2) hk
theorem kF {kindOf:Str->Option NameKind} {x:Str} {v:Value}:∀{P:FQ} {vs:FS} {i:Nat} {m:FO},P.Nodup->P[i]?=some x->vs[i]?=some v->kindOf x≠some .local->
  bindC kindOf (P.zip vs) m x=some v
 | [],_,_,_,_,h,_,_=>by simp at h
 |_::_,[],_,_,_,_,h,_=>by simp at h
 |p::P,w::vs,0,m,nd,h1,h2,hk=>by
  simp at h1 h2;subst h1;subst h2;show bindC kindOf ((p,w)::P.zip vs) m p=_;unfold bindC;rw[kD fun v hv=>(Eg.mp nd).1 (List.of_mem_zip hv).1,if_neg hk]
  simp
 |p::P,w::vs,i+1,m,nd,h1,h2,hk=>by
  show bindC kindOf ((p,w)::P.zip vs) m x=_;unfold bindC;exact kF (i:=i) (Eg.mp nd).2 (by simpa using h1) (by simpa using h2) hk
def start (N:FQ) (vs:List V):St:=vs.map some++EA (N.length-vs.length) none
def so (CX:qC) (P:Program) (w:World) (K:D7) (mg:FO) (base:Heap) (N:FQ) (qual:Str) (scope:Scope) (f:Addr) (cd:Value) (A:Around) (outer:List Env) (s:Shared) (H:Hp) (E:XK):Cx where
 prog:=P
 w:=w
 K:=K
 mg:=mg
 base:=base
 A:=A.deeper (envOfC qual scope s.heap.objs.size f cd)
 N:=N
 s₀:=s
 H₀:=H
 env:=envOfC qual scope s.heap.objs.size f cd
 outer:=outer
 stack:=envOfC qual scope s.heap.objs.size f cd::outer
 ex:= []
 calm:=true
 fn:=fun _=>true
 pn:= []
 xe:=fun e s'=>wpAny (model P w) (A.deeper (envOfC qual scope s.heap.objs.size f cd)) (leaving (envOfC qual scope s.heap.objs.size f cd) e) (fun _ s''=>CX outer H s E e s'') (fun e' s''=>CX outer H s E e' s'') s'
theorem nh {sc:Scope} {n:Nat} {x:Str} (h:sc.names.lookup x=some .cell):∃c,(cellsFrom n sc.names []).lookup x=some c:=by
 have q:=PySem.W.cellsFrom_some sc.names n [] (.inl h);exact Do.mp q
theorem sr {CX:qC} {P:Program} {w:World} {K:D7} {mg:FO} {base:Heap} {N ps:FQ} {qual:Str} {scope:Scope} {f:Addr} {cd:Value} {A:Around} {outer:List Env} {s s1:Shared} {H:Hp} {E:XK} {us:FS} {vs:List V}
  (S:aE N ps scope) (hd:A.handled=none) (e0:pF P w K mg base A outer s H) (hl:vs.length=ps.length) (r:bg vs us)
  (x:InCallC s s.heap.objs.size (bindL (envOfC qual scope s.heap.objs.size f cd).kindOf (ps.zip us) fun _=>none) (cellsFrom (s.heap.objs.size+1) scope.names []) (bindC (envOfC qual scope s.heap.objs.size f cd).kindOf (ps.zip us) fun _=>none) s1):
  aP (so CX P w K mg base N qual scope f cd A outer s H E) [] (start N vs) H s1:=by
 have hpl:ps.length<=N.length:=by have:=congrArg List.length S.pre;rw[Ds] at this;omega
 obtain ⟨h1,tk,rfl,hk⟩:=x.done;have noA:∀b:Addr,b∉(so CX P w K mg base N qual scope f cd A outer s H E).ex:=fun b z=>absurd (show b∈([]:FR) from z) (by simp)
 refine ⟨⟨e0.mod,S.kind,rfl,rfl,D9 _,fun y z c h1 h2=>?_,fun y hy=>?_,fun y c _ h=>?_,fun _=>hd,Around.frames_deeper e0.frames,.inr ⟨rfl,rfl⟩,fun b z=>absurd z (noA b),e0.bs,e0.bsz,fun b _ _=>noA b,fun b z=>absurd z (noA b),e0.funs,e0.frf⟩,
  rfl,e0.bare,Un.kept hk,⟨_,x.toInCall.ns,fun i y v h1 h2 h3=>?_⟩,fun y c h=>⟨_,x.cell y c h⟩,e0.hok.fresh (D9 _),fun y c h=>?_,fun p hp=>absurd (show p∈([]:FP) from hp) (by simp),e0.hok.kept hk,?_⟩
 ·exact name_of_addr x.apart (Dq h1) (Dq h2)
 ·have hy:scope.names.lookup y=some .cell∨scope.names.lookup y=some .free:=hy;rcases hy with hy|hy
  ·exact nh hy
  ·exact absurd rfl (S.nofree _ (Dq hy))
 ·exact Nat.le_of_lt (x.above y c (Dq h))
 ·have hi:i<vs.length:=by
   unfold start at h2
   by_cases hi:i<vs.length
   ·exact hi
   ·rw[Dw (by simpa using hi)] at h2
    rw[List.getElem?_replicate] at h2
    split at h2<;>cases h2
  have ha:vs[i]?=some v:=by
   unfold start at h2;rw[E4 (by simpa using hi),DE] at h2
   cases e:vs[i]? with
   |none=>rw[e] at h2;cases h2
   |some a=>rw[e] at h2;cases h2;rfl
  obtain ⟨u,hu,rv⟩:=r.get ha;have hp:ps[i]?=some y:=by
   rw[<-S.pre,List.getElem?_take_of_lt (by omega)];exact h1
  have ndP:ps.Nodup:=by rw[<-S.pre];exact S.nd.sublist (List.take_sublist _ _)
  refine ⟨u,rv,?_⟩;rcases S.par y (D6 hp) with k|k
  ·exact .inl ⟨k,kE ndP hp hu k⟩
  ·obtain ⟨c,e⟩:=nh (n:=s.heap.objs.size+1) k;refine .inr ⟨.inl k,c,e,?_⟩;have q:=x.cell y c e;rw[kF ndP hp hu (by show scope.names.lookup y≠_;rw[k];decide)] at q
   exact q
 ·exact e0.hok.fresh (Nat.le_of_lt (x.above y c (Dq h)))
 ·unfold start;show _=N.length;rw[D8,D3,EK];omega
theorem zR {CX:qC} {P:Program} {w:World} {K:D7} {mg:FO} {base:Heap} {k:Nat} {f:Addr} {name qual:Str} {params:Arguments} {body:List Stmt} {scope:Scope} {dV kV doc pm cdv ct oc:Value} {an od:FT}
  {osl:Array FU} {N ps:FQ} {sp:Sp} (lk:K.lookup f=some ⟨oc,od,.func (ES name qual params body scope dV kV doc pm an cdv ct),osl⟩) (hcd:PySem.W.codeIn K cdv qual=true) (S:aE N ps scope)
  (len:∀vs H Q E,sp vs H Q E->vs.length=ps.length)
  (hbody:∀(A:Around) (outer:List Env) (s:Shared) (H:Hp) (vs:List V) (Q:VK) (E:XK),dQ k (A.deeper (envOfC qual scope s.heap.objs.size f cdv))->sp vs H Q E->
   ∃t,tK (so CX P w K mg base N qual scope f cdv A outer s H E) body t/\t {nx:=fun _ H'=>Q .non H',rt:=Q} (start N vs) H):
  bf P w K mg base CX (k+1) f (ES name qual params body scope dV kV doc pm an cdv ct) ps sp:=by
 refine ⟨len,fun A outer s H args us vs Q E hr e0 hb r hsp=>?_⟩
 have hl:=len _ _ _ _ hsp;have KX:K.In s.heap:=e0.mod.kin.keeps fun b o e=>(e0.bs b o e).1
 have lim:s.heap.NoLimit:=e0.mod.nolimit.keeps fun b o e=>(e0.bs b o e).1
 have hkind:∀y∈ps.zip us,scope.names.lookup y.1=some .local∨(scope.names.lookup y.1=some .cell/\((cellsFrom (s.heap.objs.size+1) scope.names []).lookup y.1).isSome=true):=fun ⟨n,v⟩ hy=>by
  rcases S.par n (List.of_mem_zip hy).1 with q|q
  ·exact .inl q
  ·exact .inr ⟨q,PySem.W.cellsFrom_some _ _ _ (.inl q)⟩
 refine codeAny_call_function hr.depth (KX _ _ lk) rfl S.co S.gen rfl (PySem.W.codeRec_of KX hcd) (hb _ _ _ _ ?_);refine wpAny_newFunctionEnv_cells S.kind hkind fun env he s1 x=>?_
 subst he;refine ⟨lim.keeps x.toInCall.keep,codeAny_func ?_⟩;obtain ⟨t,ht,hq⟩:=hbody A outer s H vs Q E (hr.deeper _) hsp;have I:aP (so CX P w K mg base N qual scope f cdv A outer s H E) [] (start N vs) H s1:=sr S hr.hd e0 hl r x;refine wpAny_mono (ht [] s1 (start N vs) H _ I hq) (fun fl s' hs=>?_) fun e s' hs=>hs
 have fin:∀{σ':St} {H':Hp} {v:V} {u:Value},aP (so CX P w K mg base N qual scope f cdv A outer s H E) [] σ' H' s'->RelV v u->Q v H'->CE outer P w H s Q u s':=
  fun {σ' H' v u} J rv q=>⟨v,H',J.os,J.bare,J.base,J.hok,rv,q⟩
 cases fl with
 |ret u=>
  obtain ⟨v,σ',H',J,rv,q⟩:=hs;exact fin J rv q
 |next=>
  obtain ⟨σ',H',J,q⟩:=hs;exact fin (v:=V.non) (u:=Value.none) J rfl q
 |brk=>
  obtain ⟨_,_,_,q⟩:=hs;exact False.elim q
 |cont=>
  obtain ⟨_,_,_,q⟩:=hs;exact False.elim q
section
variable {x:Str} {p:Pos} {e:Expr} {es:List Expr} {t:TA} {id T:String} {r:List V->Hp->VK->Prop}
def CM (r:List V->Hp->VK->Prop) (t:TA):TE:=fun σ H Q=>t σ H fun vs H1=>r vs H1 Q
theorem ay (hc:dS X (.builtin id) r) (hg:Gl X x) (hm:X.mg x=none) (hv:bootBuiltins x=some (.builtin id)) (ha:PA X (e::es) t) (hn:x≠ "__name__" :=by decide) (hdb:(x==("__debug__" :Str))=false:=by decide)
  (he:starEach (e::es) X.env=(false,eval e X.env)::starEach es X.env:=by rfl) (hpl:(backTo pos (starEach es X.env)).any (·.1)=false:=by rfl):PE X (.Call (.Name x p) (e::es) [] pos) (CM r t):=by
 intro pins s σ H Q I h;refine wpAny_Call_Name_kw (dC I hg hm hv ?_ hn hdb);exact PyProof.Rows.callWith_builtin1 (bi (ha pos pins s σ H _ I h) fun us s1 ⟨vs,H1,I1,r1,q1⟩=>hc pins s1 σ H1 vs us Q I1 r1 q1) he hpl
theorem bJ (hc:dS X (.type T) r) (hg:Gl X x) (hm:X.mg x=none) (hv:bootBuiltins x=some (.type T)) (ha:PA X (e::es) t) (hn:x≠ "__name__" :=by decide) (hdb:(x==("__debug__" :Str))=false:=by decide)
  (he:starEach (e::es) X.env=(false,eval e X.env)::starEach es X.env:=by rfl) (hpl:(backTo pos (starEach es X.env)).any (·.1)=false:=by rfl):PE X (.Call (.Name x p) (e::es) [] pos) (CM r t):=by
 intro pins s σ H Q I h;refine wpAny_Call_Name_kw (dC I hg hm hv ?_ hn hdb);exact Dt (bi (ha pos pins s σ H _ I h) fun us s1 ⟨vs,H1,I1,r1,q1⟩=>hc pins s1 σ H1 vs us Q I1 r1 q1) he hpl
end
end L2
namespace HT
open PySem PyProof.Rows
section
variable {prog:Program} {w:World} {A:Around} {E:FN} {s:Shared}
def eV (n d:Nat):Option Int->Nat
 |none=>d
 |some v=>if v<0 then (v+(n:Int)).toNat else min v.toNat n
end
end HT
namespace L2
open PySem PySem.Spec PyProof.Rows
abbrev TO:=St->Hp->(Option Int->Hp->Prop)->Prop
def PO (X:Cx) (e:Option Expr) (t:TO):Prop:=
 ∀(pins:FP) (s:Shared) (σ:St) (H:Hp) (Q:Option Int->Hp->Prop),aP X pins σ H s->t σ H Q->
  wpAny (model X.prog X.w) X.A (evalPart e X.env) (fun u s'=>∃o H',aP X pins σ H' s'/\IsPart u o/\Q o H') X.xe s
def vV:TO:=fun _ H Q=>Q none H
def zS (t:TE):TO:=fun σ H Q=>t σ H fun x H1=>∃i,x= .int i/\Q (some i) H1
section
variable {X:Cx} {e:Expr} {te:TE} {lo hi:Option Expr} {tl th:TO} {pos p2:Pos}
theorem cK:PO X none vV:=by
 intro pins s σ H Q I h;rw[evalPart_none];exact wpAny_pure ⟨none,H,I,.none,h⟩
theorem bY (h:PE X e te):PO X (some e) (zS te):=by
 intro pins s σ H Q I hw;rw[evalPart_some];refine bi (h pins s σ H _ I hw) fun u s1 ⟨x,H1,I1,r1,q1⟩=>?_
 obtain ⟨i,rfl,q⟩:=q1;obtain ⟨t,rfl⟩:=r1;exact ⟨some i,H1,I1,.int i t,q⟩
def BE (X:Cx) (r:V->Option Int->Option Int->Hp->VK->Prop):Prop:=
 ∀(pins:FP) (s:Shared) (σ:St) (H:Hp) (x:V) (v vl vu:Value) (lo hi:Option Int) (sl:Addr) (Q:VK),aP X pins σ H s->RelV x v->s.heap.IsSliceOf sl vl vu .none->IsPart vl lo->IsPart vu hi->r x lo hi H Q->
  ∃T id,typeLookup (.type T) "__getitem__" =pure (some (.builtin id))/\s.TypeIs v T/\wpAny (model X.prog X.w) X.A (getItem v (.ref sl)) (EP X pins σ Q) X.xe s
def CZ (r:V->Option Int->Option Int->Hp->VK->Prop) (te:TE) (tl th:TO):TE:=fun σ H Q=>te σ H fun x H1=>tl σ H1 fun l H2=>th σ H2 fun u H3=>r x l u H3 Q
theorem bO {r:V->Option Int->Option Int->Hp->VK->Prop} (hr:BE X r) (he:PE X e te) (hl:PO X lo tl) (hu:PO X hi th):PE X (.Subscript e (.Slice lo hi none p2) pos) (CZ r te tl th):=by
 intro pins s σ H Q I h;refine Subscript_ (bi (he pins s σ H _ I h) fun v s1 ⟨x,H1,I1,r1,q1⟩=>?_)
 refine wpAny_Slice (bi (hl pins s1 σ H1 _ I1 q1) fun vl s2 ⟨l,H2,I2,pl,q2⟩=>bi (hu pins s2 σ H2 _ I2 q2) fun vu s3 ⟨u,H3,I3,pu,q3⟩=>?_)
 rw[evalPart_none];refine wpAny_pure ?_;have I4:aP X pins σ H3 {s3 with heap:=s3.heap.push {cls:= .type "slice",data:= .fields #[vl,vu,.none]}}:=I3.kept (t':=s3.toks) fun b ob q=>Heap.get?_push_of_some _ q
 obtain ⟨T,id,hT,ht,hg⟩:=hr pins {s3 with heap:=s3.heap.push {cls:= .type "slice",data:= .fields #[vl,vu,.none]}} σ H3 x v vl vu l u s3.heap.objs.size Q I4 r1 (Heap.IsSliceOf.new ..) pl pu q3
 show wpAny (model X.prog X.w) X.A (subscriptTail e (.Slice lo hi none p2) v (.ref s3.heap.objs.size)) (EP X pins σ Q) X.xe {s3 with heap:=s3.heap.push {cls:= .type "slice",data:= .fields #[vl,vu,.none]}}
 exact tail_any (ops:= [.ref s3.heap.objs.size,v]) ht hT hg (by with_unfolding_all rfl)
def fY (xs:List V) (lo hi:Option Int):List V:=(xs.drop (HT.eV xs.length 0 lo)).take (HT.eV xs.length xs.length hi-HT.eV xs.length 0 lo)
theorem nk (xs:List V) (lo hi:Option Int):(fY xs lo hi).length<=xs.length:=by
 unfold fY;rw[Ds,E6];omega
end
def t6 (n:Nat) (i:Int):Option Nat:=if 0<=i then (if i<n then some i.toNat else none) else if-(n:Int)<=i then some (i+n).toNat else none
def gZ {α:Type} (xs:List α) (i:Int):Option α:=(t6 xs.length i).bind fun j=>xs[j]?
theorem qD {n:Nat} {i:Int} {j:Nat} (h:t6 n i=some j):seqIndex? i n=some j/\j<n/\ -(n:Int)<=i/\i<n:=by
 unfold t6 at h
 by_cases h0:0<=i
 ·rw[if_pos h0] at h
  by_cases h1:i<n
  ·rw[if_pos h1] at h;have e:i.toNat=j:=EG h;exact ⟨by rw[seqIndex_of h0 h1,e],by omega,by omega,h1⟩
  ·rw[if_neg h1] at h;cases h
 ·rw[if_neg h0] at h
  by_cases h1: -(n:Int)<=i
  ·rw[if_pos h1] at h;have e:(i+n).toNat=j:=EG h;exact ⟨by rw[seqIndex_neg (by omega) h1,e],by omega,h1,by omega⟩
  ·rw[if_neg h1] at h;cases h
theorem lY {α:Type} {xs:List α} {i:Int} {v:α} (h:gZ xs i=some v):∃j,seqIndex? i xs.length=some j/\xs[j]?=some v/\j<xs.length/\ -(xs.length:Int)<=i/\i<xs.length:=by
 unfold gZ at h;cases e:t6 xs.length i with
 |none=>rw[e] at h;cases h
 |some j=>
  rw[e] at h;obtain ⟨h1,h2,h3,h4⟩:=qD e;exact ⟨j,h1,h,h2,h3,h4⟩
theorem a4 {α:Type} {xs:List α} {j:Nat} {v:α} (h:xs[j]?=some v):gZ xs (j:Int)=some v:=by
 have hj:j<xs.length:=(D5.mp h).1;have e:t6 xs.length (j:Int)=some j:=by
  unfold t6;rw[if_pos (by omega),if_pos (by omega)];simp
 unfold gZ;rw[e];exact h
theorem nq {α:Type} (xs:List α) (v:α):gZ (xs++ [v]) (-1)=some v:=by
 have hl:(xs++ [v]).length=xs.length+1:=by simp
 have e:t6 (xs++ [v]).length (-1)=some xs.length:=by
  unfold t6;rw[hl,if_neg (by decide),if_pos (by omega)]
  congr 1
  omega
 unfold gZ;rw[e];show (xs++ [v])[xs.length]?=some v;simp
def vW (b:Expr):Prop:=∀o i,subscripted b false o i=operate [o,i] (getItem o i)
def zA (X:Cx) (r:R2):Prop:=
 ∀(value slice:Expr) (pins:FP) (s:Shared) (σ:St) (H:Hp) (x y:V) (v u:Value) (Q:VK),aP X pins σ H s->RelV x v->RelV y u->r x y H Q->
  subscripted slice false v u=operate [v,u] (getItem v u)->wpAny (model X.prog X.w) X.A (subscriptTail value slice v u) (EP X pins σ Q) X.xe s
def B9 (X:Cx) (id:String) (r:V->List V->Hp->VK->Prop):Prop:=
 ∀(pins:FP) (s:Shared) (σ:St) (H:Hp) (x:V) (xs:List V) (v:Value) (us:FS) (Q:VK),aP X pins σ H s->RelV x v->bg xs us->r x xs H Q->
  wpAny (model X.prog X.w) X.A (call (.builtin id) (v::us)) (EP X pins σ Q) X.xe s
section
variable {X:Cx} {a b:Expr} {ta tb:TE} {pos:Pos}
theorem aA {r:R2} (hr:zA X r) (ha:PE X a ta) (hb:PE X b tb) (hs:vW b):PE X (.Subscript a b pos) (BC r ta tb):=by
 intro pins s σ H Q I h;exact Subscript_ (xL ha hb I h fun v u s2 x y H2 I2 rx ry q=>hr a b pins s2 σ H2 x y v u Q I2 rx ry q (hs _ _))
def zT (K:D7):R2:=fun x y H Q=>∃p xs i v,x= .ref p/\y= .int i/\aC K H p xs/\gZ xs i=some v/\Q v H
def zU (K:D7):R2:=fun x y H Q=>∃p xs i v,x= .ref p/\y= .int i/\bx K H p xs/\gZ xs i=some v/\Q v H
def Ca:R2:=fun x y H Q=>∃z i c,x= .str z/\y= .int i/\z.length<=sizeLine/\gZ z.cps.toList i=some c/\Q (.str ⟨#[c]⟩) H
theorem a9:zA X (zT X.K):=by
 intro value slice pins s σ H x y v u Q I rx ry h hs;obtain ⟨p,xs,i,z,rfl,rfl,hq,he,q⟩:=h;cases rx;obtain ⟨t,rfl⟩:=ry;obtain ⟨its,r,pl,hz⟩:=I.list hq;obtain ⟨j,h1,h2,h3,h4,h5⟩:=lY he;obtain ⟨w,ew,rw'⟩:=r.get h2;have hl:=r.length;have hn:=iN;have fin:EP X pins σ Q w s:=⟨z,H,I,rw',q⟩
 by_cases h0:0<=i
 ·have hj:i.toNat=j:=by
   rw[seqIndex_of h0 h5] at h1;exact EG h1
  exact item_listR pl.isList h0 (by omega) (by rw[hj];simpa using ew) fin hs
 ·have hj:(i+(its.toArray.size:Int)).toNat=j:=by
   rw[seqIndex_neg (by omega) h4] at h1
   rw[DN,<-hl];exact EG h1
  exact subscriptTail_builtinR (x:=w) pl.isList.typeIs slot_list_getitem.lookup
   (wpAny_getItem_list_neg (Q:=fun r s'=>r=w/\EP X pins σ Q r s') pl.isList (by omega) (by rw[DN]<;>omega) (by omega) (by rw[hj];simpa using ew) ⟨rfl,fin⟩) hs
theorem aK:zA X (zU X.K):=by
 intro value slice pins s σ H x y v u Q I rx ry h hs;obtain ⟨p,xs,i,z,rfl,rfl,hq,he,q⟩:=h;cases rx;obtain ⟨t,rfl⟩:=ry;obtain ⟨its,r,pl,hz⟩:=I.tuple hq;obtain ⟨j,h1,h2,h3,h4,h5⟩:=lY he;obtain ⟨w,ew,rw'⟩:=r.get h2;have hl:=r.length;have hn:=iN;have fin:EP X pins σ Q w s:=⟨z,H,I,rw',q⟩;exact subscriptTail_builtinR (x:=w) pl.typeIs slot_tuple_getitem.lookup
  (getItem_tuple (j:=j) (Q:=fun r s'=>r=w/\EP X pins σ Q r s') pl (by omega) (by omega) (by rw[DN,<-hl];exact h1) (by simpa using ew) ⟨rfl,fin⟩) hs
theorem lZ:zA X Ca:=by
 intro value slice pins s σ H x y v u Q I rx ry h hs;obtain ⟨z,i,c,rfl,rfl,hz,he,q⟩:=h;obtain ⟨t,rfl⟩:=rx;obtain ⟨t',rfl⟩:=ry;obtain ⟨j,h1,h2,h3,h4,h5⟩:=lY he;have hl:z.cps.toList.length=z.length:=by simp[Str.length]
 rw[hl] at h1 h4 h5;have hn:=iN;exact tail_any (typeIs_str s z t) slot_str_getitem.lookup (getItem_str (c:=c) (by
  have e1:decide (i< -(2^63:Int))=false:=decide_eq_false (by omega)
  have e2:decide (i≥2^63)=false:=decide_eq_false (by omega)
  rw[e1,e2,Eb]) (by rw[h1];simpa using h2) ⟨.str ⟨#[c]⟩,H,I.tok _,⟨_,rfl⟩,q⟩) hs
theorem pG (its:FS) (n j:Nat) (u:Value):Obj.mapSeq (·.setIfInBounds j u) {cls:= .type "list",data:= .seq its.toArray n}={cls:= .type "list",data:= .seq (its.set j u).toArray n}:=by
 simp[Obj.mapSeq]
theorem aP.lst {pins:FP} {σ:St} {H:Hp} {s:Shared} {p:Addr} {xs:List V} (I:aP X pins σ H s) (h:H p=some (.lst xs)):
  ∃(its:FS) (n:Nat),bg xs its/\s.heap.get? p=some {cls:= .type "list",data:= .seq its.toArray n}/\xs.length<=sizeLine:=by
 obtain ⟨z,its,n,r,e⟩:=I.hok p _ h;exact ⟨its,n,r,e,z⟩
theorem aP.lstUpd {pins:FP} {σ:St} {H:Hp} {s:Shared} {p:Addr} {xs ys:List V} {its its':FS} {n n':Nat} {f:Obj->Obj} (I:aP X pins σ H s) (h:H p=some (.lst xs))
  (ho:s.heap.get? p=some {cls:= .type "list",data:= .seq its.toArray n}) (hf:f {cls:= .type "list",data:= .seq its.toArray n}={cls:= .type "list",data:= .seq its'.toArray n'}) (r:bg ys its') (hz:ys.length<=sizeLine) (t:Nat):
  aP X pins σ (aG H p (.lst ys)) {s with heap:=s.heap.update p f,toks:=t}:=by
 have e:(s.heap.update p f).get? p=some {cls:= .type "list",data:= .seq its'.toArray n'}:=by
  rw[Heap.get?_update_self f ho (by rw[hf]<;>rfl),hf]
 refine I.write (x:=p) (e:=p) (by rw[h];trivial) (.inl rfl) (fun b u hb q=>(Heap.get?_update_other _ _ (Ne.symm hb)).trans q) ⟨_,e⟩ ?_
 exact ⟨hz,its',n',r,e⟩
def zV:V->V->V->Hp->(Hp->Prop)->Prop:=fun o i v H Q=>∃p xs k j,o= .ref p/\i= .int k/\H p=some (.lst xs)/\t6 xs.length k=some j/\Q (aG H p (.lst (xs.set j v)))
theorem set_list:zJ X zV:=by
 intro pins s σ H o i v ov iv u Q I ro ri rv h;obtain ⟨p,xs,k,j,rfl,rfl,hp,hj,q⟩:=h;cases ro;obtain ⟨t,rfl⟩:=ri;obtain ⟨its,n,r,ho,hz⟩:=I.lst hp;obtain ⟨h1,h2,h3,h4⟩:=qD hj;have hl:=r.length;have hn:=iN;have I':aP X pins σ (aG H p (.lst (xs.set j v))) {s with heap:=s.heap.update p (Obj.mapSeq (·.setIfInBounds j u))}:=
  I.lstUpd hp ho (pG its n j u) (r.set rv j) (by rw[List.length_set];exact hz) s.toks
 by_cases h0:0<=k
 ·have hk:k.toNat=j:=by
   rw[seqIndex_of h0 h4] at h1;exact EG h1
  exact PySem.W.ki_setAt ho h0 (by omega) (by rw[DN,<-hl];exact h4) (by rw[hk];exact ⟨_,I',q⟩)
 ·have hk:(k+(its.toArray.size:Int)).toNat=j:=by
   rw[seqIndex_neg (by omega) h3] at h1
   rw[DN,<-hl];exact EG h1
  exact PySem.W.ki_setBack ho (by omega) (by rw[DN,<-hl];exact h3) (by omega) (by rw[hk];exact ⟨_,I',q⟩)
theorem l9 (lo hi:Option Int) (n:Nat):(sliceBounds lo hi none n).1=((HT.eV n 0 lo:Nat):Int)/\(sliceBounds lo hi none n).2.1=((HT.eV n n hi:Nat):Int)/\(sliceBounds lo hi none n).2.2=1:=by
 refine ⟨?_,?_,rfl⟩
 ·cases lo with
  |none=>simp[sliceBounds,HT.eV]
  |some i=>
   simp only[sliceBounds,HT.eV,Option.getD_none,show (1:Int)>0 by decide,if_true]
   by_cases h:i<0
   ·simp only[h,if_true]<;>omega
   ·simp only[h,if_false]<;>omega
 ·cases hi with
  |none=>simp[sliceBounds,HT.eV]
  |some i=>
   simp only[sliceBounds,HT.eV,Option.getD_none,show (1:Int)>0 by decide,if_true]
   by_cases h:i<0
   ·simp only[h,if_true]<;>omega
   ·simp only[h,if_false]<;>omega
theorem kr (its:FS) (lo hi:Option Int):slicePick its.toArray lo hi none=((its.drop (HT.eV its.length 0 lo)).take (HT.eV its.length its.length hi-HT.eV its.length 0 lo)).toArray:=by
 obtain ⟨h1,h2,h3⟩:=l9 lo hi its.toArray.size;unfold slicePick;rw[h1,h2,h3];simp only[sliceRange_one,pick_run,DN]<;>rfl
def zW (K:D7):V->Option Int->Option Int->Hp->VK->Prop:=fun x lo hi H Q=>∃a xs,x= .ref a/\aC K H a xs/\∀p,H p=none->Q (.ref p) (aG H p (.lst (fY xs lo hi)))
theorem dy:BE X (zW X.K):=by
 intro pins s σ H x v vl vu lo hi sl Q I rx hs pl pu h;obtain ⟨a,xs,rfl,hx,q⟩:=h;cases rx;obtain ⟨its,r,ht,hz⟩:=I.list hx;have hlen:=r.length;refine ⟨"list",_,slot_list_getitem.lookup,ht.isList.typeIs,?_⟩;refine wpAny_getItem_list_slice ht.isList hs pl pu .none (by simp) ?_ (by rw[DN]<;>omega)
 rw[kr,<-hlen];refine ⟨.ref s.heap.objs.size,_,I.laid (t':=s.toks) (o:= .lst (fY xs lo hi)) (fun b ob q=>Heap.get?_push_of_some _ q) (D9 _) ?_,rfl,q _ (I.hok.fresh (D9 _))⟩
 exact ⟨EF (nk xs lo hi) hz,_,0,(r.drop (HT.eV xs.length 0 lo)).take (HT.eV xs.length xs.length hi-HT.eV xs.length 0 lo),Heap.get?_push_size _ rfl⟩
def gj:V->Bool
 | .non=>true
 | .bl _=>true
 | .int _=>true
 | .str _=>true
 |_=>false
def vH:V->V->Bool
 | .non,.non=>true
 | .bl a,.bl b=>a==b
 | .bl a,.int b=>(if a then 1 else 0)==b
 | .int a,.bl b=>a==(if b then 1 else 0)
 | .int a,.int b=>a==b
 | .str a,.str b=>a==b
 |_,_=>false
theorem xO {A:Around} {s:Shared} {y x:V} {u v:Value} (ry:RelV y u) (rx:RelV x v) (fy:gj y=true) (fx:gj x=true):SeqAt.EqAt A s u v (vH y x):=by
 cases y with
 |non=>
  cases ry;cases x with
  |non=>cases rx;exact SeqAt.EqAt.same _
  |bl b=>cases rx;exact SeqAt.EqAt.none_bool b
  |int b=>obtain ⟨t,rfl⟩:=rx;exact SeqAt.EqAt.none_int b t
  |str b=>obtain ⟨t,rfl⟩:=rx;exact SeqAt.EqAt.none_str b t
  |_=>exact absurd (show false=true from fx) DX
 |bl a=>
  cases ry;cases x with
  |non=>cases rx;exact SeqAt.EqAt.bool_none a
  |bl b=>cases rx;exact SeqAt.EqAt.bool_bool a b
  |int b=>obtain ⟨t,rfl⟩:=rx;exact SeqAt.EqAt.bool_int a b t
  |str b=>obtain ⟨t,rfl⟩:=rx;exact SeqAt.EqAt.bool_str a b t
  |_=>exact absurd (show false=true from fx) DX
 |int a=>
  obtain ⟨t',rfl⟩:=ry;cases x with
  |non=>cases rx;exact SeqAt.EqAt.int_none a t'
  |bl b=>cases rx;exact SeqAt.EqAt.int_bool a t' b
  |int b=>obtain ⟨t,rfl⟩:=rx;exact SeqAt.EqAt.int_int a t' b t
  |str b=>obtain ⟨t,rfl⟩:=rx;exact SeqAt.EqAt.int_str a t' b t
  |_=>exact absurd (show false=true from fx) DX
 |str a=>
  obtain ⟨t',rfl⟩:=ry;cases x with
  |non=>cases rx;exact SeqAt.EqAt.str_none a t'
  |bl b=>cases rx;exact SeqAt.EqAt.str_bool a t' b
  |int b=>obtain ⟨t,rfl⟩:=rx;exact SeqAt.EqAt.str_int a t' b t
  |str b=>obtain ⟨t,rfl⟩:=rx;exact SeqAt.EqAt.str_str a t' b t
  |_=>exact absurd (show false=true from fx) DX
 |_=>exact absurd (show false=true from fy) DX
def pH (x:V) (u:Value):Bool:=match u with
 | .none=>vH .non x
 | .bool b=>vH (.bl b) x
 | .int i _=>vH (.int i) x
 | .str z _=>vH (.str z) x
 |_=>false
theorem t8 {x y:V} {u:Value} (r:RelV y u) (f:gj y=true):pH x u=vH y x:=by
 cases y with
 |non=>cases r;rfl
 |bl b=>cases r;rfl
 |int i=>obtain ⟨t,rfl⟩:=r;rfl
 |str z=>obtain ⟨t,rfl⟩:=r;rfl
 |_=>exact absurd (show false=true from f) DX
theorem ip {x:V}:∀{xs:List V} {us:FS},bg xs us->xs.all gj=true->us.any (pH x)=xs.any fun y=>vH y x
 |_,_,.nil,_=>rfl
 |y::xs,u::us,.cons r t,f=>by
  rw[Eh,DH] at f;rw[EB,EB,t8 r f.1,ip t f.2]
theorem gm {A:Around} {s:Shared} {x:V} {v:Value} (rx:RelV x v) (fx:gj x=true):∀{xs:List V} {us:FS},bg xs us->xs.all gj=true->∀u∈us,SeqAt.EqAt A s u v (pH x u)
 |_,_,.nil,_=>fun u hu=>by cases hu
 |y::xs,u::us,.cons r t,f=>fun u' hu=>by
  rw[Eh,DH] at f;rcases DG.mp hu with rfl|hu
  ·rw[t8 r f.1];exact xO r rx f.1 fx
  ·exact gm rx fx t f.2 u' hu
def oZ (x:V) (xs:List V):Bool:=xs.any fun y=>vH y x
def BF (K:D7) (neg:Bool):R2:=fun x y H Q=>∃p xs,y= .ref p/\(aC K H p xs∨bx K H p xs)/\gj x=true/\xs.all gj=true/\Q (.bl (if neg then !oZ x xs else oZ x xs)) H
theorem cS:fX X (compareOp .In) (BF X.K false):=by
 intro pins s σ H x y v u Q I rx ry h;obtain ⟨p,xs,rfl,hq,fx,fs,q⟩:=h;cases ry;rcases hq with hq|hq
 ·obtain ⟨its,r,pl,hz⟩:=I.list hq;refine SeqAt.in_listAt (pH x) pl.isList (fun w hw=>gm rx fx r fs w (by simpa using hw)) ⟨.bl _,H,I,rfl,?_⟩
  rw[show its.toArray.any (pH x)=its.any (pH x) by simp,ip r fs]
  exact q
 ·obtain ⟨its,r,pl,hz⟩:=I.tuple hq;refine SeqAt.in_tupleAt (pH x) pl (fun w hw=>gm rx fx r fs w (by simpa using hw)) ⟨.bl _,H,I,rfl,?_⟩
  rw[show its.toArray.any (pH x)=its.any (pH x) by simp,ip r fs]
  exact q
theorem iq:fX X (compareOp .NotIn) (BF X.K true):=by
 intro pins s σ H x y v u Q I rx ry h;obtain ⟨p,xs,rfl,hq,fx,fs,q⟩:=h;cases ry;rcases hq with hq|hq
 ·obtain ⟨its,r,pl,hz⟩:=I.list hq;refine SeqAt.notIn_listAt (pH x) pl.isList (fun w hw=>gm rx fx r fs w (by simpa using hw)) ⟨.bl _,H,I,rfl,?_⟩
  rw[show its.toArray.any (pH x)=its.any (pH x) by simp,ip r fs]
  exact q
 ·obtain ⟨its,r,pl,hz⟩:=I.tuple hq;refine SeqAt.notIn_tupleAt (pH x) pl (fun w hw=>gm rx fx r fs w (by simpa using hw)) ⟨.bl _,H,I,rfl,?_⟩
  rw[show its.toArray.any (pH x)=its.any (pH x) by simp,ip r fs]
  exact q
theorem md:fX X (compareOp .NotIn) (fun x y H Q=>∃i j,x= .str i/\y= .str j/\Q (.bl (!(!(Builtin.Str.occurrences j i 0 j.length 1).isEmpty))) H):=by
 intro pins s σ H x y v u Q I rx ry h;obtain ⟨i,j,rfl,rfl,q⟩:=h;obtain ⟨t,rfl⟩:=rx;obtain ⟨t',rfl⟩:=ry;exact notIn_str ⟨.bl _,H,I,rfl,q⟩
theorem av:dS X (.builtin "len") (fun xs H Q=>∃p ys,xs= [.ref p]/\(aC X.K H p ys∨bx X.K H p ys)/\Q (.int ys.length) H):=by
 intro pins s σ H xs us Q I r h;obtain ⟨p,ys,rfl,hq,q⟩:=h;obtain ⟨u,rfl,rx⟩:=vals1 r;cases rx;have hn:=iN;rcases hq with hq|hq
 ·obtain ⟨its,r',pl,hz⟩:=I.list hq;have hlen:=r'.length;exact Calls.call_len_list pl.isList (by simp only[DN]<;>omega) ⟨.int ys.length,H,I.tok _,⟨s.toks+1,by rw[DN,hlen]⟩,q⟩
 ·obtain ⟨its,r',pl,hz⟩:=I.tuple hq;have hlen:=r'.length;exact len_tuple pl (by simp only[DN]<;>omega) ⟨.int ys.length,H,I.tok _,⟨s.toks+1,by rw[DN,hlen]⟩,q⟩
theorem iu:dS X (.builtin "len") (fun xs H Q=>∃z,xs= [.str z]/\z.length<=sizeLine/\Q (.int z.length) H):=by
 intro pins s σ H xs us Q I r h;obtain ⟨z,rfl,hz,q⟩:=h;obtain ⟨u,rfl,t,rfl⟩:=vals1 r;have hn:=iN;exact len_str (by omega) ⟨.int z.length,H,I.tok _,⟨_,rfl⟩,q⟩
theorem bD:dS X (.type "list") (fun xs H Q=>∃p ys,xs= [.ref p]/\(aC X.K H p ys∨bx X.K H p ys)/\∀l,H l=none->Q (.ref l) (aG H l (.lst ys))):=by
 intro pins s σ H xs us Q I r h;obtain ⟨p,ys,rfl,hq,q⟩:=h;obtain ⟨u,rfl,rx⟩:=vals1 r;cases rx;have fin:∀(its:FS),bg ys its->ys.length<=sizeLine->∀(h':Heap) (c':Nat),(∀b o',s.heap.get? b=some o'->h'.get? b=some o')->
   h'.get? s.heap.objs.size=some {cls:= .type "list",dict:=none,data:= .seq its.toArray c',slots:= #[]}->EP X pins σ Q (.ref s.heap.objs.size) {s with heap:=h'}:=fun its r' hz h' c' kp e=>
  ⟨.ref s.heap.objs.size,_,I.laid (t':=s.toks) kp (D9 _) (show bM X.prog X.w _ h' _ (.lst ys) from ⟨hz,its,c',r',e⟩),rfl,q _ (I.hok.fresh (D9 _))⟩
 rcases hq with hq|hq
 ·obtain ⟨its,r',pl,hz⟩:=I.list hq;have hlen:=r'.length;obtain ⟨o,ho,hc,n,hd⟩:=pl.isList;exact call_list_seq p (.inl rfl) ho hc hd (fun h' c' kp e=>fin its r' hz h' c' kp e) (by simp only[DN]<;>omega)
 ·obtain ⟨its,r',pl,hz⟩:=I.tuple hq;have hlen:=r'.length;obtain ⟨o,ho,hc,n,hd⟩:=pl;exact call_list_seq p (.inr rfl) ho hc hd (fun h' c' kp e=>fin its r' hz h' c' kp e) (by simp only[DN]<;>omega)
def Cb (K:D7) (T:String) (x:V) (H:Hp):Prop:=match x with
 | .str _=>T= "str"
 | .int _=>T= "int"
 | .ref p=>(T= "list" /\∃xs,aC K H p xs)∨(T= "tuple" /\∃o,K.lookup p=some o/\o.cls= .type "tuple" /\o.dict=none)∨
   (T= "dict" /\((∃kvs,H p=some (.dK kvs))∨∃kvs,H p=some (.dT kvs)))∨(T= "set" /\∃S n,H p=some (.set S n))
 |_=>False
theorem t9 {pins:FP} {σ:St} {H:Hp} {s:Shared} {T:String} {x:V} {v:Value} (I:aP X pins σ H s) (r:RelV x v) (ty:Cb X.K T x H):
  s.TypeIs v T/\∀a,v= .ref a->∃ob,s.heap.get? a=some ob/\ob.dict=none:=by
 cases x with
 |str z=>
  obtain ⟨t,rfl⟩:=r;cases (show T= "str" from ty)
  exact ⟨typeIs_str s z t,fun _ e=>nomatch e⟩
 |int i=>
  obtain ⟨t,rfl⟩:=r;cases (show T= "int" from ty)
  exact ⟨typeIs_int s i t,fun _ e=>nomatch e⟩
 |ref p=>
  cases r;rcases ty with ⟨rfl,xs,hq⟩|⟨rfl,o,hk,hc,hd⟩|⟨rfl,hk⟩|⟨rfl,S,n,hk⟩
  ·obtain ⟨its,_,pl,_⟩:=I.list hq;refine ⟨pl.isList.typeIs,fun a e=>?_⟩
   cases e;obtain ⟨o,n,e,c,hd,_⟩:=pl;exact ⟨o,e,hd⟩
  ·refine ⟨⟨o,I.kIn p o hk,hc⟩,fun a e=>?_⟩
   cases e;exact ⟨o,I.kIn _ o hk,hd⟩
  ·have z:∃o,s.heap.get? p=some o/\o.ExactDict:=by
    rcases hk with ⟨kvs,hk⟩|⟨kvs,hk⟩
    ·obtain ⟨_,_,_,_,o,_,_,e,ex,_⟩:=I.hok p _ hk;exact ⟨o,e,ex⟩
    ·obtain ⟨_,_,_,_,o,_,_,e,ex,_⟩:=I.hok p _ hk;exact ⟨o,e,ex⟩
   obtain ⟨o,e,ex⟩:=z;refine ⟨⟨o,e,ex.1⟩,fun a e2=>?_⟩
   cases e2;exact ⟨o,e,ex.2.1⟩
  ·obtain ⟨o,_,_,_,e,ex,_⟩:=I.hok p _ hk;refine ⟨⟨o,e,ex.1⟩,fun a e2=>?_⟩
   cases e2;exact ⟨o,e,ex.2.1⟩
 |_=>exact False.elim ty
def Cc (K:D7) (T:String) (r:V->List V->Hp->VK->Prop) (to:TE):TE:=fun σ H Q=>to σ H fun x H1=>Cb K T x H1/\r x [] H1 Q
def C3 (K:D7) (T:String) (r:V->List V->Hp->VK->Prop) (to:TE) (t:TA):TE:=fun σ H Q=>to σ H fun x H1=>Cb K T x H1/\t σ H1 fun xs H2=>r x xs H2 Q
variable {o e:Expr} {es:List Expr} {to:TE} {t:TA} {name:Str} {apos cpos:Pos} {T id:String} {r:V->List V->Hp->VK->Prop}
theorem jG (pa:PlainAttrs T) (slot:Slot T name id) (hty:typeOf (.builtin id)=pure (.type "method_descriptor")) (hm:B9 X id r) (ho:PE X o to)
  (hbase:attributeBase o name X.env (eval o X.env)=eval o X.env:=by rfl) (hline:(apos.endLine==cpos.line)=true:=by rfl):PE X (.Call (.Attribute o name apos) [] [] cpos) (Cc X.K T r to):=by
 intro pins s σ H Q I h;refine wpAny_Call_method0_late hbase hline (bi (ho pins s σ H _ I h) fun v s1 ⟨x,H1,I1,r1,ty,q1⟩=>?_)
 obtain ⟨h1,h2⟩:=t9 I1 r1 ty;exact ⟨T,id,pa,slot,hty,h1,h2,Calls.callWith_builtin rfl (PySem.evalArgs_none (hm pins s1 σ H1 x [] v [] Q I1 r1 .nil q1))⟩
theorem dt (pa:PlainAttrs T) (slot:Slot T name id) (hty:typeOf (.builtin id)=pure (.type "method_descriptor")) (hm:B9 X id r) (ho:PE X o to) (ha:PA X (e::es) t)
  (hbase:attributeBase o name X.env (eval o X.env)=eval o X.env:=by rfl)
  (hfew:((backTo cpos (starEach (e::es) X.env)).all (fun x=> !x.1)&&(backToKw cpos (keywordEach [] X.env)).all (fun x=>x.1.isSome)
   &&decide ((e::es).length+([]:List Keyword).length+(if ([]:List Keyword).isEmpty then 0 else 1)<30))=true:=by rfl)
  (hline:(apos.endLine==cpos.line)=true:=by rfl) (hs:starEach (e::es) X.env=(false,eval e X.env)::starEach es X.env:=by rfl) (hplain:(backTo cpos (starEach es X.env)).any (·.1)=false:=by rfl):
  PE X (.Call (.Attribute o name apos) (e::es) [] cpos) (C3 X.K T r to t):=by
 intro pins s σ H Q I h;refine wpAny_Call_method_late hbase hfew hline rfl (bi (ho pins s σ H _ I h) fun v s1 ⟨x,H1,I1,r1,ty,q1⟩=>?_)
 obtain ⟨h1,h2⟩:=t9 I1 r1 ty;refine ⟨T,id,pa,slot,hty,h1,h2,?_⟩;have hA:=ha cpos pins s1 σ H1 _ I1 q1;rw[hs] at hA⊢;refine Calls.callWith_builtin (by show (false||(backTo cpos (starEach es X.env)).any (·.1))=false;rw[hplain]<;>rfl) (Calls.evalArgs_plain ?_)
 exact bi hA fun us s2 ⟨vs,H2,I2,r2,q2⟩=>hm pins s2 σ H2 x vs v us Q I2 r1 r2 q2
end
def BG (X:Cx) (id:String) (r:V->List V->Hp->VK->Prop):Prop:=
 ∀(pins:FP) (s:Shared) (σ:St) (H:Hp) (x:V) (xs:List V) (v:Value) (us:FS) (Q:VK),aP X pins σ H s->RelV x v->bg xs us->r x xs H Q->
  wpAny (model X.prog X.w) X.A (call (.builtin id) (v::us)) (EP X pins σ Q) X.xe s
theorem bg.one:∀{x:V} {us:FS},bg [x] us->∃u,us= [u]/\RelV x u
 |_,_,.cons r .nil=>⟨_,rfl,r⟩
theorem bg.zero:∀{us:FS},bg [] us->us= []
 |_,.nil=>rfl
theorem bg.dropLast {xs:List V} {us:FS} (h:bg xs us):bg xs.dropLast us.dropLast:=by
 induction h with
 |nil=>exact .nil
 |cons r t ih=>
  cases t with
  |nil=>exact .nil
  |cons q t'=>exact .cons r ih
theorem pI {α:Type} (l:List α):l.eraseIdx (l.length-1)=l.dropLast:=by
 induction l with
 |nil=>rfl
 |cons a r ih=>
  cases r with
  |nil=>rfl
  |cons b r=>
   have e:(a::b::r).length-1=((b::r).length-1)+1:=by
    have h1:(a::b::r).length=r.length+2:=rfl;have h2:(b::r).length=r.length+1:=rfl;omega
   rw[e,List.eraseIdx_cons_succ,ih]
   all_goals rfl
section
variable {X:Cx} {pins:FP} {σ:St} {H:Hp} {s:Shared} {l b:Addr} {xs ys zs:List V}
theorem aP.lset {its its':FS} {n:Nat} {f:Array Value->Array Value} {t':Nat} (I:aP X pins σ H s) (hH:H l=some (.lst xs))
  (e:s.heap.get? l=some {cls:= .type "list",data:= .seq its.toArray n}) (hf:f its.toArray=its'.toArray) (hv:bg ys its') (hz:ys.length<=sizeLine):
  aP X pins σ (aG H l (.lst ys)) {s with heap:=s.heap.update l (Obj.mapSeq f),toks:=t'}:=by
 have q:=PySem.IsL.update e f;rw[hf] at q;refine I.write (x:=l) (e:=l) (by rw[hH];exact trivial) (.inl rfl) (fun b' u hb hu=>(Heap.get?_update_other s.heap (Obj.mapSeq f) (Ne.symm hb)).trans hu) ⟨_,q⟩ ?_
 exact ⟨hz,its',_,hv,q⟩
theorem aP.lnew {its:FS} {t':Nat} (I:aP X pins σ H s) (hv:bg ys its) (hz:ys.length<=sizeLine):
  aP X pins σ (aG H s.heap.objs.size (.lst ys)) {s with heap:=s.heap.push {cls:= .type "list",data:= .seq its.toArray},toks:=t'}:=
 I.laid (fun _ _ q=>Heap.get?_push_of_some _ q) (D9 _) ⟨hz,its,0,hv,Heap.get?_push_size _ rfl⟩
theorem aP.fresh (I:aP X pins σ H s):H s.heap.objs.size=none:=I.hok.fresh (D9 _)
theorem aP.lstM (I:aP X pins σ H s) (hH:H l=some (.lst xs)):xs.length<=sizeLine/\∃(its:FS) (n:Nat),bg xs its/\xs.length=its.length/\s.heap.get? l=some {cls:= .type "list",data:= .seq its.toArray n}:=by
 obtain ⟨z,its,n,r,e⟩:=I.hok l _ hH;exact ⟨z,its,n,r,r.length,e⟩
theorem uc {n:Nat} (h:n<=sizeLine):Builtin.List.listTooLong n=false:=by
 unfold Builtin.List.listTooLong;exact decide_eq_false (by omega)
end
variable {X:Cx}
def vX:V->List V->Hp->VK->Prop:=fun x vs H Q=>∃l xs y,x= .ref l/\vs= [y]/\H l=some (.lst xs)/\xs.length<sizeLine/\Q .non (aG H l (.lst (xs++ [y])))
theorem a6:BG X "list.append" vX:=by
 intro pins s σ H x vs v us Q I rx rv h;obtain ⟨l,xs,y,rfl,rfl,hH,hz,q⟩:=h;cases rx;obtain ⟨u,rfl,ru⟩:=rv.one;obtain ⟨z,its,n,r,hl,e⟩:=I.lstM hH;refine call_meets F.slot_list_append ⟨_,e,rfl⟩ F.entry_list_append (F.args_list_append_2 _ _) (PySem.list_append l its.toArray n u (by rw[DN];omega)) ⟨e,?_⟩
 refine ⟨.non,_,I.lset (its':=its++ [u]) hH e (by simp) (r.append (.cons ru .nil)) ?_,rfl,q⟩
 rw[D8,List.length_singleton];omega
def vY:V->List V->Hp->VK->Prop:=fun x vs H Q=>∃l b xs zs,x= .ref l/\vs= [.ref b]/\H l=some (.lst xs)/\H b=some (.lst zs)/\xs.length+zs.length<=sizeLine/\Q .non (aG H l (.lst (xs++zs)))
theorem iP:BG X "list.extend" vY:=by
 intro pins s σ H x vs v us Q I rx rv h;obtain ⟨l,b,xs,zs,rfl,rfl,hH,hB,hz,q⟩:=h;cases rx;obtain ⟨u,rfl,ru⟩:=rv.one;cases ru;obtain ⟨z,its,n,r,hl,e⟩:=I.lstM hH;obtain ⟨z2,its2,n2,r2,hl2,e2⟩:=I.lstM hB;have hsz:its.toArray.size+its2.toArray.size<=sizeLine:=by rw[DN,DN];omega
 have hlong:¬(!its.toArray.isEmpty&&Builtin.List.listTooLong (its.toArray.size+its2.toArray.size))=true:=by
  rw[uc hsz,EO];exact DX
 refine call_meets F.slot_list_extend ⟨_,e,rfl⟩ F.entry_list_extend (F.args_list_extend_2 _ _)
  (AutoSeq1.list_extend_list_list_0 l its.toArray n b its2.toArray n2 hlong (by rw[DN];omega) (by omega)) ⟨e,e2,?_⟩
 refine ⟨.non,_,I.lset (its':=its++its2) hH e (by simp) (r.append r2) ?_,rfl,q⟩
 rw[D8];omega
def Cd:V->List V->Hp->VK->Prop:=fun x vs H Q=>∃l xs y,x= .ref l/\vs= []/\H l=some (.lst xs)/\xs[xs.length-1]?=some y/\Q y (aG H l (.lst xs.dropLast))
theorem pJ:BG X "list.pop" Cd:=by
 intro pins s σ H x vs v us Q I rx rv h;obtain ⟨l,xs,y,rfl,rfl,hH,hy,q⟩:=h;cases rx;have hus:=rv.zero;subst hus;obtain ⟨z,its,n,r,hl,e⟩:=I.lstM hH;obtain ⟨u,hu,ru⟩:=r.get hy;have hy':its.toArray[its.toArray.size-1]?=some u:=by
  show its.toArray[its.length-1]?=some u;rw[<-EJ,<-hl];exact hu
 refine call_meets F.slot_list_pop ⟨_,e,rfl⟩ F.entry_list_pop (F.args_list_pop_1 _) (MeetsSeq.list_pop_last l its.toArray n u hy' (by rw[DN];omega)) ⟨e,?_⟩
 refine ⟨y,_,I.lset (its':=its.dropLast) hH e ?_ r.dropLast ?_,ru,q⟩
 ·show its.toArray.eraseIdxIfInBounds (its.toArray.size-1)=its.dropLast.toArray;rw[DN,List.eraseIdxIfInBounds_toArray,pI]
 ·rw[List.length_dropLast];omega
def Ce:R2:=fun x y H Q=>∃l b xs zs,x= .ref l/\y= .ref b/\H l=some (.lst xs)/\H b=some (.lst zs)/\xs.length+zs.length<=sizeLine/\∀p,H p=none->Q (.ref p) (aG H p (.lst (xs++zs)))
theorem cW:fX X (binaryOp .Add) Ce:=by
 intro pins s σ H x y v u Q I rx ry h;obtain ⟨l,b,xs,zs,rfl,rfl,hH,hB,hz,q⟩:=h;cases rx;cases ry;obtain ⟨z,its,n,r,hl,e⟩:=I.lstM hH;obtain ⟨z2,its2,n2,r2,hl2,e2⟩:=I.lstM hB;refine PySem.P.add_list e e2 ?_ (by rw[DN,DN];omega)
 have ea:its.toArray++its2.toArray=(its++its2).toArray:=by simp
 rw[ea];exact ⟨.ref _,_,I.lnew (t':=s.toks) (r.append r2) (by rw[D8];omega),rfl,q _ I.fresh⟩
section
variable {κ:Type} [DecidableEq κ]
def eX (kvs:List (κ×V)) (k:κ):Option V:=(kvs.find? fun kv=>decide (kv.1=k)).map (·.2)
def putK (kvs:List (κ×V)) (k:κ) (v:V):List (κ×V):=
 if (kvs.any fun kv=>decide (kv.1=k))=true then kvs.map (fun kv=>if kv.1=k then (kv.1,v) else kv) else kvs++ [(k,v)]
theorem cN {p:κ×V} {r:List (κ×V)} {k:κ} (e:p.1=k):eX (p::r) k=some p.2:=by simp[eX,EE,e]
theorem cO {p:κ×V} {r:List (κ×V)} {k:κ} (e:¬p.1=k):eX (p::r) k=eX r k:=by simp[eX,EE,e]
theorem ix (k:κ):∀kvs:List (κ×V),(kvs.any fun kv=>decide (kv.1=k))=(eX kvs k).isSome
 | []=>rfl
 |p::r=>by
  rw[EB]
  by_cases e:p.1=k
  ·simp only[cN e,decide_eq_true e,Ex,Option.isSome_some]
  ·rw[cO e,decide_eq_false e,Du];exact ix k r
theorem ny (k j:κ) (y:V):∀kvs:List (κ×V),eX (kvs.map fun kv=>if kv.1=k then (kv.1,y) else kv) j=(eX kvs j).map fun x=>if j=k then y else x
 | []=>rfl
 |p::r=>by
  have ih:=ny k j y r;rw[E2]
  by_cases h:p.1=k
  ·rw[if_pos h]
   by_cases e:p.1=j
   ·rw[cN (p:=(p.1,y)) e,cN e,EI,if_pos (e.symm.trans h)]
   ·rw[cO (p:=(p.1,y)) e,cO e,ih]
  ·rw[if_neg h]
   by_cases e:p.1=j
   ·rw[cN (p:=p) e,cN e,EI,if_neg (fun z=>h (e.trans z))]
   ·rw[cO (p:=p) e,cO e,ih]
theorem kG (k j:κ) (y:V):∀kvs:List (κ×V),eX kvs k=none->eX (kvs++ [(k,y)]) j=if j=k then some y else eX kvs j
 | [],_=>by
  by_cases e:k=j
  ·rw[if_pos e.symm];exact cN (p:=(k,y)) e
  ·rw[if_neg (fun z=>e z.symm)];exact cO (p:=(k,y)) e
 |p::r,hn=>by
  rw[List.cons_append];have hk:¬p.1=k:=fun z=>by rw[cN z] at hn;cases hn
  rw[cO hk] at hn;have ih:=kG k j y r hn
  by_cases e:p.1=j
  ·rw[cN e,cN e,if_neg (fun z=>hk (e.trans z))]
  ·rw[cO e,cO e,ih]
theorem ud (kvs:List (κ×V)) (k j:κ) (y:V):eX (putK kvs k y) j=if j=k then some y else eX kvs j:=by
 unfold putK
 by_cases a:(kvs.any fun kv=>decide (kv.1=k))=true
 ·rw[if_pos a,ny];rw[ix] at a
  by_cases e:j=k
  ·obtain ⟨x,hx⟩:=Do.mp a;rw[if_pos e,e,hx,EI,if_pos rfl]
  ·rw[if_neg e];cases eX kvs j with
   |none=>rfl
   |some x=>rw[EI,if_neg e]
 ·rw[if_neg a];refine kG k j y kvs ?_;rw[ix] at a;cases q:eX kvs k with
  |none=>rfl
  |some x=>rw[q] at a;exact (a rfl).elim
theorem fh (kvs:List (κ×V)) (k:κ) (v:V):(putK kvs k v).length<=kvs.length+1:=by
 unfold putK
 split
 ·rw[D3];omega
 ·rw[D8,DL,List.length_nil];omega
theorem gW.isSome_eq {o:Option V} {u:FU} (r:gW o u):o.isSome=u.isSome:=by
 cases o with
 |none=>cases u with
  |none=>rfl
  |some _=>exact (show False from r).elim
 |some _=>cases u with
  |none=>exact (show False from r).elim
  |some _=>rfl
theorem gW.getD {o:Option V} {u:FU} {d:V} {d':Value} (r:gW o u) (rd:RelV d d'):RelV (o.getD d) (u.getD d'):=by
 cases o with
 |none=>cases u with
  |none=>exact rd
  |some _=>exact (show False from r).elim
 |some _=>cases u with
  |none=>exact (show False from r).elim
  |some _=>exact r
theorem KV.val {kvs:List (κ×V)} {vs:List (κ×Value)} (r:KV kvs vs) (k:κ):gW (eX kvs k) (valueAt vs k):=by
 unfold KV at r
 induction r with
 |nil=>exact True.intro
 | @cons p q ps qs h t ih=>
  obtain ⟨h1,h2⟩:=h
  by_cases e:p.1=k
  ·have e':q.1=k:=h1.symm.trans e;have b:valueAt (q::qs) k=some q.2:=by simp[valueAt,EE,e']
   rw[cN e,b];exact h2
  ·have e':¬q.1=k:=fun z=>e (h1.trans z)
   have b:valueAt (q::qs) k=valueAt qs k:=by simp[valueAt,EE,e']
   rw[cO e,b];exact ih
theorem KV.any {kvs:List (κ×V)} {vs:List (κ×Value)} (r:KV kvs vs) (k:κ):(kvs.any fun kv=>decide (kv.1=k))=vs.any fun kv=>decide (kv.1=k):=by
 unfold KV at r
 induction r with
 |nil=>rfl
 |cons h t ih=>rw[EB,EB,ih,h.1]
theorem KV.repl {kvs:List (κ×V)} {vs:List (κ×Value)} (r:KV kvs vs) (k:κ) {y:V} {u:Value} (ry:RelV y u):
  KV (kvs.map fun kv=>if kv.1=k then (kv.1,y) else kv) (vs.map fun kv=>if kv.1=k then (kv.1,u) else kv):=by
 unfold KV at r⊢
 induction r with
 |nil=>exact .nil
 | @cons p q ps qs h t ih=>
  rw[E2,E2];refine .cons ?_ ih;obtain ⟨h1,h2⟩:=h
  by_cases e:p.1=k
  ·rw[if_pos e,if_pos (h1.symm.trans e)];exact ⟨h1,ry⟩
  ·rw[if_neg e,if_neg (fun z=>e (h1.trans z))];exact ⟨h1,h2⟩
theorem KV.put {kvs:List (κ×V)} {vs:List (κ×Value)} (r:KV kvs vs) (k:κ) {y:V} {u:Value} (ry:RelV y u):KV (putK kvs k y) (stored vs k u):=by
 unfold putK stored;rw[r.any k]
 by_cases e:(vs.any fun kv=>decide (kv.1=k))=true
 ·rw[if_pos e,if_pos e];exact r.repl k ry
 ·rw[if_neg e,if_neg e];exact Paired.snoc r ⟨rfl,ry⟩
theorem KV.length {kvs:List (κ×V)} {vs:List (κ×Value)} (r:KV kvs vs):kvs.length=vs.length:=Paired.length r
end
theorem jf {P:Program} {w:World} {k:Key} {u:Value} (r:RelV (kV k) u):(aJ P w).is k u=true:=by
 cases k with
 |inl i=>obtain ⟨t,e⟩:=(show ∃t,u=Value.int i t from r);subst e;exact m6 P w i t
 |inr x=>obtain ⟨t,e⟩:=(show ∃t,u=Value.str x t from r);subst e;exact m7 P w x t
theorem kH {P:Program} {w:World}:∀{ks:List Key} {us:FS},bg (ks.map kV) us->ItemsAre (aJ P w) ks us
 | [],_,r=>by rw[List.map_nil] at r;cases r;exact .nil
 |k::ks,_,r=>by
  rw[E2] at r;cases r with
  |cons h t=>exact .cons (jf h) (kH t)
abbrev KT (H:Hp):List (List Key×V)->List (List Key×Addr×Value)->Prop:=Paired fun p q=>p.1=q.1/\H q.2.1=some (.tup (p.1.map kV))/\RelV p.2 q.2.2
theorem KT.val {H:Hp} {kvs:List (List Key×V)} {xs:List (List Key×Addr×Value)} (r:KT H kvs xs) (k:List Key):gW (eX kvs k) ((atKey xs k).map (·.2)):=by
 induction r with
 |nil=>exact True.intro
 | @cons p q ps qs h t ih=>
  obtain ⟨h1,_,h2⟩:=h
  by_cases e:p.1=k
  ·have e':q.1=k:=h1.symm.trans e;have b:atKey (q::qs) k=some q.2:=by simp[atKey,EE,e']
   rw[cN e,b];exact h2
  ·have e':¬q.1=k:=fun z=>e (h1.trans z)
   have b:atKey (q::qs) k=atKey qs k:=by simp[atKey,EE,e']
   rw[cO e,b];exact ih
theorem KT.repl {H:Hp} {kvs:List (List Key×V)} {xs:List (List Key×Addr×Value)} (r:KT H kvs xs) (k:List Key) {y:V} {u:Value} (ry:RelV y u):
  KT H (kvs.map fun kv=>if kv.1=k then (kv.1,y) else kv) (xs.map (putAt k u)):=by
 induction r with
 |nil=>exact .nil
 | @cons p q ps qs h t ih=>
  rw[E2,E2];refine .cons ?_ ih;obtain ⟨h1,h2,h3⟩:=h;unfold putAt
  by_cases e:p.1=k
  ·rw[if_pos e,if_pos (h1.symm.trans e)];exact ⟨h1,h2,ry⟩
  ·rw[if_neg e,if_neg (fun z=>e (h1.trans z))];exact ⟨h1,h2,h3⟩
theorem KT.put {H:Hp} {kvs:List (List Key×V)} {xs:List (List Key×Addr×Value)} (r:KT H kvs xs) (k:List Key) {b:Addr} {y:V} {u:Value} (hb:H b=some (.tup (k.map kV))) (ry:RelV y u):
  KT H (putK kvs k y) (storedH xs k b u):=by
 have e:(kvs.any fun kv=>decide (kv.1=k))=(atKey xs k).isSome:=by
  rw[ix,(r.val k).isSome_eq,Option.isSome_map]
 unfold putK storedH;rw[e]
 by_cases q:(atKey xs k).isSome=true
 ·rw[if_pos q,if_pos q];exact r.repl k ry
 ·rw[if_neg q,if_neg q];exact Paired.snoc r ⟨rfl,hb,ry⟩
theorem KT.keeps {H H':Hp} {kvs:List (List Key×V)} {xs:List (List Key×Addr×Value)} (r:KT H kvs xs) (ht:∀b ys,H b=some (.tup ys)->H' b=some (.tup ys)):KT H' kvs xs:=
 Paired.mapP r fun _ _ z=>⟨z.1,ht _ _ z.2.1,z.2.2⟩
section
variable {P:Program} {w:World} {H:Hp} {h:Heap} {a:Addr}
theorem xn {u:HO} (ok:gP P w H h) (e:Rd H a u):bM P w H h a u:=e.ok ok
theorem jH {kvs:List (Key×V)} (ok:gP P w H h) (e:Rd H a (.dK kvs)):kvs.length<=sizeLine/\(a==sysModules)=false/\∃vs,KV kvs vs/\h.DictOf (aJ P w) a vs:=
 show bM P w H h a (.dK kvs) from xn ok e
theorem nz {kvs:List (Key×V)} (ok:gP P w H h) (e:H a=some (.dK kvs)):kvs.length<=sizeLine/\(a==sysModules)=false/\∃vs,KV kvs vs/\h.DictOf (aJ P w) a vs:=jH ok (.inl e)
theorem jI {ks:List Key} (ok:gP P w H h) (e:H a=some (.tup (ks.map kV))):(tupleKind (aJ P w)).is h ks a:=by
 obtain ⟨_,its,r,o,h1,h2,n,h3⟩:=(show bM P w H h a (.tup (ks.map kV)) from ok a _ e)
 exact ⟨o,its.toArray,n,h1,h2,h3,by simpa using kH r⟩
theorem kI {kvs:List (List Key×V)} (ok:gP P w H h) (e:Rd H a (.dT kvs)):kvs.length<=sizeLine/\(a==sysModules)=false/\
  ∃xs,KT H kvs xs/\h.DictOfH (tupleKind (aJ P w)) a xs:=by
 obtain ⟨z,y,xs,r,o,es,ep,h1,h2,h3,h4,h5⟩:=(show bM P w H h a (.dT kvs) from xn ok e)
 refine ⟨z,y,xs,r,o,es,ep,h1,h2,h3,h4,fun x hx=>?_,h5⟩
 have all:∀{l:List (List Key×V)} {m:List (List Key×Addr×Value)},KT H l m->∀x∈m,(tupleKind (aJ P w)).is h x.1 x.2.1:=by
  intro l m q
  induction q with
  |nil=>intro x hx;exact nomatch hx
  | @cons p q ps qs hq t ih=>
   intro x hx;rcases DG.mp hx with e|hx
   ·subst e;exact jI ok (by rw[<-hq.1];exact hq.2.1)
   ·exact ih x hx
 exact all r x hx
theorem zX {kvs:List (List Key×V)} (ok:gP P w H h) (e:H a=some (.dT kvs)):kvs.length<=sizeLine/\(a==sysModules)=false/\
  ∃xs,KT H kvs xs/\h.DictOfH (tupleKind (aJ P w)) a xs:=kI ok (.inl e)
end
def iy (H:Hp) (a:Addr) (y:V) (r:Option V):Prop:=
 (∃kvs k,Rd H a (.dK kvs)/\y=kV k/\r=eX kvs k)∨∃kvs k b,Rd H a (.dT kvs)/\y= .ref b/\H b=some (.tup (k.map kV))/\r=eX kvs k
def ue (H:Hp) (a:Addr) (y v:V) (H':Hp):Prop:=
 (∃kvs k,H a=some (.dK kvs)/\y=kV k/\kvs.length<sizeLine/\H'=aG H a (.dK (putK kvs k v)))∨
 ∃kvs k b,H a=some (.dT kvs)/\y= .ref b/\H b=some (.tup (k.map kV))/\kvs.length<sizeLine/\H'=aG H a (.dT (putK kvs k v))
theorem iy.t {H:Hp} {a b:Addr} {kvs:List (List Key×V)} {k:List Key} (e:H a=some (.dT kvs)) (eb:H b=some (.tup (k.map kV))):iy H a (.ref b) (eX kvs k):= .inr ⟨kvs,k,b,.inl e,rfl,eb,rfl⟩
theorem ue.t {H:Hp} {a b:Addr} {kvs:List (List Key×V)} {k:List Key} {v:V} (e:H a=some (.dT kvs)) (eb:H b=some (.tup (k.map kV))) (hl:kvs.length<sizeLine):
  ue H a (.ref b) v (aG H a (.dT (putK kvs k v))):= .inr ⟨kvs,k,b,e,rfl,eb,hl,rfl⟩
section
variable {pins:FP} {σ:St} {H:Hp} {s:Shared} {a:Addr} {y v:V} {u r:Value} {o:Option V} {A:Around} {E:FN}
theorem aP.big (I:aP X pins σ H s):sysModules<s.heap.objs.size:=by
 have h:mainGlobals<s.heap.objs.size:=(I.mod.glob.keeps I.bk).lt;exact Nat.lt_trans (by decide) h
theorem ss {Q:FN} (hu:A.units+1<cLine) (I:aP X pins σ H s) (g:iy H a y (some v)) (ry:RelV y u) (h:∀w' s',aP X pins σ H s'->RelV v w'->Q w' s'):
  wpAny (model X.prog X.w) A (getItem (.ref a) u) Q E s:=by
 rcases g with ⟨kvs,k,e,ey,l⟩|⟨kvs,k,b,e,ey,eb,l⟩
 ·subst ey;obtain ⟨z,hd,vs,rel,dd⟩:=jH I.hok e;obtain ⟨w',hw,rw'⟩:=gW.some_of (v:=v) (o:=valueAt vs k) (by rw[l];exact rel.val k)
  exact wpAny_getItem_of (jf ry) dd.mapOf hw (h w' _ (I.tok _) rw')
 ·subst ey;cases (show u=Value.ref b from ry)
  obtain ⟨z,hd,xs,rel,dd⟩:=kI I.hok e;obtain ⟨w',hw,rw'⟩:=gW.some_of (v:=v) (o:=(atKey xs k).map (·.2)) (by rw[l];exact rel.val k)
  obtain ⟨p,hp,hp2⟩:=DB.mp hw;refine wpAny_getItem_heap (tupleKind_room_in1 hu) (jI I.hok eb) dd hp ?_;rw[hp2];exact h w' _ (I.tok _) rw'
theorem vZ {Q:FN} (hu:A.units+1<cLine) (I:aP X pins σ H s) (g:iy H a y o) (ry:RelV y u) (h:∀s',aP X pins σ H s'->Q (.bool (!o.isSome)) s'):
  wpAny (model X.prog X.w) A (compareOp .NotIn u (.ref a)) Q E s:=by
 rcases g with ⟨kvs,k,e,ey,l⟩|⟨kvs,k,b,e,ey,eb,l⟩
 ·subst ey;obtain ⟨z,hd,vs,rel,dd⟩:=jH I.hok e;refine wpAny_notIn_of (jf ry) hd dd.mapOf ?_;rw[<-(rel.val k).isSome_eq,<-l];exact h _ (I.tok _)
 ·subst ey;cases (show u=Value.ref b from ry)
  obtain ⟨z,hd,xs,rel,dd⟩:=kI I.hok e;refine wpAny_notIn_heap (tupleKind_room_in1 hu) (jI I.hok eb) hd dd ?_;have q:=(rel.val k).isSome_eq;rw[Option.isSome_map] at q;rw[<-q,<-l];exact h _ (I.tok _)
theorem me {h':Heap} {t':Nat} {ob:HO} (I:aP X pins σ H s) (mu:zE (H a)) (hs:Heap.SameBut a s.heap h') (he:∃q,h'.get? a=some q) (new:bM X.prog X.w (aG H a ob) h' a ob):
  aP X pins σ (aG H a ob) {s with heap:=h',toks:=t'}:=
 I.write (x:=a) (e:=a) mu (.inl rfl) (fun b q hb z=>(hs.2 b hb).trans z) he new
theorem uf {P:Program} {w:World} {H':Hp} {h':Heap} {kvs:List (Key×V)} {vs:List (Key×Value)} (z:kvs.length<=sizeLine) (hd:(a==sysModules)=false) (rel:KV kvs vs) (dd:h'.DictOf (aJ P w) a vs):
  bM P w H' h' a (.dK kvs):=⟨z,hd,vs,rel,dd⟩
theorem su {H':Hp} {Q:Unit->Shared->Prop} (hu:A.units+1<cLine) (I:aP X pins σ H s) (g:ue H a y v H') (ry:RelV y u) (rv:RelV v r) (h:∀s',aP X pins σ H' s'->Q () s'):
  wpAny (model X.prog X.w) A (setItem (.ref a) u r) Q E s:=by
 rcases g with ⟨kvs,k,e,ey,l,eH⟩|⟨kvs,k,b,e,ey,eb,l,eH⟩
 ·subst ey eH;obtain ⟨z,hd,vs,rel,dd⟩:=nz I.hok e;have hz:vs.length<=sizeLine:=by rw[<-rel.length];exact z
  have hl:(putK kvs k v).length<=sizeLine:=by have:=fh kvs k v;omega
  refine wpAny_setItem_pairs (hsz:=hz) (jf ry) dd fun h' dd' hs=>h _ ?_
  have he:∃q,h'.get? a=some q:=let ⟨q,_,_,hq,_⟩:=dd';⟨q,hq⟩;exact me I (by rw[e];exact True.intro) hs he (uf hl hd (rel.put k rv) dd')
 ·subst ey eH;cases (show u=Value.ref b from ry)
  obtain ⟨z,hd,xs,rel,dd⟩:=zX I.hok e;have hz:xs.length<=sizeLine:=by rw[<-Paired.length rel];exact z
  have hl:(putK kvs k v).length<=sizeLine:=by have:=fh kvs k v;omega
  refine wpAny_setItem_heap (hsz:=hz) (tupleKind_room_in1 hu) (jI I.hok eb) dd fun h' dd' hs=>h _ ?_
  obtain ⟨q,es,ep,hq,h2,h3,h4,_,h5⟩:=dd';refine me I (by rw[e];exact True.intro) hs ⟨q,hq⟩ ⟨hl,hd,_,(rel.put k eb rv).keeps fun c ys ec=>?_,q,es,ep,hq,h2,h3,h4,h5⟩
  rw[aH (im ec e (fun z=>nomatch z))]
  exact ec
end
section
variable {pins:FP} {σ:St} {H:Hp} {s:Shared} {a:Addr} {kvs:List (Key×V)} {k:Key} {u:Value} {A:Around} {E:FN}
theorem zY {Q:FN} (I:aP X pins σ H s) (e:Rd H a (.dK kvs)) (h:∀t s',aP X pins σ H s'->Q (.int kvs.length t) s'):wpAny (model X.prog X.w) A (call (.builtin "len") [.ref a]) Q E s:=by
 obtain ⟨z,hd,vs,rel,dd⟩:=jH I.hok e;refine call_len_dict hd dd (by rw[<-rel.length];rw[sizeLine_eq] at z;omega) ?_
 rw[<-rel.length];exact h _ _ (I.tok _)
end
def zZ (i:Expr):Prop:=∀ov iv,subscripted i false ov iv=operate [ov,iv] (getItem ov iv)
theorem v3 {prog:Program} {w:World} {A:Around} {E:FN} {s:Shared} {env:Env} {value slice:Expr} {pos:Pos} {T id:String} {Q:FN}
  (hl:typeLookup (.type T) "__getitem__" =pure (some (.builtin id))) (hs:zZ slice)
  (h:wpAny (model prog w) A (eval value env) (fun o s₁=>wpAny (model prog w) A (eval slice env) (fun i s₂=>s₂.TypeIs o T/\wpAny (model prog w) A (getItem o i) Q E s₂) E s₁) E s):
  wpAny (model prog w) A (eval (.Subscript value slice pos) env) Q E s:=by
 refine Subscript_ (wpAny_mono h (fun o s₁ h₁=>wpAny_mono h₁ (fun i s₂ h₂=>?_) fun _ _ x=>x) fun _ _ x=>x)
 obtain ⟨hT,h₂⟩:=h₂;unfold subscriptTail;refine wpAny_bind ?_;rw[getitemInPython_of_ne hT.not_modules];refine wpAny_bind (wpAny_specialOf hT hl ?_);have fin:wpAny (model prog w) A (subscripted slice false o i) (fun r s₃=>wpAny (model prog w) A (letTemporaryGo value o r>>=fun _=>pure r) Q E s₃) E s₂:=by
  rw[hs o i];exact wpAny_operating (wpAny_mono h₂ (fun r s₃ h₃=>wpAny_bind (wpAny_letTemporaryGo (wpAny_pure h₃))) fun _ _ x=>x)
 first
  |exact wpAny_pure (wpAny_bind fin)
  |exact wpAny_bind (wpAny_pure (wpAny_bind fin))
  |exact wpAny_bind fin
theorem nA {X:Cx} {pins:FP} {σ:St} {H:Hp} {s:Shared} {a:Addr} {y:V} {o:Option V} (I:aP X pins σ H s) (g:iy H a y o):s.TypeIs (.ref a) "dict" :=by
 rcases g with ⟨kvs,k,e,_,_⟩|⟨kvs,k,b,e,_,_,_⟩
 ·obtain ⟨_,_,vs,_,dd⟩:=jH I.hok e;exact dd.typeIs
 ·obtain ⟨_,_,xs,_,dd⟩:=kI I.hok e;exact dd.typeIs
def z5 (td ty:TE):TE:=fun σ H Q=>td σ H fun x H1=>ty σ H1 fun y H2=>∃a v,x= .ref a/\iy H2 a y (some v)/\Q v H2
def v4 (ty td:TE):TE:=fun σ H Q=>ty σ H fun y H1=>td σ H1 fun x H2=>∃a o,x= .ref a/\iy H2 a y o/\Q (.bl (!o.isSome)) H2
def z6 (td ty tv:TE):TS:=fun D σ H=>tv σ H fun v H1=>td σ H1 fun x H2=>ty σ H2 fun y H3=>∃a H4,x= .ref a/\ue H3 a y v H4/\D.nx σ H4
section
variable {o i e value:Expr} {pos pos' tpos:Pos} {td ty tv:TE}
theorem iz (hu:X.A.units+1<cLine) (ho:PE X o td) (hi:PE X i ty) (hs:zZ i):PE X (.Subscript o i pos) (z5 td ty):=by
 intro pins s σ H Q I h;refine v3 PySem.F.slot_dict_getitem.lookup hs (bi (ho pins s σ H _ I h) fun u s1 ⟨x,H1,I1,rx,q1⟩=>bi (hi pins s1 σ H1 _ I1 q1) fun iv s2 ⟨y,H2,I2,ry,a,v,ex,g,q2⟩=>?_)
 subst ex;obtain rfl:u=Value.ref a:=rx;exact ⟨nA I2 g,ss hu I2 g ry fun w' s3 I3 rw'=>⟨v,H2,I3,rw',q2⟩⟩
theorem iQ (hu:X.A.units+1<cLine) (hi:PE X i ty) (ho:PE X o td):PC X .NotIn i o (v4 ty td):=by
 intro pins s σ H Q I h;refine bi (hi pins s σ H _ I h) fun iv s1 ⟨y,H1,I1,ry,q1⟩=>bi (ho pins s1 σ H1 _ I1 q1) fun u s2 ⟨x,H2,I2,rx,a,ov,ex,g,q2⟩=>?_
 subst ex;obtain rfl:u=Value.ref a:=rx;exact vZ hu I2 g ry fun s3 I3=>⟨.bl (!ov.isSome),H2,I3,rfl,q2⟩
theorem v5 (hu:X.A.units+1<cLine) (ho:PE X o td) (hi:PE X i ty) (hv:PE X value tv) (hs:swapsWith value (some (.Subscript o i pos')) pos.line X.env=pure false):
  PS X (.Assign [.Subscript o i pos'] value pos) (z6 td ty tv):=by
 intro pins s σ H D I h;refine wpAny_Assign_Subscript (bi (hv pins s σ H _ I h) fun r s1 ⟨v,H1,I1,rv,q1⟩=>bi (ho pins s1 σ H1 _ I1 q1) fun u s2 ⟨x,H2,I2,rx,q2⟩=>bi (hi pins s2 σ H2 _ I2 q2) fun iv s3 ⟨y,H3,I3,ry,a,H4,ex,g,q3⟩=>?_) hs
 subst ex;obtain rfl:u=Value.ref a:=rx;exact su hu I3 g ry rv fun s4 I4=>⟨σ,H4,I4,q3⟩
end
theorem ug {P:Program} {w:World} {H:Hp} (h:Heap) (hb:sysModules<h.objs.size):bM P w H (h.push {cls:= .type "dict",data:= .dict #[]}) h.objs.size (.dK []):=
 ⟨Dn _,beq_eq_false_iff_ne.mpr (Ne.symm (DF hb)),[],.nil,Heap.DictOf.new h⟩
theorem uh {P:Program} {w:World} {H:Hp} (h:Heap) (hb:sysModules<h.objs.size):bM P w H (h.push {cls:= .type "dict",data:= .dict #[]}) h.objs.size (.dT []):=
 ⟨Dn _,beq_eq_false_iff_ne.mpr (Ne.symm (DF hb)),[],.nil,_,#[],0,Heap.get?_push_size _ rfl,⟨rfl,rfl,rfl⟩,rfl,rfl,List.nodup_nil⟩
def xP:TE:=fun _ H Q=>∀p,H p=none->Q (.ref p) (aG H p (.dT []))
variable {pos:Pos}
theorem ui:PE X (.Dict [] [] pos) xP:=fun pins s σ H Q I h=>
 wpAny_Dict_empty ⟨.ref s.heap.objs.size,_,I.laid (a:=s.heap.objs.size) (o:= .dT []) (t':=s.toks) (fun _ _ q=>Heap.get?_push_of_some _ q) (D9 _) (uh s.heap I.big),rfl,h _ (I.hok.fresh (D9 _))⟩
def pK:List (TE×TE)->St->Hp->(List (V×V)->Hp->Prop)->Prop
 | [],_,H,Q=>Q [] H
 |(tk,tv)::r,σ,H,Q=>tk σ H fun x H1=>tv σ H1 fun y H2=>pK r σ H2 fun ps H3=>Q ((x,y)::ps) H3
abbrev VV:List (V×V)->List (Value×Value)->Prop:=Paired fun p q=>RelV p.1 q.1/\RelV p.2 q.2
def BH (X:Cx) (pos:Pos) (keys:List (Option Expr)) (values:List Expr) (trs:List (TE×TE)):Prop:=
 ∀(pins:FP) (s:Shared) (σ:St) (H:Hp) (Q:List (V×V)->Hp->Prop),aP X pins σ H s->pK trs σ H Q->
  wpAny (model X.prog X.w) X.A (evalPairs (pairTrees keys values X.env pos)) (fun vs s'=>∃ps H',aP X pins σ H' s'/\VV ps vs/\Q ps H') X.xe s
theorem v6 {X:Cx} {pos:Pos}:BH X pos [] [] []:=fun pins s σ H Q I h=>pairTrees_nil_walk ⟨[],H,I,.nil,h⟩
theorem nB {X:Cx} {pos:Pos} {k v:Expr} {ks:List (Option Expr)} {vs:List Expr} {tk tv:TE} {trs:List (TE×TE)} (hk:PE X k tk) (hv:PE X v tv) (hr:BH X pos ks vs trs):
  BH X pos (some k::ks) (v::vs) ((tk,tv)::trs):=fun pins s σ H Q I h=>
 pairTrees_cons_walk (bi (hk pins s σ H _ I h) fun u s1 ⟨x,H1,I1,rx,q1⟩=>bi (hv pins s1 σ H1 _ I1 q1) fun w2 s2 ⟨y,H2,I2,ry,q2⟩=>
  bi (hr pins s2 σ H2 _ I2 q2) fun ws s3 ⟨ps,H3,I3,rel,q3⟩=>⟨(x,y)::ps,H3,I3,.cons ⟨rx,ry⟩ rel,q3⟩)
def hE (kvs more:List (Key×V)):List (Key×V):=more.foldl (fun acc kv=>putK acc kv.1 kv.2) kvs
theorem KV.merge:∀{more:List (Key×V)} {rs:List (Key×Value)} {kvs:List (Key×V)} {vs:List (Key×Value)},KV more rs->KV kvs vs->KV (hE kvs more) (merged vs rs):=by
 intro more rs kvs vs r;unfold KV at r
 induction r generalizing kvs vs with
 |nil=>intro q;exact q
 | @cons p q ps qs h t ih=>
  intro r0;have e:KV (putK kvs p.1 p.2) (stored vs q.1 q.2):=by
   have:=r0.put p.1 h.2;rw[<-h.1];exact this
  exact ih e
theorem gQ:∀(more kvs:List (Key×V)),(hE kvs more).length<=kvs.length+more.length
 | [],kvs=>by show kvs.length<=kvs.length+0;omega
 |p::r,kvs=>by
  have h1:=gQ r (putK kvs p.1 p.2);have h2:=fh kvs p.1 p.2;show (hE (putK kvs p.1 p.2) r).length<=_;rw[DL];omega
theorem jJ {P:Program} {w:World}:∀{kvs:List (Key×V)} {ws:List (Value×Value)},VV (kvs.map fun kv=>(kV kv.1,kv.2)) ws->∃rs,Carries (aJ P w) ws rs/\KV kvs rs
 | [],_,r=>by rw[List.map_nil] at r;cases r;exact ⟨[],True.intro,.nil⟩
 |p::kvs,_,r=>by
  rw[E2] at r;cases r with
  | @cons a b as bs h t=>
   obtain ⟨rs,c,q⟩:=jJ (P:=P) (w:=w) t;obtain ⟨b1,b2⟩:=b;exact ⟨(p.1,b2)::rs,⟨jf h.1,rfl,c⟩,.cons ⟨rfl,h.2⟩ q⟩
def z7 (trs:List (TE×TE)):TE:=fun σ H Q=>∀p,H p=none->pK trs σ (aG H p (.dK [])) fun ps H2=>H2 p=some (.dK [])/\∃kvs:List (Key×V),ps=kvs.map (fun kv=>(kV kv.1,kv.2))/\kvs.length<=15/\Q (.ref p) (aG H2 p (.dK (hE [] kvs)))
theorem v7 {X:Cx} {pos:Pos} {keys:List (Option Expr)} {values:List Expr} {trs:List (TE×TE)} (h:BH X pos keys values trs) (hall:keys.all (·.isSome)=true) (hl:keys.length=values.length) (h0:keys≠ [])
  (h15:keys.length<=15):PE X (.Dict keys values pos) (z7 trs):=by
 intro pins s σ H Q I q;have hn:=I.hok.fresh (D9 s.heap.objs.size);have I1:=I.laid (a:=s.heap.objs.size) (o:= .dK []) (h':=s.heap.push {cls:= .type "dict",data:= .dict #[]}) (t':=s.toks) (fun _ _ q=>Heap.get?_push_of_some _ q) (D9 _) (ug s.heap I.big)
 refine wpAny_Dict_walk (knd:=aJ X.prog X.w) hall hl h0 h15 (bi (h pins _ σ _ _ I1 (q _ hn)) fun ws s2 ⟨ps,H2,I2,rel,e,kvs,ep,lk,q2⟩=>?_)
 subst ep;obtain ⟨rs,c,rk⟩:=jJ (P:=X.prog) (w:=X.w) rel;obtain ⟨z,hd,vs0,r0,dd⟩:=nz I2.hok e;cases r0;refine ⟨rs,c,dd,fun h' dd' hs=>⟨.ref s.heap.objs.size,_,?_,rfl,q2⟩⟩
 have hz:(hE [] kvs).length<=sizeLine:=by
  have h1:=gQ kvs [];rw[List.length_nil] at h1;rw[sizeLine_eq];omega
 have he:∃q,h'.get? s.heap.objs.size=some q:=let ⟨q,_,_,hq,_⟩:=dd';⟨q,hq⟩;exact me I2 (by rw[e];exact True.intro) hs he (uf hz hd (rk.merge .nil) dd')
structure M2 (X:Cx) (o:Expr) (m:Str) (apos:Pos) (e f:Expr) (cpos:Pos):Prop where
 base:attributeBase o m X.env (eval o X.env)=eval o X.env
 few:((backTo cpos (starEach [e,f] X.env)).all (fun x=> !x.1)&&(backToKw cpos (keywordEach [] X.env)).all (fun x=>x.1.isSome)
  &&decide (([e,f]:List Expr).length+([]:List Keyword).length+(if ([]:List Keyword).isEmpty then 0 else 1)<30))=true
 line:(apos.endLine==cpos.line)=true
 trees:backTo cpos (starEach [e,f] X.env)= [(false,eval e X.env),(false,eval f X.env)]
def CN (H:Hp) (a:Addr):Prop:=(∃kvs,Rd H a (.dK kvs))∨∃kvs,Rd H a (.dT kvs)
theorem xQ {X:Cx} {pins:FP} {σ:St} {H:Hp} {s:Shared} {a:Addr} (I:aP X pins σ H s) (d:CN H a):
  s.TypeIs (.ref a) "dict" /\(∀b,Value.ref a= .ref b->∃ob,s.heap.get? b=some ob/\ob.dict=none)/\(a==sysModules)=false:=by
 rcases d with ⟨kvs,e⟩|⟨kvs,e⟩
 ·obtain ⟨_,hd,vs,_,dd⟩:=jH I.hok e;refine ⟨dd.typeIs,fun b q=>?_,hd⟩
  cases q;obtain ⟨ob,_,_,h1,h2,_⟩:=dd;exact ⟨ob,h1,h2.2.1⟩
 ·obtain ⟨_,hd,xs,_,dd⟩:=kI I.hok e;refine ⟨dd.typeIs,fun b q=>?_,hd⟩
  cases q;obtain ⟨ob,_,_,h1,h2,_⟩:=dd;exact ⟨ob,h1,h2.2.1⟩
section
variable {pins:FP} {σ:St} {H:Hp} {s:Shared} {a:Addr} {y d:V} {u r:Value} {o:Option V} {A:Around} {E:FN}
theorem xR {Q:FN} (hu:A.units+1<cLine) (I:aP X pins σ H s) (g:iy H a y o) (ry:RelV y u) (rd:RelV d r) (h:∀w' s',aP X pins σ H s'->RelV (o.getD d) w'->Q w' s'):
  wpAny (model X.prog X.w) A (call (.builtin "dict.get") [.ref a,u,r]) Q E s:=by
 rcases g with ⟨kvs,k,e,ey,l⟩|⟨kvs,k,b,e,ey,eb,l⟩
 ·subst ey;obtain ⟨z,hd,vs,rel,dd⟩:=jH I.hok e;refine call_meetsIn PySem.F.slot_dict_get dd.typeIs PySem.F.entry_dict_get (PySem.F.args_dict_get_3 _ _ _) (meets_dict_get_default (aJ X.prog X.w) a (jf ry) hd r) ⟨_,dd.mapOf,h _ _ (I.tok _) ?_⟩;rw[l];exact (rel.val k).getD rd
 ·subst ey;cases (show u=Value.ref b from ry)
  obtain ⟨z,hd,xs,rel,dd⟩:=kI I.hok e;refine call_meetsIn PySem.F.slot_dict_get dd.typeIs PySem.F.entry_dict_get (PySem.F.args_dict_get_3 _ _ _) (meetsH_dict_get_default (tupleKind (aJ X.prog X.w)) a b hd r) ⟨tupleKind_room_in1 hu,k,xs,jI I.hok eb,dd,h _ _ (I.tok _) ?_⟩;rw[l];exact (rel.val k).getD rd
end
def xS (td ty tx:TE):TE:=fun σ H Q=>td σ H fun x H1=>∃a,x= .ref a/\CN H1 a/\ty σ H1 fun y H2=>tx σ H2 fun z H3=>∃o,iy H3 a y o/\Q (o.getD z) H3
section
variable {o e f:Expr} {apos cpos:Pos} {td ty tx:TE}
theorem uj (hu:X.A.units+1<cLine) (ho:PE X o td) (he:PE X e ty) (hf:PE X f tx) (m:M2 X o "get" apos e f cpos):PE X (.Call (.Attribute o "get" apos) [e,f] [] cpos) (xS td ty tx):=by
 intro pins s σ H Q I h;refine wpAny_Call_method m.base m.few m.line PySem.F.plainAttrs_dict PySem.F.slot_dict_get PySem.F.type_dict_get (bi (ho pins s σ H _ I h) fun u s1 ⟨x,H1,I1,rx,a,ex,d,q1⟩=>?_)
 subst ex;obtain rfl:u=Value.ref a:=rx;obtain ⟨t1,t2,_⟩:=xQ I1 d;refine ⟨t1,t2,?_⟩;rw[m.trees];refine Calls.callWith_builtin rfl (Calls.evalArgs_plain (Calls.spliced_cons (bi (he pins s1 σ H1 _ I1 q1) fun iv s2 ⟨y,H2,I2,ry,q2⟩=>
  Calls.spliced_cons (bi (hf pins s2 σ H2 _ I2 q2) fun fv s3 ⟨z,H3,I3,rz,ov,g,q3⟩=>Calls.spliced_nil ?_))))
 exact xR hu I3 g ry rz fun w' s4 I4 rw'=>⟨_,H3,I4,rw',q3⟩
end
end L2
namespace Att
open PySem PySem.W PySem.Calls PyProof.Rows
theorem jr {P:Params} {h:Heap}:∀(ns:List Int) (vs:FS),WellAll P h vs (ns.map WData.int)->IntsAre vs ns:=by
 intro ns
 induction ns with
 |nil=>
  intro vs w;rw[List.map_nil] at w;cases w;exact .nil
 |cons n ns ih=>
  intro vs w;rw[E2] at w;cases w with
  |cons a b=>
   cases a;exact .cons _ _ (ih _ b)
theorem sv {l:OpenLaw} {n:Nat} (hn:l.most=some n) {P:Params} {h:Heap} {args:List WData} {vals:FS}
  (hpre:l.row.toRowW.claim.pre args=true) (hwl:WellAll P h vals args):
  ∃a vs ns,vals= [Value.ref a]/\args= [WData.list (ns.map WData.int)]/\h.get? a=some {cls:= .type "list",data:= .seq vs.toArray}/\IntsAre vs ns/\ns.length<=n:=by
 have hsh:WShape.hasAll [] args [.list .int]=true:=(pre_splitW hpre).1;have hc:l.pre.holds [] {args:=args}=true:=(pre_splitW hpre).2;obtain ⟨d,r,rfl,h1,h2⟩:=hasAllW_cons hsh;obtain rfl:=hasAllW_nil h2;obtain ⟨xs,rfl,h3⟩:=hasW_list h1;obtain ⟨ns,rfl⟩:=items_int h3;have hlen:ns.length<=n:=by
  unfold OpenLaw.pre at hc;have h4:(WTm.not (.lt (.lit (.int (n:Int))) (.len (.arg 0)))).holds [] {args:= [.list (ns.map .int)]}=true:=by
   have h4:=(holds_andW hc).1;rw[hn] at h4;exact h4
  have h5:=condW_of h4 (w_not (w_lt w_lit (w_len_list (w_arg rfl))));rw[D3] at h5;refine Nat.le_of_not_lt fun q=>?_
  have q':(n:Int)<((ns.length:Nat):Int):=by omega
  first
   |(rw[decide_eq_true q'] at h5;exact absurd h5 (by decide))
   |(simp at h5;omega)
 cases hwl with
 |cons w1 w2=>
  cases w2;cases w1 with
  |list ho hall=>exact ⟨_,_,ns,rfl,rfl,ho,jr ns _ hall,hlen⟩
theorem sx (l:OpenLaw) (args:List WData):l.row.toRowW.claim.post args (.bool true) args=true:=
 postW_of (r:=l.row.toRowW) (X:=(true==true))
  (show WShape.has [] (.bool true) .bool=true by first|rfl|decide|simp[WShape.has,WShape.arms,WShape.armsAll])
  (show (WTm.eq .res (.lit (.bool true))).value [] {args:=args,res:=some (.bool true),after:=args}=some (.bool (true==true)) from w_eq_bool (w_res rfl) w_lit) rfl
theorem nC {l:OpenLaw} {n:Nat} {q:Program} {loose:FQ} {XP:FO->Heap->Prop} {YP:World->Heap->Prop} {d:DefRec}
  (hn:l.most=some n) (hdf:d.params.defaults= [])
  (call:∀(w:World) (s₀ s₁:Shared) (mg mb:FO) (fa:Addr) (o:Obj) (pm cd doc:Value) (a:Addr) (vs:FS) (ns:List Int),
   Ground q loose [] XP w s₀ mg mb s₁.heap->YP w s₁.heap->
   s₁.heap.get? fa=some o->o.data= .func (docDef d.name d.params d.body d.scope pm cd doc)->s₁.heap.CodeRec cd d.name->mg d.name=some (.ref fa)->
   s₁.heap.get? a=some {cls:= .type "list",data:= .seq vs.toArray}->IntsAre vs ns->ns.length<=n->s₁.gens= #[]->
   codeAny (model l.prog w) callerA (.call (.ref fa) ⟨[.ref a],[]⟩) (fun r s'=>r= .ok (.ret (.bool true))/\OldK s₁.heap s'.heap/\s'.os=s₁.os/\AllBare s'.gens) s₁):
  WalkO q loose XP YP l.row.toRowW d [] (fun f vs=>PySem.call f vs):=by
 intro w s₀ s₁ mg mb G Y fa o pm cd doc dV kV ho hd hcd hD hmg hg args vals as hpre hlay hrd hwl hlo;obtain rfl:dV= .none:=Dflts.none hD hdf;obtain rfl:kV= .none:=Dflts.noKw hD;obtain ⟨a,vs,ns,rfl,rfl,hobj,hints,hlen⟩:=sv hn hpre hwl;refine enter_call (codeAny_mono (call w s₀ s₁ mg mb fa o pm cd doc a vs ns G Y ho (fd_plain hd) hcd hmg hobj hints hlen hg) fun r s' hq=>?_)
 obtain ⟨rfl,h2,h3,h4⟩:=hq;exact ⟨.inl ⟨.bool true,.bool true,[],rfl,fun _=>rfl,.bool true,sx l _,fun _=>⟨List.Pairwise.nil,fun _ hm=>(nomatch hm)⟩⟩,h2,h3,h4⟩
end Att
namespace L2
open PySem PySem.Spec PyProof.Rows
theorem kJ:∀{vs:FS} {ns:List Int},IntsAre vs ns->bg (ns.map V.int) vs
 |_,_,.nil=> .nil
 |_,_,.cons n t h=> .cons ⟨t,rfl⟩ (kJ h)
def xT (H:Hp):Prop:=∀b,H b=none∨∃o xs,H b=some (.frz o (.lst xs))
theorem uk {P:Program} {w:World} {K:D7} {mg mb:FO} {CX:qC} {k:Nat} {fa a:Addr} {fd:FuncData} {x:Str} {sp:Sp} {s₁:Shared} {vs:FS} {ns:List Int}
  (KX:K.In s₁.heap) (hns:s₁.heap.Ns mainGlobals mg) (hb:s₁.heap.Ns builtinsNs mb) (hbb:∀x:Str,x≠ "__name__" ->mb x=bootBuiltins x) (hlim:s₁.heap.NoLimit) (hg:s₁.gens= #[])
  (ha:s₁.heap.get? a=some {cls:= .type "list",data:= .seq vs.toArray}) (hi:IntsAre vs ns) (hl:ns.length<=sizeLine) (hr:dQ k callerA)
  (F:∀base:Heap,K.In base->base.Ns mainGlobals mg->bf P w K mg base CX k fa fd [x] sp) (hbind:∀(s:Shared) (u:Value),BindsTo s fd ⟨[u],[]⟩ [(x,u)])
  (hsp:∀H:Hp,xT H->aC K H a (ns.map V.int)->sp [.ref a] H (fun v _=>v= .bl true) fun _ _ _=>False)
  (hCX:∀H e s',CX [] H s₁ (fun _ _ _=>False) e s'->False):
  codeAny (model P w) callerA (.call (.ref fa) ⟨[.ref a],[]⟩) (fun r s'=>r= .ok (.ret (.bool true))/\OldK s₁.heap s'.heap/\s'.os=s₁.os/\AllBare s'.gens) s₁:=by
 have rv:=kJ hi;have lenV:=hi.length;have core:∀H:Hp,xT H->aC K H a (ns.map V.int)->gP P w H s₁.heap->(∀b,H b≠none->b=a)->(H a≠none->K.lookup a=none)->
   codeAny (model P w) callerA (.call (.ref fa) ⟨[.ref a],[]⟩) (fun r s'=>r= .ok (.ret (.bool true))/\OldK s₁.heap s'.heap/\s'.os=s₁.os/\AllBare s'.gens) s₁:=by
  intro H hO hS hok hA hK;have base_of:∀{b:Addr} {o:Obj},s₁.heap.get? b=some o->H b=none->(lU s₁.heap H).get? b=some o:=fun e n=>tP e n
  have noA:∀{b:Addr} {o:Obj} {es:Array DictEntry} {ep:Nat},s₁.heap.get? b=some o->o.data= .dict es ep->H b=none:=fun {b o es ep} e d=>by
   cases q:H b with
   |none=>rfl
   |some u=>
    have e':b=a:=hA b (by rw[q];simp)
    subst e';rw[ha] at e;cases e;have d':Data.seq vs.toArray _=Data.dict es ep:=d;cases d'
  have nsK:∀{b:Addr} {m:FO},s₁.heap.Ns b m->(lU s₁.heap H).Ns b m:=fun {b m} ⟨o,es,ep,e,d,r⟩=>⟨o,es,ep,base_of e (noA e d),d,r⟩
  have hKb:K.In (lU s₁.heap H):=fun b o e=>base_of (KX b o e) (by
   cases q:H b with
   |none=>rfl
   |some u=>
    have e':b=a:=hA b (by rw[q];simp)
    subst e';rw[hK (by rw[q];simp)] at e;cases e)
  have hM:Mod K mg (lU s₁.heap H):=⟨hKb,nsK hns,⟨mb,nsK hb,hbb⟩,let ⟨mc,h1,h2⟩:=hlim;⟨mc,nsK h1,h2⟩⟩;have e0:pF P w K mg (lU s₁.heap H) callerA [] s₁ H:=⟨rfl,hM,fun b o e=>vL e,Nat.le_of_eq (rR _ _),trivial,fun b hb=>absurd (show b∈([]:FR) from hb) (by simp),hok,.of_eq hg⟩
  refine codeAny_mono ((F _ hKb (nsK hns)).run callerA [] s₁ H ⟨[.ref a],[]⟩ [.ref a] [.ref a] _ _ hr e0 (hbind s₁ (.ref a)) (.cons rfl .nil) (hsp H hO hS)) fun r s' h=>?_
  cases r with
  |error e=>exact (hCX H e s' h).elim
  |ok fl=>
   cases fl with
   |next=>exact False.elim h
   |brk=>exact False.elim h
   |cont=>exact False.elim h
   |ret u=>
    obtain ⟨v,H',os,bare,un,hok',r',q⟩:=h;have q':v= .bl true:=q;subst q';obtain rfl:u=Value.bool true:=r';refine ⟨rfl,OldK.of_keep fun b o e=>?_,os,bare⟩
    cases q:H b with
    |none=>exact un.keep b o e q (by intro z;exact absurd (show b∈([]:FR) from z) (by simp)) (by simp)
    |some u=>
     rcases hO b with z|⟨ob,xs,z⟩
     ·rw[q] at z;cases z
     ·have z2:=un.frzs b ob _ z;obtain ⟨e1,_⟩:=hok b _ z;obtain ⟨e2,_⟩:=hok' b _ z2;rw[e] at e1;cases e1;exact e2
 cases hk:K.lookup a with
 |some o=>
  have e:=KX a o hk;rw[ha] at e;cases e;refine core (fun _=>none) (fun _=> .inl rfl) (.inr ⟨_,vs.toArray,_,hk,rfl,rfl,rfl,by rw[DN,lenV];exact hl,by simpa using rv⟩) (fun b u z=>by have z':(none:Option HO)=some u:=z;cases z') (fun b z=>absurd rfl z) fun z=>absurd rfl z
 |none=>
  refine core (fun b=>if b=a then some (.frz {cls:= .type "list",data:= .seq vs.toArray} (.lst (ns.map V.int))) else none) (fun b=>?_) (.inl (.inr ⟨{cls:= .type "list",data:= .seq vs.toArray},if_pos rfl⟩)) (fun b u z=>?_) (fun b z=>?_) fun _=>hk
  ·by_cases hb:b=a
   ·exact .inr ⟨_,_,if_pos hb⟩
   ·exact .inl (if_neg hb)
  ·by_cases hb:b=a
   ·have z':=(if_pos hb).symm.trans z;cases z';subst hb;exact ⟨ha,by rw[D3];exact hl,vs,_,rv,ha⟩
   ·have z':=(if_neg hb).symm.trans z;cases z'
  ·by_cases hb:b=a
   ·exact hb
   ·exact absurd (if_neg hb) z
theorem v8 {l:PySem.W.OpenLaw} {n k:Nat} {q:Program} {loose:FQ} {XP:FO->Heap->Prop} {YP:World->Heap->Prop} {d:DefRec} {K:Params->D7} {CX:World->qC} {sp:World->Sp} {x:Str}
  (hn:l.most=some n) (hn2:n<=sizeLine) (hdf:d.params.defaults= []) (hr:dQ k callerA)
  (hY:∀(w:World) (h:Heap),YP w h->(K w.params).In h)
  (F:∀(w:World) (mg:FO) (fa:Addr) (h:Heap),(K w.params).In h->h.Ns mainGlobals mg->mg d.name=some (.ref fa)->
   ∃fd:FuncData,(∀(s:Shared) (u:Value),BindsTo s fd ⟨[u],[]⟩ [(x,u)])/\
    ∀base:Heap,(K w.params).In base->base.Ns mainGlobals mg->bf l.prog w (K w.params) mg base (CX w) k fa fd [x] (sp w))
  (hsp:∀(w:World) (H:Hp) (a:Addr) (ns:List Int),ns.length<=n->xT H->aC (K w.params) H a (ns.map V.int)->sp w [.ref a] H (fun v _=>v= .bl true) fun _ _ _=>False)
  (hCX:∀(w:World) (H:Hp) (s:Shared) (e:Value) (s':Shared),CX w [] H s (fun _ _ _=>False) e s'->False):
  PySem.W.WalkO q loose XP YP l.row.toRowW d [] (fun f vs=>PySem.call f vs):=by
 refine Att.nC hn hdf fun w s₀ s₁ mg mb fa o pm cd doc a vs ns G Y ho hd hcd hmg hobj hints hlen hg=>?_
 have KX:=hY w _ Y;obtain ⟨fd,hb,hF⟩:=F w mg fa _ KX G.T.g hmg;exact uk KX G.T.g G.T.b G.T.builtins G.T.nolimit hg hobj hints (EF hlen hn2) hr hF hb (fun H hO hS=>hsp w H a ns hlen hO hS) fun H e s'=>hCX w H s₁ e s'
def eK (s:Stmt):Arguments:=match s with
 | .FunctionDef _ a _ _ _ _ _ _ _ _=>a
 |_=>{posonlyargs:= [],args:= [],vararg:=none,kwonlyargs:= [],kw_defaults:= [],kwarg:=none,defaults:= []}
def dY (s:Stmt):List Stmt:=match s with
 | .FunctionDef _ _ b _ _ _ _ _ _ _=>b
 |_=> []
def ar (s:Stmt):Scope:=match s with
 | .FunctionDef _ _ _ _ _ _ sc _ _ _=>sc
 |_=>{kind:= .function,names:= [],isGenerator:=false,isCoroutine:=false}
abbrev a8:qC:=fun _ _ _ _ _ _=>False
abbrev E0:XK:=fun _ _ _=>False
theorem xo {X:Cx}:jF a8 X E0:=fun _ _ _ _ _ _ _ h=>h.elim
theorem gn {A:Around} {k:Nat} (hr:dQ k A):A.units+1<cLine:=Nat.lt_of_le_of_lt (Nat.add_le_add_left (by decide:1<=64) _) hr.units
variable {X:Cx}
theorem pv (i:Nat) {x:Str} {pos:Pos} (hN:X.N[i]?=some x:=by rfl) (hv:BA X.env.scope x:=by first|exact Or.inl rfl|exact Or.inr (Or.inl rfl)|exact Or.inr (Or.inr rfl)) (hd:(x==("__debug__" :Str))=false:=by decide)
  (hcd:(x==("__classdict__" :Str))=false:=by decide):PE X (.Name x pos) (zF i):=xD hN hv hd hcd
theorem cP {A B:Prop} (h:B):if false=true then A else B:=by
 rw[if_neg DX];exact h
theorem cL {A B:Prop} (h:A):if true=true then A else B:=by
 rw[if_pos rfl];exact h
def aB (H H':Hp):Prop:=∀b o,H b=some o->H' b=some o
theorem aB.refl (H:Hp):aB H H:=fun _ _ h=>h
theorem aB.trans {H H1 H2:Hp} (a:aB H H1) (b:aB H1 H2):aB H H2:=fun c o h=>b c o (a c o h)
theorem aB.free {H H':Hp} (e:aB H H') {l:Addr} (h:H' l=Option.none):H l=Option.none:=by
 cases q:H l with
 |none=>rfl
 |some o=>
  rw[e l o q] at h;cases h
theorem aB.seq {K:D7} {H H':Hp} {a:Addr} {xs:List V} (e:aB H H') (h:aC K H a xs):aC K H' a xs:=by
 rcases h with (h|⟨o,h⟩)|h
 ·exact .inl (.inl (e _ _ h))
 ·exact .inl (.inr ⟨o,e _ _ h⟩)
 ·exact .inr h
theorem aY:fX X (binaryOp .Mult) (rI (fun i j=>IntMulOk i j) fun i j=> .int (i*j)):=BD fun _ _ _ _ _ _ _ hc q=>mul_int q hc
theorem aT:fX X (binaryOp .FloorDiv) (rI (fun i j=>j≠0/\Builtin.divisionGoesByPylong i j=false) fun i j=> .int (i.fdiv j)):=BD fun _ _ _ _ _ _ _ hc q=>floordiv_int hc.1 q (.inl hc.2)
theorem v9:fX X (binaryOp .Pow) (rI (fun i j=>0<=j/\(Builtin.Int.intBits i:Int)*j<=2^27) fun i j=> .int (i^j.toNat)):=BD fun _ _ _ _ _ _ _ hc q=>pow_int hc.1 hc.2 q
end L2
namespace Sw
open PySem
end Sw
namespace L2
open PySem
end L2
namespace Sw
open PySem L2
theorem dT {p A B:Prop} [Decidable p] (h:p) (a:A):if decide p=true then A else B:=by rw[if_pos (decide_eq_true h)];exact a
theorem dF {p A B:Prop} [Decidable p] (h:¬p) (b:B):if decide p=true then A else B:=by rw[if_neg (by simp[h])];exact b
theorem d2 {p A B:Prop} [Decidable p] (h1:p->A) (h2:¬p->B):if decide p=true then A else B:=by
 by_cases h:p
 ·exact dT h (h1 h)
 ·exact dF h (h2 h)
theorem nT {p A B:Prop} [Decidable p] (h:¬p) (a:A):if (!decide p)=true then A else B:=by rw[if_pos (by simp[h])];exact a
theorem nF {p A B:Prop} [Decidable p] (h:p) (b:B):if (!decide p)=true then A else B:=by rw[if_neg (by simp[h])];exact b
theorem vi {a b:Int} (h:a=b):V.int a=V.int b:=by rw[h]
theorem vj {a b:Int} (h:V.int a=V.int b):a=b:=by cases h;rfl
theorem Cf {a b:Int} {A B:Prop} (h1:a=b->A) (h2:a≠b->B):if decide (V.int a=V.int b)=true then A else B:=d2 (fun h=>h1 (vj h)) fun h=>h2 fun e=>h (vi e)
theorem xp {a b:Int} {A B:Prop} (h1:a≠b->A) (h2:a=b->B):if (!decide (V.int a=V.int b))=true then A else B:=by
 by_cases h:a=b
 ·exact nF (vi h) (h2 h)
 ·exact nT (fun e=>h (vj e)) (h1 h)
theorem C4 {a b:Int} {A B:Prop} (h:a≠b) (x:B):if decide (V.int a=V.int b)=true then A else B:=dF (fun e=>h (vj e)) x
theorem C5 {a b:Int} {A B:Prop} (h:a=b) (x:B):if (!decide (V.int a=V.int b))=true then A else B:=nF (vi h) x
def pL (K:D7):Sp:=fun vs H Q _=>∃(a:Addr) (ns:List Int) (k:Int),vs= [.ref a,.int k]/\aC K H a (ns.map V.int)/\0<=k/\∀v:Int,Q (.int v) H
def qE (K:D7):Sp:=fun vs H Q _=>∃(a:Addr) (ns:List Int),vs= [.ref a]/\aC K H a (ns.map V.int)/\ns.length<=63/\∀H',Q (.bl true) H'
theorem wa {ns:List Int} {k:Int} (h0:0<=k) (h:k<(((ns.map V.int).length:Nat):Int)):∃v:Int,gZ (ns.map V.int) k=some (.int v):=by
 rw[D3] at h;have hk:k.toNat<ns.length:=by omega
 have ek:k=((k.toNat:Nat):Int):=by omega
 have q:gZ (ns.map V.int) ((k.toNat:Nat):Int)=some (.int ns[k.toNat]):=a4 (by rw[DE,D4 hk]<;>rfl)
 rw[<-ek] at q;exact ⟨_,q⟩
theorem cut {t u:TS} {D:Ends} {σ:L2.St} {H:Hp} (I:L2.St->Hp->Prop) (h1:∀N:L2.St->Hp->Prop,(∀σ H,I σ H->N σ H)->t {D with nx:=N} σ H) (h2:∀σ H,I σ H->u D σ H):xE t u D σ H:=h1 _ h2
theorem ag {H:Hp} {p:Addr} (h:H p=none) (o:HO):aB H (aG H p o):=fun b u q=>by rw[aH (dB q h)];exact q
structure bn (K:D7) (x qual:Str) (st:Stmt) (dV:Value) (f:Addr) (fd:FuncData):Prop where
 ex:∃(oc:Value) (od:FT) (kV doc pm:Value) (an:FT) (cdv ct:Value) (osl:Array FU),
  fd=ES x qual (eK st) (dY st) (ar st) dV kV doc pm an cdv ct/\K.lookup f=some ⟨oc,od,.func fd,osl⟩/\PySem.W.codeIn K cdv qual=true
 kp:Ed K (.ref f)=true
section
variable {P:Program} {w:World} {K:D7} {mg:FO} {base:Heap}
theorem bn.ok {x qual:Str} {st:Stmt} {dV:Value} {f:Addr} {fd:FuncData} {N ps:FQ} {k:Nat} {sp:Sp} (F:bn K x qual st dV f fd) (S:aE N ps (ar st)) (len:∀vs H Q E,sp vs H Q E->vs.length=ps.length)
  (hbody:∀(cdv:Value) (A:Around) (outer:List Env) (s:Shared) (H:Hp) (vs:List V) (Q:VK) (E:XK),dQ k (A.deeper (PyProof.Rows.envOfC qual (ar st) s.heap.objs.size f cdv))->sp vs H Q E->
   ∃t,tK (so a8 P w K mg base N qual (ar st) f cdv A outer s H E).nox (dY st) t/\t {nx:=fun _ H'=>Q .non H',rt:=Q} (start N vs) H):bf P w K mg base a8 (k+1) f fd ps sp:=by
 obtain ⟨oc,od,kV,doc,pm,an,cdv,ct,osl,rfl,lk,hcd⟩:=F.ex;refine zR lk hcd S len fun A outer s H vs Q E hr hsp=>?_
 obtain ⟨t,h,q⟩:=hbody cdv A outer s H vs Q E hr hsp;exact ⟨t,h.nox,q⟩
theorem bn.binds {x qual:Str} {st:Stmt} {T:Addr} {f:Addr} {fd:FuncData} {ps:FQ} {o:Obj} {items:Array Value} {n:Nat} {ds:FS} (F:bn K x qual st (.ref T) f fd) (ho:K.lookup T=some o) (hs:o.data= .seq items n)
  (h:∀(kV doc pm:Value) (an:FT) (cdv ct:Value) (us:FS),(us++ds).length=ps.length->∃k:Option (Array Value)->Sem (List (Str×Value)),bindArgs (ES x qual (eK st) (dY st) (ar st) (.ref T) kV doc pm an cdv ct) ⟨us,[]⟩=seqItems? (.ref T)>>=k/\k (some items)=pure (ps.zip (us++ds))):Binds K fd ps ds:=by
 obtain ⟨oc,od,kV,doc,pm,an,cdv,ct,osl,rfl,lk,hcd⟩:=F.ex;intro s us KX hl;obtain ⟨k,h1,h2⟩:=h kV doc pm an cdv ct us hl;exact PySem.W.binds_K KX rfl ho hs h1 h2
theorem bn.binds0 {x qual:Str} {st:Stmt} {dV:Value} {f:Addr} {fd:FuncData} {ps:FQ} (F:bn K x qual st dV f fd)
  (h:∀(kV doc pm:Value) (an:FT) (cdv ct:Value) (us:FS),us.length=ps.length->bindArgs (ES x qual (eK st) (dY st) (ar st) dV kV doc pm an cdv ct) ⟨us,[]⟩=pure (ps.zip us)):Binds K fd ps []:=by
 obtain ⟨oc,od,kV,doc,pm,an,cdv,ct,osl,rfl,lk,hcd⟩:=F.ex;exact .all (h kV doc pm an cdv ct)
theorem mh {x qual:Str} {st:Stmt} {f:Addr} {oc dV:Value} {od an:FT} {osl:Array FU} {kV doc pm cdv ct:Value} (l:K.lookup f=some ⟨oc,od,.func (ES x qual (eK st) (dY st) (ar st) dV kV doc pm an cdv ct),osl⟩)
  (c:PySem.W.codeIn K cdv qual=true) (k:Ed K (.ref f)=true):bn K x qual st dV f (ES x qual (eK st) (dY st) (ar st) dV kV doc pm an cdv ct):=⟨⟨oc,od,kV,doc,pm,an,cdv,ct,osl,rfl,l,c⟩,k⟩
end
end Sw
namespace XH
open PySem
end XH
namespace L2
open PySem PySem.Spec PyProof.Rows XH
def z8 (n:Bool) (a:Addr) (cls:Value) (dx:FT):HO:= .ext fun h=>∃ox vs,h.get? a=some ox/\ox.cls=cls/\ox.dict=dx/\ox.data= .fields vs/\vs[2]?=some .none/\(n=true->1<vs.size/\vs[1]?=some .none)
abbrev Cx.block (X:Cx) (scope:Scope) (cl:List (Str×Addr)) (C:Addr) (N:FQ) (own:Str) (fp:FR) (s:Shared) (H:Hp):Cx:=
 {X with env:=compEnvC scope cl C X.env,N:=N,s₀:=s,H₀:=H,outer:=X.stack,stack:=X.stack,ex:=fp,fn:=fun y=>y==own,pn:= [],xe:=fun _ _=>False}
structure hJ (X:Cx) (scope:Scope) (cl:List (Str×Addr)) (own:Str) (ys:FQ) (js:List Nat):Prop where
 clos:closureFor scope X.env=pure cl
 nocell:(scope.names.all fun p=> !(p.2== .cell))=true
 kind:scope.kind= .function
 loc:(scope.names.all fun p=> !(p.2== .local)||scope.names.lookup p.1==some .local)=true
 ownL:scope.names.lookup own=some .local
 sub:∀p∈cl,X.env.cells.lookup p.1=some p.2
 has:((relabel scope X.env).names.all fun p=> !(p.2== .cell||p.2== .free)||(cl.lookup p.1).isSome)=true
 noown:cl.lookup own=none
 nd:(own::ys).Nodup
 at_:∀(i:Nat) (y:Str),ys[i]?=some y->∃j:Nat,js[i]?=some j/\X.N[j]?=some y/\(X.env.scope.names.lookup y=some .cell∨X.env.scope.names.lookup y=some .free)/\((relabel scope X.env).names.lookup y=some .cell∨(relabel scope X.env).names.lookup y=some .free)
 len:js.length=ys.length
def aM (js:List Nat) (σ:St):St:=js.map fun j=>(σ[j]?).getD none
def qF (js:List Nat) (te:TE) (σ:St) (Q:VK):It->Hp->Prop:=fun J H1=>∀p,H1 p=none->∃W:Nat->Nat->List V->Hp->Prop,(∃m,W 0 m [] (aG H1 p (.lst [])))/\
 ∀i m ys H2,W i m ys H2->H2 p=some (.lst ys)/\((J.stop i H2/\Q (.ref p) H2)∨(J.go i H2/\ys.length<sizeLine/\∀x H3,J.yld i H2 x H3->te (some x::aM js σ) H3 fun y H4=>H4 p=some (.lst ys)/\∃m',m'<m/\W (i+1) m' (ys++ [y]) (aG H4 p (.lst (ys++ [y])))))
def um (wi:TI) (js:List Nat) (te:TE):TE:=fun σ H Q=>wi σ H (qF js te σ Q)
theorem lookup_all {α:Type} {f:Str×α->Bool} {x:Str} {a:α}:∀{l:List (Str×α)},l.all f=true->l.lookup x=some a->f (x,a)=true:=by
 intro l h e;exact DD.mp h _ (Dq e)
section
variable {prog:Program} {w:World} {A:Around} {R:Result->Shared->Prop} {s:Shared}
theorem dN {elt target iter:Expr} {scope:Scope} {pos:Pos} {it acc:Value} {env:Env} (I:Nat->Shared->Prop)
  (turn:∀n s,I n s->wpAny (model prog w) A (pyNext it) (fun r s1=>match r with
   |none=>R (.ok .next) s1
   |some v=>wpAny (model prog w) A (letOwnedTupleGo target it v) (fun _ s2=>wpAny (model prog w) A (assign target env v) (fun _ s3=>wpAny (model prog w) A (eval elt env) (fun x s4=>
     wpAny (model prog w) A (call (.builtin "list.append") [acc,x]) (fun _ s5=>∃m,m<n/\I m s5) (fun _ _=>False) s4) (fun _ _=>False) s3) (fun _ _=>False) s2) (fun _ _=>False) s1) (fun _ _=>False) s)
  (n:Nat) (h:I n s):codeAny (model prog w) A (.compLoop (.ListComp elt [⟨target,iter,[],0⟩] scope pos) 0 it acc env) R s:=by
 apply codeAny_loop rfl I ?_ n h;intro n s hI;show wpAny _ _ ((compTurn (.ListComp elt [⟨target,iter,[],0⟩] scope pos) 0 it acc env).onRaise _) _ _ s;apply wpAny_noted;rw[compTurn_list1];apply wpAny_bind;apply wpAny_standAt;apply wpAny_bind;refine wpAny_mono (turn n s hI) (fun r s1 h1=>?_) fun _ _ z=>z.elim
 cases r with
 |none=>exact wpAny_pure h1
 |some v=>
  apply wpAny_bind;refine wpAny_mono h1 (fun _ s2 h2=>?_) fun _ _ z=>z.elim
  apply wpAny_bind;refine wpAny_mono h2 (fun _ s3 h3=>?_) fun _ _ z=>z.elim
  apply wpAny_bind;apply wpAny_bind;refine wpAny_mono h3 (fun x s4 h4=>?_) fun _ _ z=>z.elim
  apply wpAny_bind;refine wpAny_mono h4 (fun _ s5 h5=>?_) fun _ _ z=>z.elim
  exact wpAny_pure (wpAny_pure ⟨rfl,h5⟩)
end
variable {X:Cx} {scope:Scope} {cl:List (Str×Addr)} {own:Str} {ys:FQ} {js:List Nat} {fp:FR} {pins:FP} {σ:St} {H:Hp} {s s4:Shared}
theorem d0 {h1:Heap} (ok:hJ X scope cl own ys js) (I:aP X pins σ H s) (hf:∀b∈fp,dM X pins H b) (hlt:∀b∈fp,b<s.heap.objs.size) (hns:h1.Ns s.heap.objs.size (fun _=>none))
  (hk:∀b o,s.heap.get? b=some o->h1.get? b=some o) (tk:Nat):
  aP (X.block scope cl s.heap.objs.size (own::ys) own fp s H) [] (none::aM js σ) H {s with heap:=h1,toks:=tk}:=by
 have sub:∀y c,cl.lookup y=some c->X.env.cells.lookup y=some c:=fun y c e=>ok.sub (y,c) (Dq e)
 refine ⟨⟨I.ok.mod,ok.kind,I.ok.glob,I.ok.blt,D9 _,fun x y c e1 e2=>I.ok.inj x y c (sub x c e1) (sub y c e2),fun x hx=>?_,fun x c e1 e2=>?_,I.ok.hd,I.ok.frames,.inl rfl,fun b hb=>⟨DF (hlt b hb),fun x c e=>(hf b hb).2.2.2.2.1 x c (sub x c e)⟩,
  I.bs,EF I.ok.bsz I.sz,fun b o e hb=>?_,fun b hb z=>?_,I.stack,I.stkFree⟩,rfl,I.bare,Un.kept hk,⟨_,hns,fun i y v e1 e2 e3=>?_⟩,fun y c e=>?_,I.hok.fresh (D9 _),fun y c e=>I.freeC y c (sub y c e),fun p hp=>absurd (show p∈([]:FP) from hp) (by simp),I.hok.kept hk,?_⟩
 ·have hx':(relabel scope X.env).names.lookup x=some .cell∨(relabel scope X.env).names.lookup x=some .free:=hx;rcases hx' with z|z
  ·have q:=lookup_all ok.has z;simp only[beq_self_eq_true,Ex,Ei,Du] at q;exact Do.mp q
  ·have q:=lookup_all ok.has z;simp only[beq_self_eq_true,Bool.or_true,Ei,Du] at q;exact Do.mp q
 ·have e1':(x==own)=true:=e1;have e:x=own:=beq_iff_eq.mp e1';have e2':cl.lookup x=some c:=e2;rw[e,ok.noown] at e2';cases e2'
 ·rcases (hf b hb).2.2.2.1 with z|z
  ·exact I.ok.noex b o e z
  ·exact absurd (Dm (Heap.lt_size (I.ok.bs b o e).1) z) (Ec _)
 ·rcases DG.mp (I.stkSub b z) with q|q
  ·exact (hf b hb).2.1 q
  ·exact (hf b hb).2.2.1 q
 ·cases i with
  |zero=>cases e2
  |succ i=>
   have e1':ys[i]?=some y:=e1;obtain ⟨j,hj,hN,hX,hc⟩:=ok.at_ i y e1';have e2':(aM js σ)[i]?=some (some v):=e2;unfold aM at e2';rw[DE,hj] at e2';have hs:σ[j]?=some (some v):=by
    cases q:σ[j]? with
    |none=>rw[EI,q] at e2';cases e2'
    |some o=>rw[EI,q] at e2';exact e2'
   obtain ⟨m,hn,hl⟩:=I.loc;obtain ⟨u,r,l⟩:=hl j y v hN hs (hX.elim (fun z=> .inr (.inl z)) fun z=> .inr (.inr z))
   refine ⟨u,r,.inr ⟨hc,?_⟩⟩;rcases l with ⟨k,_⟩|⟨k,c,hcl,hcell⟩
   ·have k':X.env.scope.names.lookup y=some .local:=k;rcases hX with z|z<;>(rw[z] at k';cases k')
   ·have ex:∃c',cl.lookup y=some c':=by
     rcases hc with z|z
     ·have q:=lookup_all ok.has z;simp only[beq_self_eq_true,Ex,Ei,Du] at q;exact Do.mp q
     ·have q:=lookup_all ok.has z;simp only[beq_self_eq_true,Bool.or_true,Ei,Du] at q;exact Do.mp q
    obtain ⟨c',hc'⟩:=ex;have e:=sub y c' hc';rw[hcl] at e;cases e;obtain ⟨oc,hoc,hd⟩:=hcell;exact ⟨c,hc',oc,hk _ _ hoc,hd⟩
 ·obtain ⟨v,oc,hoc,hd⟩:=I.cell y c (sub y c e);exact ⟨v,oc,hk _ _ hoc,hd⟩
 ·show (none::aM js σ).length=(own::ys).length;simp[aM,ok.len]
theorem fE {H':Hp} {h':Heap} {σ':St} (I:aP X pins σ H s) (hf:∀b∈fp,dM X pins H b) (J:aP (X.block scope cl s.heap.objs.size (own::ys) own fp s H) [] σ' H' s4) (hs:Heap.SameBut s.heap.objs.size s4.heap h'):
  aP X pins σ H' {s4 with heap:=h'}:=by
 have low:∀b o,s.heap.get? b=some o->b≠s.heap.objs.size:=fun b o e=>DF (Heap.lt_size e)
 have B:=J.base;have u:Un (rV X.stack) fp H H' s.heap h':={
  keep:=fun b o q n hb hx=>(hs.2 b (low b o q)).trans (B.keep b o q n hb hx)
  slot:=fun b o q n hb hx=>by
   obtain ⟨sl,e⟩:=B.slot b o q n hb hx;exact ⟨sl,(hs.2 b (low b o q)).trans e⟩
  free:=B.free
  there:=fun b o q hx=>by
   obtain ⟨o',e⟩:=B.there b o q hx;exact ⟨o',(hs.2 b (low b o q)).trans e⟩
  tups:=B.tups
  frzs:=B.frzs
  tbls:=B.tbls}
 have hn:H' s.heap.objs.size=none:=J.free;have hk:gP X.prog X.w H' h':=fun a o e=>(J.hok a o e).stay (fun b v hb q=>(hs.2 b (by
  intro z;rcases hb with z'|z'
  ·rw[<-z',z,hn] at e;cases e
  ·rw[z,hn] at z';cases z')).trans q) (fun _ q=>q) fun _ _ q=>q
 exact I.call' (s':={s4 with heap:=h'}) (ch:=fp) J.os u hk J.bare fun b hb=>⟨(hf b hb).2.2.2.1,(hf b hb).2.1,(hf b hb).2.2.2.2.1,(hf b hb).2.2.2.2.2⟩
variable {elt iter:Expr} {px pos:Pos} {wi:TI} {te:TE}
theorem bG (hc:X.calm=true) (ok:hJ X scope cl own ys js) (hi:PI X (.Name own px) iter wi)
  (he:∀(C:Addr) (fp:FR) (s:Shared) (H:Hp),PE (X.block scope cl C (own::ys) own fp s H) elt te)
  (hs:∀x,foldedSetIterable iter X.env x=pure x:=by intro _;rfl):PE X (.ListComp elt [⟨.Name own px,iter,[],0⟩] scope pos) (um wi js te):=by
 intro pins s σ H Q I h;rw[eval_ListComp];have ncell:∀y∈scope.names,y.2≠ .cell:=fun y hy z=>by
  have q:=DD.mp ok.nocell y hy;rw[z] at q;simp at q
 have nloc:∀y∈scope.names,y.2= .local->scope.names.lookup y.1=some .local:=fun y hy z=>by
  have q:=DD.mp ok.loc y hy;rw[z] at q
  simpa using q
 refine wpAny_comprehension_free (use:=none) rfl hs ok.clos ok.kind nloc (bi (hi pins s σ H _ I h) fun v s1 h1=>bi h1 fun itv s2 h2=>?_)
 obtain ⟨it,fp,tn,J,H2,rfl,I2,T,st2,f2,q2⟩:=h2;obtain ⟨W,⟨m0,w0⟩,turn⟩:=q2 s2.heap.objs.size (I2.hok.fresh (D9 _));refine wpAny_newObj_type (wpAny_newFunctionEnv ncell (by intro y hy;simp at hy) (fun h1 hns hsb=>?_) ok.kind)
 have I3:=I2.laid (a:=s2.heap.objs.size) (o:= .lst []) (h':=s2.heap.push {cls:= .type "list",dict:=none,data:= .seq ([]:FS).toArray}) (t':=s2.toks) (fun b u q=>Heap.get?_push_of_some _ q) (D9 _)
  ⟨Dn _,[],0,.nil,Heap.get?_push_size _ rfl⟩
 have fpo:∀b∈fp,b<s2.heap.objs.size:=fun b hb=>by
  obtain ⟨o,e,_⟩:=T.obj 0 _ st2 b hb;exact Heap.lt_size e
 have f3:∀b∈fp,dM X pins (aG H2 s2.heap.objs.size (.lst [])) b:=fun b hb=>⟨by rw[aH (DF (fpo b hb))];exact (f2 b hb).1,(f2 b hb).2⟩
 generalize hs3:({s2 with heap:=s2.heap.push {cls:= .type "list",dict:=none,data:= .seq ([]:FS).toArray},toks:=s2.toks}:Shared)=s3 at I3
 have e3:s3.heap=s2.heap.push {cls:= .type "list",dict:=none,data:= .seq ([]:FS).toArray}:=by rw[<-hs3]
 have lt3:∀b∈fp,b<s3.heap.objs.size:=fun b hb=>by rw[e3,Heap.size_push];exact E3 (fpo b hb)
 dsimp only at hns hsb⊢;rw[<-e3] at hns hsb;have hk:∀b o,s3.heap.get? b=some o->h1.get? b=some o:=fun b o e=>hsb.extBut b o (DF (Heap.lt_size e)) (Heap.get?_push_of_some _ e)
 have J0:=d0 (h1:=h1) ok I3 f3 lt3 hns hk (s2.toks+0);have t0:tn 0 h1:=T.keep 0 _ _ st2 fun b hb o e=>hk b o (by rw[e3];exact Heap.get?_push_of_some _ e)
 have fpB:∀{H':Hp},(∀b∈fp,H' b=none)->∀b∈fp,dM (X.block scope cl s3.heap.objs.size (own::ys) own fp s3 (aG H2 s2.heap.objs.size (.lst []))) [] H' b:=fun {H'} hn b hb=>
  ⟨hn b hb,DF (lt3 b hb),fun z=>(DG.mp (I3.stkSub b z)).elim (f3 b hb).2.1 (f3 b hb).2.2.1,.inl hb,fun x c e=>(f3 b hb).2.2.2.2.1 x c (ok.sub (x,c) (Dq e)),fun p hp=>absurd (show p∈([]:FP) from hp) (by simp)⟩
 have loop:codeAny (model X.prog X.w) X.A (.compLoop (.ListComp elt [⟨.Name own px,iter,[],0⟩] scope pos) 0 (.ref it) (.ref s2.heap.objs.size) (compEnvC scope cl s3.heap.objs.size X.env))
   (compPost (model X.prog X.w) X.A X.xe none (EP X pins σ Q) (.ref s2.heap.objs.size) s3.heap.objs.size) {s3 with heap:=h1,toks:=s2.toks+0}:=by
  refine dN (fun n s'=>∃i zs o0 H',aP (X.block scope cl s3.heap.objs.size (own::ys) own fp s3 (aG H2 s2.heap.objs.size (.lst []))) [] (o0::aM js σ) H' s'/\tn i s'.heap/\(∀b∈fp,H' b=none)/\W i n zs H') ?_ m0
   ⟨0,[],none,_,J0,t0,fun b hb=>(f3 b hb).1,w0⟩
  rintro n s5 ⟨i,zs,o0,H5,I5,t5,n5,w5⟩;obtain ⟨hD,hw⟩:=turn i n zs H5 w5;rcases hw with ⟨stop,qn⟩|⟨go,hz,step⟩
  ·refine bi (T.done (X.block scope cl s3.heap.objs.size (own::ys) own fp s3 (aG H2 s2.heap.objs.size (.lst []))) rfl rfl rfl hc i [] s5 _ H5 (fun _ _=>False) I5 (fpB n5) t5 stop) fun r s6 ⟨hr,I6⟩=>?_
   subst hr;obtain ⟨m,hn,_⟩:=id I6.loc;exact ⟨m,hn,fun h' hs'=>⟨V.ref s2.heap.objs.size,H5,fE I3 f3 I6 hs',rfl,qn⟩⟩
  ·refine bi (T.item (X.block scope cl s3.heap.objs.size (own::ys) own fp s3 (aG H2 s2.heap.objs.size (.lst []))) rfl rfl rfl hc i [] s5 _ H5 (fun _ _=>False) I5 (fpB n5) t5 go) fun r s6 ⟨u,hr,h6⟩=>?_
   subst hr;refine bi h6 fun _ s7 ⟨x,H7,I7,r7,y7,t7,n7⟩=>?_
   have I7':=I7.pinned (fpB n7) (T.obj _ _ t7);have hst:=step x H7 y7;have own':(relabel scope X.env).names.lookup own=some .local:=lookup_relabel_local ok.ownL;refine bi (dw (X:=X.block scope cl s3.heap.objs.size (own::ys) own fp s3 (aG H2 s2.heap.objs.size (.lst []))) (i:=0) (x:=own) (pos:=px) ok.nd rfl (.inl own') (.inr own') _ s7 _ H7 x u (fun σ' H'=>σ'=some x::aM js σ/\H'=H7) I7' r7 ⟨rfl,rfl⟩) fun _ s8 ⟨σ8,H8,I8,e8,eH8⟩=>?_
   subst e8 eH8;refine bi (he _ _ _ _ _ s8 _ H8 _ I8 hst) fun yv s9 ⟨y,H9,I9,r9,hD9,m',hm,w9⟩=>?_
   refine bi (a6 _ s9 _ H9 (.ref s2.heap.objs.size) [y] (.ref s2.heap.objs.size) [yv] (fun _ H'=>H'=aG H9 s2.heap.objs.size (.lst (zs++ [y]))) I9 rfl (.cons r9 .nil) ⟨_,zs,y,rfl,rfl,hD9,hz,rfl⟩) fun _ s10 ⟨_,H10,I10,_,e10⟩=>?_
   subst e10;refine ⟨m',hm,i+1,zs++ [y],some x,_,I10.unpinned,T.keep _ _ _ t7 fun b hb o e=>(I10.pin (b,o) (DA _ (DA _ (bz hb e)))).1,fun b hb=>?_,w9⟩
   obtain ⟨o,e,d⟩:=T.obj _ _ t7 b hb;exact (I10.pin (b,o) (DA _ (DA _ (bz hb e)))).2.1
 subst hs3;exact codeAny_compStart_list loop (T.self _ 0 _ _ _ t0 loop)
open PySem.Builtin PySem.Builtin.ObjectAttr
theorem kt:entryFor table "proto.unchain" =some Builtin.«proto.unchain» :=entryFor_of_fast (by kernel_rfl)
def nD (hd:FU) (H:Hp):Prop:=∀v,hd=some v->∃a n cls dx,v= .ref a/\H a=some (z8 n a cls dx)
theorem nD.no {H:Hp}:nD none H:=fun _ z=>nomatch z
section
variable {prog:Program} {w:World} {A:Around} {E:FN}
theorem pM {it hx:Addr} {ox:Obj} {vs:Array Value} {x left step:Int} {Q:FU->Shared->Prop} (hh:A.handled=some (.ref hx)) (ho:s.heap.get? hx=some ox) (hd:ox.data= .fields vs) (h2:vs[2]?=some .none)
  (hit:IsRangeIter s.heap it x left step) (hleft:left<=0) (hQ:∀h',Heap.ExtBut it s.heap h'->Q none {s with heap:=h'}):wpAny (model prog w) A (pyNext (.ref it)) Q E s:=by
 have hT:s.TypeIs (.ref it) "range_iterator" :=⟨_,hit,rfl⟩;unfold pyNext;refine wpAny_bind (wpAny_attempt (wpAny_callSpecial?_slot (name:=Str.ofString "__next__") hT F.slot_range_iterator_next
  (wpAny_call_entry F.slot_range_iterator_next hT F.entry_range_iterator_next ?_ (F.args_range_iterator_next_1 _))))
 show wpAny _ _ (field (.ref it) 0>>=_) _ _ s;refine wpAny_bind (wpAny_field hit rfl (x:=rawInt x) rfl ?_);show wpAny _ _ (field (.ref it) 1>>=_) _ _ s;refine wpAny_bind (wpAny_field hit rfl (x:=rawInt left) rfl ?_);show wpAny _ _ (field (.ref it) 2>>=_) _ _ s;refine wpAny_bind (wpAny_field hit rfl (x:=rawInt step) rfl ?_);show wpAny _ _ (if left<=0 then _ else _) _ _ s
 rw[if_pos hleft];refine wpAny_bind (wpAny_rule ?_);refine wpAny_bind ?_;show wpAny _ _ (newExc (.type "StopIteration") []>>=_) _ _ _;refine wpAny_bind ?_;simp only[newExc,newTuple];refine wpAny_bind (wpAny_newObj_type ?_ (by size_fits))
 refine wpAny_bind (m:=firstArgMember _ _) (wpAny_of_eq (a:=Value.none) (by first|rfl|(simp only[firstArgMember];rfl)) ?_)
 refine wpAny_newObj_type ?_ (by size_fits)
 simp only[raiseNew];refine wpAny_bind (wpAny_handled ?_);rw[show A.in1.handled=some (.ref hx) from hh]
 have g0:s.heap.get? (s.heap.push {cls:= .type "tuple",dict:=none,data:= .seq ([]:FS).toArray}).objs.size=none:=Heap.get?_none_of_le (by rw[Heap.size_push];omega)
 have ne:hx≠(s.heap.push {cls:= .type "tuple",dict:=none,data:= .seq ([]:FS).toArray}).objs.size:=fun z=>by
  rw[z,g0] at ho;cases ho
 dsimp only;rw[if_pos (bne_iff_ne.mpr fun z=>ne (Value.ref.inj z))]
 refine wpAny_bind (wpAny_holding (wpAny_runValue (codeAny_builtin kt ?_)));show wpAny _ _ (field (.ref hx) 2>>=_) _ _ _;refine wpAny_bind (wpAny_field (Heap.get?_push_of_some _ (Heap.get?_push_of_some _ ho)) hd h2 ?_);rw[if_pos (by rfl)]
 refine wpAny_bind (wpAny_pure (wpAny_pure ?_));refine wpAny_bind (m:=updateField _ 2 _) (wpAny_setField (Heap.get?_push_size _ rfl) rfl (by show 2<6;decide) ?_)
 refine wpAny_throw ?_;refine wpAny_bind (wpAny_isInstance (T:= "StopIteration") (b:=true) ⟨_,Heap.get?_update_self _ (Heap.get?_push_size _ rfl) rfl,rfl⟩ isSubtype_stop ?_);refine wpAny_pure (hQ _ fun b o hb e=>?_)
 rw[Heap.get?_update_other _ _ (by
  intro z;rw[z] at g0;rw[g0] at e;cases e)]
 exact Heap.get?_push_of_some _ (Heap.get?_push_of_some _ e)
end
structure xq (hd:FU) (P:Program) (w:World) (K:D7) (tg:Expr) (J:It) (fp:FR) (it:Addr) (tn:Nat->Heap->Prop):Prop where
 mem:it∈fp
 obj:∀i h,tn i h->∀b∈fp,∃o,h.get? b=some o/\∀v,o.data≠ .cell v
 keep:∀i h h',tn i h->(∀b∈fp,∀o,h.get? b=some o->h'.get? b=some o)->tn i h'
 item:∀(X:Cx),X.prog=P->X.w=w->X.K=K->X.A.handled=hd->∀(i:Nat) (pins:FP) (s:Shared) (σ:St) (H:Hp) (E:FN),aP X pins σ H s->(∀b∈fp,dM X pins H b)->tn i s.heap->J.go i H->
  wpAny (model P w) X.A (pyNext (.ref it)) (fun r s1=>∃u,r=some u/\
   wpAny (model P w) X.A (letOwnedTupleGo tg (.ref it) u) (fun _ s2=>∃x H',aP X pins σ H' s2/\RelV x u/\J.yld i H x H'/\tn (i+1) s2.heap/\∀b∈fp,H' b=none) E s1) E s
 done:∀(X:Cx),X.prog=P->X.w=w->X.K=K->X.A.handled=hd->∀(i:Nat) (pins:FP) (s:Shared) (σ:St) (H:Hp) (E:FN),aP X pins σ H s->(∀b∈fp,dM X pins H b)->tn i s.heap->J.stop i H->
  wpAny (model P w) X.A (pyNext (.ref it)) (fun r s1=>r=none/\aP X pins σ H s1) E s
 self:∀(A:Around) (i:Nat) (s:Shared) (Q:FN) (E:FN),tn i s.heap->Q (.ref it) s->wpAny (model P w) A (pyIter (.ref it)) Q E s
def Aa (hd:FU) (X:Cx) (pins:FP) (σ:St) (tg:Expr) (R:It->Hp->Prop) (itv:Value) (s2:Shared):Prop:=
 ∃(it:Addr) (fp:FR) (tn:Nat->Heap->Prop) (J:It) (H':Hp),itv= .ref it/\aP X pins σ H' s2/\xq hd X.prog X.w X.K tg J fp it tn/\tn 0 s2.heap/\(∀b∈fp,dM X pins H' b)/\R J H'
def CO (hd:FU) (X:Cx) (tg iter:Expr) (wi:TI):Prop:=
 ∀(pins:FP) (s:Shared) (σ:St) (H:Hp) (R:It->Hp->Prop),aP X pins σ H s->wi σ H R->
  wpAny (model X.prog X.w) X.A (eval iter X.env) (fun v s1=>wpAny (model X.prog X.w) X.A (pyIter v) (Aa hd X pins σ tg R) X.xe s1) X.xe s
def wb (hd:FU) (lo:Int) (n:Nat):It:=⟨fun i _=>i<n,fun i H x H'=>H'=H/\x= .int (lo+i),fun i H=>n<=i/\nD hd H⟩
theorem nE {hd:FU} {P:Program} {w:World} {K:D7} {tg:Expr} (it:Addr) (lo:Int) (n:Nat):xq hd P w K tg (wb hd lo n) [it] it (fun i h=>IsRangeIter h it (lo+(i:Nat)*1) ((n:Int)-(i:Nat)) 1) where
 mem:=by simp
 obj:=fun i h st b hb=>by
  have e:b=it:=by simpa using hb
  subst e;exact ⟨_,st,fun v z=>by
   have z':Data.fields _=Data.cell v:=z;cases z'⟩
 keep:=fun i h h' st k=>k it (by simp) _ st
 item:=by
  intro X hP hw hK hA i pins s σ H E I hf st hg;subst hP hw hK;obtain ⟨f0,f1,f2,f3,f4,f5⟩:=hf it (by simp)
  have hg':i<n:=hg;refine wpAny_pyNext_range_item st (by omega) fun h' st' sb=>?_
  have I1:aP X pins σ H {s with heap:=h',toks:=s.toks+1}:=I.turned (fun b o hb e=>(sb.2 b hb).trans e) f0 f1 f3 f4 f5
  have st2:IsRangeIter h' it (lo+((i+1:Nat):Int)*1) ((n:Int)-((i+1:Nat):Int)) 1:=by
   have e1:lo+((i+1:Nat):Int)*1=lo+(i:Int)*1+1:=by push_cast;omega
   have e2:(n:Int)-((i+1:Nat):Int)=(n:Int)-(i:Int)-1:=by push_cast;omega
   rw[e1,e2];exact st'
  refine ⟨_,rfl,nc (s:={s with heap:=h',toks:=s.toks+1}) (n:= "range_iterator") st2 rfl rfl (by decide) ⟨.int (lo+i),H,I1,⟨s.toks,?_⟩,⟨rfl,rfl⟩,st2,fun b hb=>(hf b hb).1⟩⟩
  rw[Int.mul_one]
 done:=by
  intro X hP hw hK hA i pins s σ H E I hf st hg;subst hP hw hK;obtain ⟨f0,f1,f2,f3,f4,f5⟩:=hf it (by simp)
  obtain ⟨hl,hk⟩:=hg;cases hd with
  |none=>exact wpAny_pyNext_range_end hA st (by omega) fun h' eb=>⟨rfl,I.turned (t':=s.toks) (fun b o hb e=>eb b o hb e) f0 f1 f3 f4 f5⟩
  |some v=>
   obtain ⟨a,m,cls,dx,rfl,e⟩:=hk v rfl;obtain ⟨⟨ox,vs,h1,h2,h3,h4,h6,h5⟩,_⟩:=(show bM X.prog X.w H s.heap a (z8 m a cls dx) from I.hok a _ e)
   exact pM hA h1 h4 h6 st (by omega) fun h' eb=>⟨rfl,I.turned (t':=s.toks) (fun b o hb e=>eb b o hb e) f0 f1 f3 f4 f5⟩
 self:=fun _ _ _ _ _ st h=>wpAny_pyIter_rangeiter st h
def Ab (hd:FU) (ta:TA):TI:=fun σ H R=>ta σ H fun vs H1=>∃j:Int,vs= [.int j]/\ -(2^62)<=j/\j<2^62/\R (wb hd 0 j.toNat) H1
section
variable {tg:Expr} {hd:FU}
theorem sy {pins:FP} {σ:St} {H:Hp} {s:Shared} {R:It->Hp->Prop} {E:FN} {lo hi:Int} {t u v:Tok} {tk:Nat} (I:aP X pins σ H s) (h1: -(2^62)<=lo) (h2:lo<2^62) (h3: -(2^62)<=hi) (h4:hi<2^62)
  (q:R (wb hd lo (hi-lo).toNat) H):wpAny (model X.prog X.w) X.A (pyIter (.ref s.heap.objs.size)) (Aa hd X pins σ tg R) E {s with heap:=s.heap.push {cls:= .type "range",data:= .fields #[.int lo t,.int hi u,.int 1 v]},toks:=tk}:=by
 refine wpAny_pyIter_range (IsRange.new ..) (small_one h1 h2 h3 h4) ?_;have I1:aP X pins σ H {s with heap:=s.heap.push {cls:= .type "range",data:= .fields #[.int lo t,.int hi u,.int 1 v]},toks:=tk}:=I.kept fun b o e=>Heap.get?_push_of_some _ e
 refine ⟨(s.heap.push {cls:= .type "range",data:= .fields #[.int lo t,.int hi u,.int 1 v]}).objs.size,[(s.heap.push {cls:= .type "range",data:= .fields #[.int lo t,.int hi u,.int 1 v]}).objs.size],_,_,H,rfl,
  I1.kept (t':=tk) fun b o e=>Heap.get?_push_of_some _ e,nE _ lo (hi-lo).toNat,?_,fun b hb=>?_,q⟩
 ·have e1:lo+((0:Nat):Int)*1=lo:=by simp
  have e2:(((hi-lo).toNat:Nat):Int)-((0:Nat):Int)=Builtin.Range.rangeSize lo hi 1:=by rw[rangeSize_one];split<;>omega
  show IsRangeIter _ _ (lo+((0:Nat):Int)*1) ((((hi-lo).toNat:Nat):Int)-((0:Nat):Int)) 1;rw[e1,e2];exact Heap.get?_push_size _ rfl
 ·have e:b=(s.heap.push {cls:= .type "range",data:= .fields #[.int lo t,.int hi u,.int 1 v]}).objs.size:=by simpa using hb
  subst e;exact I1.fpOk (D9 _) (I1.hok.fresh (D9 _))
theorem kK {a:Expr} {ta:TA} {p pos:Pos} (hg:Gl X "range") (hm:X.mg "range" =none) (ha:PA X [a] ta) (hs:starEach [a] X.env= [(false,eval a X.env)]:=by rfl):CO hd X tg (.Call (.Name "range" p) [a] [] pos) (Ab hd ta):=by
 intro pins s σ H R I h;refine Call_ (dC I hg hm boot_range (Dt (bi (ha pos pins s σ H _ I h) fun us s1 ⟨vs,H1,I1,r1,q1⟩=>?_) hs rfl))
 obtain ⟨j,e,q1,q2,q⟩:=q1;subst e;cases r1 with
 |cons r rr=>
  cases rr;obtain ⟨t,rfl⟩:=r;exact call_range_1 (sy I1 (by omega) (by omega) q1 q2 (by simpa using q))
end
section
variable {hd:FU}
theorem nH (hA:X.A.handled=hd) (ok:hJ X scope cl own ys js) (hi:CO hd X (.Name own px) iter wi)
  (he:∀(C:Addr) (fp:FR) (s:Shared) (H:Hp),PE (X.block scope cl C (own::ys) own fp s H) elt te)
  (hs:∀x,foldedSetIterable iter X.env x=pure x:=by intro _;rfl):PE X (.ListComp elt [⟨.Name own px,iter,[],0⟩] scope pos) (um wi js te):=by
 intro pins s σ H Q I h;rw[eval_ListComp];have ncell:∀y∈scope.names,y.2≠ .cell:=fun y hy z=>by
  have q:=DD.mp ok.nocell y hy;rw[z] at q;simp at q
 have nloc:∀y∈scope.names,y.2= .local->scope.names.lookup y.1=some .local:=fun y hy z=>by
  have q:=DD.mp ok.loc y hy;rw[z] at q
  simpa using q
 refine wpAny_comprehension_free (use:=none) rfl hs ok.clos ok.kind nloc (bi (hi pins s σ H _ I h) fun v s1 h1=>bi h1 fun itv s2 h2=>?_)
 obtain ⟨it,fp,tn,J,H2,rfl,I2,T,st2,f2,q2⟩:=h2;obtain ⟨W,⟨m0,w0⟩,turn⟩:=q2 s2.heap.objs.size (I2.hok.fresh (D9 _));refine wpAny_newObj_type (wpAny_newFunctionEnv ncell (by intro y hy;simp at hy) (fun h1 hns hsb=>?_) ok.kind)
 have I3:=I2.laid (a:=s2.heap.objs.size) (o:= .lst []) (h':=s2.heap.push {cls:= .type "list",dict:=none,data:= .seq ([]:FS).toArray}) (t':=s2.toks) (fun b u q=>Heap.get?_push_of_some _ q) (D9 _)
  ⟨Dn _,[],0,.nil,Heap.get?_push_size _ rfl⟩
 have fpo:∀b∈fp,b<s2.heap.objs.size:=fun b hb=>by
  obtain ⟨o,e,_⟩:=T.obj 0 _ st2 b hb;exact Heap.lt_size e
 have f3:∀b∈fp,dM X pins (aG H2 s2.heap.objs.size (.lst [])) b:=fun b hb=>⟨by rw[aH (DF (fpo b hb))];exact (f2 b hb).1,(f2 b hb).2⟩
 generalize hs3:({s2 with heap:=s2.heap.push {cls:= .type "list",dict:=none,data:= .seq ([]:FS).toArray},toks:=s2.toks}:Shared)=s3 at I3
 have e3:s3.heap=s2.heap.push {cls:= .type "list",dict:=none,data:= .seq ([]:FS).toArray}:=by rw[<-hs3]
 have lt3:∀b∈fp,b<s3.heap.objs.size:=fun b hb=>by rw[e3,Heap.size_push];exact E3 (fpo b hb)
 dsimp only at hns hsb⊢;rw[<-e3] at hns hsb;have hk:∀b o,s3.heap.get? b=some o->h1.get? b=some o:=fun b o e=>hsb.extBut b o (DF (Heap.lt_size e)) (Heap.get?_push_of_some _ e)
 have J0:=d0 (h1:=h1) ok I3 f3 lt3 hns hk (s2.toks+0);have t0:tn 0 h1:=T.keep 0 _ _ st2 fun b hb o e=>hk b o (by rw[e3];exact Heap.get?_push_of_some _ e)
 have fpB:∀{H':Hp},(∀b∈fp,H' b=none)->∀b∈fp,dM (X.block scope cl s3.heap.objs.size (own::ys) own fp s3 (aG H2 s2.heap.objs.size (.lst []))) [] H' b:=fun {H'} hn b hb=>
  ⟨hn b hb,DF (lt3 b hb),fun z=>(DG.mp (I3.stkSub b z)).elim (f3 b hb).2.1 (f3 b hb).2.2.1,.inl hb,fun x c e=>(f3 b hb).2.2.2.2.1 x c (ok.sub (x,c) (Dq e)),fun p hp=>absurd (show p∈([]:FP) from hp) (by simp)⟩
 have loop:codeAny (model X.prog X.w) X.A (.compLoop (.ListComp elt [⟨.Name own px,iter,[],0⟩] scope pos) 0 (.ref it) (.ref s2.heap.objs.size) (compEnvC scope cl s3.heap.objs.size X.env))
   (compPost (model X.prog X.w) X.A X.xe none (EP X pins σ Q) (.ref s2.heap.objs.size) s3.heap.objs.size) {s3 with heap:=h1,toks:=s2.toks+0}:=by
  refine dN (fun n s'=>∃i zs o0 H',aP (X.block scope cl s3.heap.objs.size (own::ys) own fp s3 (aG H2 s2.heap.objs.size (.lst []))) [] (o0::aM js σ) H' s'/\tn i s'.heap/\(∀b∈fp,H' b=none)/\W i n zs H') ?_ m0
   ⟨0,[],none,_,J0,t0,fun b hb=>(f3 b hb).1,w0⟩
  rintro n s5 ⟨i,zs,o0,H5,I5,t5,n5,w5⟩;obtain ⟨hD,hw⟩:=turn i n zs H5 w5;rcases hw with ⟨stop,qn⟩|⟨go,hz,step⟩
  ·refine bi (T.done (X.block scope cl s3.heap.objs.size (own::ys) own fp s3 (aG H2 s2.heap.objs.size (.lst []))) rfl rfl rfl hA i [] s5 _ H5 (fun _ _=>False) I5 (fpB n5) t5 stop) fun r s6 ⟨hr,I6⟩=>?_
   subst hr;obtain ⟨m,hn,_⟩:=id I6.loc;exact ⟨m,hn,fun h' hs'=>⟨V.ref s2.heap.objs.size,H5,fE I3 f3 I6 hs',rfl,qn⟩⟩
  ·refine bi (T.item (X.block scope cl s3.heap.objs.size (own::ys) own fp s3 (aG H2 s2.heap.objs.size (.lst []))) rfl rfl rfl hA i [] s5 _ H5 (fun _ _=>False) I5 (fpB n5) t5 go) fun r s6 ⟨u,hr,h6⟩=>?_
   subst hr;refine bi h6 fun _ s7 ⟨x,H7,I7,r7,y7,t7,n7⟩=>?_
   have I7':=I7.pinned (fpB n7) (T.obj _ _ t7);have hst:=step x H7 y7;have own':(relabel scope X.env).names.lookup own=some .local:=lookup_relabel_local ok.ownL;refine bi (dw (X:=X.block scope cl s3.heap.objs.size (own::ys) own fp s3 (aG H2 s2.heap.objs.size (.lst []))) (i:=0) (x:=own) (pos:=px) ok.nd rfl (.inl own') (.inr own') _ s7 _ H7 x u (fun σ' H'=>σ'=some x::aM js σ/\H'=H7) I7' r7 ⟨rfl,rfl⟩) fun _ s8 ⟨σ8,H8,I8,e8,eH8⟩=>?_
   subst e8 eH8;refine bi (he _ _ _ _ _ s8 _ H8 _ I8 hst) fun yv s9 ⟨y,H9,I9,r9,hD9,m',hm,w9⟩=>?_
   refine bi (a6 _ s9 _ H9 (.ref s2.heap.objs.size) [y] (.ref s2.heap.objs.size) [yv] (fun _ H'=>H'=aG H9 s2.heap.objs.size (.lst (zs++ [y]))) I9 rfl (.cons r9 .nil) ⟨_,zs,y,rfl,rfl,hD9,hz,rfl⟩) fun _ s10 ⟨_,H10,I10,_,e10⟩=>?_
   subst e10;refine ⟨m',hm,i+1,zs++ [y],some x,_,I10.unpinned,T.keep _ _ _ t7 fun b hb o e=>(I10.pin (b,o) (DA _ (DA _ (bz hb e)))).1,fun b hb=>?_,w9⟩
   obtain ⟨o,e,d⟩:=T.obj _ _ t7 b hb;exact (I10.pin (b,o) (DA _ (DA _ (bz hb e)))).2.1
 subst hs3;exact codeAny_compStart_list loop (T.self _ 0 _ _ _ t0 loop)
end
end L2
namespace Sw
open PySem L2 XH
structure Dx (P:Program) (w:World) (K:D7) (mg:FO) (base:Heap) (CX:qC) (k:Nat) (x:Str) (ps:FQ) (dvs:List V) (sp:Sp) where
 f:Addr
 fd:FuncData
 ok:bf P w K mg base CX k f fd ps sp
 m:mg x=some (.ref f)
 q:Ed K (.ref f)=true
 b:Binds K fd ps []
 bd:∃ds,Binds K fd ps ds/\bg dvs ds
section
variable {X:Cx} {k j:Nat} {x:Str} {ps:FQ} {sp:Sp} {p pos:Pos} {e:Expr} {es:List Expr} {t:TA} {dvs:List V} {E:St->XK}
theorem xU (D:Dx X.prog X.w X.K X.mg X.base a8 k x ps dvs sp) (hr:dQ j X.A) (hk:k<=j) (hg:Gl X x) (ha:PA X (e::es) t) (hdb:(x==("__debug__" :Str))=false:=by decide)
  (he:starEach (e::es) X.env=(false,eval e X.env)::starEach es X.env:=by rfl) (hpl:(backTo pos (starEach es X.env)).any (·.1)=false:=by rfl):
  PE X (.Call (.Name x p) (e::es) [] pos) (tY sp [] E0 t):=
 vT D.ok (hr.mono hk) hg D.m D.q D.b .nil xo ha hdb he hpl
end
end Sw
namespace L2
open PySem PySem.Spec PyProof.Rows XH
theorem sA {X:Cx} {K:D7} (hK:X.K=K):dS X (.builtin "isinstance") (fun xs H Q=>∃x t T b,xs= [x,.ty T]/\io K H x t/\PySem.W.kitOne K t (.type T)=some b/\Q (.bl b) H):=by
 subst hK;intro pins s σ H xs us Q I r h;obtain ⟨x,t,T,b,rfl,ty,e,q⟩:=h;obtain ⟨u,w',rfl,e1,e2⟩:=vals2 r;cases e2;exact sk I e1 ty e fun tk=>⟨.bl b,H,I.tok tk,rfl,q⟩
theorem mj {X:Cx}:fX X (compareOp .IsNot) (fun x y H Q=>∃b c,x= .bl b/\y= .bl c/\Q (.bl (!(b==c))) H):=by
 intro pins s σ H x y v u Q I rx ry h;obtain ⟨b,c,rfl,rfl,q⟩:=h;cases rx;cases ry;have e:(Value.bool b==Value.bool c)=(b==c):=by cases b<;>cases c<;>rfl
 refine wpAny_pure (a:=Value.bool (!(Value.bool b==Value.bool c))) ?_;rw[e];exact ⟨.bl (!(b==c)),H,I,rfl,q⟩
theorem xV {X:Cx}:fX X (compareOp .Is) (fun x y H Q=>∃b c,x= .bl b/\y= .bl c/\Q (.bl (b==c)) H):=by
 intro pins s σ H x y v u Q I rx ry h;obtain ⟨b,c,rfl,rfl,q⟩:=h;cases rx;cases ry;have e:(Value.bool b==Value.bool c)=(b==c):=by cases b<;>cases c<;>rfl
 refine wpAny_pure (a:=Value.bool (Value.bool b==Value.bool c)) ?_;rw[e];exact ⟨.bl (b==c),H,I,rfl,q⟩
end L2
namespace Sw
open PySem L2 XH
end Sw
namespace L2
open PySem PySem.Spec PyProof.Rows XH
end L2
namespace Sw
open PySem L2 XH PyProof.Rows
theorem xW {hd:FU} {H H':Hp} (h:nD hd H) (g:aB H H'):nD hd H':=fun v e=>by
 obtain ⟨a,n,cls,dx,e1,e2⟩:=h v e;exact ⟨a,n,cls,dx,e1,g _ _ e2⟩
theorem du {H H':Hp} {p:Addr} (g:aB H H') (h:H p=none) (o:HO):aB H (aG H' p o):=fun b u q=>by
 rw[aH (dB q h)];exact g b u q
def iR (X:Cx) (scope:Scope) (ys:FQ) (js:List Nat):Prop:=∀(i:Nat) (y:Str),ys[i]?=some y->∃j:Nat,js[i]?=some j/\X.N[j]?=some y/\(X.env.scope.names.lookup y=some .cell∨X.env.scope.names.lookup y=some .free)/\((relabel scope X.env).names.lookup y=some .cell∨(relabel scope X.env).names.lookup y=some .free)
theorem fT {X:Cx} {scope:Scope}:iR X scope [] []:=fun i y h=>by simp at h
theorem fU {X:Cx} {scope:Scope} {ys:FQ} {js:List Nat} {y:Str} {j:Nat} (t:iR X scope ys js) (h1:X.N[j]?=some y:=by rfl) (h2:X.env.scope.names.lookup y=some .cell∨X.env.scope.names.lookup y=some .free:=by first|exact Or.inl rfl|exact Or.inr rfl)
  (h3:(relabel scope X.env).names.lookup y=some .cell∨(relabel scope X.env).names.lookup y=some .free:=by first|exact Or.inl rfl|exact Or.inr rfl):iR X scope (y::ys) (j::js):=fun i z h=>by
 cases i with
 |zero=>
  cases h;exact ⟨j,rfl,h1,h2,h3⟩
 |succ i=>exact t i z h
inductive pN (X:Cx):List (Str×Addr)->Prop where
 |nil:pN X []
 |cons {y:Str} {c:Addr} {cl:List (Str×Addr)} (h:X.env.cells.lookup y=some c) (t:pN X cl):pN X ((y,c)::cl)
theorem pN.all {X:Cx} {cl:List (Str×Addr)} (h:pN X cl):∀p∈cl,X.env.cells.lookup p.1=some p.2:=by
 induction h with
 |nil=>intro p hp;simp at hp
 |cons h _ ih=>
  intro p hp;rcases DG.mp hp with e|e
  ·rw[e];exact h
  ·exact ih p e
theorem cok {X:Cx} {scope:Scope} {cl:List (Str×Addr)} {own:Str} {ys:FQ} {js:List Nat} (a:iR X scope ys js) (s:pN X cl) (nd:(own::ys).Nodup) (len:js.length=ys.length) (clos:closureFor scope X.env=pure cl) (nocell:(scope.names.all fun p=> !(p.2== .cell))=true) (kind:scope.kind= .function)
  (loc:(scope.names.all fun p=> !(p.2== .local)||scope.names.lookup p.1==some .local)=true) (ownL:scope.names.lookup own=some .local) (has:((relabel scope X.env).names.all fun p=> !(p.2== .cell||p.2== .free)||(cl.lookup p.1).isSome)=true) (noown:cl.lookup own=none):hJ X scope cl own ys js:=
 ⟨clos,nocell,kind,loc,ownL,s.all,has,noown,nd,a,len⟩
structure Cg (P:Program) (w:World) (K:D7) (mg:FO) (base:Heap) (CX:qC) (k:Nat) (f:Addr) (ps:FQ) (dvs:List V) (sp:Sp) where
 fd:FuncData
 ok:bf P w K mg base CX k f fd ps sp
 b:Binds K fd ps []
 bd:∃ds,Binds K fd ps ds/\bg dvs ds
section
variable {X:Cx} {k j:Nat} {f C:Addr} {ps:FQ} {sp:Sp} {dvs:List V} {x m:Str} {p pos apos:Pos} {e o:Expr} {es:List Expr} {ta tb:TE} {t:TA}
theorem xX (M:Mk X.K C f) (D:Cg X.prog X.w X.K X.mg X.base a8 k f ps dvs sp) (hr:dQ j X.A) (hk:k+1<=j) (hg:Gl X x) (hm:X.mg x=some (.ref C)) (ha:PA X (e::es) t) (hdb:(x==("__debug__" :Str))=false:=by decide)
  (he:starEach (e::es) X.env=(false,eval e X.env)::starEach es X.env:=by rfl) (hpl:(backTo pos (starEach es X.env)).any (·.1)=false:=by rfl):PE X (.Call (.Name x p) (e::es) [] pos) (xm C sp [] E0 t):=
 vU M D.ok (hr.mono hk) hg hm D.b .nil xo ha hdb he hpl
end
end Sw
namespace L2
open PySem PySem.Spec PyProof.Rows
variable {X:Cx} {pins:FP} {σ:St} {H:Hp} {s:Shared} {h':Heap}
theorem aP.turnedNew {ch:FR} {T:Addr} {o:HO} {t':Nat} (I:aP X pins σ H s) (hf:∀b∈ch,dM X pins H b) (k:∀b u,b∉ch->s.heap.get? b=some u->h'.get? b=some u) (hp:s.heap.objs.size<=T) (new:bM X.prog X.w (aG H T o) h' T o):
  aP X pins σ (aG H T o) {s with heap:=h',toks:=t'}:=by
 have nT:H T=none:=I.hok.fresh hp;have ne:∀b u,H b=some u->b≠T:=fun b u e z=>by rw[z,nT] at e;cases e
 have nch:∀b u,H b=some u->b∉ch:=fun b u e z=>by rw[(hf b z).1] at e;cases e
 have up:∀b u,H b=some u->aG H T o b=some u:=fun b u e=>by rw[aH (ne b u e)];exact e
 refine I.step (g':=s.gens) (d':=s.drawn) (ch:=ch) (fun b hb=>?_) (fun b u _ _ hc e _=>k b u hc e) (fun b u _ _ hc e _=>⟨u.slots,k b u hc e⟩) (fun b u _ e n=>?_)
  (fun b u hc e=>⟨u,k b u hc e⟩) (fun b xs e=>up b _ e) (fun b u v e=>up b _ e) (fun b ps e=>⟨#[],by rw[up b _ e];simp⟩) (fun m hm=>?_) (fun b u e=>?_) I.bare
 ·obtain ⟨f0,f1,f2,f3,f4,f5⟩:=hf b hb;exact ⟨f3,f1,f4,f5⟩
 ·have:b≠T:=DF (Dm (Heap.lt_size e) hp);rw[aH this];exact n
 ·obtain ⟨u,es,ep,ho,r⟩:=hm;exact ⟨u,es,ep,k _ u (fun z=>(hf _ z).2.1 rfl) ho,r⟩
 ·by_cases c:b=T
  ·subst c;rw[ah] at e;cases e;exact new
  ·rw[aH c] at e;refine (I.hok b u e).stay (fun c' v hc q=>k c' v ?_ q) (fun _ q=>up _ _ q) fun _ _ q=>up _ _ q
   rcases hc with z|z
   ·rw[z];exact nch b u e
   ·exact nch c' _ z
theorem aP.turnedAll {ch:FR} {t':Nat} (I:aP X pins σ H s) (hf:∀b∈ch,dM X pins H b) (k:∀b u,b∉ch->s.heap.get? b=some u->h'.get? b=some u):aP X pins σ H {s with heap:=h',toks:=t'}:=by
 have nch:∀b u,H b=some u->b∉ch:=fun b u e z=>by rw[(hf b z).1] at e;cases e
 refine I.step (g':=s.gens) (d':=s.drawn) (ch:=ch) (fun b hb=>?_) (fun b u _ _ hc e _=>k b u hc e) (fun b u _ _ hc e _=>⟨u.slots,k b u hc e⟩) (fun b u _ e n=>n)
  (fun b u hc e=>⟨u,k b u hc e⟩) (fun b xs e=>e) (fun b u v e=>e) (fun b ps e=>⟨#[],by rw[e];simp⟩) (fun m hm=>?_) (fun b u e=>?_) I.bare
 ·obtain ⟨f0,f1,f2,f3,f4,f5⟩:=hf b hb;exact ⟨f3,f1,f4,f5⟩
 ·obtain ⟨u,es,ep,ho,r⟩:=hm;exact ⟨u,es,ep,k _ u (fun z=>(hf _ z).2.1 rfl) ho,r⟩
 ·refine (I.hok b u e).stay (fun c' v hc q=>k c' v ?_ q) (fun _ q=>q) fun _ _ q=>q
  rcases hc with z|z
  ·rw[z];exact nch b u e
  ·exact nch c' _ z
def Ac (K:D7) (l:Addr):It:=
 ⟨fun i H=>∃xs x,aC K H l xs/\xs[i]?=some x,fun i H v H'=>∃(T:Addr) (x:V),v= .ref T/\H T=none/\(∀xs,aC K H l xs->xs[i]?=some x)/\H'=aG H T (.tup [.int i,x]),fun i H=>∃xs,aC K H l xs/\xs.length<=i⟩
theorem sB {P:Program} {w:World} {K:D7} {elts:List Expr} {k:Nat} {pos:Pos} (l e it:Addr) (ne:e≠it):Turn P w K (.Tuple elts k pos) (Ac K l) [e,it] e (fun i h=>(∃old,IsEnum h e it i old)/\h.IsListIter it l i) where
 mem:=by simp
 obj:=fun i h st b hb=>by
  obtain ⟨⟨old,he⟩,o,e1,c,d⟩:=st;rcases DG.mp hb with z|z
  ·subst z;exact ⟨_,he,fun v z=>by cases z⟩
  ·rw[DI.mp z];exact ⟨o,e1,fun v z=>by rw[d] at z;cases z⟩
 keep:=fun i h h' st k=>⟨let ⟨old,he⟩:=st.1;⟨old,k e (by simp) _ he⟩,st.2.at fun o q=>k it (by simp) o q⟩
 item:=by
  intro X hP hw hK hc i pins s σ H E I hf st hg;subst hP hw hK;obtain ⟨xs,x,hq,hx⟩:=hg;obtain ⟨its,rv,p,hz⟩:=I.list hq;obtain ⟨u,hu,ru⟩:=rv.get hx;obtain ⟨⟨old,he⟩,hit⟩:=st;refine wpAny_pyNext_enum_item he hit p.isList (x:=u) (by simpa using hu) ne fun h1 ho hit' hT hsz hk=>?_
  refine ⟨_,rfl,wpAny_letOwnedTupleGo_enum (s:={s with heap:=h1,toks:=s.toks+1}) ho fun h2 he2 hs2=>?_⟩
  have nT:H s.heap.objs.size=none:=I.hok.fresh (D9 _);have el:e<s.heap.objs.size:=Heap.lt_size he;have il:it<s.heap.objs.size:=by obtain ⟨_,q,_⟩:=hit;exact Heap.lt_size q
  have hT2:h2.get? s.heap.objs.size=some {cls:= .type "tuple",data:= .seq #[.int i s.toks,u]}:=(hs2.2 _ (EU el)).trans hT;have kp:∀b o,b∉ [e,it]->s.heap.get? b=some o->h2.get? b=some o:=fun b o hb q=>by
   simp at hb;exact (hs2.2 b hb.1).trans (hk b o hb.1 hb.2 q)
  refine ⟨.ref s.heap.objs.size,aG H s.heap.objs.size (.tup [.int i,x]),I.turnedNew (t':=s.toks+1) (ch:= [e,it]) hf kp (D9 _) ⟨by show 2<=sizeLine;decide,[.int i s.toks,u],.cons ⟨_,rfl⟩ (.cons ru .nil),⟨_,hT2,rfl,0,rfl⟩⟩,rfl,
   ⟨_,x,rfl,nT,fun ys hy=>by rw[I.list_inj hy hq];exact hx,rfl⟩,⟨⟨u,?_⟩,?_⟩,fun b hb=>?_⟩
  ·simpa using he2
  ·exact hit'.at fun o q=>(hs2.2 it (Ne.symm ne)).trans q
  ·have bl:b≠s.heap.objs.size:=by
    rcases DG.mp hb with z|z
    ·rw[z];exact DF el
    ·rw[DI.mp z];exact DF il
   rw[aH bl];exact (hf b hb).1
 done:=by
  intro X hP hw hK hc i pins s σ H E I hf st hg;subst hP hw hK;obtain ⟨xs,hq,hx⟩:=hg;obtain ⟨its,rv,p,hz⟩:=I.list hq;obtain ⟨⟨old,he⟩,hit⟩:=st;have hl:=rv.length;exact wpAny_pyNext_enum_end (I.ok.hd hc) he hit p.isList (by simp;omega) fun h' eb=>⟨rfl,I.turnedAll (t':=s.toks) (ch:= [e,it]) hf fun b o hb q=>eb b o (fun z=>hb (by simp[z])) q⟩
 self:=fun _ _ _ _ _ st h=>let ⟨_,he⟩:=st.1;wpAny_pyIter_enum he h
def Ad (K:D7) (ta:TA):TI:=fun σ H R=>ta σ H fun vs H1=>∃l:Addr,vs= [.ref l]/\(∃xs,aC K H1 l xs)/\R (Ac K l) H1
theorem boot_enumerate:bootBuiltins "enumerate" =some (.type "enumerate"):=by kernel_rfl
theorem we {X:Cx} {a:Expr} {ta:TA} {elts:List Expr} {k:Nat} {tp p pos:Pos} (hg:Gl X "enumerate") (hm:X.mg "enumerate" =none) (ha:PA X [a] ta) (hs:starEach [a] X.env= [(false,eval a X.env)]:=by rfl):PI X (.Tuple elts k tp) (.Call (.Name "enumerate" p) [a] [] pos) (Ad X.K ta):=by
 intro pins s σ H R I h;refine Call_ (dC I hg hm boot_enumerate (Dt (bi (ha pos pins s σ H _ I h) fun us s1 ⟨vs,H1,I1,r1,q1⟩=>?_) hs rfl))
 obtain ⟨l,e,⟨xs,hq⟩,q⟩:=q1;subst e;cases r1 with
 |cons r rr=>
  cases rr;cases r;obtain ⟨its,rv,p1,hz⟩:=I1.list hq;refine call_enumerate_list p1.isList fun h' he hit hsz hk=>?_
  refine wpAny_pyIter_enum (s:={s1 with heap:=h'}) he ?_
  have I2:aP X pins σ H1 {s1 with heap:=h'}:=I1.kept (t':=s1.toks) hk
  refine ⟨s1.heap.objs.size+1,[s1.heap.objs.size+1,s1.heap.objs.size],_,_,H1,rfl,I2,sB l _ _ (Nat.succ_ne_self _),⟨⟨_,by simpa using he⟩,hit⟩,fun b hb=>?_,q⟩
  have bl:s1.heap.objs.size<=b:=by
   rcases DG.mp hb with z|z
   ·rw[z];exact Eu _
   ·rw[DI.mp z];exact D9 _
  exact I1.fpOk bl (I1.hok.fresh bl)
theorem uo {K:D7} {a:Addr} {xs:List V} {g:TG} {tb:TS} {D:Ends} {σ:St} {H:Hp} (Pv:Nat->St->Hp->Prop) (h0:Pv 0 σ H) (hl:∀i σ H,i<=xs.length->Pv i σ H->aC K H a xs)
  (hs:∀i x σ H (T:Addr),xs[i]?=some x->Pv i σ H->H T=none->g (.ref T) σ (aG H T (.tup [.int i,x])) fun σ2 H2=>tb {D with nx:=Pv (i+1),ct:=Pv (i+1),bk:=D.nx} σ2 H2) (hd:∀σ H,Pv xs.length σ H->D.nx σ H):
  ∃W:Nat->Nat->St->Hp->Prop,(∃m,W 0 m σ H)/\∀i m σ H,W i m σ H->
   ((Ac K a).stop i H/\D.nx σ H)∨((Ac K a).go i H/\∃N:St->Hp->Prop,(∀σ' H',N σ' H'->∃m',m'<m/\W (i+1) m' σ' H')/\∀x H',(Ac K a).yld i H x H'->g x σ H' fun σ2 H2=>tb {D with nx:=N,ct:=N,bk:=D.nx} σ2 H2):=by
 refine ⟨fun i m σ H=>m=xs.length-i/\i<=xs.length/\Pv i σ H,⟨xs.length,by simp,Dn _,h0⟩,?_⟩
 rintro i m σ H ⟨rfl,hi,p⟩;have q:=hl i σ H hi p
 by_cases hlt:i<xs.length
 ·refine .inr ⟨⟨xs,xs[i],q,by simp[hlt]⟩,Pv (i+1),fun σ' H' p'=>⟨xs.length-(i+1),by omega,rfl,hlt,p'⟩,fun x H' y=>?_⟩
  obtain ⟨T,z,rfl,nT,hz,rfl⟩:=y;exact hs i z σ H T (hz xs q) p nT
 ·have e:i=xs.length:=by omega
  subst e;exact .inl ⟨⟨xs,q,D9 _⟩,hd σ H p⟩
def zB (K:D7) (l1 l2:Addr):It:=
  ⟨fun i H=>∃xs ys x y,aC K H l1 xs/\aC K H l2 ys/\xs[i]?=some x/\ys[i]?=some y,
   fun i H v H'=>∃(T:Addr) (x y:V),v= .ref T/\H T=none/\(∀xs,aC K H l1 xs->xs[i]?=some x)/\(∀ys,aC K H l2 ys->ys[i]?=some y)/\H'=aG H T (.tup [x,y]),
   fun i H=>∃xs ys,aC K H l1 xs/\aC K H l2 ys/\(xs.length<=i∨ys.length<=i)⟩
structure uq (h:Heap) (z TI TO i1 i2 l1 l2:Addr) (i:Nat):Prop where
 zip:IsZip h z TI TO .none
 ti:IsPair h TI (.ref i1) (.ref i2)
 to:∃a b,IsPair h TO a b
 it1:h.IsListIter i1 l1 i
 it2:h.IsListIter i2 l2 i
theorem iA {h:Heap} {l b:Addr} {its:Array Value} {o:Obj} {n:String} (hl:h.IsList l its) (e:h.get? b=some o) (c:o.cls= .type n) (ne:n≠ "list"):l≠b:=fun z=>by
 obtain ⟨o',e',c',_⟩:=hl;rw[z,e] at e';cases e';rw[c] at c';injection c' with c'
 exact ne c'
theorem uq.apart {h:Heap} {z TI TO i1 i2 l1 l2:Addr} {i:Nat} {xs ys:Array Value} (st:uq h z TI TO i1 i2 l1 l2 i) (d: [z,TI,TO,i1,i2].Nodup) (h1:h.IsList l1 xs) (h2:h.IsList l2 ys):ZipApart z TI TO i1 i2 l1 l2:=by
 obtain ⟨a,b,eto⟩:=st.to;obtain ⟨o1,e1,c1,_⟩:=st.it1;obtain ⟨o2,e2,c2,_⟩:=st.it2;simp only[Eg,DG,DZ,or_false,not_or,List.nodup_nil,and_true] at d;obtain ⟨⟨d1,d2,d3,d4⟩,⟨d5,d6,d7⟩,⟨d8,d9⟩,d10,_⟩:=d;have lz:∀{l:Addr} {its:Array Value},h.IsList l its->l≠z/\l≠TI/\l≠TO/\l≠i1/\l≠i2:=fun hl=>⟨iA hl st.zip rfl (by decide),iA hl st.ti rfl (by decide),iA hl eto rfl (by decide),iA hl e1 c1 (by decide),iA hl e2 c2 (by decide)⟩
 obtain ⟨p1,p2,p3,p4,p5⟩:=lz h1;obtain ⟨q1,q2,q3,q4,q5⟩:=lz h2;constructor<;>first|assumption|exact Ne.symm (by assumption)
theorem ur {P:Program} {w:World} {K:D7} {elts:List Expr} {k:Nat} {pos:Pos} (l1 l2 z TI TO i1 i2:Addr) (d: [z,TI,TO,i1,i2].Nodup):Turn P w K (.Tuple elts k pos) (zB K l1 l2) [z,TI,TO,i1,i2] z (fun i h=>uq h z TI TO i1 i2 l1 l2 i) where
 mem:=by simp
 obj:=fun i h st b hb=>by
  obtain ⟨a,b',eto⟩:=st.to;obtain ⟨o1,e1,c1,d1⟩:=st.it1;obtain ⟨o2,e2,c2,d2⟩:=st.it2;simp only[DG,DZ,or_false] at hb;rcases hb with q|q|q|q|q<;>subst q
  ·exact ⟨_,st.zip,fun v z=>by cases z⟩
  ·exact ⟨_,st.ti,fun v z=>by cases z⟩
  ·exact ⟨_,eto,fun v z=>by cases z⟩
  ·exact ⟨o1,e1,fun v z=>by rw[d1] at z;cases z⟩
  ·exact ⟨o2,e2,fun v z=>by rw[d2] at z;cases z⟩
 keep:=fun i h h' st k=>⟨k _ (by simp) _ st.zip,k _ (by simp) _ st.ti,let ⟨a,b,e⟩:=st.to;⟨a,b,k _ (by simp) _ e⟩,st.it1.at fun o q=>k _ (by simp) o q,st.it2.at fun o q=>k _ (by simp) o q⟩
 item:=by
  intro X hP hw hK hc i pins s σ H E I hf st hg;subst hP hw hK;obtain ⟨xs,ys,x,y,hq1,hq2,hx,hy⟩:=hg;obtain ⟨is1,rv1,p1,hz1⟩:=I.list hq1;obtain ⟨is2,rv2,p2,hz2⟩:=I.list hq2;obtain ⟨u,hu,ru⟩:=rv1.get hx;obtain ⟨v,hv,rv⟩:=rv2.get hy;have ap:=st.apart d p1.isList p2.isList;obtain ⟨a,b,eto⟩:=st.to;refine wpAny_pyNext_zip_item ap st.zip st.ti eto st.it1 st.it2 p1.isList p2.isList (x:=u) (y:=v) (by simpa using hu) (by simpa using hv) fun h1 ho hto hi1 hi2 hT hsz hk=>?_
  refine ⟨_,rfl,wpAny_letOwnedTupleGo_zip (s:={s with heap:=h1}) ho fun h2 hz2' hs2=>?_⟩
  have nT:H s.heap.objs.size=none:=I.hok.fresh (D9 _);have lt:∀b∈ [z,TI,TO,i1,i2],b<s.heap.objs.size:=fun b hb=>by
   obtain ⟨o1,e1,_⟩:=st.it1;obtain ⟨o2,e2,_⟩:=st.it2;simp only[DG,DZ,or_false] at hb;rcases hb with q|q|q|q|q<;>subst q
   ·exact Heap.lt_size st.zip
   ·exact Heap.lt_size st.ti
   ·exact Heap.lt_size eto
   ·exact Heap.lt_size e1
   ·exact Heap.lt_size e2
  have zl:=lt z (by simp)
  have hT2:IsPair h2 s.heap.objs.size u v:=(hs2.2 _ (EU zl)).trans hT;have kp:∀b o,b∉ [z,TI,TO,i1,i2]->s.heap.get? b=some o->h2.get? b=some o:=fun b o hb q=>by
   simp only[DG,DZ,or_false,not_or] at hb;exact (hs2.2 b hb.1).trans (hk b o hb.1 hb.2.2.1 hb.2.2.2.1 hb.2.2.2.2 q)
  have eti:h1.get? TI=some {cls:= .type "tuple",data:= .seq #[.ref i1,.ref i2]}:=hk TI _ ap.TIz ap.TITO ap.TIi1 ap.TIi2 st.ti;refine ⟨.ref s.heap.objs.size,aG H s.heap.objs.size (.tup [x,y]),I.turnedNew (t':=s.toks) (ch:= [z,TI,TO,i1,i2]) hf kp (D9 _) ⟨by show 2<=sizeLine;decide,[u,v],.cons ru (.cons rv .nil),⟨_,hT2,rfl,0,rfl⟩⟩,rfl,
   ⟨_,x,y,rfl,nT,fun ys hy'=>by rw[I.list_inj hy' hq1];exact hx,fun ys hy'=>by rw[I.list_inj hy' hq2];exact hy,rfl⟩,⟨hz2',(hs2.2 _ ap.TIz).trans eti,⟨u,v,(hs2.2 _ ap.TOz).trans hto⟩,hi1.at fun o q=>(hs2.2 _ ap.i1z).trans q,hi2.at fun o q=>(hs2.2 _ ap.i2z).trans q⟩,fun b hb=>?_⟩
  rw[aH (DF (lt b hb))];exact (hf b hb).1
 done:=by
  intro X hP hw hK hc i pins s σ H E I hf st hg;subst hP hw hK;obtain ⟨xs,ys,hq1,hq2,hx⟩:=hg;obtain ⟨is1,rv1,p1,hz1⟩:=I.list hq1;obtain ⟨is2,rv2,p2,hz2⟩:=I.list hq2;have ap:=st.apart d p1.isList p2.isList;obtain ⟨a,b,eto⟩:=st.to;have e1:=rv1.length;have e2:=rv2.length;refine wpAny_pyNext_zip_end (I.ok.hd hc) ap st.zip st.ti eto st.it1 st.it2 p1.isList p2.isList (by rcases hx with q|q;exact .inl (by simp;omega);exact .inr (by simp;omega)) fun h' hk=>⟨rfl,I.turnedAll (t':=s.toks) (ch:= [z,TI,TO,i1,i2]) hf fun b o hb q=>?_⟩
  simp only[DG,DZ,or_false,not_or] at hb;exact hk b o hb.1 hb.2.2.1 hb.2.2.2.1 hb.2.2.2.2 q
 self:=fun _ _ _ _ _ st h=>wpAny_pyIter_zip st.zip h
theorem xY (n:Nat): [n+4,n+2,n+3,n,n+1].Nodup:=by
 simp
def Ch (K:D7) (ta:TA):TI:=fun σ H R=>ta σ H fun vs H1=>∃l1 l2:Addr,vs= [.ref l1,.ref l2]/\(∃xs,aC K H1 l1 xs)/\(∃ys,aC K H1 l2 ys)/\R (zB K l1 l2) H1
theorem boot_zip:bootBuiltins "zip" =some (.type "zip"):=by kernel_rfl
theorem ut {X:Cx} {a b:Expr} {ta:TA} {elts:List Expr} {k:Nat} {tp p pos:Pos} (hg:Gl X "zip") (hm:X.mg "zip" =none) (ha:PA X [a,b] ta) (hs:starEach [a,b] X.env= [(false,eval a X.env),(false,eval b X.env)]:=by rfl) (hs2:starEach [b] X.env= [(false,eval b X.env)]:=by rfl):
  PI X (.Tuple elts k tp) (.Call (.Name "zip" p) [a,b] [] pos) (Ch X.K ta):=by
 intro pins s σ H R I h;refine Call_ (dC I hg hm boot_zip (Dt (bi (ha pos pins s σ H _ I h) fun us s1 ⟨vs,H1,I1,r1,q1⟩=>?_) (by rw[hs,hs2]) (by rw[hs2];rfl)))
 obtain ⟨l1,l2,e,⟨xs,hq1⟩,⟨ys,hq2⟩,q⟩:=q1;subst e;cases r1 with
 |cons r rr=>
  cases rr with
  |cons r' rr=>
   cases rr;cases r;cases r';obtain ⟨is1,rv1,p1,hz1⟩:=I1.list hq1;obtain ⟨is2,rv2,p2,hz2⟩:=I1.list hq2;refine call_zip_2 p1.isList p2.isList fun h' hz hti hto hi1 hi2 hsz hk=>?_
   refine wpAny_pyIter_zip (s:={s1 with heap:=h'}) hz ?_
   have I2:aP X pins σ H1 {s1 with heap:=h'}:=I1.kept (t':=s1.toks) hk
   refine ⟨s1.heap.objs.size+4,[s1.heap.objs.size+4,s1.heap.objs.size+2,s1.heap.objs.size+3,s1.heap.objs.size,s1.heap.objs.size+1],_,_,H1,rfl,I2,ur l1 l2 _ _ _ _ _ (xY _),⟨hz,hti,⟨_,_,hto⟩,hi1,hi2⟩,fun b hb=>?_,q⟩
   have bl:s1.heap.objs.size<=b:=by
    simp only[DG,DZ,or_false] at hb;rcases hb with q|q|q|q|q<;>rw[q]<;>first|exact D9 _|exact Nat.le_add_right _ _
   exact I1.fpOk bl (I1.hok.fresh bl)
theorem wg {K:D7} {l1 l2:Addr} {xs ys:List V} {g:TG} {tb:TS} {D:Ends} {σ:St} {H:Hp} (Pv:Nat->St->Hp->Prop) (h0:Pv 0 σ H) (hl:∀i σ H,i<=min xs.length ys.length->Pv i σ H->aC K H l1 xs/\aC K H l2 ys)
  (hs:∀i x y σ H (T:Addr),xs[i]?=some x->ys[i]?=some y->Pv i σ H->H T=none->g (.ref T) σ (aG H T (.tup [x,y])) fun σ2 H2=>tb {D with nx:=Pv (i+1),ct:=Pv (i+1),bk:=D.nx} σ2 H2) (hd:∀σ H,Pv (min xs.length ys.length) σ H->D.nx σ H):
  ∃W:Nat->Nat->St->Hp->Prop,(∃m,W 0 m σ H)/\∀i m σ H,W i m σ H->
   ((zB K l1 l2).stop i H/\D.nx σ H)∨((zB K l1 l2).go i H/\∃N:St->Hp->Prop,(∀σ' H',N σ' H'->∃m',m'<m/\W (i+1) m' σ' H')/\∀x H',(zB K l1 l2).yld i H x H'->g x σ H' fun σ2 H2=>tb {D with nx:=N,ct:=N,bk:=D.nx} σ2 H2):=by
 refine ⟨fun i m σ H=>m=min xs.length ys.length-i/\i<=min xs.length ys.length/\Pv i σ H,⟨min xs.length ys.length,by simp,Dn _,h0⟩,?_⟩
 rintro i m σ H ⟨rfl,hi,p⟩;obtain ⟨q1,q2⟩:=hl i σ H hi p
 by_cases hlt:i<min xs.length ys.length
 ·refine .inr ⟨⟨xs,ys,xs[i]'(by omega),ys[i]'(by omega),q1,q2,D4 _,D4 _⟩,Pv (i+1),fun σ' H' p'=>⟨min xs.length ys.length-(i+1),by omega,rfl,by omega,p'⟩,fun x H' y=>?_⟩
  obtain ⟨T,a,b,rfl,nT,ha,hb,rfl⟩:=y;exact hs i a b σ H T (ha xs q1) (hb ys q2) p nT
 ·have e:i=min xs.length ys.length:=by omega
  subst e;exact .inl ⟨⟨xs,ys,q1,q2,by omega⟩,hd σ H p⟩
open XH
def Ae (x:Str):It:=⟨fun i _=>i<x.cps.size,fun i H v H'=>H'=H/\∃c,x.cps[i]?=some c/\v= .str ⟨#[c]⟩,fun i _=>i=x.cps.size⟩
theorem uu {P:Program} {w:World} {K:D7} {tg:Expr} {ty:String} (hty:ty= "str_ascii_iterator" ∨ty= "str_iterator") (it:Addr) (x:Str) (t:Tok):Turn P w K tg (Ae x) [it] it (fun i h=>h.IsStrIter it ty x t i) where
 mem:=by simp
 obj:=fun i h st b hb=>by
  have e:b=it:=by simpa using hb
  subst e;obtain ⟨o,e,c,d⟩:=st;exact ⟨o,e,fun v z=>by rw[d] at z;cases z⟩
 keep:=fun i h h' st k=>by
  obtain ⟨o,e,c,d⟩:=st;exact ⟨o,k it (by simp) o e,c,d⟩
 item:=by
  intro X hP hw hK hc i pins s σ H E I hf st hg;subst hP hw hK;obtain ⟨f0,f1,f2,f3,f4,f5⟩:=hf it (by simp)
  have W:Walks X.prog X.w X.A it [it] [it] x.cps.size (SignAt x) (fun i h=>h.IsStrIter it ty x t i):=by
   rcases hty with rfl|rfl
   ·exact Walks.strAscii (I.ok.hd hc) it x t
   ·exact Walks.strWide (I.ok.hd hc) it x t
  refine W.item i s _ _ hg st fun v h' tk hv st' kk=>?_
  obtain ⟨c,u,hc',rfl⟩:=hv;have I1:aP X pins σ H {s with heap:=h',toks:=tk}:=I.turned (fun b o hb e=>kk b o (by simpa using hb) e) f0 f1 f3 f4 f5
  obtain ⟨o,e,c1,d1⟩:=id st';refine ⟨_,rfl,nc (s:={s with heap:=h',toks:=tk}) (n:=ty) e c1 d1 (by rcases hty with rfl|rfl<;>decide) ⟨.str ⟨#[c]⟩,H,I1,⟨u,rfl⟩,⟨rfl,c,hc',rfl⟩,st',fun b hb=>(hf b hb).1⟩⟩
 done:=by
  intro X hP hw hK hc i pins s σ H E I hf st hg;subst hP hw hK;obtain ⟨f0,f1,f2,f3,f4,f5⟩:=hf it (by simp)
  have W:Walks X.prog X.w X.A it [it] [it] x.cps.size (SignAt x) (fun i h=>h.IsStrIter it ty x t i):=by
   rcases hty with rfl|rfl
   ·exact Walks.strAscii (I.ok.hd hc) it x t
   ·exact Walks.strWide (I.ok.hd hc) it x t
  have hg':i=x.cps.size:=hg;subst hg';exact W.done s _ _ st fun h' tk kk=>⟨rfl,I.turned (fun b o hb e=>kk b o (by simpa using hb) e) f0 f1 f3 f4 f5⟩
 self:=fun _ _ _ _ _ st h=>by
  rcases hty with rfl|rfl
  ·exact wpAny_pyIter_striter_ascii st h
  ·exact wpAny_pyIter_striter_wide st h
def Ci (tl:TE):TI:=fun σ H R=>tl σ H fun x H1=>∃z,x= .str z/\R (Ae z) H1
variable {tg:Expr}
theorem xZ {l:Expr} {tl:TE} (hl:PE X l tl):PI X tg l (Ci tl):=by
 intro pins s σ H R I h;refine bi (hl pins s σ H _ I h) fun v s1 ⟨x,H1,I1,r1,q1⟩=>?_
 obtain ⟨z,rfl,q⟩:=q1;obtain ⟨t,rfl⟩:=r1;have fin:∀{ty:String} {o:Obj},(ty= "str_ascii_iterator" ∨ty= "str_iterator")->(s1.heap.push o).IsStrIter s1.heap.objs.size ty z t 0->BZ X pins σ tg R (.ref s1.heap.objs.size) {s1 with heap:=s1.heap.push o}:=fun {ty o} hty st=>by
  refine ⟨s1.heap.objs.size,[s1.heap.objs.size],_,_,H1,rfl,I1.kept (t':=s1.toks) fun b o e=>Heap.get?_push_of_some _ e,uu hty _ z t,st,fun b hb=>?_,q⟩
  have e:b=s1.heap.objs.size:=by simpa using hb
  subst e;exact I1.fpOk (D9 _) (I1.hok.fresh (D9 _))
 cases ha:z.cps.all (· <128)
 ·exact wpAny_pyIter_wide ha (fin (.inr rfl) ⟨_,Heap.get?_push_size _ rfl,rfl,rfl⟩)
 ·exact wpAny_pyIter_ascii ha (fin (.inl rfl) ⟨_,Heap.get?_push_size _ rfl,rfl,rfl⟩)
theorem wj {z:Str} {g:TG} {tb:TS} {D:Ends} {σ:St} {H:Hp} (Pv:Nat->St->Hp->Prop) (h0:Pv 0 σ H)
  (hs:∀i c σ H,z.cps[i]?=some c->Pv i σ H->g (.str ⟨#[c]⟩) σ H fun σ2 H2=>tb {D with nx:=Pv (i+1),ct:=Pv (i+1),bk:=D.nx} σ2 H2) (hd:∀σ H,Pv z.cps.size σ H->D.nx σ H):
  ∃W:Nat->Nat->St->Hp->Prop,(∃m,W 0 m σ H)/\∀i m σ H,W i m σ H->
   ((Ae z).stop i H/\D.nx σ H)∨((Ae z).go i H/\∃N:St->Hp->Prop,(∀σ' H',N σ' H'->∃m',m'<m/\W (i+1) m' σ' H')/\∀x H',(Ae z).yld i H x H'->g x σ H' fun σ2 H2=>tb {D with nx:=N,ct:=N,bk:=D.nx} σ2 H2):=by
 refine ⟨fun i m σ H=>m=z.cps.size-i/\i<=z.cps.size/\Pv i σ H,⟨z.cps.size,by simp,Dn _,h0⟩,?_⟩
 rintro i m σ H ⟨rfl,hi,p⟩
 by_cases hlt:i<z.cps.size
 ·refine .inr ⟨hlt,Pv (i+1),fun σ' H' p'=>⟨z.cps.size-(i+1),by omega,rfl,hlt,p'⟩,fun x H' y=>?_⟩
  obtain ⟨e,c,hc,rfl⟩:=y;subst e;exact hs i c σ _ hc p
 ·have e:i=z.cps.size:=by omega
  subst e;exact .inl ⟨rfl,hd σ H p⟩
def hU (x:Str) (lo hi:Option Int):Str:=⟨((x.cps.toList.drop (HT.eV x.length 0 lo)).take (HT.eV x.length x.length hi-HT.eV x.length 0 lo)).toArray⟩
theorem Af (lo hi:Option Int) (n:Nat):Builtin.Str.strSliceIndices lo hi 1 n=(Dh (HT.eV n n hi-HT.eV n 0 lo)).map (HT.eV n 0 lo+ ·):=by
 have h1:(match lo with|none=>(0:Int)|some i=>max 0 (min (if i<0 then i+(n:Int) else i) n))=((HT.eV n 0 lo:Nat):Int):=by
  cases lo with
  |none=>simp[HT.eV]
  |some i=>
   simp only[HT.eV]
   by_cases h:i<0
   ·simp only[h,if_true]<;>omega
   ·simp only[h,if_false]<;>omega
 have h2:(match hi with|none=>(n:Int)|some i=>max 0 (min (if i<0 then i+(n:Int) else i) n))=((HT.eV n n hi:Nat):Int):=by
  cases hi with
  |none=>simp[HT.eV]
  |some i=>
   simp only[HT.eV]
   by_cases h:i<0
   ·simp only[h,if_true]<;>omega
   ·simp only[h,if_false]<;>omega
 rw[<-sliceRange_one,<-h1,<-h2];cases lo<;>cases hi<;>rfl
theorem nJ (x:Str) (l u:Option (Int×Tok)):(⟨((slicePicked x l u none).filterMap (x.cps[·]?)).toArray⟩:Str)=hU x (l.map (·.1)) (u.map (·.1)):=by
 show (⟨((Builtin.Str.strSliceIndices (l.map (·.1)) (u.map (·.1)) 1 x.length).filterMap (x.cps[·]?)).toArray⟩:Str)=_;rw[Af,pick_run]
 rfl
theorem jg (x:Str) (lo hi:Option Int):(hU x lo hi).length<=x.length:=by
 show ((x.cps.toList.drop _).take _).toArray.size<=x.cps.size;rw[DN,Ds,E6];simp only[Dr];omega
theorem pO (x:Str) (l u:Option (Int×Tok)) (h:(slicePicked x l u none).length=x.length):hU x (l.map (·.1)) (u.map (·.1))=x:=by
 have h':(Builtin.Str.strSliceIndices (l.map (·.1)) (u.map (·.1)) 1 x.length).length=x.length:=h;rw[Af,D3,E8] at h';have hs:HT.eV x.length x.length (u.map (·.1))<=x.length∨x.length<HT.eV x.length x.length (u.map (·.1)):=by omega
 have hu:HT.eV x.length x.length (u.map (·.1))<=x.length:=by
  cases u with
  |none=>exact D9 _
  |some p=>
   show (if p.1<0 then (p.1+(x.length:Int)).toNat else min p.1.toNat x.length)<=x.length
   by_cases hp:p.1<0
   ·rw[if_pos hp];omega
   ·rw[if_neg hp];omega
 unfold hU
 by_cases hx:x.length=0
 ·have e:x.cps.toList= []:=by
   have:x.cps.toList.length=0:=by rw[Dr];exact hx
   exact Dg this
  rw[e,List.drop_nil,List.take_nil];obtain ⟨c⟩:=x;have e':c= #[]:=Array.toList_inj.mp (by simpa using e)
  rw[e']
 ·have h0:HT.eV x.length 0 (l.map (·.1))=0:=by omega
  rw[h0,List.drop_zero,Ee (by rw[Dr];show x.length<=_;omega)]
theorem part_of {v:Value} {o:Option Int} (p:IsPart v o):∃l:Option (Int×Tok),partValue l=v/\l.map (·.1)=o:=by
 cases p with
 |none=>exact ⟨none,rfl,rfl⟩
 |int i t=>exact ⟨some (i,t),rfl,rfl⟩
theorem mr {X:Cx}:BE X (fun x lo hi H Q=>∃z,x= .str z/\z.length<=sizeLine/\Q (.str (hU z lo hi)) H):=by
 intro pins s σ H x v vl vu lo hi sl Q I rx hs pl pu h;obtain ⟨z,rfl,hz,q⟩:=h;obtain ⟨t,rfl⟩:=rx;obtain ⟨l,rfl,rfl⟩:=part_of pl;obtain ⟨u,rfl,rfl⟩:=part_of pu;refine ⟨"str",_,slot_str_getitem.lookup,typeIs_str s z t,?_⟩;refine wpAny_getItem_str_slice (l:=l) (u:=u) (st:=none) hs rfl ?_;unfold sliceMade
 by_cases hw:(slicePicked z l u none).length=z.length
 ·rw[if_pos (by simp[hw])]
  refine ⟨.str (hU z (l.map (·.1)) (u.map (·.1))),H,I,⟨t,by rw[pO z l u hw]⟩,q⟩
 ·rw[if_neg (by simp[hw])]
  rw[nJ];exact ⟨EF (jg _ _ _) hz,.str (hU z (l.map (·.1)) (u.map (·.1))),H,I.tok _,⟨_,rfl⟩,q⟩
end L2
namespace Sw
open PySem PySem.NumText
end Sw
namespace L2
open PySem PySem.Spec PyProof.Rows XH
section
variable {X:Cx} {a b e o:Expr} {es:List Expr} {t te to:TE} {ta:TA} {pos apos cpos:Pos} {x y:Str}
theorem iB:∀{ns:List Int} {us:FS},bg (ns.map V.int) us->IntsAre us ns
 | [],_,h=>by cases h;exact .nil
 |n::ns,_,h=>by
  cases h with
  |cons r rr=>
   obtain ⟨t,rfl⟩:=r;exact .cons _ _ (iB rr)
theorem iS (hc:X.calm=true):dS X (.builtin "max") (fun xs H Q=>∃a ns,xs= [.ref a]/\aC X.K H a (ns.map V.int)/\ns≠ []/\∀M:Int,M∈ns->(∀z∈ns,z<=M)->Q (.int M) H):=by
 intro pins s σ H xs us Q I r h;obtain ⟨a,ns,rfl,h1,hne,q⟩:=h;obtain ⟨u,rfl,r1⟩:=vals1 r;cases r1;obtain ⟨its,rv,p,hz⟩:=I.list h1;have hi:=iB rv;obtain ⟨xs,e⟩:=hi.allInts.items;have lst:xs.toList.map (·.1)=ns:=by
  rw[<-hi.numsOf,<-nums_intItems xs,<-e]
 have len:ns.length=xs.size:=by rw[<-lst,D3,Dr]
 have pos:0<xs.size:=len▸F0.mpr hne;refine max_intList (I.ok.hd hc) (xs:=xs) (by have z:=p.isList;rw[e] at z;exact z) pos fun v h' tk hv hk=>?_
 obtain ⟨t,rfl⟩:=intItems_at hv;have best:=argBest_gt (numAt xs) (xs.size-1);refine ⟨.int _,H,I.kept (h':=h') (t':=tk) hk,⟨_,rfl⟩,q _ ?_ fun z hz=>?_⟩
 ·have m:=best.1;rw[<-lst,numAt_eq];refine getD_mem ?_;rw[lst,len];omega
 ·rw[<-lst] at hz;obtain ⟨j,hj,rfl⟩:=mem_getD hz;rw[lst,len] at hj;have m:=best.2 j (by omega)
  rw[numAt_eq] at m;exact m
theorem uv {z:Str} {p:Pos} (hg:Gl X x) (h:∃t,X.mg x=some (.str z t)) (hd:(x==("__debug__" :Str))=false:=by decide):PE X (.Name x p) (tC (.str z)):=by
 obtain ⟨t,h⟩:=h;exact jv hg h ⟨t,rfl⟩ hd
theorem c6 {i:Int} {p:Pos} (hg:Gl X x) (h:∃t,X.mg x=some (.int i t)) (hd:(x==("__debug__" :Str))=false:=by decide):PE X (.Name x p) (tC (.int i)):=by
 obtain ⟨t,h⟩:=h;exact jv hg h ⟨t,rfl⟩ hd
end
def Ag (a:Addr) (o:Obj) (kvs:List (Key×V)):It:=
 ⟨fun i H=>H a=some (.frz o (.dK kvs))/\i<kvs.length,fun i H v H'=>H'=H/\∃k x,kvs[i]?=some (k,x)/\v=kV k,fun i H=>H a=some (.frz o (.dK kvs))/\i=kvs.length⟩
theorem qG {P:Program} {w:World} {k:Key} {u:Value} (h:(aJ P w).is k u=true):RelV (kV k) u:=by
 rcases b7 h with ⟨i,t,rfl,rfl⟩|⟨x,t,rfl,rfl⟩
 ·exact ⟨t,rfl⟩
 ·exact ⟨t,rfl⟩
theorem ux {κ:Type}:∀{kvs:List (κ×V)} {vs:List (κ×Value)} (r:KV kvs vs) (i:Nat) {k:κ} {x:V},kvs[i]?=some (k,x)->∃u,vs[i]?=some (k,u)/\RelV x u
 |_,_,.nil,i,k,x,h=>by simp at h
 |_,_,.cons (b:=q) r t,0,k,x,h=>by
  simp at h;subst h;obtain ⟨q1,q2⟩:=q;have e:k=q1:=r.1;subst e;exact ⟨q2,by simp,r.2⟩
 |_,_,.cons r t,i+1,k,x,h=>by
  obtain ⟨u,e,rx⟩:=ux t i (by simpa using h)
  exact ⟨u,by simpa using e,rx⟩
theorem iC {X:Cx} {pins:FP} {σ:St} {H:Hp} {s:Shared} {a:Addr} {o:Obj} {kvs:List (Key×V)} {es0:Array DictEntry} {ep:Nat} (I:aP X pins σ H s) (h:H a=some (.frz o (.dK kvs))) (hd:o.data= .dict es0 ep):
  ∃vs,KV kvs vs/\s.heap.DictAt (aJ X.prog X.w) a vs ep:=by
 obtain ⟨ho,z,y,vs,rel,ob,es,ep',e,c,d,rest⟩:=(show bM X.prog X.w H s.heap a (.frz o (.dK kvs)) from I.hok a _ h)
 rw[ho] at e;cases e;have e2:ep'=ep:=by rw[hd] at d;cases d;rfl
 subst e2;exact ⟨vs,rel,o,es,ho,c,d,rest⟩
theorem sC {P:Program} {w:World} {K:D7} {tg:Expr} (it a:Addr) (o:Obj) (kvs:List (Key×V)) {es0:Array DictEntry} {ep:Nat} (hd:o.data= .dict es0 ep):Turn P w K tg (Ag a o kvs) [it] it (fun i h=>h.IsKeyIter it a i kvs.length ep) where
 mem:=by simp
 obj:=fun i h st b hb=>by
  have e:b=it:=by simpa using hb
  subst e;obtain ⟨o,e,c,d⟩:=st;exact ⟨o,e,fun v z=>by rw[d] at z;cases z⟩
 keep:=fun i h h' st k=>by
  obtain ⟨o,e,c,d⟩:=st;exact ⟨o,k it (by simp) o e,c,d⟩
 item:=by
  intro X hP hw hK hc i pins s σ H E I hf st hg;subst hP hw hK;obtain ⟨f0,f1,f2,f3,f4,f5⟩:=hf it (by simp)
  obtain ⟨hz,hlt⟩:=hg;obtain ⟨vs,rel,D⟩:=iC I hz hd;obtain ⟨⟨k,x⟩,hx⟩:∃p,kvs[i]?=some p:=⟨kvs[i],D4 hlt⟩;obtain ⟨u,hu,_⟩:=ux rel i hx;have st':=st;rw[rel.length] at st';refine wpAny_pyNext_dict_item st' D hu fun key h' hkey hit' hs'=>?_
  rw[<-rel.length] at hit';have I1:aP X pins σ H {s with heap:=h',toks:=s.toks}:=I.turned (fun b ob hb e=>hs'.extBut b ob hb e) f0 f1 f3 f4 f5
  obtain ⟨oi,ei,ci,di⟩:=id hit';exact ⟨_,rfl,nc (s:={s with heap:=h'}) (n:= "dict_keyiterator") ei ci di (by decide) ⟨kV k,H,I1,qG hkey,⟨rfl,k,x,hx,rfl⟩,hit',fun b hb=>(hf b hb).1⟩⟩
 done:=by
  intro X hP hw hK hc i pins s σ H E I hf st hg;subst hP hw hK;obtain ⟨f0,f1,f2,f3,f4,f5⟩:=hf it (by simp)
  obtain ⟨hz,rfl⟩:=hg;obtain ⟨vs,rel,D⟩:=iC I hz hd;rw[rel.length] at st;refine wpAny_pyNext_dict_end (I.ok.hd hc) st D (by simp) fun h' he'=>⟨rfl,I.turned (t':=s.toks) (fun b ob hb e=>he' b ob hb e) f0 f1 f3 f4 f5⟩
 self:=fun _ _ _ _ _ st h=>wpAny_pyIter_keyiter st h
def NF (X:Cx) (a:Addr):Prop:=∀o u,X.H₀ a≠some (.frz o u)
theorem aP.nf {X:Cx} {pins:FP} {σ:St} {H:Hp} {s:Shared} {a:Addr} {kvs:List (Key×V)} (I:aP X pins σ H s) (h:H a=some (.dK kvs)):NF X a:=fun o u e=>by
 have:=I.base.frzs a o u e;rw[h] at this;cases this
theorem aP.freeze {X:Cx} {pins:FP} {σ:St} {H:Hp} {s:Shared} {a:Addr} {kvs:List (Key×V)} {o:Obj} (I:aP X pins σ H s) (h:H a=some (.dK kvs)) (ho:s.heap.get? a=some o):aP X pins σ (aG H a (.frz o (.dK kvs))) s:=by
 refine I.un (H':=aG H a (.frz o (.dK kvs))) (h':=s.heap) (t':=s.toks) ⟨fun b ob q n _ _=>q,fun b ob q n _ _=>⟨ob.slots,q⟩,fun b ob q n _=>?_,fun b ob q _=>⟨ob,q⟩,fun b xs q=>?_,fun b ob u q=>?_,fun b ps q=>⟨#[],?_⟩⟩ ?_
 ·rw[aH (fun z=>by subst z;rw[h] at n;cases n)];exact n
 ·rw[aH (fun z=>by subst z;rw[h] at q;cases q)];exact q
 ·rw[aH (fun z=>by subst z;rw[h] at q;cases q)];exact q
 ·rw[aH (fun z=>by subst z;rw[h] at q;cases q),q];simp
 ·intro b u q
  by_cases hb:b=a
  ·subst hb;rw[ah] at q;cases q;exact ⟨ho,(I.hok b _ h).stay (fun _ _ _ q=>q) (fun c q=>by rw[aH (fun z=>by subst z;rw[h] at q;cases q)];exact q) fun c xs q=>by rw[aH (fun z=>by subst z;rw[h] at q;cases q)];exact q⟩
  ·rw[aH hb] at q;exact (I.hok b _ q).stay (fun _ _ _ q=>q) (fun c q=>by rw[aH (fun z=>by subst z;rw[h] at q;cases q)];exact q) fun c xs q=>by rw[aH (fun z=>by subst z;rw[h] at q;cases q)];exact q
theorem aP.thaw {X:Cx} {pins:FP} {σ:St} {H:Hp} {s:Shared} {a:Addr} {kvs:List (Key×V)} {o:Obj} (I:aP X pins σ H s) (h:H a=some (.frz o (.dK kvs))) (nf:NF X a):aP X pins σ (aG H a (.dK kvs)) s:=by
 have hn:∀{b:Addr} {u:HO},H b=some u->(∀o' v,u≠ .frz o' v)->aG H a (.dK kvs) b=some u:=fun {b u} q n=>by
  rw[aH (fun z=>by subst z;rw[h] at q;cases q;exact n _ _ rfl)];exact q
 have hf:∀{b:Addr},H b=none->aG H a (.dK kvs) b=none:=fun {b} n=>by
  rw[aH (fun z=>by subst z;rw[h] at n;cases n)];exact n
 refine ⟨I.ok,I.os,I.bare,⟨I.base.keep,I.base.slot,fun b ob q n hx=>hf (I.base.free b ob q n hx),I.base.there,fun b xs q=>hn (I.base.tups b xs q) (fun _ _ z=>nomatch z),fun b ob u q=>?_,fun b ps q=>?_⟩,I.loc,I.cell,hf I.free,fun y c e=>hf (I.freeC y c e),fun p hp=>?_,?_,I.len⟩
 ·have q':=I.base.frzs b ob u q;rw[aH (fun z=>by subst z;exact nf _ _ q)]
  exact q'
 ·obtain ⟨more,q'⟩:=I.base.tbls b ps q;exact ⟨more,hn q' (fun _ _ z=>nomatch z)⟩
 ·obtain ⟨p1,p2,p3⟩:=I.pin p hp;exact ⟨p1,hf p2,p3⟩
 ·intro b u q
  by_cases hb:b=a
  ·subst hb;rw[ah] at q;cases q;obtain ⟨_,q2⟩:=(show bM X.prog X.w H s.heap b (.frz o (.dK kvs)) from I.hok b _ h)
   exact bM.stay (o:= .dK kvs) q2 (fun _ _ _ q=>q) (fun c q=>hn q (fun _ _ z=>nomatch z)) fun c xs q=>hn q (fun _ _ z=>nomatch z)
  ·rw[aH hb] at q;exact (I.hok b _ q).stay (fun _ _ _ q=>q) (fun c q=>hn q (fun _ _ z=>nomatch z)) fun c xs q=>hn q (fun _ _ z=>nomatch z)
def Ah (X:Cx) (tl:TE):TI:=fun σ H R=>tl σ H fun x H1=>∃a kvs,x= .ref a/\H1 a=some (.dK kvs)/\∀o,NF X a->R (Ag a o kvs) (aG H1 a (.frz o (.dK kvs)))
variable {X:Cx} {tg:Expr}
theorem wm {l:Expr} {tl:TE} (hl:PE X l tl):PI X tg l (Ah X tl):=by
 intro pins s σ H R I h;refine bi (hl pins s σ H _ I h) fun v s1 ⟨x,H1,I1,r1,q1⟩=>?_
 obtain ⟨a,kvs,rfl,hk,q⟩:=q1;cases r1;obtain ⟨z,y,vs,rel,ob,es,ep,e,c,d,rest⟩:=(show bM X.prog X.w H1 s1.heap a (.dK kvs) from I1.hok a _ hk)
 have D:s1.heap.DictAt (aJ X.prog X.w) a vs ep:=⟨ob,es,e,c,d,rest⟩;have I2:=I1.freeze hk e;refine wpAny_pyIter_dict y D ?_;refine ⟨s1.heap.objs.size,[s1.heap.objs.size],_,_,_,rfl,I2.kept (t':=s1.toks) fun b o e=>Heap.get?_push_of_some _ e,sC _ a ob kvs d,⟨_,Heap.get?_push_size _ rfl,rfl,by rw[rel.length];rfl⟩,fun b hb=>?_,q ob (I1.nf hk)⟩
 have e:b=s1.heap.objs.size:=by simpa using hb
 subst e;exact I2.fpOk (D9 _) (I2.hok.fresh (D9 _))
def BI (X:Cx) (P:Hp->Prop) (H:Hp):Prop:=∃a o kvs,H a=some (.frz o (.dK kvs))/\NF X a/\P (aG H a (.dK kvs))
def Cj (X:Cx) (D:Ends):Ends:={nx:=fun σ=>BI X (D.nx σ),bk:=fun σ=>BI X (D.bk σ),ct:=fun σ=>BI X (D.ct σ),rt:=fun v=>BI X (D.rt v)}
theorem pP {X:Cx} {st:Stmt} {t:TS} (h:PS X st t):PS X st (fun D σ H=>t (Cj X D) σ H):=by
 intro pins s σ H D I q;refine bi (h pins s σ H _ I q) fun f s1 q1=>?_
 cases f with
 |next=>
  obtain ⟨σ',H',I',a,o,kvs,e,nf,p⟩:=q1;exact ⟨σ',_,I'.thaw e nf,p⟩
 |brk=>
  obtain ⟨σ',H',I',a,o,kvs,e,nf,p⟩:=q1;exact ⟨σ',_,I'.thaw e nf,p⟩
 |cont=>
  obtain ⟨σ',H',I',a,o,kvs,e,nf,p⟩:=q1;exact ⟨σ',_,I'.thaw e nf,p⟩
 |ret u=>
  obtain ⟨v,σ',H',I',r,a,o,kvs,e,nf,p⟩:=q1;exact ⟨v,σ',_,I'.thaw e nf,r,p⟩
theorem uy {a:Addr} {o:Obj} {kvs:List (Key×V)} {g:TG} {tb:TS} {D:Ends} {σ:St} {H:Hp} (Pv:Nat->St->Hp->Prop) (h0:Pv 0 σ H) (hz:∀i σ H,i<=kvs.length->Pv i σ H->H a=some (.frz o (.dK kvs)))
  (hs:∀i k x σ H,kvs[i]?=some (k,x)->Pv i σ H->g (kV k) σ H fun σ2 H2=>tb {D with nx:=Pv (i+1),ct:=Pv (i+1),bk:=D.nx} σ2 H2) (hd:∀σ H,Pv kvs.length σ H->D.nx σ H):
  ∃W:Nat->Nat->St->Hp->Prop,(∃m,W 0 m σ H)/\∀i m σ H,W i m σ H->
   ((Ag a o kvs).stop i H/\D.nx σ H)∨((Ag a o kvs).go i H/\∃N:St->Hp->Prop,(∀σ' H',N σ' H'->∃m',m'<m/\W (i+1) m' σ' H')/\∀x H',(Ag a o kvs).yld i H x H'->g x σ H' fun σ2 H2=>tb {D with nx:=N,ct:=N,bk:=D.nx} σ2 H2):=by
 refine ⟨fun i m σ H=>m=kvs.length-i/\i<=kvs.length/\Pv i σ H,⟨kvs.length,by simp,Dn _,h0⟩,?_⟩
 rintro i m σ H ⟨rfl,hi,p⟩
 by_cases hlt:i<kvs.length
 ·refine .inr ⟨⟨hz i σ H hi p,hlt⟩,Pv (i+1),fun σ' H' p'=>⟨kvs.length-(i+1),by omega,rfl,hlt,p'⟩,fun x H' y=>?_⟩
  obtain ⟨e,k,v,hk,rfl⟩:=y;subst e;exact hs i k v σ _ hk p
 ·have e:i=kvs.length:=by omega
  subst e;exact .inl ⟨⟨hz _ σ H hi p,rfl⟩,hd σ H p⟩
section
variable {a b c d:Expr} {ta tb tc td:TE} {pos:Pos}
def wo (r r' r'':R2) (ta tb tc td:TE):TE:=fun σ H Q=>ta σ H fun x H1=>tb σ H1 fun y H2=>r x y H2 fun z H3=>∃k,z= .bl k/\
 (if k=true then tc σ H3 fun w H4=>r' y w H4 fun z' H5=>∃k',z'= .bl k'/\(if k'=true then td σ H5 fun v H6=>r'' w v H6 Q else Q (.bl false) H5) else Q (.bl false) H3)
theorem sD {o1 o2 o3:CmpOp} {r r' r'':R2} (h1:fX X (compareOp o1) r) (h2:fX X (compareOp o2) r') (h3:fX X (compareOp o3) r'') (ha:PE X a ta) (hb:PE X b tb) (hc:PE X c tc) (hd:PE X d td)
  (hm:lastMarks [o1,o2,o3] [b,c,d]=false:=by with_unfolding_all rfl):PT X (.Compare a [o1,o2,o3] [b,c,d] pos) (tV (wo r r' r'' ta tb tc td)):=by
 intro pins s σ H Q I h;refine isTrue_chain (bi (ha pins s σ H _ I h) fun v s1 ⟨x,H1,I1,r1,q1⟩=>test_link (bi (hb pins s1 σ H1 _ I1 q1) fun u s2 ⟨y,H2,I2,r2,q2⟩=>
  bi (h1 pins s2 σ H2 x y v u _ I2 r1 r2 q2) fun e1 s3 ⟨z,H3,I3,r3,k,e,q3⟩=>?_)) hm
 subst e;cases r3;refine wpAny_truthy_bool ?_;cases k with
 |false=>
  obtain ⟨k',e',q'⟩:=q3;cases e';exact ite_ff ⟨H3,I3,q'⟩
 |true=>
  refine ite_tt (test_link (bi (hc pins s3 σ H3 _ I3 q3) fun w' s4 ⟨z',H4,I4,r4,q4⟩=>bi (h2 pins s4 σ H4 y z' u w' _ I4 r2 r4 q4) fun d' s5 ⟨z2,H5,I5,r5,k2,e2,q5⟩=>?_))
  subst e2;cases r5;refine wpAny_truthy_bool ?_;cases k2 with
  |false=>
   obtain ⟨k',e',q'⟩:=q5;cases e';exact ite_ff ⟨H5,I5,q'⟩
  |true=>
   refine ite_tt (test_last (bi (hd pins s5 σ H5 _ I5 q5) fun w2 s6 ⟨z3,H6,I6,r6,q6⟩=>bi (h3 pins s6 σ H6 z' z3 w' w2 _ I6 r4 r6 q6) fun d2 s7 ⟨z4,H7,I7,r7,k3,e3,q7⟩=>?_))
   subst e3;cases r7;exact wpAny_truthy_bool ⟨H7,I7,q7⟩
end
theorem jK {X:Cx}:dS X (.type "dict") (fun xs H Q=>∃(d:Addr) (kvs:List (Key×V)),xs= [.ref d]/\H d=some (.dK kvs)/\∀p,H p=none->Q (.ref p) (aG H p (.dK kvs))):=by
 intro pins s σ H xs us Q I r h;obtain ⟨d,kvs,rfl,hd,q⟩:=h;cases r with
 |cons r rr=>
  cases rr;cases r;obtain ⟨z,y,vs,rel,D⟩:=nz I.hok hd;refine kt_call_dict y D (by rw[<-rel.length];exact z) fun h' hm hs=>?_
  have kp:∀b o,s.heap.get? b=some o->h'.get? b=some o:=fun b o e=>(hs.2 b (DF (Heap.lt_size e))).trans (Heap.get?_push_of_some _ e)
  have big:(s.heap.objs.size==sysModules)=false:=by
   have:=I.big;exact beq_eq_false_iff_ne.mpr (EU this)
  exact ⟨.ref s.heap.objs.size,_,I.laid (o:= .dK kvs) (t':=s.toks) kp (D9 _) ⟨z,big,vs,rel,hm⟩,rfl,q _ I.fresh⟩
def x4:V->List V->Hp->VK->Prop:=fun x vs H Q=>∃(d:Addr) (kvs:List (Key×V)),x= .ref d/\vs= []/\H d=some (.dK kvs)/\∀v,H v=none->Q (.ref v) (aG H v (.ext fun h=>h.IsItemsView v d))
theorem nK {X:Cx}:BG X "dict.items" x4:=by
 intro pins s σ H x vs v us Q I rx rv h;obtain ⟨d,kvs,rfl,rfl,hd,q⟩:=h;cases rx;have hus:=rv.zero;subst hus;obtain ⟨z,y,ws,rel,D⟩:=nz I.hok hd;refine call_meetsIn PySem.F.slot_dict_items D.typeIs PySem.F.entry_dict_items (PySem.F.args_dict_items_1 _) (meets_dict_items (aJ X.prog X.w) d y) ⟨⟨ws,D⟩,?_⟩;refine ⟨.ref s.heap.objs.size,_,I.laid (o:= .ext fun h=>h.IsItemsView s.heap.objs.size d) (t':=s.toks) (fun b o e=>Heap.get?_push_of_some _ e) (D9 _) ⟨⟨_,Heap.get?_push_size _ rfl,rfl,rfl⟩,⟨_,Heap.get?_push_size _ rfl⟩,fun h1 h2 ⟨o,e,c,f⟩ k=>⟨o,k o e,c,f⟩⟩,rfl,q _ I.fresh⟩
def Itm (a:Addr) (o:Obj) (kvs:List (Key×V)):It:=
 ⟨fun i H=>H a=some (.frz o (.dK kvs))/\i<kvs.length,fun i H v H'=>∃(T:Addr) (k:Key) (x:V),v= .ref T/\H T=none/\kvs[i]?=some (k,x)/\H'=aG H T (.tup [kV k,x]),fun i H=>H a=some (.frz o (.dK kvs))/\i=kvs.length⟩
theorem jL:entryFor table "dict_itemiterator.__iter__" =some Builtin.«dict_keyiterator.__iter__» :=
 entryFor_alias (id':= "dict_keyiterator.__iter__") (by kernel_rfl) rfl (by decide+kernel) (by kernel_rfl)
theorem ku {prog:Program} {w:World} {A:Around} {E:FN} {s:Shared} {it d:Addr} {i n ep:Nat} {ok ov:Value} {Q:FN} (e:IsItemIter s.heap it d i n ep ok ov) (h:Q (.ref it) s):wpAny (model prog w) A (pyIter (.ref it)) Q E s:=by
 have T:s.TypeIs (.ref it) "dict_itemiterator" :=⟨_,e,rfl⟩;refine wpAny_pyIter_slot T PySem.F.slot_dict_itemiterator_iter (wpAny_call_entry PySem.F.slot_dict_itemiterator_iter T jL ?_ (PySem.F.args_dict_itemiterator_iter_1 _));exact (show wpAny _ _ (ret (.ref it)) _ _ s from wpAny_pure ⟨_,rfl,"dict_itemiterator",_,T,PySem.F.slot_dict_itemiterator_next.lookup,h⟩)
theorem pQ {P:Program} {w:World} {K:D7} {elts:List Expr} {kk:Nat} {pos:Pos} (it a:Addr) (o:Obj) (kvs:List (Key×V)) {es0:Array DictEntry} {ep:Nat} (hd:o.data= .dict es0 ep):Turn P w K (.Tuple elts kk pos) (Itm a o kvs) [it] it (fun i h=>∃ok ov,IsItemIter h it a i kvs.length ep ok ov) where
 mem:=by simp
 obj:=fun i h st b hb=>by
  have e:b=it:=by simpa using hb
  subst e;obtain ⟨ok,ov,e⟩:=st;exact ⟨_,e,fun v z=>by cases z⟩
 keep:=fun i h h' st k=>by
  obtain ⟨ok,ov,e⟩:=st;exact ⟨ok,ov,k it (by simp) _ e⟩
 item:=by
  intro X hP hw hK hc i pins s σ H E I hf st hg;subst hP hw hK;obtain ⟨hz,hlt⟩:=hg;obtain ⟨vs,rel,D⟩:=iC I hz hd;obtain ⟨⟨k,x⟩,hx⟩:∃p,kvs[i]?=some p:=⟨kvs[i],D4 hlt⟩;obtain ⟨u,hu,ru⟩:=ux rel i hx;obtain ⟨ok,ov,st'⟩:=st;rw[rel.length] at st';refine wpAny_pyNext_items_item st' D hu fun key h1 hkey ho hT hsz hk=>?_
  refine ⟨_,rfl,wpAny_letOwnedTupleGo_items (s:={s with heap:=h1}) ho fun h2 he2 hs2=>?_⟩
  have nT:H s.heap.objs.size=none:=I.hok.fresh (D9 _);have il:it<s.heap.objs.size:=Heap.lt_size st';have hT2:h2.get? s.heap.objs.size=some {cls:= .type "tuple",data:= .seq #[key,u]}:=(hs2.2 _ (EU il)).trans hT;have kp:∀b o,b∉ [it]->s.heap.get? b=some o->h2.get? b=some o:=fun b o hb q=>by
   simp at hb;exact (hs2.2 b hb).trans (hk b o hb q)
  rw[<-rel.length] at he2;refine ⟨.ref s.heap.objs.size,aG H s.heap.objs.size (.tup [kV k,x]),I.turnedNew (t':=s.toks) (ch:= [it]) hf kp (D9 _) ⟨by show 2<=sizeLine;decide,[key,u],.cons (qG hkey) (.cons ru .nil),⟨_,hT2,rfl,0,rfl⟩⟩,rfl,
   ⟨_,k,x,rfl,nT,hx,rfl⟩,⟨_,_,he2⟩,fun b hb=>?_⟩
  have bl:b≠s.heap.objs.size:=by
   rw[DI.mp hb];exact DF il
  rw[aH bl];exact (hf b hb).1
 done:=by
  intro X hP hw hK hc i pins s σ H E I hf st hg;subst hP hw hK;obtain ⟨hz,rfl⟩:=hg;obtain ⟨vs,rel,D⟩:=iC I hz hd;obtain ⟨ok,ov,st'⟩:=st;rw[rel.length] at st';refine wpAny_pyNext_items_end (I.ok.hd hc) st' D (by simp) fun h' he'=>⟨rfl,I.turnedAll (t':=s.toks) (ch:= [it]) hf fun b o hb q=>he' b o (fun z=>hb (by simp[z])) q⟩
 self:=fun A i s Q E st h=>by
  obtain ⟨ok,ov,e⟩:=st;exact ku e h
def x5 (X:Cx) (tl:TE):TI:=fun σ H R=>tl σ H fun x H1=>∃(v d:Addr) (kvs:List (Key×V)),x= .ref v/\H1 v=some (.ext fun h=>h.IsItemsView v d)/\H1 d=some (.dK kvs)/\∀o,NF X d->R (Itm d o kvs) (aG H1 d (.frz o (.dK kvs)))
theorem nL {X:Cx} {l:Expr} {tl:TE} {elts:List Expr} {kk:Nat} {tp:Pos} (hl:PE X l tl):PI X (.Tuple elts kk tp) l (x5 X tl):=by
 intro pins s σ H R I h;refine bi (hl pins s σ H _ I h) fun u s1 ⟨x,H1,I1,r1,q1⟩=>?_
 obtain ⟨v,a,kvs,rfl,hv,hk,q⟩:=q1;cases r1;obtain ⟨z,y,vs,rel,ob,es,ep,e,c,d,rest⟩:=(show bM X.prog X.w H1 s1.heap a (.dK kvs) from I1.hok a _ hk)
 have D:s1.heap.DictAt (aJ X.prog X.w) a vs ep:=⟨ob,es,e,c,d,rest⟩;have I2:=I1.freeze hk e;obtain ⟨view,_⟩:=(show bM X.prog X.w H1 s1.heap v (.ext fun h=>h.IsItemsView v a) from I1.hok v _ hv)
 refine wpAny_pyIter_items view D ?_;refine ⟨s1.heap.objs.size,[s1.heap.objs.size],_,_,_,rfl,I2.kept (t':=s1.toks) fun b o e=>Heap.get?_push_of_some _ e,pQ _ a ob kvs d,⟨_,_,by rw[rel.length];exact Heap.get?_push_size _ rfl⟩,fun b hb=>?_,q ob (I1.nf hk)⟩
 have e:b=s1.heap.objs.size:=by simpa using hb
 subst e;exact I2.fpOk (D9 _) (I2.hok.fresh (D9 _))
end L2
namespace So
open PySem PyProof.Rows
end So
namespace Sw
open PySem L2 XH PySem.NumText
def sL (z:Str):List Nat:=z.cps.toList
def Ck (l:List Nat):Str:=⟨l.toArray⟩
theorem mw (z:Str):(sL z).length=z.length:=by simp[sL,Str.length]
theorem jM (x y:Str):sL (x++y)=sL x++sL y:=by
 show (x.cps++y.cps).toList=_;rw[Array.toList_append]
 rfl
theorem Ai:Str.empty=Ck []:=rfl
theorem x6 (z:Str) (c:Nat):(!(Builtin.Str.occurrences z (Ck [c]) 0 z.length 1).isEmpty)=decide (c∈sL z):=StrLaws.found_one z c
theorem C6 {b:Bool} {A B:Prop} (h1:b=false->A) (h2:b=true->B):if (!b)=true then A else B:=by
 cases b with
 |false=>exact cL (h1 rfl)
 |true=>exact cP (h2 rfl)
end Sw
namespace L2
open PySem PySem.Spec PyProof.Rows XH
def iU (js:List Nat) (tc:TT) (te:TE) (σ:St) (Q:VK):It->Hp->Prop:=fun J H1=>∀p,H1 p=none->∃W:Nat->Nat->List V->Hp->Prop,(∃m,W 0 m [] (aG H1 p (.lst [])))/\
 ∀i m ys H2,W i m ys H2->H2 p=some (.lst ys)/\((J.stop i H2/\Q (.ref p) H2)∨(J.go i H2/\ys.length<sizeLine/\∀x H3,J.yld i H2 x H3->tc (some x::aM js σ) H3 fun b H4=>
  if b=true then te (some x::aM js σ) H4 fun y H5=>H5 p=some (.lst ys)/\∃m',m'<m/\W (i+1) m' (ys++ [y]) (aG H5 p (.lst (ys++ [y]))) else ∃m',m'<m/\W (i+1) m' ys H4))
def qH (wi:TI) (js:List Nat) (tc:TT) (te:TE):TE:=fun σ H Q=>wi σ H (iU js tc te σ Q)
section
variable {prog:Program} {w:World} {A:Around} {R:Result->Shared->Prop} {s:Shared}
theorem jh {elt target iter cond:Expr} {scope:Scope} {pos:Pos} {it acc:Value} {env:Env} (I:Nat->Shared->Prop)
  (turn:∀n s,I n s->wpAny (model prog w) A (pyNext it) (fun r s1=>match r with
   |none=>R (.ok .next) s1
   |some v=>wpAny (model prog w) A (letOwnedTupleGo target it v) (fun _ s2=>wpAny (model prog w) A (assign target env v) (fun _ s3=>wpAny (model prog w) A (isTrue cond env (eval cond env)) (fun ok s4=>
     if ok=true then wpAny (model prog w) A (eval elt env) (fun x s5=>wpAny (model prog w) A (call (.builtin "list.append") [acc,x]) (fun _ s6=>∃m,m<n/\I m s6) (fun _ _=>False) s5) (fun _ _=>False) s4
     else ∃m,m<n/\I m s4) (fun _ _=>False) s3) (fun _ _=>False) s2) (fun _ _=>False) s1) (fun _ _=>False) s)
  (n:Nat) (h:I n s):codeAny (model prog w) A (.compLoop (.ListComp elt [⟨target,iter,[cond],0⟩] scope pos) 0 it acc env) R s:=by
 apply codeAny_loop rfl I ?_ n h;intro n s hI;show wpAny _ _ ((compTurn (.ListComp elt [⟨target,iter,[cond],0⟩] scope pos) 0 it acc env).onRaise _) _ _ s;apply wpAny_noted;rw[compTurn_list];apply wpAny_bind;apply wpAny_standAt;apply wpAny_bind;refine wpAny_mono (turn n s hI) (fun r s1 h1=>?_) fun _ _ z=>z.elim
 cases r with
 |none=>exact wpAny_pure h1
 |some v=>
  apply wpAny_bind;refine wpAny_mono h1 (fun _ s2 h2=>?_) fun _ _ z=>z.elim
  apply wpAny_bind;refine wpAny_mono h2 (fun _ s3 h3=>?_) fun _ _ z=>z.elim
  apply wpAny_bind;refine wpAny_mono (wpAny_tests_one h3) (fun ok s4 h4=>?_) fun _ _ z=>z.elim
  cases ok with
  |true=>
   apply wpAny_bind;apply wpAny_bind;refine wpAny_mono h4 (fun x s5 h5=>?_) fun _ _ z=>z.elim
   apply wpAny_bind;refine wpAny_mono h5 (fun _ s6 h6=>?_) fun _ _ z=>z.elim
   exact wpAny_pure (wpAny_pure ⟨rfl,h6⟩)
  |false=>
   have h4':∃m,m<n/\I m s4:=h4;exact wpAny_pure ⟨rfl,h4'⟩
end
variable {X:Cx} {scope:Scope} {cl:List (Str×Addr)} {own:Str} {ys:FQ} {js:List Nat} {elt iter cond:Expr} {px pos:Pos} {wi:TI} {te:TE} {tc:TT}
theorem sE (hc:X.calm=true) (ok:hJ X scope cl own ys js) (hi:PI X (.Name own px) iter wi)
  (hq:∀(C:Addr) (fp:FR) (s:Shared) (H:Hp),PT (X.block scope cl C (own::ys) own fp s H) cond tc)
  (he:∀(C:Addr) (fp:FR) (s:Shared) (H:Hp),PE (X.block scope cl C (own::ys) own fp s H) elt te)
  (hs:∀x,foldedSetIterable iter X.env x=pure x:=by intro _;rfl):PE X (.ListComp elt [⟨.Name own px,iter,[cond],0⟩] scope pos) (qH wi js tc te):=by
 intro pins s σ H Q I h;rw[eval_ListComp];have ncell:∀y∈scope.names,y.2≠ .cell:=fun y hy z=>by
  have q:=DD.mp ok.nocell y hy;rw[z] at q;simp at q
 have nloc:∀y∈scope.names,y.2= .local->scope.names.lookup y.1=some .local:=fun y hy z=>by
  have q:=DD.mp ok.loc y hy;rw[z] at q
  simpa using q
 refine wpAny_comprehension_free (use:=none) rfl hs ok.clos ok.kind nloc (bi (hi pins s σ H _ I h) fun v s1 h1=>bi h1 fun itv s2 h2=>?_)
 obtain ⟨it,fp,tn,J,H2,rfl,I2,T,st2,f2,q2⟩:=h2;obtain ⟨W,⟨m0,w0⟩,turn⟩:=q2 s2.heap.objs.size (I2.hok.fresh (D9 _));refine wpAny_newObj_type (wpAny_newFunctionEnv ncell (by intro y hy;simp at hy) (fun h1 hns hsb=>?_) ok.kind)
 have I3:=I2.laid (a:=s2.heap.objs.size) (o:= .lst []) (h':=s2.heap.push {cls:= .type "list",dict:=none,data:= .seq ([]:FS).toArray}) (t':=s2.toks) (fun b u q=>Heap.get?_push_of_some _ q) (D9 _)
  ⟨Dn _,[],0,.nil,Heap.get?_push_size _ rfl⟩
 have fpo:∀b∈fp,b<s2.heap.objs.size:=fun b hb=>by
  obtain ⟨o,e,_⟩:=T.obj 0 _ st2 b hb;exact Heap.lt_size e
 have f3:∀b∈fp,dM X pins (aG H2 s2.heap.objs.size (.lst [])) b:=fun b hb=>⟨by rw[aH (DF (fpo b hb))];exact (f2 b hb).1,(f2 b hb).2⟩
 generalize hs3:({s2 with heap:=s2.heap.push {cls:= .type "list",dict:=none,data:= .seq ([]:FS).toArray},toks:=s2.toks}:Shared)=s3 at I3
 have e3:s3.heap=s2.heap.push {cls:= .type "list",dict:=none,data:= .seq ([]:FS).toArray}:=by rw[<-hs3]
 have lt3:∀b∈fp,b<s3.heap.objs.size:=fun b hb=>by rw[e3,Heap.size_push];exact E3 (fpo b hb)
 dsimp only at hns hsb⊢;rw[<-e3] at hns hsb;have hk:∀b o,s3.heap.get? b=some o->h1.get? b=some o:=fun b o e=>hsb.extBut b o (DF (Heap.lt_size e)) (Heap.get?_push_of_some _ e)
 have J0:=d0 (h1:=h1) ok I3 f3 lt3 hns hk (s2.toks+0);have t0:tn 0 h1:=T.keep 0 _ _ st2 fun b hb o e=>hk b o (by rw[e3];exact Heap.get?_push_of_some _ e)
 have fpB:∀{H':Hp},(∀b∈fp,H' b=none)->∀b∈fp,dM (X.block scope cl s3.heap.objs.size (own::ys) own fp s3 (aG H2 s2.heap.objs.size (.lst []))) [] H' b:=fun {H'} hn b hb=>
  ⟨hn b hb,DF (lt3 b hb),fun z=>(DG.mp (I3.stkSub b z)).elim (f3 b hb).2.1 (f3 b hb).2.2.1,.inl hb,fun x c e=>(f3 b hb).2.2.2.2.1 x c (ok.sub (x,c) (Dq e)),fun p hp=>absurd (show p∈([]:FP) from hp) (by simp)⟩
 have loop:codeAny (model X.prog X.w) X.A (.compLoop (.ListComp elt [⟨.Name own px,iter,[cond],0⟩] scope pos) 0 (.ref it) (.ref s2.heap.objs.size) (compEnvC scope cl s3.heap.objs.size X.env))
   (compPost (model X.prog X.w) X.A X.xe none (EP X pins σ Q) (.ref s2.heap.objs.size) s3.heap.objs.size) {s3 with heap:=h1,toks:=s2.toks+0}:=by
  refine jh (fun n s'=>∃i zs o0 H',aP (X.block scope cl s3.heap.objs.size (own::ys) own fp s3 (aG H2 s2.heap.objs.size (.lst []))) [] (o0::aM js σ) H' s'/\tn i s'.heap/\(∀b∈fp,H' b=none)/\W i n zs H') ?_ m0
   ⟨0,[],none,_,J0,t0,fun b hb=>(f3 b hb).1,w0⟩
  rintro n s5 ⟨i,zs,o0,H5,I5,t5,n5,w5⟩;obtain ⟨hD,hw⟩:=turn i n zs H5 w5;rcases hw with ⟨stop,qn⟩|⟨go,hz,step⟩
  ·refine bi (T.done (X.block scope cl s3.heap.objs.size (own::ys) own fp s3 (aG H2 s2.heap.objs.size (.lst []))) rfl rfl rfl hc i [] s5 _ H5 (fun _ _=>False) I5 (fpB n5) t5 stop) fun r s6 ⟨hr,I6⟩=>?_
   subst hr;obtain ⟨m,hn,_⟩:=id I6.loc;exact ⟨m,hn,fun h' hs'=>⟨V.ref s2.heap.objs.size,H5,fE I3 f3 I6 hs',rfl,qn⟩⟩
  ·refine bi (T.item (X.block scope cl s3.heap.objs.size (own::ys) own fp s3 (aG H2 s2.heap.objs.size (.lst []))) rfl rfl rfl hc i [] s5 _ H5 (fun _ _=>False) I5 (fpB n5) t5 go) fun r s6 ⟨u,hr,h6⟩=>?_
   subst hr;refine bi h6 fun _ s7 ⟨x,H7,I7,r7,y7,t7,n7⟩=>?_
   have I7':=I7.pinned (fpB n7) (T.obj _ _ t7);have hst:=step x H7 y7;have own':(relabel scope X.env).names.lookup own=some .local:=lookup_relabel_local ok.ownL;refine bi (dw (X:=X.block scope cl s3.heap.objs.size (own::ys) own fp s3 (aG H2 s2.heap.objs.size (.lst []))) (i:=0) (x:=own) (pos:=px) ok.nd rfl (.inl own') (.inr own') _ s7 _ H7 x u (fun σ' H'=>σ'=some x::aM js σ/\H'=H7) I7' r7 ⟨rfl,rfl⟩) fun _ s8 ⟨σ8,H8,I8,e8,eH8⟩=>?_
   subst e8 eH8;refine bi (hq _ _ _ _ _ s8 _ H8 _ I8 hst) fun ok s9 ⟨H9,I9,h9⟩=>?_
   have frame:∀{s':Shared} {H':Hp},aP (X.block scope cl s3.heap.objs.size (own::ys) own fp s3 (aG H2 s2.heap.objs.size (.lst []))) ([]++iM fp s7.heap) (some x::aM js σ) H' s'->tn (i+1) s'.heap/\∀b∈fp,H' b=none:=fun {s' H'} I'=>
    ⟨T.keep _ _ _ t7 fun b hb o e=>(I'.pin (b,o) (DA _ (DA _ (bz hb e)))).1,fun b hb=>by
     obtain ⟨o,e,d⟩:=T.obj _ _ t7 b hb;exact (I'.pin (b,o) (DA _ (DA _ (bz hb e)))).2.1⟩
   cases ok with
   |true=>
    refine bi (he _ _ _ _ _ s9 _ H9 _ I9 h9) fun yv s10 ⟨y,H10,I10,r10,hD10,m',hm,w10⟩=>?_
    refine bi (a6 _ s10 _ H10 (.ref s2.heap.objs.size) [y] (.ref s2.heap.objs.size) [yv] (fun _ H'=>H'=aG H10 s2.heap.objs.size (.lst (zs++ [y]))) I10 rfl (.cons r10 .nil) ⟨_,zs,y,rfl,rfl,hD10,hz,rfl⟩) fun _ s11 ⟨_,H11,I11,_,e11⟩=>?_
    subst e11;exact ⟨m',hm,i+1,zs++ [y],some x,_,I11.unpinned,(frame I11).1,(frame I11).2,w10⟩
   |false=>
    obtain ⟨m',hm,w10⟩:=h9;exact ⟨m',hm,i+1,zs,some x,_,I9.unpinned,(frame I9).1,(frame I9).2,w10⟩
 subst hs3;exact codeAny_compStart_list loop (T.self _ 0 _ _ _ t0 loop)
theorem wp:typeLookup (.type "list_reverseiterator") "__len__" =pure none:=by
 rw[typeLookup_type,builtinLookup_eq_fast]
 kernel_rfl
theorem uz:typeLookup (.type "list_reverseiterator") "__length_hint__" =pure (some (.builtin "list_reverseiterator.__length_hint__")):=by
 rw[typeLookup_type,builtinLookup_eq_fast]
 kernel_rfl
section
variable {prog:Program} {w:World} {A:Around} {R:Result->Shared->Prop} {s:Shared} {I l S:Addr} {items:Array Value}
abbrev x8 (items:Array Value):Nat->Value->Prop:=fun i v=>items[items.size-1-i]?=some v
theorem pR (hh:A.in1.handled=none) (hlI:l≠I) (hSI:S≠I) (hSl:S≠l) (res:Value) (c:Nat) (hit:s.heap.IsRevIter I l ((items.size:Int)-1)) (hl:s.heap.IsList l items)
  (hS:s.heap.get? S=some {cls:= .type "list",data:= .seq #[] c}) (hn:items.size<=sizeLine)
  (fin:∀s' acc c',Moved [S,I] (fun a b=>b=a) s s'->s'.heap.get? S=some {cls:= .type "list",dict:=none,data:= .seq acc c',slots:= #[]}->ItemsOf (x8 items) acc items.size->R (.ok (.ret res)) s'):
  wpAny (model prog w) A.in1 (Builtin.List.listExtendWith (.ref S) (.ref I) res)
   (fun fin s'=>match fin with| .done f=>R (.ok f) s'| .again c'=>c'.quiet=true/\codeAny (model prog w) A c' R s') (fun e s'=>R (.error e) s') s:=by
 have ty:s.TypeIs (.ref I) "list_reverseiterator" :=hit.typeIs;have ns:Builtin.List.listSameRef (.ref S) (.ref I)=false:=by
  simp[Builtin.List.listSameRef,hSI]
 unfold Builtin.List.listExtendWith;apply wpAny_bind;apply wpAny_typeOf ty;rw[if_neg (by rw[ns];decide)]
 apply wpAny_bind;apply wpAny_pyIter_revIter hit;apply wpAny_bind;apply wpAny_holding;unfold Builtin.List.listLengthHint;apply wpAny_bind;apply wpAny_specialOf ty wp;show wpAny _ _ (specialOf (Value.ref I) (Str.ofString "__length_hint__")>>=_) _ _ s;apply wpAny_bind;apply wpAny_specialOf ty uz;generalize hid:("list_reverseiterator.__length_hint__" :String)=id0
 wp_delta
 rw[show splitId id0=some ("list_reverseiterator","__length_hint__") from by subst hid;decide+kernel]
 subst hid;apply wpAny_bind;refine wpAny_isInstance (b:=true) ty (by rw[isSubtype_type];kernel_rfl) ?_
 apply wpAny_pure;rw[if_neg (by decide)]
 have W:=(Walks.listRev (prog:=prog) (w:=w) hh I l hlI items).toS;have out:S∉ [I,l]:=by
  simp only[DG,DZ,or_false,not_or];exact ⟨hSI,hSl⟩
 have st:(0:Nat)<=items.size/\s.heap.IsRevIter I l ((items.size:Int)-1-((0:Nat):Int))/\s.heap.IsList l items:=⟨Dn _,by simpa using hit,hl⟩
 apply wpAny_pure;refine ⟨plainId_quiet PySem.F.plain_extend_loop _,?_⟩;exact codeAny_extend_loopS W hn S out res items.size 0 s #[] c rfl (Dn _) st hS (ItemsOf.nil _) fin
theorem uA {E:FN} {Q:FN} (hh:A.handled=none) (hlI:l≠I) (hit:s.heap.IsRevIter I l ((items.size:Int)-1)) (hl:s.heap.IsList l items) (hn:items.size<=sizeLine)
  (fin:∀h' tk acc c',(∀b o,b≠I->s.heap.get? b=some o->h'.get? b=some o)->h'.get? s.heap.objs.size=some {cls:= .type "list",dict:=none,data:= .seq acc c',slots:= #[]}->ItemsOf (x8 items) acc items.size->Q (.ref s.heap.objs.size) {s with heap:=h',toks:=tk}):
  wpAny (model prog w) A (call (.type "list") [.ref I]) Q E s:=by
 have lI:I<s.heap.objs.size:=by
  obtain ⟨o,e,_⟩:=hit;exact Heap.lt_size e
 have ll:l<s.heap.objs.size:=by
  obtain ⟨o,e,_⟩:=hl;exact Heap.lt_size e
 refine callType_codes (Q₁:=fun v s1=>v= .ref s.heap.objs.size/\s1={s with heap:=s.heap.push {cls:= .type "list",data:= .seq #[]}}) PySem.F.called_list (PySem.F.typeCall_list_1 _) PySem.F.entry_list_init (code_list_new _ ⟨rfl,rfl⟩) ?_
 rintro v s1 ⟨rfl,rfl⟩;have e0:(s.heap.push {cls:= .type "list",data:= .seq #[]}).get? s.heap.objs.size=some {cls:= .type "list",data:= .seq #[]}:=Heap.get?_push_size _ rfl;refine ⟨⟨_,e0,rfl⟩,PySem.F.args_list_init_2 _ _,?_⟩;show wpAny _ _ (Builtin.List.listItems (.ref s.heap.objs.size)>>=fun old=>Builtin.List.listUpdate (.ref s.heap.objs.size) (fun _=> #[])>>=fun _=>letGo old.toList.reverse>>=fun _=>Builtin.List.listExtendWith (.ref s.heap.objs.size) (.ref I) .none) _ _ _
 apply wpAny_bind;unfold Builtin.List.listItems;apply wpAny_bind;apply wpAny_seqItems e0 rfl;apply wpAny_pure;show wpAny _ _ (updateSeq s.heap.objs.size (fun _=> #[])>>=fun _=>letGo (#[]:Array Value).toList.reverse>>=fun _=>Builtin.List.listExtendWith (.ref s.heap.objs.size) (.ref I) .none) _ _ _
 apply wpAny_bind;apply wpAny_updateSeq e0 rfl;have e1:=Heap.get?_update_self (Obj.mapSeq (fun _=>(#[]:Array Value))) e0 rfl
 have old:∀b o,b≠s.heap.objs.size->s.heap.get? b=some o->((s.heap.push {cls:= .type "list",data:= .seq #[]}).update s.heap.objs.size (Obj.mapSeq (fun _=>(#[]:Array Value)))).get? b=some o:=fun b o hb e=>
  (Heap.get?_update_other _ _ (Ne.symm hb)).trans (Heap.get?_push_of_some _ e)
 apply wpAny_bind;apply wpAny_letGo;refine pR (A:=A.in1) (by simpa using hh) hlI (EU lI) (EU ll) .none _ ?_ ?_ e1 hn fun s' acc c' mv eS it=>?_
 ·obtain ⟨o,e,z⟩:=hit;exact ⟨o,old _ _ (DF lI) e,z⟩
 ·obtain ⟨o,e,z⟩:=hl;exact ⟨o,old _ _ (DF ll) e,z⟩
 ·obtain ⟨h',g',d',tk',os'⟩:=s';have eg:g'=s.gens:=mv.gens;have ed:d'=s.drawn:=mv.drawn;have eo:os'=s.os:=mv.os;subst eg ed eo;refine ⟨rfl,fin h' tk' acc c' (fun b o hb e=>?_) eS it⟩
  refine mv.heap b o ?_ (old b o (DF (Heap.lt_size e)) e);simp only[DG,DZ,or_false,not_or];exact ⟨DF (Heap.lt_size e),hb⟩
end
theorem nM:∀{xs:List V} {us:FS},bg xs us->bg xs.reverse us.reverse
 |_,_,.nil=> .nil
 |_,_,.cons r t=>by
  rw[List.reverse_cons,List.reverse_cons];exact (nM t).append (.cons r .nil)
theorem sF {us:FS} {acc:Array Value} (h:ItemsOf (x8 us.toArray) acc us.toArray.size):acc.toList=us.reverse:=by
 obtain ⟨h1,h2⟩:=h;refine List.ext_getElem? fun i=>?_
 by_cases hi:i<acc.size
 ·have e:=h2 i acc[i] (Array.getElem?_eq_getElem hi);rw[EJ,Array.getElem?_eq_getElem hi,List.getElem?_reverse (by simpa [h1] using hi)]
  simpa using e.symm
 ·rw[EY (by simpa using hi),EY (by rw[Dv];simp[h1] at hi;omega)]
def Cl (K:D7) (te:TE):TE:=fun σ H Q=>te σ H fun x H1=>∃a xs,x= .ref a/\aC K H1 a xs/\∀l,H1 l=none->Q (.ref l) (aG H1 l (.lst xs.reverse))
section
variable {e:Expr} {p1 p2 pos2:Pos}
theorem hV (hc:X.calm=true) (g1:Gl X "list") (m1:X.mg "list" =none) (g2:Gl X "reversed") (m2:X.mg "reversed" =none) (b1:bootBuiltins "list" =some (.type "list")) (b2:bootBuiltins "reversed" =some (.type "reversed")) (he:PE X e te)
  (hs:starEach [e] X.env= [(false,eval e X.env)]:=by rfl):
  PE X (.Call (.Name "list" p1) [.Call (.Name "reversed" p2) [e] [] pos2] [] pos) (Cl X.K te):=by
 intro pins s σ H Q I h;apply wpAny_Call_Name_kw;refine dC I g1 m1 b1 ?_ (by decide) (by decide)
 refine Dt ?_ rfl rfl;refine Calls.spliced_cons (x:=eval (.Call (.Name "reversed" p2) [e] [] pos2) X.env) (rest:= []) ?_;apply wpAny_Call_Name_kw;refine dC I g2 m2 b2 ?_ (by decide) (by decide)
 refine Dt ?_ hs rfl;rw[hs];refine Calls.spliced_cons (x:=eval e X.env) (rest:= []) (bi (he pins s σ H _ I h) fun v s1 ⟨x,H1,I1,r1,a,xs,ex,hq,q⟩=>?_)
 subst ex;cases r1;apply Calls.spliced_nil;obtain ⟨its,rv,pl,hz⟩:=I1.list hq;have hli:s1.heap.IsList a its.toArray:=pl.isList;have alt:a<s1.heap.objs.size:=by
  obtain ⟨o,eo,_⟩:=id hli;exact Heap.lt_size eo
 apply call_reversed_list hli;apply Calls.spliced_nil;have I2:aP X pins σ H1 {s1 with heap:=s1.heap.push (revObj a ((its.toArray.size:Int)-1)),toks:=s1.toks}:=I1.kept fun b o e=>Heap.get?_push_of_some _ e
 have sz:its.toArray.size=xs.length:=by rw[DN,rv.length]
 refine uA (l:=a) (items:=its.toArray) (I.ok.hd hc) (DF alt) ⟨_,Heap.get?_push_size _ rfl,rfl,rfl⟩ (hli.push _) (by rw[sz];exact hz) fun h' tk acc c' kp eL itm=>?_
 have er:=sF itm;have sl:s1.heap.objs.size<=(s1.heap.push (revObj a ((its.toArray.size:Int)-1))).objs.size:=by
  rw[Heap.size_push];exact Eu _
 refine ⟨.ref _,_,I1.laid (a:=(s1.heap.push (revObj a ((its.toArray.size:Int)-1))).objs.size) (o:= .lst xs.reverse) (h':=h') (t':=tk) (fun b o eo=>kp b o (DF (Heap.lt_size eo)) (Heap.get?_push_of_some _ eo)) sl ?_,rfl,q _ (I1.hok.fresh sl)⟩
 refine ⟨by rw[Dv];exact hz,acc.toList,c',by rw[er];exact nM rv,?_⟩
 rw[Array.toArray_toList];exact eL
end
def upTo (ks:Nat->Key) (i:Nat):Key->Bool:=fun k=>(Dh i).any fun j=>decide (ks j=k)
theorem sG (ks:Nat->Key) (i:Nat):(fun k=>upTo ks i k||decide (k=ks i))=upTo ks (i+1):=by
 funext k
 unfold upTo;rw[F4,ER];simp[eq_comm]
section
variable {prog:Program} {w:World} {A:Around} {R:Result->Shared->Prop} {I:Addr} {fp wr:FR} {G:Array GenState->Array GenState->Prop} {n:Nat} {P:Nat->Value->Prop} {St:Nat->Shared->Prop}
theorem uB (W:WalksS prog w A.in1 I fp wr G n P St) (S:Addr) (out:S∉fp) (ks:Nat->Key) (hv:∀i v,P i v->(aJ prog w).is (ks i) v=true/\v.scannable=true)
  (inj:∀i,i<n->upTo ks i (ks i)=false) (hb:n+1<scanBound):∀(m i:Nat) (s:Shared),n-i=m->i<=n->St i s->s.heap.SetOf (aJ prog w) S (upTo ks i) i->
   (∀s',Moved (S::wr) G s s'->s'.heap.SetOf (aJ prog w) S (upTo ks n) n->R (.ok (.ret .none)) s')->codeAny (model prog w) A (.builtin "set.update.loop" ⟨[.ref S,.ref I],[]⟩) R s:=by
 have nw:S∉wr:=fun h=>out (W.sub _ h)
 have up:∀b∈wr,b∈S::wr:=fun b hb=> .tail _ hb
 have stay:∀{s1 s2:Shared} {f:Key->Bool} {c:Nat},s1.heap.SetOf (aJ prog w) S f c->Moved wr G s1 s2->s2.heap.SetOf (aJ prog w) S f c:=by
  rintro s1 s2 f c ⟨o,es,ep,t,ho,z⟩ mv;exact ⟨o,es,ep,t,mv.heap S _ nw ho,z⟩
 intro m
 induction m with
 |zero=>
  intro i s hm hi st hS fin;have e:i=n:=by omega
  subst e;apply codeAny_builtin F.entry_set_update_loop;rw[Around.under_plainId F.plain_set_update_loop _];show wpAny _ _ (pyNext (.ref I)>>=_) _ _ s;apply wpAny_bind;refine W.done s _ _ st fun s' mv=>?_
  exact wpAny_pure (fin s' (mv.mono up) (stay hS mv))
 |succ m ih=>
  intro i s hm hi st hS fin;have lt:i<n:=by omega
  apply codeAny_builtin F.entry_set_update_loop;rw[Around.under_plainId F.plain_set_update_loop _];show wpAny _ _ (pyNext (.ref I)>>=_) _ _ s;apply wpAny_bind;refine W.item i s _ _ lt st fun v s' pv st' mv=>?_
  obtain ⟨kv,sc⟩:=hv i v pv;show wpAny _ _ (holding [v] (setAdd S v)>>=_) _ _ s';apply wpAny_bind;apply wpAny_holding;unfold setAdd;apply wpAny_holding;apply wpAny_bind;refine (aJ prog w).pyHash (k:=ks i) kv ?_;refine wpAny_setAddHashed_of (knd:=aJ prog w) (s:={s' with toks:=s'.toks+1}) kv sc (show Heap.SetOf (aJ prog w) s'.heap S (upTo ks i) i from stay hS mv) (by omega) fun h' same S2=>?_
  have S3:h'.SetOf (aJ prog w) S (upTo ks (i+1)) (i+1):=by
   rw[sG,inj i lt] at S2;exact S2
  apply wpAny_pure;refine ⟨plainId_quiet F.plain_set_update_loop _,ih (i+1) _ (by omega) lt (W.frame _ s' _ _ st' (Eu _) fun b hb o e=>?_) S3 fun s'' mv2 S4=>?_⟩
  ·exact (same.2 b fun z=>out (z▸hb)).trans e
  ·exact fin s'' (Moved.trans W.gtrans ((mv.mono up).then_heap (Eu _) fun b o hb e=>(same.2 b fun z=>hb (z▸Dk)).trans e) mv2) S4
end
section
variable {prog:Program} {w:World} {A:Around} {E:FN} {s:Shared}
set_option maxHeartbeats 3200000 in
theorem sH {l:Addr} {items:Array Value} {ks:Nat->Key} {Q:FN} (hh:A.handled=none) (hl:s.heap.IsList l items) (hv:∀i v,items[i]?=some v->(aJ prog w).is (ks i) v=true/\v.scannable=true)
  (inj:∀i,i<items.size->upTo ks i (ks i)=false) (hb:items.size+1<scanBound)
  (fin:∀(h':Heap) (tk:Nat),h'.SetOf (aJ prog w) s.heap.objs.size (upTo ks items.size) items.size->(∀b o,b<s.heap.objs.size->s.heap.get? b=some o->h'.get? b=some o)->Q (.ref s.heap.objs.size) {s with heap:=h',toks:=tk}):
  wpAny (model prog w) A (call (.type "set") [.ref l]) Q E s:=by
 obtain ⟨c0,tl0,mro⟩:=F.called_set.mro;have made:=F.called_set.made;have subt:=F.called_set.sub;apply wpAny_call;apply codeAny_of_tree;show wpAny _ _ (callAny (.type "set") _) _ _ _;apply wpAny_pure;refine ⟨Code.quiet_builtin _ (by decide+kernel),codeAny_builtin F.entry_type_call ?_⟩
 rw[Around.under_plain (weight_type_call_type "set" [.ref l] []) rfl];have nt:=F.called_set.notType;have cc:=F.called_set.canCreate;have tc:=F.typeCall_set_1 (.ref l)
 repeat any_goals first|assumption|wp_step
 refine codeAny_mono (code_set_new_1 (.ref l) (E:=E) (Q₁:=fun v s1=>∃led:Bool,v= .ref s.heap.objs.size/\s1={s with heap:=s.heap.push {cls:= .type "set",dict:=none,data:= .set #[] 0 (.fresh 0 0 led)}}) fun led=>⟨led,rfl,rfl⟩) fun r s1 hr=>?_
 cases r with
 |error e=>exact hr
 |ok fl=>
  cases fl with
  |ret v=>
   obtain ⟨led,rfl,rfl⟩:=hr;have e0:(s.heap.push {cls:= .type "set",dict:=none,data:= .set #[] 0 (.fresh 0 0 led)}).get? s.heap.objs.size=some {cls:= .type "set",dict:=none,data:= .set #[] 0 (.fresh 0 0 led)}:=Heap.get?_push_size _ rfl;have tS:Shared.TypeIs {s with heap:=s.heap.push {cls:= .type "set",dict:=none,data:= .set #[] 0 (.fresh 0 0 led)}} (.ref s.heap.objs.size) "set" :=⟨_,e0,rfl⟩
   have lk:=F.called_set.init.lookup;have bd:=F.called_set.init.bind (.ref s.heap.objs.size)
   repeat any_goals first|assumption|wp_step
   refine codeAny_mono (codeAny_call_builtin (R:=wants (fun r s2=>r= .none/\∃h' tk,s2={s with heap:=h',toks:=tk}/\h'.SetOf (aJ prog w) s.heap.objs.size (upTo ks items.size) items.size/\∀b o,b<s.heap.objs.size->s.heap.get? b=some o->h'.get? b=some o) E) F.called_set.init.plain F.entry_set_init (check_set_init_1 tS ?_)) fun r2 s2 hr2=>?_
   ·obtain ⟨⟨lc,ld,lx,ls⟩,hol,hcl,nl,hdl⟩:=hl;simp only at hcl hdl;subst hcl hdl;have el:(s.heap.push {cls:= .type "set",dict:=none,data:= .set #[] 0 (.fresh 0 0 led)}).get? l=some {cls:= .type "list",dict:=ld,data:= .seq items nl,slots:=ls}:=Heap.get?_push_of_some _ hol;have n1:=F.sub_list_set;have n2:=F.sub_list_frozenset;have n3:(Value.type "list" ==Value.type "dict")=false:=by decide
    have il:(s.heap.push {cls:= .type "set",dict:=none,data:= .set #[] 0 (.fresh 0 0 led)}).IsList l items:=⟨_,el,rfl,nl,rfl⟩;unfold Builtin.«set.__init__» noKeywords Builtin.Frozenset.updateFrom;generalize hit:pyIter=PI
    wp_walk
    subst hit;apply wpAny_pyIter_list il;apply wpAny_bind;apply wpAny_runValue;have ll:l<s.heap.objs.size:=Heap.lt_size hol;have h3:A.in1.in1.in1.handled=none:=by simpa using hh
    have nI:l≠(s.heap.push {cls:= .type "set",dict:=none,data:= .set #[] 0 (.fresh 0 0 led)}).objs.size:=by
     rw[Heap.size_push];exact DF (E3 ll)
    have out:s.heap.objs.size∉ [(s.heap.push {cls:= .type "set",dict:=none,data:= .set #[] 0 (.fresh 0 0 led)}).objs.size,l]:=by
     rw[Heap.size_push];simp only[DG,not_or];exact ⟨DF (Nat.lt_succ_self _),EU ll,DZ⟩
    refine uB ((Walks.list h3 _ l nI items).toS) s.heap.objs.size out ks hv inj hb items.size 0 _ rfl (Dn _) ⟨⟨_,Heap.get?_push_size _ rfl,rfl,rfl⟩,il.push _⟩ ?_ ?_
    ·have e1:((s.heap.push {cls:= .type "set",dict:=none,data:= .set #[] 0 (.fresh 0 0 led)}).push {cls:= .type "list_iterator",data:= .fields #[.ref l,.int 0 0]}).get? s.heap.objs.size=some {cls:= .type "set",dict:=none,data:= .set #[] 0 (.fresh 0 0 led)}:=
      Heap.get?_push_of_some _ e0
     refine ⟨_,#[],0,_,e1,⟨rfl,rfl,rfl⟩,rfl,(fun e he=>by simp at he),(fun k=>by simp[upTo]),by decide,rfl,rfl⟩
    ·intro s' mv S2;obtain ⟨h',g',d',tk',os'⟩:=s';have eg:g'=s.gens:=mv.gens;have ed:d'=s.drawn:=mv.drawn;have eo:os'=s.os:=mv.os;subst eg ed eo;show wpAny _ _ _ _ _ _;apply wpAny_pure;show wpAny _ _ (ret Value.none) _ _ _;apply wpAny_pure;refine ⟨rfl,h',tk',rfl,S2,fun b o hb' e=>?_⟩
     refine mv.heap b o ?_ (Heap.get?_push_of_some _ (Heap.get?_push_of_some _ e));rw[Heap.size_push];simp only[DG,not_or];exact ⟨DF hb',DF (E3 hb'),DZ⟩
   ·cases r2 with
    |error e=>exact hr2
    |ok fl2=>
     cases fl2 with
     |ret r=>
      obtain ⟨rfl,h',tk,rfl,S2,kp⟩:=hr2
      repeat any_goals first|assumption|wp_step
      exact fin _ _ S2 kp
     |_=>exact hr2.elim
  |_=>exact hr.elim
end
def wq (K:D7) (te:TE):TE:=fun σ H Q=>te σ H fun x H1=>∃(a:Addr) (ks:List Key),x= .ref a/\aC K H1 a (ks.map kV)/\ks.Nodup/\ks.length<4000/\Q (.int ks.length) H1
theorem pS {ks:List Key} (nd:ks.Nodup) (i:Nat) (hi:i<ks.length):upTo (fun j=>ks.getD j (.inl 0)) i (ks.getD i (.inl 0))=false:=by
 unfold upTo;rw[List.any_eq_false];intro j hj;have lj:j<i:=Dy.mp hj;simp only[Dl,D4 hi,D4 (Nat.lt_trans lj hi),Option.getD_some,decide_eq_true_eq];intro e;have:=(List.getElem_inj nd).mp e;omega
theorem nN:∀{ks:List Key} {us:FS},bg (ks.map kV) us->∀(P:Program) (w:World) (i:Nat) (v:Value),us[i]?=some v->(aJ P w).is (ks.getD i (.inl 0)) v=true/\v.scannable=true
 | [],_,.nil,P,w,i,v,h=>by simp at h
 |k::ks,_,.cons r t,P,w,0,v,h=>by
  simp at h;subst h;refine ⟨jf r,?_⟩;cases k with
  |inl z=>obtain ⟨_,rfl⟩:=r;rfl
  |inr z=>obtain ⟨_,rfl⟩:=r;rfl
 |k::ks,_,.cons r t,P,w,i+1,v,h=>nN t P w i v (by simpa using h)
section
variable {e:Expr} {p1 p2 pos2:Pos}
theorem sI (hc:X.calm=true) (g1:Gl X "len") (m1:X.mg "len" =none) (g2:Gl X "set") (m2:X.mg "set" =none) (b1:bootBuiltins "len" =some (.builtin "len")) (b2:bootBuiltins "set" =some (.type "set")) (he:PE X e te)
  (hs:starEach [e] X.env= [(false,eval e X.env)]:=by rfl):
  PE X (.Call (.Name "len" p1) [.Call (.Name "set" p2) [e] [] pos2] [] pos) (wq X.K te):=by
 intro pins s σ H Q I h;apply wpAny_Call_Name_kw;refine dC I g1 m1 b1 ?_ (by decide) (by decide)
 refine Calls.callWith_builtin rfl (Calls.evalArgs_plain ?_);refine Calls.spliced_cons (x:=eval (.Call (.Name "set" p2) [e] [] pos2) X.env) (rest:= []) ?_;apply wpAny_Call_Name_kw;refine dC I g2 m2 b2 ?_ (by decide) (by decide)
 refine Dt ?_ hs rfl;rw[hs];refine Calls.spliced_cons (x:=eval e X.env) (rest:= []) (bi (he pins s σ H _ I h) fun v s1 ⟨x,H1,I1,r1,a,ks,ex,hq,nd,few,q⟩=>?_)
 subst ex;cases r1;apply Calls.spliced_nil;obtain ⟨its,rv,pl,hz⟩:=I1.list hq;have sz:its.toArray.size=ks.length:=by rw[DN,<-rv.length,D3]
 have hli:s1.heap.IsList a its.toArray:=pl.isList;refine sH (ks:=fun j=>ks.getD j (.inl 0)) (I.ok.hd hc) hli (fun i v hv=>nN rv X.prog X.w i v (by simpa using hv)) (fun i hi=>pS nd i (by rw[<-sz];exact hi)) (by rw[sz];show ks.length+1<4096;omega) fun h' tk S2 kp=>?_
 apply Calls.spliced_nil;obtain ⟨o,es,ep,t,ho,hx,hd,_,_,hb,hf,hn⟩:=S2;refine call_len_set ho hx hd hf (by rw[hn,sz];have:ks.length<4000:=few;omega) ?_
 refine ⟨.int ks.length,H1,I1.kept (fun b o e=>kp b o (Heap.lt_size e) e),⟨_,by rw[hn,sz]⟩,q⟩
end
end L2
namespace Sw
open PySem L2
def xr:Str:= "abcdefghijklmnopqrstuvwxyz"
end Sw
namespace L2
open PySem PySem.Spec PyProof.Rows XH
variable {X:Cx} {scope:Scope} {cl:List (Str×Addr)} {own:Str} {ys:FQ} {js:List Nat} {elt iter cond:Expr} {px pos:Pos} {wi:TI} {te:TE} {tc:TT}
theorem fF {i:Nat} {y:Str} {py spos:Pos} (hN:X.N.Nodup) (hi':X.N[i]?=some y) (hy:X.env.scope.names.lookup y=some .local) (hc:X.calm=true) (ok:hJ X scope cl own ys js) (hi:PI X (.Name own px) iter wi)
  (hq:∀(C:Addr) (fp:FR) (s:Shared) (H:Hp),PT (X.block scope cl C (own::ys) own fp s H) cond tc)
  (he:∀(C:Addr) (fp:FR) (s:Shared) (H:Hp),PE (X.block scope cl C (own::ys) own fp s H) elt te)
  (hsw:swapsWith (.ListComp elt [⟨.Name own px,iter,[cond],0⟩] scope pos) (some (.Name y py)) spos.line X.env=pure true:=by rfl) (hs:∀x,foldedSetIterable iter X.env x=pure x:=by intro _;rfl):
  PS X (.Assign [.Name y py] (.ListComp elt [⟨.Name own px,iter,[cond],0⟩] scope pos) spos) (rW (qH wi js tc te) (cu i)):=by
 intro pins s σ H D I h;have ncell:∀y∈scope.names,y.2≠ .cell:=fun y hy z=>by
  have q:=DD.mp ok.nocell y hy;rw[z] at q;simp at q
 have nloc:∀y∈scope.names,y.2= .local->scope.names.lookup y.1=some .local:=fun y hy z=>by
  have q:=DD.mp ok.loc y hy;rw[z] at q
  simpa using q
 show wpAny _ _ (exec _ X.env) _ _ _;rw[exec_Assign_Name_used _ _ _ _ hsw];refine wpAny_bind (wpAny_standAt (wpAny_bind ?_));show wpAny _ X.A (do let _<-comprehension (.ListComp elt [⟨.Name own px,iter,[cond],0⟩] scope pos) scope X.env _ (newList []) false (eval iter X.env) (some (assign (.Name y py) X.env))) _ _ s
 refine wpAny_bind (wpAny_mono (wpAny_comprehension_free (use:=some (assign (.Name y py) X.env)) (Q:=fun _ s'=>SP X pins D .next s') rfl hs ok.clos ok.kind nloc (bi (hi pins s σ H _ I h) fun v s1 h1=>bi h1 fun itv s2 h2=>?_)) (fun _ s' hq=>wpAny_pure (wpAny_pure hq)) fun _ _ e=>e)
 obtain ⟨it,fp,tn,J,H2,rfl,I2,T,st2,f2,q2⟩:=h2;obtain ⟨W,⟨m0,w0⟩,turn⟩:=q2 s2.heap.objs.size (I2.hok.fresh (D9 _));refine wpAny_newObj_type (wpAny_newFunctionEnv ncell (by intro y hy;simp at hy) (fun h1 hns hsb=>?_) ok.kind)
 have I3:=I2.laid (a:=s2.heap.objs.size) (o:= .lst []) (h':=s2.heap.push {cls:= .type "list",dict:=none,data:= .seq ([]:FS).toArray}) (t':=s2.toks) (fun b u q=>Heap.get?_push_of_some _ q) (D9 _)
  ⟨Dn _,[],0,.nil,Heap.get?_push_size _ rfl⟩
 have fpo:∀b∈fp,b<s2.heap.objs.size:=fun b hb=>by
  obtain ⟨o,e,_⟩:=T.obj 0 _ st2 b hb;exact Heap.lt_size e
 have f3:∀b∈fp,dM X pins (aG H2 s2.heap.objs.size (.lst [])) b:=fun b hb=>⟨by rw[aH (DF (fpo b hb))];exact (f2 b hb).1,(f2 b hb).2⟩
 generalize hs3:({s2 with heap:=s2.heap.push {cls:= .type "list",dict:=none,data:= .seq ([]:FS).toArray},toks:=s2.toks}:Shared)=s3 at I3
 have e3:s3.heap=s2.heap.push {cls:= .type "list",dict:=none,data:= .seq ([]:FS).toArray}:=by rw[<-hs3]
 have lt3:∀b∈fp,b<s3.heap.objs.size:=fun b hb=>by rw[e3,Heap.size_push];exact E3 (fpo b hb)
 dsimp only at hns hsb⊢;rw[<-e3] at hns hsb;have hk:∀b o,s3.heap.get? b=some o->h1.get? b=some o:=fun b o e=>hsb.extBut b o (DF (Heap.lt_size e)) (Heap.get?_push_of_some _ e)
 have J0:=d0 (h1:=h1) ok I3 f3 lt3 hns hk (s2.toks+0);have t0:tn 0 h1:=T.keep 0 _ _ st2 fun b hb o e=>hk b o (by rw[e3];exact Heap.get?_push_of_some _ e)
 have fpB:∀{H':Hp},(∀b∈fp,H' b=none)->∀b∈fp,dM (X.block scope cl s3.heap.objs.size (own::ys) own fp s3 (aG H2 s2.heap.objs.size (.lst []))) [] H' b:=fun {H'} hn b hb=>
  ⟨hn b hb,DF (lt3 b hb),fun z=>(DG.mp (I3.stkSub b z)).elim (f3 b hb).2.1 (f3 b hb).2.2.1,.inl hb,fun x c e=>(f3 b hb).2.2.2.2.1 x c (ok.sub (x,c) (Dq e)),fun p hp=>absurd (show p∈([]:FP) from hp) (by simp)⟩
 have loop:codeAny (model X.prog X.w) X.A (.compLoop (.ListComp elt [⟨.Name own px,iter,[cond],0⟩] scope pos) 0 (.ref it) (.ref s2.heap.objs.size) (compEnvC scope cl s3.heap.objs.size X.env))
   (compPost (model X.prog X.w) X.A X.xe (some (assign (.Name y py) X.env)) (fun _ s'=>SP X pins D .next s') (.ref s2.heap.objs.size) s3.heap.objs.size) {s3 with heap:=h1,toks:=s2.toks+0}:=by
  refine jh (fun n s'=>∃i zs o0 H',aP (X.block scope cl s3.heap.objs.size (own::ys) own fp s3 (aG H2 s2.heap.objs.size (.lst []))) [] (o0::aM js σ) H' s'/\tn i s'.heap/\(∀b∈fp,H' b=none)/\W i n zs H') ?_ m0
   ⟨0,[],none,_,J0,t0,fun b hb=>(f3 b hb).1,w0⟩
  rintro n s5 ⟨i,zs,o0,H5,I5,t5,n5,w5⟩;obtain ⟨hD,hw⟩:=turn i n zs H5 w5;rcases hw with ⟨stop,qn⟩|⟨go,hz,step⟩
  ·refine bi (T.done (X.block scope cl s3.heap.objs.size (own::ys) own fp s3 (aG H2 s2.heap.objs.size (.lst []))) rfl rfl rfl hc i [] s5 _ H5 (fun _ _=>False) I5 (fpB n5) t5 stop) fun r s6 ⟨hr,I6⟩=>?_
   subst hr;obtain ⟨m,hn,_⟩:=id I6.loc;have J:aP X pins σ H5 s6:=fE (h':=s6.heap) I3 f3 I6 (Heap.SameBut.refl _ _);have fC:=I3.fpOk (D9 _) (show H5 s3.heap.objs.size=none from I6.free)
   obtain ⟨k0,k1,k2,k3,k4,k5⟩:=fC;show wpAny _ X.A (assign (.Name y py) X.env (.ref s2.heap.objs.size)) _ _ _;refine wpAny_assign_Name (gD (v:= .ref s2.heap.objs.size) J hN hi' (.inl hy) rfl (fun s7 I7 hsb=>?_) (.inr hy))
   obtain ⟨a',sb,ha⟩:=hsb;have ne:s3.heap.objs.size≠a':=by
    rcases ha with z|z
    ·rw[z];exact k1
    ·exact fun w=>k4 _ _ z w.symm
   exact ⟨m,hn.sameBut sb ne,fun h' hs'=>⟨_,H5,I7.turned (t':=s7.toks) (fun b o hb e=>(hs'.2 b hb).trans e) k0 k1 k3 k4 k5,qn⟩⟩
  ·refine bi (T.item (X.block scope cl s3.heap.objs.size (own::ys) own fp s3 (aG H2 s2.heap.objs.size (.lst []))) rfl rfl rfl hc i [] s5 _ H5 (fun _ _=>False) I5 (fpB n5) t5 go) fun r s6 ⟨u,hr,h6⟩=>?_
   subst hr;refine bi h6 fun _ s7 ⟨x,H7,I7,r7,y7,t7,n7⟩=>?_
   have I7':=I7.pinned (fpB n7) (T.obj _ _ t7);have hst:=step x H7 y7;have own':(relabel scope X.env).names.lookup own=some .local:=lookup_relabel_local ok.ownL;refine bi (dw (X:=X.block scope cl s3.heap.objs.size (own::ys) own fp s3 (aG H2 s2.heap.objs.size (.lst []))) (i:=0) (x:=own) (pos:=px) ok.nd rfl (.inl own') (.inr own') _ s7 _ H7 x u (fun σ' H'=>σ'=some x::aM js σ/\H'=H7) I7' r7 ⟨rfl,rfl⟩) fun _ s8 ⟨σ8,H8,I8,e8,eH8⟩=>?_
   subst e8 eH8;refine bi (hq _ _ _ _ _ s8 _ H8 _ I8 hst) fun ok s9 ⟨H9,I9,h9⟩=>?_
   have frame:∀{s':Shared} {H':Hp},aP (X.block scope cl s3.heap.objs.size (own::ys) own fp s3 (aG H2 s2.heap.objs.size (.lst []))) ([]++iM fp s7.heap) (some x::aM js σ) H' s'->tn (i+1) s'.heap/\∀b∈fp,H' b=none:=fun {s' H'} I'=>
    ⟨T.keep _ _ _ t7 fun b hb o e=>(I'.pin (b,o) (DA _ (DA _ (bz hb e)))).1,fun b hb=>by
     obtain ⟨o,e,d⟩:=T.obj _ _ t7 b hb;exact (I'.pin (b,o) (DA _ (DA _ (bz hb e)))).2.1⟩
   cases ok with
   |true=>
    refine bi (he _ _ _ _ _ s9 _ H9 _ I9 h9) fun yv s10 ⟨y,H10,I10,r10,hD10,m',hm,w10⟩=>?_
    refine bi (a6 _ s10 _ H10 (.ref s2.heap.objs.size) [y] (.ref s2.heap.objs.size) [yv] (fun _ H'=>H'=aG H10 s2.heap.objs.size (.lst (zs++ [y]))) I10 rfl (.cons r10 .nil) ⟨_,zs,y,rfl,rfl,hD10,hz,rfl⟩) fun _ s11 ⟨_,H11,I11,_,e11⟩=>?_
    subst e11;exact ⟨m',hm,i+1,zs++ [y],some x,_,I11.unpinned,(frame I11).1,(frame I11).2,w10⟩
   |false=>
    obtain ⟨m',hm,w10⟩:=h9;exact ⟨m',hm,i+1,zs,some x,_,I9.unpinned,(frame I9).1,(frame I9).2,w10⟩
 subst hs3;exact codeAny_compStart_list loop (T.self _ 0 _ _ _ t0 loop)
theorem jN {X:Cx} (hu:X.A.units<cLine):fX X (compareOp .Eq) (fun x y H Q=>∃a b zs,x= .ref a/\y= .ref b/\aC X.K H a zs/\aC X.K H b []/\Q (.bl zs.isEmpty) H):=by
 intro pins s σ H x y v u Q I rx ry h;obtain ⟨a,b,zs,rfl,rfl,h1,h2,hq⟩:=h;cases rx;cases ry;obtain ⟨i1,r1,p1,_⟩:=I.list h1;obtain ⟨i2,r2,p2,_⟩:=I.list h2;cases r2;cases zs with
 |nil=>
  cases r1;refine SeqAt.eq_listAt (e:=fun _=>true) p1.isList p2.isList rfl hu (fun j g1 g2=>absurd g1 (by simp)) ?_
  exact ⟨.bl true,H,I,by show Value.bool _=Value.bool _;simp,hq⟩
 |cons z zs=>
  cases r1 with
  |cons r rr=>
   refine SeqAt.eq_list_lengthsAt p1.isList p2.isList (by simp) hu ?_
   exact ⟨.bl false,H,I,rfl,hq⟩
end L2
namespace Sw
open PySem L2 PyProof.Rows
theorem kL {α β:Type} {F:α->β->Prop}:∀{l:List α} {m:List β},Paired F l m->∀{i:Nat} {b:β},m[i]?=some b->∃a,l[i]?=some a/\F a b
 |_,_,.nil,i,b,h=>by simp at h
 |_,_,.cons r t,0,b,h=>by simp at h;subst h;exact ⟨_,rfl,r⟩
 |_,_,.cons r t,i+1,b,h=>by
  obtain ⟨a,h1,h2⟩:=kL t (i:=i) (by simpa using h)
  exact ⟨a,by simpa using h1,h2⟩
end Sw
namespace L2
open PySem PySem.Spec PyProof.Rows XH Sw So
theorem qI:∀{acc:FS} {ks:FQ},acc.length=ks.length->(∀(j:Nat) (v:Value),acc[j]?=some v->∃y t,ks[j]?=some y/\v= .str y t)->StrsAre acc ks
 | [],[],_,_=> .nil
 |v::acc,k::ks,hl,h=>by
  obtain ⟨y,t,e,rfl⟩:=h 0 v rfl;simp at e;subst e;exact .cons _ _ (qI (by simpa using hl) fun j u hu=>h (j+1) u (by simpa using hu))
 | [],_::_,hl,_=>by simp at hl
 |_::_,[],hl,_=>by simp at hl
theorem iD:∀{us:FS} {ks:FQ},StrsAre us ks->bg (ks.map V.str) us
 |_,_,.nil=> .nil
 |_,_,.cons y t h=> .cons ⟨t,rfl⟩ (iD h)
theorem nO {prog:Program} {w:World} {A:Around} {E:FN} {s:Shared} {T:String} {r d:Addr} {n:Nat} {P:Nat->Value->Prop} {OK:Heap->Prop} {R:FS->Shared->Prop} (K:PySem.W.KdlSrc prog w T r d n P OK) (hh:A.handled=none) (hok:OK s.heap) (hn:n<=sizeLine)
  (h:∀(h':Heap) (tk:Nat) (acc:Array Value),s.heap.objs.size<h'.objs.size->(∀b o,s.heap.get? b=some o->h'.get? b=some o)->PySem.ItemsOf P acc n->R acc.toList {s with heap:=h',toks:=tk}):
  wpAny (model prog w) A (collect (.ref r)) R E s:=by
 have hlt:=K.there _ hok;unfold collect;refine wpAny_bind (wpAny_runValue (codeAny_builtin entry_proto_collect' ?_));rw[Around.under_plainId PySem.F.plain_proto_collect _];show wpAny _ A.in1 (newList []>>=fun l=>again (.builtin "list.__iadd__" ⟨[l,.ref r],[]⟩)) _ _ s
 refine wpAny_bind (wpAny_newObj_type (wpAny_pure ⟨plainId_quiet PySem.F.plain_list_iadd _,codeAny_builtin entry_list_iadd' ?_⟩));rw[Around.under_plainId PySem.F.plain_list_iadd _];have fresh:(s.heap.push {cls:= .type "list",data:= .seq ([]:FS).toArray}).get? s.heap.objs.size=some {cls:= .type "list",data:= .seq #[]}:=Heap.get?_push_size _ rfl;show wpAny _ A.in1 (Builtin.List.listExtendWith (.ref s.heap.objs.size) (.ref r) (.ref s.heap.objs.size)) _ _ _;have key:=PySem.W.kdl_extend (A:=A) (s:={s with heap:=s.heap.push {cls:= .type "list",data:= .seq ([]:FS).toArray}})
  (R:=fun (q:Result) (s':Shared)=>∃(h':Heap) (tk:Nat) (acc:Array Value) (c:Nat),q= .ok (.ret (.ref s.heap.objs.size))/\s'={s with heap:=h',toks:=tk}/\(∀b o,s.heap.get? b=some o->h'.get? b=some o)/\h'.get? s.heap.objs.size=some {cls:= .type "list",dict:=none,data:= .seq acc c,slots:= #[]}/\PySem.ItemsOf P acc n)
  K hh (K.keep _ _ hok fun b _ o e=>Heap.get?_push_of_some _ e) s.heap.objs.size (EU hlt.1) (EU hlt.2) (.ref s.heap.objs.size) 0 fresh
  (fun h' tk acc c hk hS ha=>⟨h',tk,acc,c,rfl,rfl,fun b o e=>hk b o (DF (Heap.lt_size e)) (Heap.get?_push_of_some _ e),hS,ha⟩) hn
 have fin:∀{h':Heap} {tk c:Nat} {acc:Array Value},(∀b o,s.heap.get? b=some o->h'.get? b=some o)->h'.get? s.heap.objs.size=some {cls:= .type "list",dict:=none,data:= .seq acc c,slots:= #[]}->PySem.ItemsOf P acc n->R acc.toList {s with heap:=h',toks:=tk}:=
  fun {h' tk c acc} hk hS ha=>h h' tk acc (Heap.lt_size hS) hk ha
 refine wpAny_mono key (fun f s' x=>?_) fun e s' x=>?_
 ·cases f with
  |done f=>
   obtain ⟨h',tk,acc,c,e,rfl,hk,hS,ha⟩:=x;cases e;show wpAny _ A (load s.heap.objs.size>>=_) _ _ _;exact wpAny_bind (wpAny_load hS (wpAny_pure (fin hk hS ha)))
  |again c₁=>
   refine ⟨x.1,codeAny_mono x.2 fun q s₂ y=>?_⟩
   obtain ⟨h',tk,acc,c,rfl,rfl,hk,hS,ha⟩:=y;show wpAny _ A (load s.heap.objs.size>>=_) _ _ _;exact wpAny_bind (wpAny_load hS (wpAny_pure (fin hk hS ha)))
 ·obtain ⟨_,_,_,_,e',_⟩:=x;cases e'
end L2
namespace So
open PySem PySem.Spec PyProof.Rows
end So
namespace L2
open PySem PySem.Spec PyProof.Rows XH Sw So
end L2
namespace Hm
abbrev Ky:=List Int
open PySem PySem.SeqAt PySem.MeetsSeq
end Hm
namespace L2
open PySem PySem.Spec PyProof.Rows XH Sw So Hm
variable {X:Cx} {scope:Scope} {cl:List (Str×Addr)} {own:Str} {ys:FQ} {js:List Nat} {elt iter:Expr} {px pos:Pos} {wi:TI} {te:TE}
theorem fG {i:Nat} {y:Str} {py spos:Pos} (hN:X.N.Nodup) (hi':X.N[i]?=some y) (hy:X.env.scope.names.lookup y=some .local) (hc:X.calm=true) (ok:hJ X scope cl own ys js) (hi:PI X (.Name own px) iter wi)
  (he:∀(C:Addr) (fp:FR) (s:Shared) (H:Hp),PE (X.block scope cl C (own::ys) own fp s H) elt te)
  (hsw:swapsWith (.ListComp elt [⟨.Name own px,iter,[],0⟩] scope pos) (some (.Name y py)) spos.line X.env=pure true:=by rfl) (hs:∀x,foldedSetIterable iter X.env x=pure x:=by intro _;rfl):
  PS X (.Assign [.Name y py] (.ListComp elt [⟨.Name own px,iter,[],0⟩] scope pos) spos) (rW (um wi js te) (cu i)):=by
 intro pins s σ H D I h;have ncell:∀y∈scope.names,y.2≠ .cell:=fun y hy z=>by
  have q:=DD.mp ok.nocell y hy;rw[z] at q;simp at q
 have nloc:∀y∈scope.names,y.2= .local->scope.names.lookup y.1=some .local:=fun y hy z=>by
  have q:=DD.mp ok.loc y hy;rw[z] at q
  simpa using q
 show wpAny _ _ (exec _ X.env) _ _ _;rw[exec_Assign_Name_used _ _ _ _ hsw];refine wpAny_bind (wpAny_standAt (wpAny_bind ?_));show wpAny _ X.A (do let _<-comprehension (.ListComp elt [⟨.Name own px,iter,[],0⟩] scope pos) scope X.env _ (newList []) false (eval iter X.env) (some (assign (.Name y py) X.env))) _ _ s
 refine wpAny_bind (wpAny_mono (wpAny_comprehension_free (use:=some (assign (.Name y py) X.env)) (Q:=fun _ s'=>SP X pins D .next s') rfl hs ok.clos ok.kind nloc (bi (hi pins s σ H _ I h) fun v s1 h1=>bi h1 fun itv s2 h2=>?_)) (fun _ s' hq=>wpAny_pure (wpAny_pure hq)) fun _ _ e=>e)
 obtain ⟨it,fp,tn,J,H2,rfl,I2,T,st2,f2,q2⟩:=h2;obtain ⟨W,⟨m0,w0⟩,turn⟩:=q2 s2.heap.objs.size (I2.hok.fresh (D9 _));refine wpAny_newObj_type (wpAny_newFunctionEnv ncell (by intro y hy;simp at hy) (fun h1 hns hsb=>?_) ok.kind)
 have I3:=I2.laid (a:=s2.heap.objs.size) (o:= .lst []) (h':=s2.heap.push {cls:= .type "list",dict:=none,data:= .seq ([]:FS).toArray}) (t':=s2.toks) (fun b u q=>Heap.get?_push_of_some _ q) (D9 _)
  ⟨Dn _,[],0,.nil,Heap.get?_push_size _ rfl⟩
 have fpo:∀b∈fp,b<s2.heap.objs.size:=fun b hb=>by
  obtain ⟨o,e,_⟩:=T.obj 0 _ st2 b hb;exact Heap.lt_size e
 have f3:∀b∈fp,dM X pins (aG H2 s2.heap.objs.size (.lst [])) b:=fun b hb=>⟨by rw[aH (DF (fpo b hb))];exact (f2 b hb).1,(f2 b hb).2⟩
 generalize hs3:({s2 with heap:=s2.heap.push {cls:= .type "list",dict:=none,data:= .seq ([]:FS).toArray},toks:=s2.toks}:Shared)=s3 at I3
 have e3:s3.heap=s2.heap.push {cls:= .type "list",dict:=none,data:= .seq ([]:FS).toArray}:=by rw[<-hs3]
 have lt3:∀b∈fp,b<s3.heap.objs.size:=fun b hb=>by rw[e3,Heap.size_push];exact E3 (fpo b hb)
 dsimp only at hns hsb⊢;rw[<-e3] at hns hsb;have hk:∀b o,s3.heap.get? b=some o->h1.get? b=some o:=fun b o e=>hsb.extBut b o (DF (Heap.lt_size e)) (Heap.get?_push_of_some _ e)
 have J0:=d0 (h1:=h1) ok I3 f3 lt3 hns hk (s2.toks+0);have t0:tn 0 h1:=T.keep 0 _ _ st2 fun b hb o e=>hk b o (by rw[e3];exact Heap.get?_push_of_some _ e)
 have fpB:∀{H':Hp},(∀b∈fp,H' b=none)->∀b∈fp,dM (X.block scope cl s3.heap.objs.size (own::ys) own fp s3 (aG H2 s2.heap.objs.size (.lst []))) [] H' b:=fun {H'} hn b hb=>
  ⟨hn b hb,DF (lt3 b hb),fun z=>(DG.mp (I3.stkSub b z)).elim (f3 b hb).2.1 (f3 b hb).2.2.1,.inl hb,fun x c e=>(f3 b hb).2.2.2.2.1 x c (ok.sub (x,c) (Dq e)),fun p hp=>absurd (show p∈([]:FP) from hp) (by simp)⟩
 have loop:codeAny (model X.prog X.w) X.A (.compLoop (.ListComp elt [⟨.Name own px,iter,[],0⟩] scope pos) 0 (.ref it) (.ref s2.heap.objs.size) (compEnvC scope cl s3.heap.objs.size X.env))
   (compPost (model X.prog X.w) X.A X.xe (some (assign (.Name y py) X.env)) (fun _ s'=>SP X pins D .next s') (.ref s2.heap.objs.size) s3.heap.objs.size) {s3 with heap:=h1,toks:=s2.toks+0}:=by
  refine dN (fun n s'=>∃i zs o0 H',aP (X.block scope cl s3.heap.objs.size (own::ys) own fp s3 (aG H2 s2.heap.objs.size (.lst []))) [] (o0::aM js σ) H' s'/\tn i s'.heap/\(∀b∈fp,H' b=none)/\W i n zs H') ?_ m0
   ⟨0,[],none,_,J0,t0,fun b hb=>(f3 b hb).1,w0⟩
  rintro n s5 ⟨i,zs,o0,H5,I5,t5,n5,w5⟩;obtain ⟨hD,hw⟩:=turn i n zs H5 w5;rcases hw with ⟨stop,qn⟩|⟨go,hz,step⟩
  ·refine bi (T.done (X.block scope cl s3.heap.objs.size (own::ys) own fp s3 (aG H2 s2.heap.objs.size (.lst []))) rfl rfl rfl hc i [] s5 _ H5 (fun _ _=>False) I5 (fpB n5) t5 stop) fun r s6 ⟨hr,I6⟩=>?_
   subst hr;obtain ⟨m,hn,_⟩:=id I6.loc;have J:aP X pins σ H5 s6:=fE (h':=s6.heap) I3 f3 I6 (Heap.SameBut.refl _ _);have fC:=I3.fpOk (D9 _) (show H5 s3.heap.objs.size=none from I6.free)
   obtain ⟨k0,k1,k2,k3,k4,k5⟩:=fC;show wpAny _ X.A (assign (.Name y py) X.env (.ref s2.heap.objs.size)) _ _ _;refine wpAny_assign_Name (gD (v:= .ref s2.heap.objs.size) J hN hi' (.inl hy) rfl (fun s7 I7 hsb=>?_) (.inr hy))
   obtain ⟨a',sb,ha⟩:=hsb;have ne:s3.heap.objs.size≠a':=by
    rcases ha with z|z
    ·rw[z];exact k1
    ·exact fun w=>k4 _ _ z w.symm
   exact ⟨m,hn.sameBut sb ne,fun h' hs'=>⟨_,H5,I7.turned (t':=s7.toks) (fun b o hb e=>(hs'.2 b hb).trans e) k0 k1 k3 k4 k5,qn⟩⟩
  ·refine bi (T.item (X.block scope cl s3.heap.objs.size (own::ys) own fp s3 (aG H2 s2.heap.objs.size (.lst []))) rfl rfl rfl hc i [] s5 _ H5 (fun _ _=>False) I5 (fpB n5) t5 go) fun r s6 ⟨u,hr,h6⟩=>?_
   subst hr;refine bi h6 fun _ s7 ⟨x,H7,I7,r7,y7,t7,n7⟩=>?_
   have I7':=I7.pinned (fpB n7) (T.obj _ _ t7);have hst:=step x H7 y7;have own':(relabel scope X.env).names.lookup own=some .local:=lookup_relabel_local ok.ownL;refine bi (dw (X:=X.block scope cl s3.heap.objs.size (own::ys) own fp s3 (aG H2 s2.heap.objs.size (.lst []))) (i:=0) (x:=own) (pos:=px) ok.nd rfl (.inl own') (.inr own') _ s7 _ H7 x u (fun σ' H'=>σ'=some x::aM js σ/\H'=H7) I7' r7 ⟨rfl,rfl⟩) fun _ s8 ⟨σ8,H8,I8,e8,eH8⟩=>?_
   subst e8 eH8;refine bi (he _ _ _ _ _ s8 _ H8 _ I8 hst) fun yv s9 ⟨y,H9,I9,r9,hD9,m',hm,w9⟩=>?_
   refine bi (a6 _ s9 _ H9 (.ref s2.heap.objs.size) [y] (.ref s2.heap.objs.size) [yv] (fun _ H'=>H'=aG H9 s2.heap.objs.size (.lst (zs++ [y]))) I9 rfl (.cons r9 .nil) ⟨_,zs,y,rfl,rfl,hD9,hz,rfl⟩) fun _ s10 ⟨_,H10,I10,_,e10⟩=>?_
   subst e10;refine ⟨m',hm,i+1,zs++ [y],some x,_,I10.unpinned,T.keep _ _ _ t7 fun b hb o e=>(I10.pin (b,o) (DA _ (DA _ (bz hb e)))).1,fun b hb=>?_,w9⟩
   obtain ⟨o,e,d⟩:=T.obj _ _ t7 b hb;exact (I10.pin (b,o) (DA _ (DA _ (bz hb e)))).2.1
 subst hs3;exact codeAny_compStart_list loop (T.self _ 0 _ _ _ t0 loop)
theorem nQ:∀{ws:FQ} {us:FS},bg (ws.map V.str) us->StrsAre us ws
 | [],_,h=>by cases h;exact .nil
 |w::ws,_,h=>by
  cases h with
  |cons r rr=>
   obtain ⟨t,rfl⟩:=r;exact .cons _ _ (nQ rr)
theorem wu:B9 X "str.join" (fun x vs H Q=>∃z a ws,x= .str z/\vs= [.ref a]/\aC X.K H a (ws.map V.str)/\z.length<=16/\(ws.map (fun x=>x.length)).sum+ws.length<=1048576/\Q (.str (Txt.join z ws)) H):=by
 intro pins s σ H x vs v us Q I rx rv h;obtain ⟨z,a,ws,rfl,rfl,hS,hz,hl,q⟩:=h;obtain ⟨t,rfl⟩:=rx;obtain ⟨u,rfl,ru⟩:=vals1 rv;cases ru;obtain ⟨its,r,p,_⟩:=I.list hS;exact join_listW p.isList (by simpa using nQ r) hz hl fun t' k=>⟨.str _,H,I.tok _,⟨_,rfl⟩,q⟩
end L2
namespace Sw
open PySem L2 XH PySem.NumText
theorem qJ (x:Str) (gs:FQ):oZ (.str x) (gs.map V.str)=decide (x∈gs):=by
 unfold oZ;rw[E5];simp[vH]
theorem xt (gs:FQ):(gs.map V.str).all gj=true:=by
 rw[DD];intro x hx;obtain ⟨g,_,rfl⟩:=DP.mp hx
 rfl
theorem C7 {x:Str} {gs:FQ} {A B:Prop} (h1:x∈gs->A) (h2:x∉gs->B):if (if false=true then !oZ (.str x) (gs.map V.str) else oZ (.str x) (gs.map V.str))=true then A else B:=by
 rw[if_neg (by decide:¬false=true),qJ]
 exact d2 h1 h2
end Sw
namespace L2
open PySem PySem.Spec PyProof.Rows XH Sw So Hm
theorem iE {X:Cx} (hu:X.A.units<cLine):fX X (compareOp .NotEq) (fun x y H Q=>∃a b zs,x= .ref a/\y= .ref b/\aC X.K H a zs/\aC X.K H b []/\Q (.bl (!zs.isEmpty)) H):=by
 intro pins s σ H x y v u Q I rx ry h;obtain ⟨a,b,zs,rfl,rfl,h1,h2,hq⟩:=h;cases rx;cases ry;obtain ⟨i1,r1,p1,_⟩:=I.list h1;obtain ⟨i2,r2,p2,_⟩:=I.list h2;cases r2;cases zs with
 |nil=>
  cases r1;refine SeqAt.RcNeAt.lists (e:=fun _=>true) p1.isList p2.isList rfl hu (fun j g1 g2=>absurd g1 (by simp)) _ _ _ _ ?_
  exact ⟨.bl false,H,I,by show Value.bool _=Value.bool _;simp,hq⟩
 |cons z zs=>
  cases r1 with
  |cons r rr=>
   refine SeqAt.RcNeAt.lists_lengths p1.isList p2.isList (by simp) hu _ _ _ _ ?_
   exact ⟨.bl true,H,I,rfl,hq⟩
theorem gq {xs:List V} {c:Nat} (h:c<=xs.length):fY xs none (some (c:Int))=xs.take c:=by
 have e1:HT.eV xs.length 0 none=0:=rfl;have e2:HT.eV xs.length xs.length (some (c:Int))=c:=by
  show (if (c:Int)<0 then ((c:Int)+(xs.length:Int)).toNat else min (c:Int).toNat xs.length)=c
  rw[if_neg (by omega)]
  omega
 unfold fY;rw[e1,e2,List.drop_zero,Nat.sub_zero]
theorem gu {xs:List V} {c:Nat} (h:c<=xs.length):fY xs (some (c:Int)) none=xs.drop c:=by
 have e1:HT.eV xs.length 0 (some (c:Int))=c:=by
  show (if (c:Int)<0 then ((c:Int)+(xs.length:Int)).toNat else min (c:Int).toNat xs.length)=c
  rw[if_neg (by omega)]
  omega
 have e2:HT.eV xs.length xs.length none=xs.length:=rfl;unfold fY;rw[e1,e2,Ee (by rw[E6];omega)]
end L2
namespace Sw
open PySem L2 XH Hm
theorem wx {n j:Nat} (h:j<n):t6 n (j:Int)=some j:=by
 unfold t6;rw[if_pos (by omega),if_pos (by omega)]
 rfl
theorem wy {xs:List V} {i:Nat} {v:V} (h:xs[i]?=some v):gZ xs (0+(i:Int))=some v:=by
 rw[Ef];exact a4 h
end Sw
namespace L2
open PySem PySem.Spec PyProof.Rows XH Sw Hm
end L2
namespace Sw
open PySem L2 XH Hm
def dR {α:Type} (R:Addr->α->Prop) (as:FR) (xs:List α):Prop:=as.length=xs.length/\∀(i:Nat) (a:Addr) (x:α),as[i]?=some a->xs[i]?=some x->R a x
theorem dR.imp {α:Type} {R S:Addr->α->Prop} {as:FR} {xs:List α} (h:dR R as xs) (f:∀a x,R a x->S a x):dR S as xs:=⟨h.1,fun i a x e1 e2=>f a x (h.2 i a x e1 e2)⟩
theorem dR.nil {α:Type} {R:Addr->α->Prop}:dR R [] ([]:List α):=⟨rfl,fun i a x e=>by simp at e⟩
theorem dR.snoc {α:Type} {R:Addr->α->Prop} {as:FR} {xs:List α} (h:dR R as xs) {a:Addr} {x:α} (r:R a x):dR R (as++ [a]) (xs++ [x]):=by
 refine ⟨by simp[h.1],fun i b y e1 e2=>?_⟩
 have il:=(D5.mp e1).1
 by_cases c:i<as.length
 ·rw[E4 c] at e1;rw[E4 (by rw[<-h.1];exact c)] at e2
  exact h.2 i b y e1 e2
 ·have ei:i=as.length:=by simp at il;omega
  subst ei;rw[Dw (D9 _)] at e1;rw[Dw (by rw[h.1];exact D9 _),h.1] at e2
  simp at e1 e2;subst e1 e2;exact r
def aW (H:Hp) (l:Addr) (ks:List Ky):Prop:=∃as:FR,H l=some (.lst (as.map V.ref))/\dR (fun t k=>H t=some (.tup (k.map V.int))) as ks
theorem aW.same {H H':Hp} {l:Addr} {ks:List Ky} (h:aW H l ks) (g:aB H H'):aW H' l ks:=by
 obtain ⟨as,e,r⟩:=h;exact ⟨as,g _ _ e,r.imp fun a k q=>g _ _ q⟩
end Sw
namespace L2
open PySem PySem.Spec PyProof.Rows XH
theorem pT {X:Cx}:dS X (.builtin "len") (fun xs H Q=>∃(d:Addr) (kvs:List (Key×V)),xs= [.ref d]/\H d=some (.dK kvs)/\Q (.int kvs.length) H):=by
 intro pins s σ H xs us Q I r h;obtain ⟨d,kvs,rfl,hd,q⟩:=h;obtain ⟨u,rfl,ru⟩:=vals1 r;cases ru;exact zY I (.inl hd) fun t s' I'=>⟨.int kvs.length,H,I',⟨t,rfl⟩,q⟩
theorem bu {X:Cx} {K:D7} (h:X.K=K):zA X (zU K):=by
 subst h;exact aK
theorem iF {X:Cx} {K:D7} (h:X.K=K):zA X (zT K):=by
 subst h;exact a9
theorem jO {X:Cx} {K:D7} (h:X.K=K):dS X (.type "list") (fun xs H Q=>∃p ys,xs= [.ref p]/\(aC K H p ys∨bx K H p ys)/\∀l,H l=none->Q (.ref l) (aG H l (.lst ys))):=by
 subst h;exact bD
theorem jP:bootBuiltins "dict" =some (.type "dict"):=by kernel_rfl
end L2
namespace Sw
open PySem L2 XH Hm
def jQ (td tl al pl n:V):List (Str×V):=bb "moments" n (bb "apart" pl (bb "arcs" al (bb "tasks" tl (bb "tools" td []))))
theorem wA {td tl al pl n:V}:(jQ td tl al pl n).lookup ("tools" :Str)=some td/\(jQ td tl al pl n).lookup ("tasks" :Str)=some tl/\(jQ td tl al pl n).lookup ("arcs" :Str)=some al/\(jQ td tl al pl n).lookup ("apart" :Str)=some pl/\(jQ td tl al pl n).lookup ("moments" :Str)=some n:=by
 unfold jQ;refine ⟨?_,?_,?_,?_,?_⟩
 ·rw[bc,if_neg (by decide),bc,if_neg (by decide),bc,if_neg (by decide),bc,if_neg (by decide),bc,if_pos rfl]
 ·rw[bc,if_neg (by decide),bc,if_neg (by decide),bc,if_neg (by decide),bc,if_pos rfl]
 ·rw[bc,if_neg (by decide),bc,if_neg (by decide),bc,if_pos rfl]
 ·rw[bc,if_neg (by decide),bc,if_pos rfl]
 ·rw[bc,if_pos rfl]
def Fx (x:Addr) (H H':Hp):Prop:=∀a o,a≠x->H a=some o->H' a=some o
theorem Fx.of {x:Addr} {H H':Hp} (g:aB H H'):Fx x H H':=fun a o _ h=>g a o h
theorem Fx.put (x:Addr) (H:Hp) (o:HO):Fx x H (aG H x o):=fun a u n h=>by rw[aH n];exact h
theorem Fx.trans {x:Addr} {H H1 H2:Hp} (a:Fx x H H1) (b:Fx x H1 H2):Fx x H H2:=fun c o n h=>b c o n (a c o n h)
theorem aW.fx {x:Addr} {H H':Hp} {l:Addr} {ks:List Ky} {C dx:Addr} {fs:List (Str×V)} (h:aW H l ks) (ex:H x=some (.ins C dx fs)) (g:Fx x H H'):aW H' l ks:=by
 obtain ⟨as,e,r⟩:=h;exact ⟨as,g _ _ (im e ex (by intro z;cases z)) e,r.imp fun a k q=>g _ _ (im q ex (by intro z;cases z)) q⟩
def qK:Sp:=fun vs H Q _=>∃(al:Addr) (m:Int) (A:List Ky),vs= [.ref al,.int m]/\aW H al A/\A.length<=600/\(∀k∈A,∃p q g:Int,k= [p,q,g]/\0<=p/\p<m/\0<=q/\q<m/\ -1000000000<=g/\g<=1000000000)/\Q .non H
end Sw
namespace L2
open PySem PySem.Spec PyProof.Rows XH
abbrev Cx.blockT (X:Cx) (scope:Scope) (cl:List (Str×Addr)) (C:Addr) (N:FQ) (os:FQ) (fp:FR) (s:Shared) (H:Hp):Cx:=
 {X with env:=compEnvC scope cl C X.env,N:=N,s₀:=s,H₀:=H,outer:=X.stack,stack:=X.stack,ex:=fp,fn:=fun y=>os.contains y,pn:= [],xe:=fun _ _=>False}
structure jw (X:Cx) (scope:Scope) (cl:List (Str×Addr)) (os:FQ) (ys:FQ) (js:List Nat):Prop where
 clos:closureFor scope X.env=pure cl
 nocell:(scope.names.all fun p=> !(p.2== .cell))=true
 kind:scope.kind= .function
 loc:(scope.names.all fun p=> !(p.2== .local)||scope.names.lookup p.1==some .local)=true
 sub:∀p∈cl,X.env.cells.lookup p.1=some p.2
 has:((relabel scope X.env).names.all fun p=> !(p.2== .cell||p.2== .free)||(cl.lookup p.1).isSome)=true
 noown:∀x∈os,cl.lookup x=none
 at_:Sw.iR X scope ys js
 len:js.length=ys.length
def pU (n:Nat) (g:TG) (js:List Nat) (te:TE) (σ:St) (Q:VK):It->Hp->Prop:=fun J H1=>∀p,H1 p=none->∃W:Nat->Nat->List V->Hp->Prop,(∃m,W 0 m [] (aG H1 p (.lst [])))/\
 ∀i m ys H2,W i m ys H2->H2 p=some (.lst ys)/\((J.stop i H2/\Q (.ref p) H2)∨(J.go i H2/\ys.length<sizeLine/\∀x H3,J.yld i H2 x H3->∀o:St,o.length=n->g x (o++aM js σ) H3 fun σ4 H4=>(∃o':St,o'.length=n/\σ4=o'++aM js σ)/\
  te σ4 H4 fun y H5=>H5 p=some (.lst ys)/\∃m',m'<m/\W (i+1) m' (ys++ [y]) (aG H5 p (.lst (ys++ [y])))))
def uC (wi:TI) (n:Nat) (g:TG) (js:List Nat) (te:TE):TE:=fun σ H Q=>wi σ H (pU n g js te σ Q)
section
variable {X:Cx} {scope:Scope} {cl:List (Str×Addr)} {os:FQ} {ys:FQ} {js:List Nat} {fp:FR} {pins:FP} {σ:St} {H:Hp} {s s4:Shared}
theorem iG {h1:Heap} (ok:jw X scope cl os ys js) (I:aP X pins σ H s) (hf:∀b∈fp,dM X pins H b) (hlt:∀b∈fp,b<s.heap.objs.size) (hns:h1.Ns s.heap.objs.size (fun _=>none))
  (hk:∀b o,s.heap.get? b=some o->h1.get? b=some o) (tk:Nat):
  aP (X.blockT scope cl s.heap.objs.size (os++ys) os fp s H) [] (os.map (fun _=>none)++aM js σ) H {s with heap:=h1,toks:=tk}:=by
 have sub:∀y c,cl.lookup y=some c->X.env.cells.lookup y=some c:=fun y c e=>ok.sub (y,c) (Dq e)
 refine ⟨⟨I.ok.mod,ok.kind,I.ok.glob,I.ok.blt,D9 _,fun x y c e1 e2=>I.ok.inj x y c (sub x c e1) (sub y c e2),fun x hx=>?_,fun x c e1 e2=>?_,I.ok.hd,I.ok.frames,.inl rfl,fun b hb=>⟨DF (hlt b hb),fun x c e=>(hf b hb).2.2.2.2.1 x c (sub x c e)⟩,
  I.bs,EF I.ok.bsz I.sz,fun b o e hb=>?_,fun b hb z=>?_,I.stack,I.stkFree⟩,rfl,I.bare,Un.kept hk,⟨_,hns,fun i y v e1 e2 e3=>?_⟩,fun y c e=>?_,I.hok.fresh (D9 _),fun y c e=>I.freeC y c (sub y c e),fun p hp=>absurd (show p∈([]:FP) from hp) (by simp),I.hok.kept hk,?_⟩
 ·have hx':(relabel scope X.env).names.lookup x=some .cell∨(relabel scope X.env).names.lookup x=some .free:=hx;rcases hx' with z|z
  ·have q:=lookup_all ok.has z;simp only[beq_self_eq_true,Ex,Ei,Du] at q;exact Do.mp q
  ·have q:=lookup_all ok.has z;simp only[beq_self_eq_true,Bool.or_true,Ei,Du] at q;exact Do.mp q
 ·have e1':os.contains x=true:=e1;have e2':cl.lookup x=some c:=e2;rw[ok.noown x (List.contains_iff_mem.mp e1')] at e2';cases e2'
 ·rcases (hf b hb).2.2.2.1 with z|z
  ·exact I.ok.noex b o e z
  ·exact absurd (Dm (Heap.lt_size (I.ok.bs b o e).1) z) (Ec _)
 ·rcases DG.mp (I.stkSub b z) with q|q
  ·exact (hf b hb).2.1 q
  ·exact (hf b hb).2.2.1 q
 ·by_cases hi:i<os.length
  ·have e2':(os.map (fun _=>(none:Option V))++aM js σ)[i]?=some (some v):=e2
   rw[E4 (by rw[D3];exact hi),DE,D4 hi] at e2'
   cases e2'
  ·have e1'':(os++ys)[i]?=some y:=e1;have e2'':(os.map (fun _=>(none:Option V))++aM js σ)[i]?=some (some v):=e2
   rw[Dw (by omega)] at e1''
   rw[Dw (by rw[D3];omega),D3] at e2''
   have e1':=e1'';have e2:=e2'';clear e1 e1'' e2'';generalize i-os.length=i at e1' e2;obtain ⟨j,hj,hN,hX,hc⟩:=ok.at_ i y e1';have e2':(aM js σ)[i]?=some (some v):=e2;unfold aM at e2';rw[DE,hj] at e2';have hs:σ[j]?=some (some v):=by
    cases q:σ[j]? with
    |none=>rw[EI,q] at e2';cases e2'
    |some o=>rw[EI,q] at e2';exact e2'
   obtain ⟨m,hn,hl⟩:=I.loc;obtain ⟨u,r,l⟩:=hl j y v hN hs (hX.elim (fun z=> .inr (.inl z)) fun z=> .inr (.inr z))
   refine ⟨u,r,.inr ⟨hc,?_⟩⟩;rcases l with ⟨k,_⟩|⟨k,c,hcl,hcell⟩
   ·have k':X.env.scope.names.lookup y=some .local:=k;rcases hX with z|z<;>(rw[z] at k';cases k')
   ·have ex:∃c',cl.lookup y=some c':=by
     rcases hc with z|z
     ·have q:=lookup_all ok.has z;simp only[beq_self_eq_true,Ex,Ei,Du] at q;exact Do.mp q
     ·have q:=lookup_all ok.has z;simp only[beq_self_eq_true,Bool.or_true,Ei,Du] at q;exact Do.mp q
    obtain ⟨c',hc'⟩:=ex;have e:=sub y c' hc';rw[hcl] at e;cases e;obtain ⟨oc,hoc,hd⟩:=hcell;exact ⟨c,hc',oc,hk _ _ hoc,hd⟩
 ·obtain ⟨v,oc,hoc,hd⟩:=I.cell y c (sub y c e);exact ⟨v,oc,hk _ _ hoc,hd⟩
 ·show (os.map (fun _=>(none:Option V))++aM js σ).length=(os++ys).length
  simp[aM,ok.len]
theorem jR {H':Hp} {h':Heap} {σ':St} (I:aP X pins σ H s) (hf:∀b∈fp,dM X pins H b) (J:aP (X.blockT scope cl s.heap.objs.size (os++ys) os fp s H) [] σ' H' s4) (hs:Heap.SameBut s.heap.objs.size s4.heap h'):
  aP X pins σ H' {s4 with heap:=h'}:=by
 have low:∀b o,s.heap.get? b=some o->b≠s.heap.objs.size:=fun b o e=>DF (Heap.lt_size e)
 have B:=J.base;have u:Un (rV X.stack) fp H H' s.heap h':={
  keep:=fun b o q n hb hx=>(hs.2 b (low b o q)).trans (B.keep b o q n hb hx)
  slot:=fun b o q n hb hx=>by
   obtain ⟨sl,e⟩:=B.slot b o q n hb hx;exact ⟨sl,(hs.2 b (low b o q)).trans e⟩
  free:=B.free
  there:=fun b o q hx=>by
   obtain ⟨o',e⟩:=B.there b o q hx;exact ⟨o',(hs.2 b (low b o q)).trans e⟩
  tups:=B.tups
  frzs:=B.frzs
  tbls:=B.tbls}
 have hn:H' s.heap.objs.size=none:=J.free;have hk:gP X.prog X.w H' h':=fun a o e=>(J.hok a o e).stay (fun b v hb q=>(hs.2 b (by
  intro z;rcases hb with z'|z'
  ·rw[<-z',z,hn] at e;cases e
  ·rw[z,hn] at z';cases z')).trans q) (fun _ q=>q) fun _ _ q=>q
 exact I.call' (s':={s4 with heap:=h'}) (ch:=fp) J.os u hk J.bare fun b hb=>⟨(hf b hb).2.2.2.1,(hf b hb).2.1,(hf b hb).2.2.2.2.1,(hf b hb).2.2.2.2.2⟩
end
section
variable {X:Cx} {scope:Scope} {cl:List (Str×Addr)} {os:FQ} {ys:FQ} {js:List Nat} {elt iter tg:Expr} {px pos:Pos} {wi:TI} {te:TE} {g:TG}
theorem uD (hc:X.calm=true) (ok:jw X scope cl os ys js) (hi:PI X tg iter wi)
  (hg:∀(C:Addr) (fp:FR) (s:Shared) (H:Hp),PG (X.blockT scope cl C (os++ys) os fp s H) tg g)
  (he:∀(C:Addr) (fp:FR) (s:Shared) (H:Hp),PE (X.blockT scope cl C (os++ys) os fp s H) elt te)
  (hs:∀x,foldedSetIterable iter X.env x=pure x:=by intro _;rfl):PE X (.ListComp elt [⟨tg,iter,[],0⟩] scope pos) (uC wi os.length g js te):=by
 intro pins s σ H Q I h;rw[eval_ListComp];have ncell:∀y∈scope.names,y.2≠ .cell:=fun y hy z=>by
  have q:=DD.mp ok.nocell y hy;rw[z] at q;simp at q
 have nloc:∀y∈scope.names,y.2= .local->scope.names.lookup y.1=some .local:=fun y hy z=>by
  have q:=DD.mp ok.loc y hy;rw[z] at q
  simpa using q
 refine wpAny_comprehension_free (use:=none) rfl hs ok.clos ok.kind nloc (bi (hi pins s σ H _ I h) fun v s1 h1=>bi h1 fun itv s2 h2=>?_)
 obtain ⟨it,fp,tn,J,H2,rfl,I2,T,st2,f2,q2⟩:=h2;obtain ⟨W,⟨m0,w0⟩,turn⟩:=q2 s2.heap.objs.size (I2.hok.fresh (D9 _));refine wpAny_newObj_type (wpAny_newFunctionEnv ncell (by intro y hy;simp at hy) (fun h1 hns hsb=>?_) ok.kind)
 have I3:=I2.laid (a:=s2.heap.objs.size) (o:= .lst []) (h':=s2.heap.push {cls:= .type "list",dict:=none,data:= .seq ([]:FS).toArray}) (t':=s2.toks) (fun b u q=>Heap.get?_push_of_some _ q) (D9 _)
  ⟨Dn _,[],0,.nil,Heap.get?_push_size _ rfl⟩
 have fpo:∀b∈fp,b<s2.heap.objs.size:=fun b hb=>by
  obtain ⟨o,e,_⟩:=T.obj 0 _ st2 b hb;exact Heap.lt_size e
 have f3:∀b∈fp,dM X pins (aG H2 s2.heap.objs.size (.lst [])) b:=fun b hb=>⟨by rw[aH (DF (fpo b hb))];exact (f2 b hb).1,(f2 b hb).2⟩
 generalize hs3:({s2 with heap:=s2.heap.push {cls:= .type "list",dict:=none,data:= .seq ([]:FS).toArray},toks:=s2.toks}:Shared)=s3 at I3
 have e3:s3.heap=s2.heap.push {cls:= .type "list",dict:=none,data:= .seq ([]:FS).toArray}:=by rw[<-hs3]
 have lt3:∀b∈fp,b<s3.heap.objs.size:=fun b hb=>by rw[e3,Heap.size_push];exact E3 (fpo b hb)
 dsimp only at hns hsb⊢;rw[<-e3] at hns hsb;have hk:∀b o,s3.heap.get? b=some o->h1.get? b=some o:=fun b o e=>hsb.extBut b o (DF (Heap.lt_size e)) (Heap.get?_push_of_some _ e)
 have J0:=iG (h1:=h1) ok I3 f3 lt3 hns hk (s2.toks+0);have t0:tn 0 h1:=T.keep 0 _ _ st2 fun b hb o e=>hk b o (by rw[e3];exact Heap.get?_push_of_some _ e)
 have fpB:∀{H':Hp},(∀b∈fp,H' b=none)->∀b∈fp,dM (X.blockT scope cl s3.heap.objs.size (os++ys) os fp s3 (aG H2 s2.heap.objs.size (.lst []))) [] H' b:=fun {H'} hn b hb=>
  ⟨hn b hb,DF (lt3 b hb),fun z=>(DG.mp (I3.stkSub b z)).elim (f3 b hb).2.1 (f3 b hb).2.2.1,.inl hb,fun x c e=>(f3 b hb).2.2.2.2.1 x c (ok.sub (x,c) (Dq e)),fun p hp=>absurd (show p∈([]:FP) from hp) (by simp)⟩
 have loop:codeAny (model X.prog X.w) X.A (.compLoop (.ListComp elt [⟨tg,iter,[],0⟩] scope pos) 0 (.ref it) (.ref s2.heap.objs.size) (compEnvC scope cl s3.heap.objs.size X.env))
   (compPost (model X.prog X.w) X.A X.xe none (EP X pins σ Q) (.ref s2.heap.objs.size) s3.heap.objs.size) {s3 with heap:=h1,toks:=s2.toks+0}:=by
  refine dN (fun n s'=>∃i zs o0 H',aP (X.blockT scope cl s3.heap.objs.size (os++ys) os fp s3 (aG H2 s2.heap.objs.size (.lst []))) [] (o0++aM js σ) H' s'/\o0.length=os.length/\tn i s'.heap/\(∀b∈fp,H' b=none)/\W i n zs H') ?_ m0
   ⟨0,[],os.map (fun _=>none),_,J0,D3 _,t0,fun b hb=>(f3 b hb).1,w0⟩
  rintro n s5 ⟨i,zs,o0,H5,I5,l5,t5,n5,w5⟩;obtain ⟨hD,hw⟩:=turn i n zs H5 w5;rcases hw with ⟨stop,qn⟩|⟨go,hz,step⟩
  ·refine bi (T.done (X.blockT scope cl s3.heap.objs.size (os++ys) os fp s3 (aG H2 s2.heap.objs.size (.lst []))) rfl rfl rfl hc i [] s5 _ H5 (fun _ _=>False) I5 (fpB n5) t5 stop) fun r s6 ⟨hr,I6⟩=>?_
   subst hr;obtain ⟨m,hn,_⟩:=id I6.loc;exact ⟨m,hn,fun h' hs'=>⟨V.ref s2.heap.objs.size,H5,jR I3 f3 I6 hs',rfl,qn⟩⟩
  ·refine bi (T.item (X.blockT scope cl s3.heap.objs.size (os++ys) os fp s3 (aG H2 s2.heap.objs.size (.lst []))) rfl rfl rfl hc i [] s5 _ H5 (fun _ _=>False) I5 (fpB n5) t5 go) fun r s6 ⟨u,hr,h6⟩=>?_
   subst hr;refine bi h6 fun _ s7 ⟨x,H7,I7,r7,y7,t7,n7⟩=>?_
   have I7':=I7.pinned (fpB n7) (T.obj _ _ t7);have hst:=step x H7 y7;refine bi (hg _ _ _ _ _ s7 _ H7 x u _ I7' r7 (hst o0 l5)) fun _ s8 ⟨σ8,H8,I8,⟨o8,l8,e8⟩,hst⟩=>?_
   subst e8;refine bi (he _ _ _ _ _ s8 _ H8 _ I8 hst) fun yv s9 ⟨y,H9,I9,r9,hD9,m',hm,w9⟩=>?_
   refine bi (a6 _ s9 _ H9 (.ref s2.heap.objs.size) [y] (.ref s2.heap.objs.size) [yv] (fun _ H'=>H'=aG H9 s2.heap.objs.size (.lst (zs++ [y]))) I9 rfl (.cons r9 .nil) ⟨_,zs,y,rfl,rfl,hD9,hz,rfl⟩) fun _ s10 ⟨_,H10,I10,_,e10⟩=>?_
   subst e10;refine ⟨m',hm,i+1,zs++ [y],o8,_,I10.unpinned,l8,T.keep _ _ _ t7 fun b hb o e=>(I10.pin (b,o) (DA _ (DA _ (bz hb e)))).1,fun b hb=>?_,w9⟩
   obtain ⟨o,e,d⟩:=T.obj _ _ t7 b hb;exact (I10.pin (b,o) (DA _ (DA _ (bz hb e)))).2.1
 subst hs3;exact codeAny_compStart_list loop (T.self _ 0 _ _ _ t0 loop)
end
end L2
namespace Sw
open PySem L2 XH
theorem Aj {X:Cx} {scope:Scope} {cl:List (Str×Addr)} {os ys:FQ} {js:List Nat} (a:iR X scope ys js) (s:pN X cl) (len:js.length=ys.length) (clos:closureFor scope X.env=pure cl) (nocell:(scope.names.all fun p=> !(p.2== .cell))=true) (kind:scope.kind= .function)
  (loc:(scope.names.all fun p=> !(p.2== .local)||scope.names.lookup p.1==some .local)=true) (has:((relabel scope X.env).names.all fun p=> !(p.2== .cell||p.2== .free)||(cl.lookup p.1).isSome)=true) (noown:(os.all fun x=>(cl.lookup x).isNone)=true):jw X scope cl os ys js:=
 ⟨clos,nocell,kind,loc,s.all,has,fun x hx=>by have:=DD.mp noown x hx;simpa using this,a,len⟩
theorem qL {X:Cx} {K:D7} {es:List Expr} {k:Nat} {t:xg} {n:Nat} {pos:Pos} (hK:X.K=K) (hc:X.calm=true) (h:zI X es t) (hn:(assignEach es X.env).length=n:=by rfl) (hst:(assignEach es X.env).findIdx? (·.1)=none:=by rfl):PG X (.Tuple es k pos) (zL K n t):=by
 subst hK;exact cV hc h hn hst
theorem iH {X:Cx} {scope:Scope} {cl:List (Str×Addr)} {C:Addr} {fp:FR} {s:Shared} {H:Hp} {os ys:FQ} {i:Nat} {x:Str} {pos:Pos} (nd:(os++ys).Nodup) (hi:(os++ys)[i]?=some x) (hl:(relabel scope X.env).names.lookup x=some .local):PG (X.blockT scope cl C (os++ys) os fp s H) (.Name x pos) (cu i):=
 dw (X:=X.blockT scope cl C (os++ys) os fp s H) nd hi (.inl hl) (.inr hl)
end Sw
namespace L2
open PySem PySem.Spec PyProof.Rows XH
section
variable {X:Cx} {scope:Scope} {cl:List (Str×Addr)} {os:FQ} {ys:FQ} {js:List Nat} {elt iter tg:Expr} {px pos:Pos} {wi:TI} {te:TE} {g:TG}
theorem uE {i:Nat} {y:Str} {py spos:Pos} (hN:X.N.Nodup) (hi':X.N[i]?=some y) (hy:X.env.scope.names.lookup y=some .local) (hc:X.calm=true) (ok:jw X scope cl os ys js) (hi:PI X tg iter wi)
  (hg:∀(C:Addr) (fp:FR) (s:Shared) (H:Hp),PG (X.blockT scope cl C (os++ys) os fp s H) tg g)
  (he:∀(C:Addr) (fp:FR) (s:Shared) (H:Hp),PE (X.blockT scope cl C (os++ys) os fp s H) elt te)
  (hsw:swapsWith (.ListComp elt [⟨tg,iter,[],0⟩] scope pos) (some (.Name y py)) spos.line X.env=pure true:=by rfl) (hs:∀x,foldedSetIterable iter X.env x=pure x:=by intro _;rfl):
  PS X (.Assign [.Name y py] (.ListComp elt [⟨tg,iter,[],0⟩] scope pos) spos) (rW (uC wi os.length g js te) (cu i)):=by
 intro pins s σ H D I h;have ncell:∀y∈scope.names,y.2≠ .cell:=fun y hy z=>by
  have q:=DD.mp ok.nocell y hy;rw[z] at q;simp at q
 have nloc:∀y∈scope.names,y.2= .local->scope.names.lookup y.1=some .local:=fun y hy z=>by
  have q:=DD.mp ok.loc y hy;rw[z] at q
  simpa using q
 show wpAny _ _ (exec _ X.env) _ _ _;rw[exec_Assign_Name_used _ _ _ _ hsw];refine wpAny_bind (wpAny_standAt (wpAny_bind ?_));show wpAny _ X.A (do let _<-comprehension (.ListComp elt [⟨tg,iter,[],0⟩] scope pos) scope X.env _ (newList []) false (eval iter X.env) (some (assign (.Name y py) X.env))) _ _ s
 refine wpAny_bind (wpAny_mono (wpAny_comprehension_free (use:=some (assign (.Name y py) X.env)) (Q:=fun _ s'=>SP X pins D .next s') rfl hs ok.clos ok.kind nloc (bi (hi pins s σ H _ I h) fun v s1 h1=>bi h1 fun itv s2 h2=>?_)) (fun _ s' hq=>wpAny_pure (wpAny_pure hq)) fun _ _ e=>e)
 obtain ⟨it,fp,tn,J,H2,rfl,I2,T,st2,f2,q2⟩:=h2;obtain ⟨W,⟨m0,w0⟩,turn⟩:=q2 s2.heap.objs.size (I2.hok.fresh (D9 _));refine wpAny_newObj_type (wpAny_newFunctionEnv ncell (by intro y hy;simp at hy) (fun h1 hns hsb=>?_) ok.kind)
 have I3:=I2.laid (a:=s2.heap.objs.size) (o:= .lst []) (h':=s2.heap.push {cls:= .type "list",dict:=none,data:= .seq ([]:FS).toArray}) (t':=s2.toks) (fun b u q=>Heap.get?_push_of_some _ q) (D9 _)
  ⟨Dn _,[],0,.nil,Heap.get?_push_size _ rfl⟩
 have fpo:∀b∈fp,b<s2.heap.objs.size:=fun b hb=>by
  obtain ⟨o,e,_⟩:=T.obj 0 _ st2 b hb;exact Heap.lt_size e
 have f3:∀b∈fp,dM X pins (aG H2 s2.heap.objs.size (.lst [])) b:=fun b hb=>⟨by rw[aH (DF (fpo b hb))];exact (f2 b hb).1,(f2 b hb).2⟩
 generalize hs3:({s2 with heap:=s2.heap.push {cls:= .type "list",dict:=none,data:= .seq ([]:FS).toArray},toks:=s2.toks}:Shared)=s3 at I3
 have e3:s3.heap=s2.heap.push {cls:= .type "list",dict:=none,data:= .seq ([]:FS).toArray}:=by rw[<-hs3]
 have lt3:∀b∈fp,b<s3.heap.objs.size:=fun b hb=>by rw[e3,Heap.size_push];exact E3 (fpo b hb)
 dsimp only at hns hsb⊢;rw[<-e3] at hns hsb;have hk:∀b o,s3.heap.get? b=some o->h1.get? b=some o:=fun b o e=>hsb.extBut b o (DF (Heap.lt_size e)) (Heap.get?_push_of_some _ e)
 have J0:=iG (h1:=h1) ok I3 f3 lt3 hns hk (s2.toks+0);have t0:tn 0 h1:=T.keep 0 _ _ st2 fun b hb o e=>hk b o (by rw[e3];exact Heap.get?_push_of_some _ e)
 have fpB:∀{H':Hp},(∀b∈fp,H' b=none)->∀b∈fp,dM (X.blockT scope cl s3.heap.objs.size (os++ys) os fp s3 (aG H2 s2.heap.objs.size (.lst []))) [] H' b:=fun {H'} hn b hb=>
  ⟨hn b hb,DF (lt3 b hb),fun z=>(DG.mp (I3.stkSub b z)).elim (f3 b hb).2.1 (f3 b hb).2.2.1,.inl hb,fun x c e=>(f3 b hb).2.2.2.2.1 x c (ok.sub (x,c) (Dq e)),fun p hp=>absurd (show p∈([]:FP) from hp) (by simp)⟩
 have loop:codeAny (model X.prog X.w) X.A (.compLoop (.ListComp elt [⟨tg,iter,[],0⟩] scope pos) 0 (.ref it) (.ref s2.heap.objs.size) (compEnvC scope cl s3.heap.objs.size X.env))
   (compPost (model X.prog X.w) X.A X.xe (some (assign (.Name y py) X.env)) (fun _ s'=>SP X pins D .next s') (.ref s2.heap.objs.size) s3.heap.objs.size) {s3 with heap:=h1,toks:=s2.toks+0}:=by
  refine dN (fun n s'=>∃i zs o0 H',aP (X.blockT scope cl s3.heap.objs.size (os++ys) os fp s3 (aG H2 s2.heap.objs.size (.lst []))) [] (o0++aM js σ) H' s'/\o0.length=os.length/\tn i s'.heap/\(∀b∈fp,H' b=none)/\W i n zs H') ?_ m0
   ⟨0,[],os.map (fun _=>none),_,J0,D3 _,t0,fun b hb=>(f3 b hb).1,w0⟩
  rintro n s5 ⟨i,zs,o0,H5,I5,l5,t5,n5,w5⟩;obtain ⟨hD,hw⟩:=turn i n zs H5 w5;rcases hw with ⟨stop,qn⟩|⟨go,hz,step⟩
  ·refine bi (T.done (X.blockT scope cl s3.heap.objs.size (os++ys) os fp s3 (aG H2 s2.heap.objs.size (.lst []))) rfl rfl rfl hc i [] s5 _ H5 (fun _ _=>False) I5 (fpB n5) t5 stop) fun r s6 ⟨hr,I6⟩=>?_
   subst hr;obtain ⟨m,hn,_⟩:=id I6.loc;have J:aP X pins σ H5 s6:=jR (h':=s6.heap) I3 f3 I6 (Heap.SameBut.refl _ _);have fC:=I3.fpOk (D9 _) (show H5 s3.heap.objs.size=none from I6.free)
   obtain ⟨k0,k1,k2,k3,k4,k5⟩:=fC;show wpAny _ X.A (assign (.Name y py) X.env (.ref s2.heap.objs.size)) _ _ _;refine wpAny_assign_Name (gD (v:= .ref s2.heap.objs.size) J hN hi' (.inl hy) rfl (fun s7 I7 hsb=>?_) (.inr hy))
   obtain ⟨a',sb,ha⟩:=hsb;have ne:s3.heap.objs.size≠a':=by
    rcases ha with z|z
    ·rw[z];exact k1
    ·exact fun w=>k4 _ _ z w.symm
   exact ⟨m,hn.sameBut sb ne,fun h' hs'=>⟨_,H5,I7.turned (t':=s7.toks) (fun b o hb e=>(hs'.2 b hb).trans e) k0 k1 k3 k4 k5,qn⟩⟩
  ·refine bi (T.item (X.blockT scope cl s3.heap.objs.size (os++ys) os fp s3 (aG H2 s2.heap.objs.size (.lst []))) rfl rfl rfl hc i [] s5 _ H5 (fun _ _=>False) I5 (fpB n5) t5 go) fun r s6 ⟨u,hr,h6⟩=>?_
   subst hr;refine bi h6 fun _ s7 ⟨x,H7,I7,r7,y7,t7,n7⟩=>?_
   have I7':=I7.pinned (fpB n7) (T.obj _ _ t7);have hst:=step x H7 y7;refine bi (hg _ _ _ _ _ s7 _ H7 x u _ I7' r7 (hst o0 l5)) fun _ s8 ⟨σ8,H8,I8,⟨o8,l8,e8⟩,hst⟩=>?_
   subst e8;refine bi (he _ _ _ _ _ s8 _ H8 _ I8 hst) fun yv s9 ⟨y,H9,I9,r9,hD9,m',hm,w9⟩=>?_
   refine bi (a6 _ s9 _ H9 (.ref s2.heap.objs.size) [y] (.ref s2.heap.objs.size) [yv] (fun _ H'=>H'=aG H9 s2.heap.objs.size (.lst (zs++ [y]))) I9 rfl (.cons r9 .nil) ⟨_,zs,y,rfl,rfl,hD9,hz,rfl⟩) fun _ s10 ⟨_,H10,I10,_,e10⟩=>?_
   subst e10;refine ⟨m',hm,i+1,zs++ [y],o8,_,I10.unpinned,l8,T.keep _ _ _ t7 fun b hb o e=>(I10.pin (b,o) (DA _ (DA _ (bz hb e)))).1,fun b hb=>?_,w9⟩
   obtain ⟨o,e,d⟩:=T.obj _ _ t7 b hb;exact (I10.pin (b,o) (DA _ (DA _ (bz hb e)))).2.1
 subst hs3;exact codeAny_compStart_list loop (T.self _ 0 _ _ _ t0 loop)
end
end L2
namespace Sw
open PySem L2 XH
end Sw
namespace L2
open PySem PySem.Spec PyProof.Rows
end L2
namespace Sw
open PySem L2 XH
end Sw
namespace L2
open PySem PySem.Spec PyProof.Rows
end L2
namespace Sw
open PySem L2 XH
end Sw
namespace L2
open PySem PySem.Spec PyProof.Rows XH
def gR (n:Nat) (pr:Nat->Bool) (f:Nat->V):List V:=((Dh n).filter pr).map f
theorem pV (n:Nat) (pr:Nat->Bool) (f:Nat->V):gR (n+1) pr f=gR n pr f++(if pr n=true then [f n] else []):=by
 unfold gR;rw[F4,EL,DS]
 congr 1
 cases h:pr n<;>simp[List.filter_cons,h]
theorem sJ (n:Nat) (pr:Nat->Bool) (f:Nat->V):(gR n pr f).length<=n:=by
 unfold gR;rw[D3];have:=Ek pr (Dh n)
 rwa [E8] at this
theorem pW {J:It} {n:Nat} {js:List Nat} {tc:TT} {te:TE} {σ:L2.St} {H1:Hp} {Q:VK} (pr:Nat->Bool) (f:Nat->V) (hz:n<=sizeLine)
  (hgo:∀i H2,aB H1 H2->i<n->J.go i H2) (hst:∀H2,aB H1 H2->J.stop n H2)
  (step:∀i,i<n->∀H2 x H3,aB H1 H2->J.yld i H2 x H3->H3=H2/\(∀R:Bool->Hp->Prop,R (pr i) H2->tc (some x::aM js σ) H2 R)/\(pr i=true->∀Q':VK,Q' (f i) H2->te (some x::aM js σ) H2 Q'))
  (fin:∀p H',H1 p=none->aB H1 H'->H' p=some (.lst (gR n pr f))->Q (.ref p) H'):iU js tc te σ Q J H1:=by
 intro p hp;refine ⟨fun i m ys H2=>i<=n/\m=n-i/\ys=gR i pr f/\aB H1 H2/\H2 p=some (.lst ys),⟨n,Dn _,rfl,rfl,Sw.ag hp _,ah⟩,?_⟩
 rintro i m ys H2 ⟨hi,rfl,rfl,g,e⟩;refine ⟨e,?_⟩
 by_cases hin:i<n
 ·refine .inr ⟨hgo i H2 g hin,?_,fun x H3 hy=>?_⟩
  ·have:=sJ i pr f;omega
  obtain ⟨rfl,h1,h2⟩:=step i hin H2 x H3 g hy;refine h1 _ ?_;have tk:=pV i pr f;cases hpr:pr i with
  |true=>
   rw[hpr,if_pos rfl] at tk;rw[if_pos rfl];exact h2 hpr _ ⟨e,n-(i+1),by omega,hin,rfl,tk.symm,Sw.du g hp _,ah⟩
  |false=>
   rw[hpr,if_neg (by decide),EQ] at tk
   rw[if_neg (by decide)]
   exact ⟨n-(i+1),by omega,hin,rfl,tk.symm,g,e⟩
 ·have e2:i=n:=by omega
  subst e2;exact .inl ⟨hst H2 g,fin p H2 hp g e⟩
theorem sK {K:D7} {a:Addr} {xs:List V} {js:List Nat} {tc:TT} {te:TE} {σ:L2.St} {H1:Hp} {Q:VK} (pr:Nat->Bool) (f:Nat->V) (hS:aC K H1 a xs) (hz:xs.length<=sizeLine)
  (s1:∀i x,xs[i]?=some x->∀H2,aB H1 H2->∀R:Bool->Hp->Prop,R (pr i) H2->tc (some x::aM js σ) H2 R)
  (s2:∀i x,xs[i]?=some x->∀H2,aB H1 H2->∀Q':VK,Q' (f i) H2->te (some x::aM js σ) H2 Q')
  (fin:∀p H',H1 p=none->aB H1 H'->H' p=some (.lst (gR xs.length pr f))->Q (.ref p) H'):iU js tc te σ Q (vN K a) H1:=by
 refine pW pr f hz (fun i H2 g hi=>⟨xs,xs[i],g.seq hS,D4 hi⟩) (fun H2 g=>⟨xs,g.seq hS,D9 _⟩) (fun i hi H2 x H3 g hy=>?_) fin
 obtain ⟨rfl,hx⟩:=hy;have ex:=hx xs (g.seq hS);exact ⟨rfl,s1 i x ex _ g,fun _=>s2 i x ex _ g⟩
end L2
namespace Sw
open PySem L2 XH
end Sw
namespace L2
open PySem PySem.Spec PyProof.Rows XH Sw So
end L2
namespace Sw
open PySem L2 XH Hm
theorem dR.append {α:Type} {R:Addr->α->Prop} {as bs:FR} {xs ys:List α} (h:dR R as xs) (k:dR R bs ys):dR R (as++bs) (xs++ys):=by
 refine ⟨by simp[h.1,k.1],fun i a x e1 e2=>?_⟩
 by_cases c:i<as.length
 ·rw[E4 c] at e1;rw[E4 (by rw[<-h.1];exact c)] at e2
  exact h.2 i a x e1 e2
 ·rw[Dw (by omega)] at e1
  rw[Dw (by rw[<-h.1];omega),<-h.1] at e2
  exact k.2 _ a x e1 e2
end Sw
namespace L2
open PySem PySem.Spec PyProof.Rows XH Sw Hm
end L2
namespace Sw
open PySem L2 XH Hm
abbrev Rn:=Int×Int×Int
def rk (r:Rn):Ky:= [r.1,r.2.1,r.2.2]
theorem n2 {p A B:Prop} [Decidable p] (h1:¬p->A) (h2:p->B):if (!decide p)=true then A else B:=by
 by_cases h:p
 ·rw[if_neg (by simp[h])];exact h2 h
 ·rw[if_pos (by simp[h])];exact h1 h
theorem aX {α:Type} {xs:List α} {i:Nat} {v d:α} (h:xs[i]?=some v):xs.getD i d=v:=by rw[Dl,h];rfl
theorem cC {as:FR} {i:Nat} {y:V} (h:(as.map V.ref)[i]?=some y):∃a,as[i]?=some a/\y= .ref a:=by
 rw[DE] at h;obtain ⟨a,e,rfl⟩:=DB.mp h;exact ⟨a,e,rfl⟩
theorem dO {α:Type} {f:α->V} {xs:List α} {i:Nat} {x:α} (h:xs[i]?=some x):(xs.map f)[i]?=some (f x):=by rw[DE,h];rfl
theorem pX {H:Hp} {bs:FR} {R:List Rn} (h:dR (fun t k=>H t=some (.tup (k.map V.int))) bs (R.map rk)) {i:Nat} {b:Addr} (e:bs[i]?=some b):∃r:Rn,R[i]?=some r/\H b=some (.tup [.int r.1,.int r.2.1,.int r.2.2]):=by
 have il:i<R.length:=by
  have:=(D5.mp e).1;rw[h.1,D3] at this;exact this
 exact ⟨_,D4 il,h.2 i b (rk R[i]) e (by rw[DE,D4 il];rfl)⟩
def Ak (n:Int) (k:Ky):Prop:=∃p q g:Int,k= [p,q,g]/\0<=p/\p<n/\0<=q/\q<n/\ -1000000000<=g/\g<=1000000000
theorem fm {a n:Int} (h:0<n):0<=a.fmod n/\a.fmod n<n:=⟨Int.fmod_nonneg_of_pos a h,Int.fmod_lt_of_pos a h⟩
theorem gv {H:Hp} {l t:Addr} {as:FR} {ks:List Ky} {k:Ky} (e:H l=some (.lst (as.map V.ref))) (r:dR (fun t k=>H t=some (.tup (k.map V.int))) as ks) (h:H t=some (.tup (k.map V.int))):aW (aG H l (.lst (as.map V.ref++ [.ref t]))) l (ks++ [k]):=
 ⟨as++ [t],by rw[ah,DS];rfl,(r.snoc h).imp fun t b q=>by rw[aH (im q e (by intro z;cases z))];exact q⟩
theorem kM (ns:List Int) (lo hi:Option Int):∃cs:List Int,fY (ns.map V.int) lo hi=cs.map V.int/\cs.length<=ns.length:=by
 unfold fY;refine ⟨(ns.drop _).take _,by rw[List.map_take,List.map_drop],?_⟩
 rw[Ds,E6];omega
theorem jS {H1 H':Hp} {x dx:Addr} {C:Addr} (nx:H1 x=none) (nd:H1 dx=none) (h:∀a o,a≠x->aG (aG H1 dx (.own x)) x (.ins C dx []) a=some o->H' a=some o):aB H1 H':=fun a o e=>by
 have ax:a≠x:=fun z=>by rw[z,nx] at e;cases e
 have ad:a≠dx:=fun z=>by rw[z,nd] at e;cases e
 exact h a o ax (by rw[aH ax,aH ad];exact e)
end Sw
namespace L2
open PySem PySem.Spec PyProof.Rows XH Sw Hm
end L2
namespace Sw
open PySem L2 XH Hm
end Sw
namespace L2
open PySem PySem.Spec PyProof.Rows XH Sw Hm
theorem sM {xs:List V} {c:Nat}:fY xs (some (c:Int)) none=xs.drop c:=by
 by_cases h:c<=xs.length
 ·exact gu h
 ·rw[List.drop_eq_nil_of_le (by omega)]
  apply Dg;unfold fY;rw[Ds,E6];have:HT.eV xs.length 0 (some (c:Int))=xs.length:=by
   show (if (c:Int)<0 then ((c:Int)+(xs.length:Int)).toNat else min (c:Int).toNat xs.length)=xs.length
   rw[if_neg (by omega)]
   omega
  rw[this];omega
end L2
namespace Sw
open PySem L2 XH Hm
end Sw
namespace L2
open PySem PySem.Spec PyProof.Rows XH Sw Hm
end L2
namespace Sw
open PySem L2 XH Hm
theorem fL {α:Type} {P:List α->Prop} (h:∀a,P [a]):∀us:List α,us.length=1->P us
 | [a],_=>h a
theorem bS {α:Type} {P:List α->Prop} (h:∀a b,P [a,b]):∀us:List α,us.length=2->P us
 | [a,b],_=>h a b
theorem cr {α:Type} {P:List α->Prop} (h:∀a b c,P [a,b,c]):∀us:List α,us.length=3->P us
 | [a,b,c],_=>h a b c
theorem hW {α:Type} {P:List α->Prop} (h:∀a b c d,P [a,b,c,d]):∀us:List α,us.length=4->P us
 | [a,b,c,d],_=>h a b c d
theorem x9 {α:Type} {P:List α->Prop} (h:∀a b c d e,P [a,b,c,d,e]):∀us:List α,us.length=5->P us
 | [a,b,c,d,e],_=>h a b c d e
abbrev FnAt (K:D7) (f:Addr) (n q:Str) (st:Stmt) (dV:Value):Prop:=∃(oc:Value) (od:FT) (kV dc pm:Value) (an:FT) (cd ct:Value) (sl:Array FU),K.lookup f=some ⟨oc,od,.func (ES n q (eK st) (dY st) (ar st) dV kV dc pm an cd ct),sl⟩/\PySem.W.codeIn K cd q=true/\Ed K (.ref f)=true
abbrev bB (K:D7) (f:Addr) (x:Str) (st:Stmt) (dV:Value):Prop:=Dj K mainGlobals x=some (some (.ref f))/\FnAt K f x x st dV
abbrev Cm (n q:Str) (st:Stmt) (dV:Value) (ps:FQ):Prop:=∀(kV doc pm:Value) (an:FT) (cdv ct:Value) (us:FS),us.length=ps.length->bindArgs (ES n q (eK st) (dY st) (ar st) dV kV doc pm an cdv ct) ⟨us,[]⟩=pure (ps.zip us)
theorem dn {N P:FQ} {sc:Scope} (h:N.Nodup/\(∀x∈P,sc.names.lookup x=some .local∨sc.names.lookup x=some .cell)/\∀y∈sc.names,y.2≠ .free) (h1:sc.kind= .function:=by rfl) (h2:sc.isCoroutine=false:=by rfl) (h3:sc.isGenerator=false:=by rfl) (h4:N.take P.length=P:=by rfl):aE N P sc:=⟨h1,h2,h3,h.1,h4,h.2.1,h.2.2⟩
section
variable {P:Program} {w:World} {K:D7} {mg:FO} {base h:Heap} {CX:qC} {k:Nat} {f c:Addr} {x m q:Str} {st:Stmt} {ps:FQ} {sp:Sp}
theorem FnAt.ex {n q:Str} {dV:Value} (a:FnAt K f n q st dV):∃fd,bn K n q st dV f fd/\Ed K (.ref f)=true:=by
 obtain ⟨_,_,_,_,_,_,_,_,_,l,c,k⟩:=a;exact ⟨_,mh (st:=st) l c k,k⟩
structure Bx (P:Program) (w:World) (base:Heap):Prop
noncomputable def dz (_:Bx P w base) (X:K.In h) (G:h.Ns mainGlobals mg) (a:bB K f x st .none) (b:Cm x x st .none ps) (ok:∀{fd:FuncData},bn K x x st .none f fd->bf P w K mg base CX k f fd ps sp):Dx P w K mg base CX k x ps [] sp:=
 have e:=a.2.ex
 ⟨f,e.choose,ok e.choose_spec.1,E9 X G a.1,e.choose_spec.2,e.choose_spec.1.binds0 b,[],e.choose_spec.1.binds0 b,.nil⟩
end
end Sw
namespace L2
open PySem PySem.Spec PyProof.Rows XH
theorem kx (t:SetTable) (n:Nat):(t.orStandIn n).led=t.led:=by
 unfold SetTable.orStandIn
 by_cases h:t.fits n=true
 ·rw[if_pos h]
 ·rw[if_neg h];rfl
theorem pY (t:SetTable) (es:Array (Int×Value)) (h:Int) (x:Value):(layNew t es h x).2.1.led=t.led:=by
 cases e:t.freeSlot h with
 |none=>simp only[layNew,e];rfl
 |some r=>
  obtain ⟨slot,d⟩:=r;simp only[layNew,e];rw[kx]
  rfl
theorem nR {t t':SetTable} {hs:Array Int} {n:Nat} {order:Array Nat} (e:t.relaid hs n=some (t',order)):t'.led=t.led/\t'.plain=t.plain:=by
 unfold SetTable.relaid SetTable.laid at e;obtain ⟨o,_,e2⟩:=DY.mp e;simp only[pure,Option.some.injEq,Prod.mk.injEq] at e2;rw[<-e2.1];exact ⟨rfl,rfl⟩
theorem my (t:SetTable) (es:Array (Int×Value)) (n:Nat):(relayAll t es n).2.1.led=t.led:=by
 cases e:t.relaid (es.map (·.1)) n with
 |none=>simp only[relayAll,e];rfl
 |some r=>
  obtain ⟨t',order⟩:=r;simp only[relayAll,e]
  by_cases c:(coversAll order es.size&&t'.fits (order.filterMap (es[·]?)).size)=true
  ·rw[if_pos c];exact (nR e).1
  ·rw[if_neg c];rfl
section
variable {prog:Program} {w:World} {A:Around} {E:FN} {s:Shared}
theorem kz (a:Value) {Q₁:FN}
  (h:∀led:Bool,(w.params.followText "set-order" =false->led=true)->Q₁ (.ref s.heap.objs.size) {s with heap:=s.heap.push {cls:= .type "set",dict:=none,data:= .set #[] 0 (.fresh 0 0 led)}}):
  codeAny (model prog w) A (.call (.builtin "set.__new__") ⟨[.type "set",a],[]⟩) (wants Q₁ E) s:=by
 refine codeAny_of_tree ?_;show wpAny _ A.in1 (do checkBuiltinCall "set.__new__" ⟨[.type "set",a],[]⟩;again (.builtin "set.__new__" ⟨[.type "set",a],[]⟩)) _ _ s
 refine wpAny_bind (wpAny_of_eq (F.newCall_set_1 a) (wpAny_pure ⟨plainId_quiet F.plain_set_new _,codeAny_builtin F.entry_set_new ?_⟩));rw[Around.under_plainId F.plain_set_new _];unfold Builtin.«set.__new__» Builtin.Frozenset.newClass;have hsub:=sub_set_self;obtain ⟨hp,g,d,tk,os⟩:=s;dsimp only
 wp_walk
 refine wpAny_askSetting (wpAny_pure ?_);dsimp only;simp only[newObj];refine wpAny_bind (wpAny_alloc (wpAny_pure ?_));refine wpAny_pure (h _ fun e=>?_)
 show (!(model prog w).w.params.followText "set-order")=true;rw[show (model prog w).w=w from rfl,e]
 rfl
end
open Sw So
def Ri (xs:Array Nat):Prop:=xs.toList.Pairwise (· < ·)
theorem Ri.lt {xs:Array Nat} (h:Ri xs) {i k:Nat} (ik:i<k) (hk:k<xs.size):xs[i]'(Nat.lt_trans ik hk)<xs[k]:=by
 have:=List.pairwise_iff_getElem.mp h i k (by simpa using Nat.lt_trans ik hk) (by simpa using hk) ik
 simpa using this
theorem Ri.le {xs:Array Nat} (h:Ri xs) {i k:Nat} (ik:i<=k) (hk:k<xs.size):xs[i]'(Nat.lt_of_le_of_lt ik hk)<=xs[k]:=by
 rcases Nat.lt_or_eq_of_le ik with q|q
 ·exact Nat.le_of_lt (h.lt q hk)
 ·subst q;exact D9 _
theorem jU {xs:Array Nat} (hr:Ri xs) (j:Nat):∀(f lo hi:Nat),hi<=xs.size->lo<=hi->hi-lo<=f->(∀i (h:i<xs.size),i<lo->xs[i]<j)->(∀i (h:i<xs.size),hi<=i->j<=xs[i])->
  SetTable.below.go xs j f lo hi<=xs.size/\(∀i (h:i<xs.size),i<SetTable.below.go xs j f lo hi->xs[i]<j)/\(∀i (h:i<xs.size),SetTable.below.go xs j f lo hi<=i->j<=xs[i])
 |0,lo,hi,h1,h2,h3,h4,h5=>by
  have e:lo=hi:=by omega
  subst e;exact ⟨h1,h4,h5⟩
 |f+1,lo,hi,h1,h2,h3,h4,h5=>by
  unfold SetTable.below.go
  by_cases c:lo<hi
  ·rw[if_pos c];have hm:(lo+hi)/2<xs.size:=by omega
   have eg:xs.getD ((lo+hi)/2) j=xs[(lo+hi)/2]:=by simp[Array.getD,hm]
   dsimp only;rw[eg]
   by_cases c2:xs[(lo+hi)/2]<j
   ·rw[if_pos c2];exact jU hr j f _ _ h1 (by omega) (by omega) (fun i h q=>Nat.lt_of_le_of_lt (hr.le (Nat.le_of_lt_succ q) hm) c2) h5
   ·rw[if_neg c2];exact jU hr j f _ _ (by omega) (by omega) (by omega) h4 fun i h q=>EF (Nat.not_lt.mp c2) (hr.le q h)
  ·rw[if_neg c];have e:lo=hi:=by omega
   subst e;exact ⟨h1,h4,h5⟩
theorem uF {xs:Array Nat} (hr:Ri xs) (j:Nat):SetTable.below xs j<=xs.size/\(∀i (h:i<xs.size),i<SetTable.below xs j->xs[i]<j)/\(∀i (h:i<xs.size),SetTable.below xs j<=i->j<=xs[i]):=
 jU hr j xs.size 0 xs.size (D9 _) (Dn _) (by omega) (fun i h q=>absurd q (Nat.not_lt_zero _)) fun i h q=>absurd h (Nat.not_lt.mpr q)
theorem sN {t:SetTable} {j:Nat} (hr:Ri t.place) (nl:t.place[SetTable.below t.place j]?≠some j):Ri (t.put j).1.place:=by
 obtain ⟨b1,b2,b3⟩:=uF hr j;show (SetTable.insertAt t.place (SetTable.below t.place j) j).toList.Pairwise (· < ·);generalize SetTable.below t.place j=p at*;have tl:(SetTable.insertAt t.place p j).toList=t.place.toList.take p++j::t.place.toList.drop p:=by
  simp[SetTable.insertAt,Array.toList_extract,List.extract_eq_drop_take];rw[Ee (by simp)]
 rw[tl,List.pairwise_append];have hp:(t.place.toList.take p++t.place.toList.drop p).Pairwise (· < ·):=by rw[Ej];exact hr
 rw[List.pairwise_append] at hp;have up:∀y∈t.place.toList.drop p,j<y:=fun y hy=>by
  obtain ⟨i,hi⟩:=DR.mp hy;rw[List.getElem?_drop,EJ] at hi;obtain ⟨hl,rfl⟩:=Array.getElem?_eq_some_iff.mp hi;have:=b3 _ hl (Nat.le_add_right _ _);rcases Nat.lt_or_eq_of_le this with q|q
  ·exact q
  ·rcases Nat.eq_zero_or_pos i with z|z
   ·subst z;exact absurd (show t.place[p]?=some j from hi.trans (congrArg some q.symm)) nl
   ·have hpl:p<t.place.size:=by omega
    have l1:=b3 p hpl (D9 _);have l2:=hr.lt (i:=p) (k:=p+i) (by omega) hl
    omega
 refine ⟨hp.1,List.pairwise_cons.mpr ⟨up,hp.2.1⟩,fun x hx y hy=>?_⟩
 have xl:x<j:=by
  obtain ⟨i,hi⟩:=DR.mp hx;rw[List.getElem?_take] at hi
  split at hi
  ·rename_i q;rw[EJ] at hi;obtain ⟨hl,rfl⟩:=Array.getElem?_eq_some_iff.mp hi;exact b2 _ hl q
  ·cases hi
 rcases DG.mp hy with q|q
 ·rw[q];exact xl
 ·exact Nat.lt_trans xl (up y q)
theorem uG {t:SetTable} {j:Nat} (h:∀i,t.slot j≠ .live i):t.place[SetTable.below t.place j]?≠some j:=fun e=>by
 refine h (SetTable.below t.place j) ?_;unfold SetTable.slot;simp[e]
theorem iV {t:SetTable} {hs:Nat->Int} {h:Int}:∀(f:Nat) (p:SetTable.Probe),(∀d,p.dummy=some d->∀i,t.slot d≠ .live i)->∀{j:Nat} {dm:Option Nat},SetTable.probe.go t hs h f p=some (.empty j dm)->∀i,t.slot (dm.getD j)≠ .live i
 |0,p,hd,j,dm,e=>by cases e
 |f+1,p,hd,j,dm,e=>by
  unfold SetTable.probe.go at e;cases c:t.slot p.j with
  |empty=>
   rw[c] at e;cases e;cases q:p.dummy with
   |none=>intro i;show t.slot p.j≠_;rw[c];exact fun z=>nomatch z
   |some d=>exact hd d q
  |dummy=>
   rw[c] at e;refine iV f _ (fun d hd'=>?_) e
   have:d=p.j:=by
    unfold SetTable.advance at hd'
    split at hd'<;>(cases hd';rfl)
   subst this;intro i;rw[c];exact fun z=>nomatch z
  |live i=>
   rw[c] at e;dsimp only at e
   split at e
   ·cases e
   ·refine iV f _ (fun d hd'=>?_) e
    refine hd d ?_;unfold SetTable.advance at hd'
    split at hd'<;>exact hd'
theorem mB {t:SetTable} {h:Int} {j:Nat} {b:Bool} (e:t.freeSlot h=some (j,b)):t.place[SetTable.below t.place j]?≠some j:=by
 unfold SetTable.freeSlot at e;cases q:t.probe (fun _=>h+1) h (t.probeStart h) with
 |none=>rw[q] at e;cases e
 |some m=>
  rw[q] at e;cases m with
  |empty k dm=>
   cases e;exact uG (iV _ _ (fun d hd=>by cases (show (none:Option Nat)=some d from hd)) q)
  |candidate _ _ _=>cases e
theorem mC {t:SetTable} {es:Array (Int×Value)} {h:Int} {x:Value} (hr:t.plain=true->Ri t.place):(layNew t es h x).2.1.plain=true->Ri (layNew t es h x).2.1.place:=by
 cases e:t.freeSlot h with
 |none=>simp only[layNew,e];intro z;cases z
 |some r=>
  obtain ⟨j,b⟩:=r;simp only[layNew,e];unfold SetTable.orStandIn
  split
  ·intro z;exact sN (hr z) (mB e)
  ·intro z;cases z
theorem pZ {mask finger moves:Nat} {led plain:Bool} {hs:Array Int} {t:SetTable} {o:Array Nat} (e:SetTable.laid mask finger moves led plain hs=some (t,o)):Ri t.place:=by
 unfold SetTable.laid at e;obtain ⟨ow,_,e2⟩:=DY.mp e;simp only[pure,Option.some.injEq,Prod.mk.injEq] at e2;rw[<-e2.1];show List.Pairwise (· < ·) _;dsimp only;rw[List.pairwise_map,List.pairwise_filterMap];refine List.pairwise_lt_range.imp fun {a b} ab x hx y hy=>?_
 obtain ⟨k,_,rfl⟩:=DB.mp hx;obtain ⟨k',_,rfl⟩:=DB.mp hy;exact ab
theorem jV {t:SetTable} {es:Array (Int×Value)} {n:Nat} (h:(relayAll t es n).2.1.plain=true):Ri (relayAll t es n).2.1.place:=by
 cases e:t.relaid (es.map (·.1)) n with
 |none=>simp only[relayAll,e] at h;cases h
 |some r=>
  obtain ⟨t',order⟩:=r;simp only[relayAll,e] at h⊢
  by_cases c:(coversAll order es.size&&t'.fits (order.filterMap (es[·]?)).size)=true
  ·rw[if_pos c];exact pZ e
  ·rw[if_neg c] at h;cases h
def nS:Value->Int
 | .int y _=>y
 |_=>default
def zC (prog:Program) (w:World) (e:Int×Value):Prop:=∃y t,e=((aJ prog w).hash (.inl y),.int y t)
def vI (prog:Program) (w:World) (h:Heap) (a:Addr) (ys:List Int):Prop:=
 ∃o es ep t,h.get? a=some o/\o.ExactSet/\o.data= .set es ep t/\(∀e∈es.toList,zC prog w e)/\(es.toList.map fun e=>nS e.2).Perm ys/\es.size<scanBound/\t.fits es.size=true/\
  (w.params.followText "set-order" =false->t.led=true)/\(t.plain=true->Ri t.place)
theorem qM {prog:Program} {w:World} {y:Int} {t:Tok}:(aJ prog w).is (.inl y) (.int y t)=true:=jf (k:= .inl y) ⟨t,rfl⟩
theorem jW {prog:Program} {w:World} {l:List (Int×Value)} (h:∀e∈l,zC prog w e):ElemsOf (aJ prog w) l:=fun e he=>by
 obtain ⟨y,t,rfl⟩:=h e he;exact ⟨⟨.inl y,qM,rfl⟩,rfl⟩
def insI (ys:List Int) (y:Int):List Int:=if y∈ys then ys else ys++ [y]
section
variable {prog:Program} {w:World} {A:Around} {E:FN} {s:Shared}
theorem uH {h:Heap} {a:Addr} {ys:List Int} {es:Array (Int×Value)} (te:∀e∈es.toList,zC prog w e) (pm:(es.toList.map fun e=>nS e.2).Perm ys) (y:Int):
  (∃e∈es.toList,(aJ prog w).is (.inl y) e.2=true)↔y∈ys:=by
 rw[<-pm.mem_iff,DP];constructor
 ·rintro ⟨e,he,q⟩;obtain ⟨z,t,rfl⟩:=te e he;obtain ⟨t',e'⟩:=qG q;cases e';exact ⟨_,he,rfl⟩
 ·rintro ⟨e,he,q⟩;obtain ⟨z,t,rfl⟩:=te e he;cases q;exact ⟨_,he,qM⟩
theorem qN {g:Bool->Sem Unit} (hg:∀(b:Bool) (s₁:Shared) (Q':Unit->Shared->Prop),Q' () s₁->wpAny (model prog w) A (g b) Q' E s₁)
  {a:Addr} {o:Obj} {es:Array (Int×Value)} {ep:Nat} {t:SetTable} (ho:s.heap.get? a=some o) (hex:o.ExactSet) (hd:o.data= .set es ep t)
  {es1:Array (Int×Value)} {t2:SetTable} {ys:List Int} (te:∀e∈es1.toList,zC prog w e) (pm:(es1.toList.map fun e=>nS e.2).Perm ys)
  (hb1:es1.size<scanBound) (hf2:t2.fits es1.size=true) (ld:w.params.followText "set-order" =false->t2.led=true) (pl:t2.plain=true->Ri t2.place) {wasDummy:Bool} {R:Option Bool->Shared->Prop}
  (h:∀h',Heap.SameBut a s.heap h'->vI prog w h' a ys->R (some true) {s with heap:=h'}):
  wpAny (model prog w) A (do
    storeSet a es1 t2
    if (!wasDummy&&t2.tooFull)=true then do
      g (relayAll t2 es1 (SetTable.grown es1.size)).2.2
      storeSet a (relayAll t2 es1 (SetTable.grown es1.size)).1 (relayAll t2 es1 (SetTable.grown es1.size)).2.1
      pure (some true)
     else pure (some true)) R E s:=by
 refine wpAny_bind (wpAny_storeSet_of ho hd ?_ (fits_of_scanBound hb1));obtain ⟨ho1,_⟩:=SetOf_store (knd:=aJ prog w) (S':=fun k=>decide (∃e∈es1.toList,(aJ prog w).is k e.2=true)) ho hex hd (jW te) (fun k=>by simp) hb1 hf2
 have hsb1:=Heap.SameBut.update s.heap a (Obj.putSet es1 t2)
 split
 ·have hp:=relayAll_perm t2 es1 (SetTable.grown es1.size);have hfr:=relayAll_fits t2 es1 (SetTable.grown es1.size);have hl:=my t2 es1 (SetTable.grown es1.size);have hpl:= @jV t2 es1 (SetTable.grown es1.size);generalize hRl:relayAll t2 es1 (SetTable.grown es1.size)=Rl at hp hfr hl hpl⊢;obtain ⟨es2,t3,gave2⟩:=Rl;dsimp only at hp hfr hl hpl⊢;have te2:∀e∈es2.toList,zC prog w e:=fun e he=>te e (hp.mem_iff.mp he)
  have hsz:es2.size=es1.size:=by rw[<-Dr,hp.length_eq,Dr]
  have hb2:es2.size<scanBound:=by rw[hsz];exact hb1
  refine wpAny_bind (hg _ _ _ ?_);refine wpAny_bind (wpAny_storeSet_of ho1 rfl ?_ (fits_of_scanBound hb2));obtain ⟨ho2,_⟩:=SetOf_store (knd:=aJ prog w) (S':=fun k=>decide (∃e∈es2.toList,(aJ prog w).is k e.2=true)) ho1 hex rfl (jW te2) (fun k=>by simp) hb2 hfr
  exact wpAny_pure (h _ (hsb1.trans (Heap.SameBut.update _ a _)) ⟨_,es2,_,t3,ho2,hex,rfl,te2,(hp.map _).trans pm,hb2,hfr,fun b=>hl.trans (ld b),hpl⟩)
 ·exact wpAny_pure (h _ hsb1 ⟨_,es1,_,t2,ho1,hex,rfl,te,pm,hb1,hf2,ld,pl⟩)
theorem ya {a:Addr} {ys:List Int} {y:Int} {tk:Tok} {Q:Bool->Shared->Prop} (hS:vI prog w s.heap a ys) (room:ys.length+1<scanBound)
  (h:∀h',Heap.SameBut a s.heap h'->vI prog w h' a (insI ys y)->∀b,Q b {s with heap:=h'}):
  wpAny (model prog w) A (setAddHashed a (.int y tk) ((aJ prog w).hash (.inl y))) Q E s:=by
 obtain ⟨o,es,ep,t,ho,hex,hd,te,pm,hb,hf,ld,pl⟩:=hS;have hel:=jW te;have hsz:es.size=ys.length:=by rw[<-Dr,<-D3 (fun e:Int×Value=>nS e.2),pm.length_eq]
 unfold setAddHashed setAddHashedIn;refine wpAny_holding (wpAny_bind (wpAny_setState_of ho hd hf ?_));dsimp only;rw[byScan_of (knd:=aJ prog w) (x:= .int y tk) rfl hb hel];simp only[↓reduceIte];unfold setAddByScan;refine wpAny_bind ?_;refine wpAny_bind (wpAny_rule ?_);refine wpAny_bind (wpAny_setScan_of (knd:=aJ prog w) (k:= .inl y) qM ho hd hf hel ?_);cases hr:List.findIdx? (fun e=>(aJ prog w).is (.inl y) e.2) es.toList with
 |some j=>
  dsimp only;obtain ⟨hj,hpj,_⟩:=List.findIdx?_eq_some_iff_getElem.mp hr;have hm:y∈ys:=(uH (h:=s.heap) (a:=a) te pm y).mp ⟨es.toList[j],DO hj,hpj⟩;refine wpAny_pure (wpAny_pure ?_);have e:s={s with heap:=s.heap}:=by cases s;rfl
  rw[e];refine h s.heap (Heap.SameBut.refl a s.heap) ?_ _;rw[insI,if_pos hm];exact ⟨o,es,ep,t,ho,hex,hd,te,pm,hb,hf,ld,pl⟩
 |none=>
  dsimp only;have hm:y∉ys:=fun hm=>by
   obtain ⟨e,he,q⟩:=(uH (h:=s.heap) (a:=a) te pm y).mpr hm;have:=List.findIdx?_eq_none_iff.mp hr e he;rw[q] at this;cases this
  have hgw:∀(b:Bool) {s₁:Shared} {Q':Unit->Shared->Prop},Q' () s₁->wpAny (model prog w) A (match b with|true=>rule "set.scan.the-table-gave-way" |false=>pure ()) Q' E s₁:=
   fun b s₁ Q' hq=>by cases b<;>first|exact wpAny_pure hq|exact wpAny_rule hq
  have hperm:=layNew_perm t es ((aJ prog w).hash (.inl y)) (.int y tk);have hfits:=layNew_fits t es ((aJ prog w).hash (.inl y)) (.int y tk);have hled:=pY t es ((aJ prog w).hash (.inl y)) (.int y tk);have hri:=mC (es:=es) (h:=(aJ prog w).hash (.inl y)) (x:= .int y tk) pl;generalize hL:layNew t es ((aJ prog w).hash (.inl y)) (.int y tk)=L at hperm hfits hled hri⊢;obtain ⟨es1,t1,wasDummy,gave⟩:=L;dsimp only at hperm hfits hled hri⊢;rw[Array.toList_push] at hperm;have te1:∀e∈es1.toList,zC prog w e:=fun e he=>by
   rcases DM.mp (hperm.mem_iff.mp he) with q|q
   ·exact te e q
   ·rw[DI.mp q];exact ⟨y,tk,rfl⟩
  have pm1:(es1.toList.map fun e=>nS e.2).Perm (insI ys y):=by
   rw[insI,if_neg hm];refine (hperm.map _).trans ?_;rw[DS];exact pm.append_right _
  have hb1':es1.size<scanBound:=by
   rw[<-Dr,hperm.length_eq,D8,Dr,hsz];exact room
  refine wpAny_bind (hgw _ ?_)
  split
  ·refine wpAny_bind ?_;rw[hashByValue_scannable 8 (x:= .int y tk) rfl];refine wpAny_pure ?_;simp only[show plainKind (Value.int y tk)=true from rfl,if_true]
   refine qN ?_ ho hex hd te1 pm1 hb1' hfits ?_ hri ?_
   ·intro b s₁ Q' hq;cases b<;>first|exact wpAny_pure hq|exact wpAny_rule hq
   ·exact fun b=>hled.trans (ld b)
   ·intro h' hsb hS';dsimp only;exact wpAny_pure (h h' hsb hS' _)
  ·rename_i np;refine wpAny_bind (wpAny_pure ?_);simp only[↓reduceIte];refine qN ?_ ho hex hd te1 pm1 hb1' hfits ?_ hri ?_
   ·intro b s₁ Q' hq;cases b<;>first|exact wpAny_pure hq|exact wpAny_rule hq
   ·exact fun b=>hled.trans (ld b)
   ·intro h' hsb hS';dsimp only;exact wpAny_pure (h h' hsb hS' _)
end
def p6 (xs:List Int) (i:Nat):List Int:=(xs.take i).foldl insI []
theorem nU {xs:List Int} {i:Nat} {y:Int} (h:xs[i]?=some y):p6 xs (i+1)=insI (p6 xs i) y:=by
 unfold p6;rw[List.take_add_one,h,Option.toList_some,List.foldl_append]
 rfl
theorem nV (ys:List Int) (y:Int):(insI ys y).length<=ys.length+1:=by
 unfold insI
 split
 ·omega
 ·simp
theorem qO (xs:List Int):∀i,(p6 xs i).length<=i
 |0=>by simp[p6]
 |i+1=>by
  have ih:=qO xs i;cases h:xs[i]? with
  |none=>
   have:xs.take (i+1)=xs.take i:=by rw[List.take_add_one,h];simp
   unfold p6 at ih⊢;rw[this];omega
  |some y=>
   rw[nU h];have:=nV (p6 xs i) y;omega
section
variable {prog:Program} {w:World} {A:Around} {R:Result->Shared->Prop} {I:Addr} {fp wr:FR} {G:Array GenState->Array GenState->Prop} {n:Nat} {P:Nat->Value->Prop} {St:Nat->Shared->Prop}
theorem sO (W:WalksS prog w A.in1 I fp wr G n P St) (S:Addr) (out:S∉fp) (xs:List Int) (hv:∀i v,P i v->∃y t,xs[i]?=some y/\v= .int y t)
  (hn:n<=xs.length) (hb:n+1<scanBound):∀(m i:Nat) (s:Shared),n-i=m->i<=n->St i s->vI prog w s.heap S (p6 xs i)->
   (∀s',Moved (S::wr) G s s'->vI prog w s'.heap S (p6 xs n)->R (.ok (.ret .none)) s')->codeAny (model prog w) A (.builtin "set.update.loop" ⟨[.ref S,.ref I],[]⟩) R s:=by
 have nw:S∉wr:=fun h=>out (W.sub _ h)
 have up:∀b∈wr,b∈S::wr:=fun b hb=> .tail _ hb
 have stay:∀{s1 s2:Shared} {ys:List Int},vI prog w s1.heap S ys->Moved wr G s1 s2->vI prog w s2.heap S ys:=by
  rintro s1 s2 ys ⟨o,es,ep,t,ho,z⟩ mv;exact ⟨o,es,ep,t,mv.heap S _ nw ho,z⟩
 intro m
 induction m with
 |zero=>
  intro i s hm hi st hS fin;have e:i=n:=by omega
  subst e;apply codeAny_builtin F.entry_set_update_loop;rw[Around.under_plainId F.plain_set_update_loop _];show wpAny _ _ (pyNext (.ref I)>>=_) _ _ s;apply wpAny_bind;refine W.done s _ _ st fun s' mv=>?_
  exact wpAny_pure (fin s' (mv.mono up) (stay hS mv))
 |succ m ih=>
  intro i s hm hi st hS fin;have lt:i<n:=by omega
  apply codeAny_builtin F.entry_set_update_loop;rw[Around.under_plainId F.plain_set_update_loop _];show wpAny _ _ (pyNext (.ref I)>>=_) _ _ s;apply wpAny_bind;refine W.item i s _ _ lt st fun v s' pv st' mv=>?_
  obtain ⟨y,tk,ey,rfl⟩:=hv i v pv;show wpAny _ _ (holding [.int y tk] (setAdd S (.int y tk))>>=_) _ _ s';apply wpAny_bind;apply wpAny_holding;unfold setAdd;apply wpAny_holding;apply wpAny_bind;refine (aJ prog w).pyHash (k:= .inl y) qM ?_;have rm:(p6 xs i).length+1<scanBound:=by
   have:=qO xs i;omega
  refine ya (s:={s' with toks:=s'.toks+1}) (show vI prog w s'.heap S (p6 xs i) from stay hS mv) rm fun h' same S2 b=>?_
  rw[<-nU ey] at S2;apply wpAny_pure;refine ⟨plainId_quiet F.plain_set_update_loop _,ih (i+1) _ (by omega) lt (W.frame _ s' _ _ st' (Eu _) fun b hb o e=>?_) S2 fun s'' mv2 S4=>?_⟩
  ·exact (same.2 b fun z=>out (z▸hb)).trans e
  ·exact fin s'' (Moved.trans W.gtrans ((mv.mono up).then_heap (Eu _) fun b o hb e=>(same.2 b fun z=>hb (z▸Dk)).trans e) mv2) S4
end
section
variable {prog:Program} {w:World} {A:Around} {E:FN} {s:Shared}
set_option maxHeartbeats 3200000 in
theorem sP {l:Addr} {items:Array Value} {xs:List Int} {Q:FN} (hh:A.handled=none) (hl:s.heap.IsList l items) (hv:∀(i:Nat) (v:Value),items[i]?=some v->∃(y:Int) (t:Tok),xs[i]?=some y/\v=Value.int y t)
  (hn:items.size=xs.length) (hb:items.size+1<scanBound)
  (fin:∀(h':Heap) (tk:Nat),vI prog w h' s.heap.objs.size (p6 xs items.size)->(∀b o,b<s.heap.objs.size->s.heap.get? b=some o->h'.get? b=some o)->Q (.ref s.heap.objs.size) {s with heap:=h',toks:=tk}):
  wpAny (model prog w) A (call (.type "set") [.ref l]) Q E s:=by
 obtain ⟨c0,tl0,mro⟩:=F.called_set.mro;have made:=F.called_set.made;have subt:=F.called_set.sub;apply wpAny_call;apply codeAny_of_tree;show wpAny _ _ (callAny (.type "set") _) _ _ _;apply wpAny_pure;refine ⟨Code.quiet_builtin _ (by decide+kernel),codeAny_builtin F.entry_type_call ?_⟩
 rw[Around.under_plain (weight_type_call_type "set" [.ref l] []) rfl];have nt:=F.called_set.notType;have cc:=F.called_set.canCreate;have tc:=F.typeCall_set_1 (.ref l)
 repeat any_goals first|assumption|wp_step
 refine codeAny_mono (kz (.ref l) (E:=E) (Q₁:=fun v s1=>∃led:Bool,(w.params.followText "set-order" =false->led=true)/\v= .ref s.heap.objs.size/\s1={s with heap:=s.heap.push {cls:= .type "set",dict:=none,data:= .set #[] 0 (.fresh 0 0 led)}}) fun led eld=>⟨led,eld,rfl,rfl⟩) fun r s1 hr=>?_
 cases r with
 |error e=>exact hr
 |ok fl=>
  cases fl with
  |ret v=>
   obtain ⟨led,eld,rfl,rfl⟩:=hr;have e0:(s.heap.push {cls:= .type "set",dict:=none,data:= .set #[] 0 (.fresh 0 0 led)}).get? s.heap.objs.size=some {cls:= .type "set",dict:=none,data:= .set #[] 0 (.fresh 0 0 led)}:=Heap.get?_push_size _ rfl;have tS:Shared.TypeIs {s with heap:=s.heap.push {cls:= .type "set",dict:=none,data:= .set #[] 0 (.fresh 0 0 led)}} (.ref s.heap.objs.size) "set" :=⟨_,e0,rfl⟩
   have lk:=F.called_set.init.lookup;have bd:=F.called_set.init.bind (.ref s.heap.objs.size)
   repeat any_goals first|assumption|wp_step
   refine codeAny_mono (codeAny_call_builtin (R:=wants (fun r s2=>r= .none/\∃h' tk,s2={s with heap:=h',toks:=tk}/\vI prog w h' s.heap.objs.size (p6 xs items.size)/\∀b o,b<s.heap.objs.size->s.heap.get? b=some o->h'.get? b=some o) E) F.called_set.init.plain F.entry_set_init (check_set_init_1 tS ?_)) fun r2 s2 hr2=>?_
   ·obtain ⟨⟨lc,ld,lx,ls⟩,hol,hcl,nl,hdl⟩:=hl;simp only at hcl hdl;subst hcl hdl;have el:(s.heap.push {cls:= .type "set",dict:=none,data:= .set #[] 0 (.fresh 0 0 led)}).get? l=some {cls:= .type "list",dict:=ld,data:= .seq items nl,slots:=ls}:=Heap.get?_push_of_some _ hol;have n1:=F.sub_list_set;have n2:=F.sub_list_frozenset;have n3:(Value.type "list" ==Value.type "dict")=false:=by decide
    have il:(s.heap.push {cls:= .type "set",dict:=none,data:= .set #[] 0 (.fresh 0 0 led)}).IsList l items:=⟨_,el,rfl,nl,rfl⟩;unfold Builtin.«set.__init__» noKeywords Builtin.Frozenset.updateFrom;generalize hit:pyIter=PI
    wp_walk
    subst hit;apply wpAny_pyIter_list il;apply wpAny_bind;apply wpAny_runValue;have ll:l<s.heap.objs.size:=Heap.lt_size hol;have h3:A.in1.in1.in1.handled=none:=by simpa using hh
    have nI:l≠(s.heap.push {cls:= .type "set",dict:=none,data:= .set #[] 0 (.fresh 0 0 led)}).objs.size:=by
     rw[Heap.size_push];exact DF (E3 ll)
    have out:s.heap.objs.size∉ [(s.heap.push {cls:= .type "set",dict:=none,data:= .set #[] 0 (.fresh 0 0 led)}).objs.size,l]:=by
     rw[Heap.size_push];simp only[DG,not_or];exact ⟨DF (Nat.lt_succ_self _),EU ll,DZ⟩
    refine sO ((Walks.list h3 _ l nI items).toS) s.heap.objs.size out xs hv (Nat.le_of_eq hn) hb items.size 0 _ rfl (Dn _) ⟨⟨_,Heap.get?_push_size _ rfl,rfl,rfl⟩,il.push _⟩ ?_ ?_
    ·have e1:((s.heap.push {cls:= .type "set",dict:=none,data:= .set #[] 0 (.fresh 0 0 led)}).push {cls:= .type "list_iterator",data:= .fields #[.ref l,.int 0 0]}).get? s.heap.objs.size=some {cls:= .type "set",dict:=none,data:= .set #[] 0 (.fresh 0 0 led)}:=
      Heap.get?_push_of_some _ e0
     exact ⟨_,#[],0,_,e1,⟨rfl,rfl,rfl⟩,rfl,(fun e he=>by simp at he),by simp[p6],by decide,rfl,eld,fun _=>(List.Pairwise.nil:List.Pairwise (· < ·) ([]:List Nat))⟩
    ·intro s' mv S2;obtain ⟨h',g',d',tk',os'⟩:=s';have eg:g'=s.gens:=mv.gens;have ed:d'=s.drawn:=mv.drawn;have eo:os'=s.os:=mv.os;subst eg ed eo;show wpAny _ _ _ _ _ _;apply wpAny_pure;show wpAny _ _ (ret Value.none) _ _ _;apply wpAny_pure;refine ⟨rfl,h',tk',rfl,S2,fun b o hb' e=>?_⟩
     refine mv.heap b o ?_ (Heap.get?_push_of_some _ (Heap.get?_push_of_some _ e));rw[Heap.size_push];simp only[DG,not_or];exact ⟨DF hb',DF (E3 hb'),DZ⟩
   ·cases r2 with
    |error e=>exact hr2
    |ok fl2=>
     cases fl2 with
     |ret r=>
      obtain ⟨rfl,h',tk,rfl,S2,kp⟩:=hr2
      repeat any_goals first|assumption|wp_step
      exact fin _ _ S2 kp
     |_=>exact hr2.elim
  |_=>exact hr.elim
end
theorem nW:∀{xs:List Int} {us:FS},bg (xs.map V.int) us->∀(i:Nat) (v:Value),us[i]?=some v->∃(y:Int) (t:Tok),xs[i]?=some y/\v=Value.int y t
 | [],_,.nil,i,v,h=>by simp at h
 |x::xs,_,.cons r t,0,v,h=>by
  simp at h;subst h;obtain ⟨k,rfl⟩:=r;exact ⟨x,k,rfl,rfl⟩
 |x::xs,_,.cons r t,i+1,v,h=>nW t i v (by simpa using h)
theorem nX {X:Cx} (hc:X.calm=true):dS X (.builtin "sorted") (fun xs H Q=>∃d ks kvs,xs= [.ref d]/\H d=some (.dK kvs)/\kvs.map (·.1)=ks.map (fun y=>(.inr y:Key))/\ks.Nodup/\ks.length<64/\
  ∀p ys,H p=none->ys.Perm ks->sortedS ys=true->Q (.ref p) (aG H p (.lst (ys.map V.str)))):=by
 intro pins s σ H xs us Q I r h;obtain ⟨d,ks,kvs,rfl,hk,ek,nd,l64,q⟩:=h;obtain ⟨u,rfl,ru⟩:=vals1 r;cases ru;obtain ⟨z,hS,ws,rel,D⟩:=nz I.hok hk;obtain ⟨ep,hat⟩:=D.dictAt;have lw:ws.length=ks.length:=by
  rw[<-rel.length];have:=congrArg List.length ek
  simpa using this
 refine Calls.call_function_entry kind_sorted plain_sorted entry_sorted (args_sorted1 _) ?_;unfold Builtin.«sorted»;refine wpAny_bind (m:=checkCount "sorted" 1 1 _) (wpAny_pure ?_);refine wpAny_bind (nO (A:=X.A.in1) (PySem.W.kdl_dict (knd:=aJ X.prog X.w) (kvs:=ws) (ep:=ep) hS) (I.ok.hd hc) hat (by rw[<-rel.length];exact z) fun h' tk acc hlt hkp hacc=>?_)
 have la:acc.toList.length=ks.length:=by rw[Dr,hacc.1,lw]
 have SA:StrsAre acc.toList ks:=qI la fun j v hv=>by
  obtain ⟨k,x,e1,e2⟩:=hacc.2 j v (by rw[<-EJ];exact hv)
  obtain ⟨⟨k',v'⟩,e3,rfl,_⟩:=kL rel e1;have e4:(kvs.map (·.1))[j]?=some k':=by rw[DE,e3];rfl
  rw[ek,DE] at e4;cases e5:ks[j]? with
  |none=>rw[e5] at e4;cases e4
  |some y=>
   rw[e5] at e4;cases e4;obtain ⟨t,ht⟩:=qG e2;exact ⟨y,t,rfl,ht⟩
 refine wpAny_bind (wpAny_newList ?_ (by rw[la,<-lw,<-rel.length];exact z))
 have hoL:(h'.push (seqObj "list" acc.toList.toArray 0)).get? h'.objs.size=some (seqObj "list" acc.toList.toArray 0):=Heap.get?_push_size _ rfl;refine wpAny_bind (wpAny_holding (wpAny_call_entry slot_list_sort ⟨_,hoL,rfl⟩ entry_list_sort (list_sort_treeK strKind_oneLt hoL SA.keysOf (fun v₁ v₂ rest e=>keyKind_strs (by rw[<-e];exact SA)) (by rw[la];exact l64) fun st' hp hs=>⟨_,rfl,?_⟩) (args_list_sort _)))
 obtain ⟨ys,h1,h2,h3⟩:=sorted_out_str SA hp hs;have sl:s.heap.objs.size<=h'.objs.size:=Nat.le_of_lt hlt;refine wpAny_pure ⟨_,rfl,.ref h'.objs.size,_,I.laid (a:=h'.objs.size) (o:= .lst (ys.map V.str)) (h':=sortedHeap (h'.push (seqObj "list" acc.toList.toArray 0)) h'.objs.size acc.toList ((arrOf st').map (·.2))) (t':=tk) (fun b o eo=>?_) sl ?_,rfl,q _ ys (I.hok.fresh sl) h2 h3⟩
 ·have eo':=hkp b o eo;have bl:=Heap.lt_size eo';rw[sortedHeap_old (DF bl) (by rw[size_push'];exact E3 bl)]
  exact Heap.get?_push_of_some _ eo'
 ·obtain ⟨e,he⟩:=sortedHeap_at (out:=(arrOf st').map (·.2)) hoL;refine ⟨by rw[D3,h2.length_eq,<-lw,<-rel.length];exact z,((arrOf st').map (·.2)).toList,e,iD h1,?_⟩
  rw[Array.toArray_toList];exact he
end L2
namespace Sw
open PySem L2 XH Hm
def sQ:HO->Bool
 | .lst _=>true
 | .tup _=>true
 |_=>false
abbrev RA (α:Type):=(Addr->Prop)->Hp->V->α->Prop
def An:Addr->Prop:=fun _=>True
class Mv {α:Type} (R:RA α):Prop where
 mv:∀{P P':Addr->Prop} {H H':Hp} {v:V} {x:α},(∀a o,P a->sQ o=true->H a=some o->P' a/\H' a=some o)->R P H v x->R P' H' v x
theorem dA {α:Type} {R:RA α} [Mv R] {P:Addr->Prop} {H H':Hp} {v:V} {x:α} (h:R P H v x) (g:aB H H'):R P H' v x:=Mv.mv (fun a o p _ e=>⟨p,g a o e⟩) h
theorem iW {α:Type} {R:RA α} [Mv R] {P P':Addr->Prop} {H:Hp} {v:V} {x:α} (h:R P H v x) (g:∀a,P a->P' a):R P' H v x:=Mv.mv (fun a o p _ e=>⟨g a p,e⟩) h
theorem CP {α:Type} {R:RA α} [Mv R] {P:Addr->Prop} {H:Hp} {v:V} {x:α} (h:R P H v x):R An H v x:=iW h fun _ _=>trivial
theorem C8 {α:Type} {R:RA α} [Mv R] {P:Addr->Prop} {H H':Hp} {v:V} {x:α} (h:R P H v x) (g:∀a o,sQ o=true->H a=some o->H' a=some o):R P H' v x:=Mv.mv (fun a o p s e=>⟨p,g a o s e⟩) h
theorem wB {α:Type} {R:RA α} [Mv R] {P:Addr->Prop} {H:Hp} {v:V} {x:α} (h:R P H v x):R (fun a=>P a/\H a≠none) H v x:=Mv.mv (fun a o p _ e=>⟨⟨p,by rw[e];exact nofun⟩,e⟩) h
theorem jt {α:Type} {R:RA α} [Mv R] {P:Addr->Prop} {H:Hp} {v:V} {x:α} {l:Addr} (h:R P H v x) (n:¬P l) (o:HO):R P (aG H l o) v x:=Mv.mv (fun a u p _ e=>⟨p,by
  have:a≠l:=fun z=>n (by rw[<-z];exact p)
  rw[aH this];exact e⟩) h
def A2 {α:Type} (R:V->α->Prop) (vs:List V) (xs:List α):Prop:=vs.length=xs.length/\∀(i:Nat) (v:V) (x:α),vs[i]?=some v->xs[i]?=some x->R v x
theorem A2.imp {α:Type} {R S:V->α->Prop} {vs:List V} {xs:List α} (h:A2 R vs xs) (f:∀v x,R v x->S v x):A2 S vs xs:=⟨h.1,fun i v x e1 e2=>f v x (h.2 i v x e1 e2)⟩
theorem A2.get {α:Type} {R:V->α->Prop} {vs:List V} {xs:List α} (h:A2 R vs xs) {i:Nat} {x:α} (e:xs[i]?=some x):∃v,vs[i]?=some v/\R v x:=by
 have il:i<vs.length:=by rw[h.1];exact (D5.mp e).1
 exact ⟨_,D4 il,h.2 i _ x (D4 il) e⟩
theorem A2.at_ {α:Type} {R:V->α->Prop} {vs:List V} {xs:List α} (h:A2 R vs xs) {i:Nat} {v:V} (e:vs[i]?=some v):∃x,xs[i]?=some x/\R v x:=by
 have il:i<xs.length:=by rw[<-h.1];exact (D5.mp e).1
 exact ⟨_,D4 il,h.2 i v _ e (D4 il)⟩
theorem A2.nil {α:Type} {R:V->α->Prop}:A2 R [] ([]:List α):=⟨rfl,fun i a x e=>by simp at e⟩
theorem A2.append {α:Type} {R:V->α->Prop} {as bs:List V} {xs ys:List α} (h:A2 R as xs) (k:A2 R bs ys):A2 R (as++bs) (xs++ys):=by
 refine ⟨by simp[h.1,k.1],fun i a x e1 e2=>?_⟩
 by_cases c:i<as.length
 ·rw[E4 c] at e1;rw[E4 (by rw[<-h.1];exact c)] at e2
  exact h.2 i a x e1 e2
 ·rw[Dw (by omega)] at e1
  rw[Dw (by rw[<-h.1];omega),<-h.1] at e2
  exact k.2 _ a x e1 e2
theorem A2.one {α:Type} {R:V->α->Prop} {v:V} {x:α} (h:R v x):A2 R [v] [x]:=⟨rfl,fun i a y e1 e2=>by
 cases i with
 |zero=>simp at e1 e2;subst e1 e2;exact h
 |succ n=>simp at e1⟩
theorem A2.snoc {α:Type} {R:V->α->Prop} {vs:List V} {xs:List α} (h:A2 R vs xs) {v:V} {x:α} (r:R v x):A2 R (vs++ [v]) (xs++ [x]):=h.append (.one r)
theorem A2.take {α:Type} {R:V->α->Prop} {vs:List V} {xs:List α} (h:A2 R vs xs) (n:Nat):A2 R (vs.take n) (xs.take n):=by
 refine ⟨by simp[h.1],fun i v x e1 e2=>?_⟩
 rw[List.getElem?_take] at e1 e2
 split at e1
 ·rename_i c;rw[if_pos c] at e2;exact h.2 i v x e1 e2
 ·cases e1
theorem A2.drop {α:Type} {R:V->α->Prop} {vs:List V} {xs:List α} (h:A2 R vs xs) (n:Nat):A2 R (vs.drop n) (xs.drop n):=by
 refine ⟨by simp[h.1],fun i v x e1 e2=>?_⟩
 rw[List.getElem?_drop] at e1 e2;exact h.2 _ v x e1 e2
def bU {α:Type} (R:RA α) (P:Addr->Prop) (H:Hp) (l:Addr) (xs:List α):Prop:=∃vs,H l=some (.lst vs)/\A2 (R P H) vs xs
def nY {α:Type} (R:RA α):RA (List α):=fun P H v xs=>∃l,v= .ref l/\P l/\bU R P H l xs
instance {α:Type} {R:RA α} [Mv R]:Mv (nY R) where
 mv:=fun {P P' H H' v x} g h=>by
  obtain ⟨l,rfl,p,vs,e,r⟩:=h;obtain ⟨p',e'⟩:=g l _ p rfl e;exact ⟨l,rfl,p',vs,e',r.imp fun v x q=>Mv.mv g q⟩
def sR {α:Type} (f:α->List V):RA α:=fun P H v x=>∃t,v= .ref t/\P t/\H t=some (.tup (f x))
instance {α:Type} {f:α->List V}:Mv (sR f) where
 mv:=fun {P P' H H' v x} g h=>by
  obtain ⟨t,rfl,p,e⟩:=h;obtain ⟨p',e'⟩:=g t _ p rfl e;exact ⟨t,rfl,p',e'⟩
def dL {α:Type} (f:α->V):RA α:=fun _ _ v x=>v=f x
instance {α:Type} {f:α->V}:Mv (dL f) where
 mv:=fun _ h=>h
theorem A2.val {α:Type} {f:α->V} {P:Addr->Prop} {H:Hp} {vs:List V} {xs:List α} (h:A2 (dL f P H) vs xs):vs=xs.map f:=by
 apply List.ext_getElem (by rw[D3];exact h.1)
 intro i h1 h2;rw[List.getElem_map];exact h.2 i _ _ (D4 h1) (D4 (by rw[D3] at h2;exact h2))
theorem A2.ofVal {α:Type} (f:α->V) (P:Addr->Prop) (H:Hp) (xs:List α):A2 (dL f P H) (xs.map f) xs:=⟨D3 _,fun i v x e1 e2=>by
 rw[DE,e2] at e1;cases e1
 rfl⟩
theorem bU.same {α:Type} {R:RA α} [Mv R] {P:Addr->Prop} {H H':Hp} {l:Addr} {xs:List α} (h:bU R P H l xs) (g:aB H H'):bU R P H' l xs:=let ⟨vs,e,r⟩:=h;⟨vs,g _ _ e,r.imp fun _ _ q=>dA q g⟩
theorem bU.any {α:Type} {R:RA α} [Mv R] {P:Addr->Prop} {H:Hp} {l:Addr} {xs:List α} (h:bU R P H l xs):bU R An H l xs:=let ⟨vs,e,r⟩:=h;⟨vs,e,r.imp fun _ _ q=>CP q⟩
theorem bU.mono {α:Type} {R:RA α} [Mv R] {P P':Addr->Prop} {H:Hp} {l:Addr} {xs:List α} (h:bU R P H l xs) (g:∀a,P a->P' a):bU R P' H l xs:=let ⟨vs,e,r⟩:=h;⟨vs,e,r.imp fun _ _ q=>iW q g⟩
theorem bU.sq {α:Type} {R:RA α} [Mv R] {P:Addr->Prop} {H H':Hp} {l:Addr} {xs:List α} (h:bU R P H l xs) (g:∀a o,sQ o=true->H a=some o->H' a=some o):bU R P H' l xs:=let ⟨vs,e,r⟩:=h;⟨vs,g _ _ rfl e,r.imp fun _ _ q=>C8 q g⟩
theorem bU.upd {α:Type} {R:RA α} [Mv R] {P:Addr->Prop} {H:Hp} {l x:Addr} {xs:List α} (h:bU R P H l xs) (n:¬P x) (lx:l≠x) (o:HO):bU R P (L2.aG H x o) l xs:=by
 obtain ⟨vs,e,r⟩:=h;exact ⟨vs,by rw[aH lx];exact e,r.imp fun _ _ q=>jt q n o⟩
theorem bU.put {α:Type} {R:RA α} [Mv R] {P:Addr->Prop} {H:Hp} {l:Addr} {vs:List V} {xs:List α} {v:V} {x:α} (n:¬P l) (r:A2 (R P H) vs xs) (h:R P H v x):bU R P (L2.aG H l (.lst (vs++ [v]))) l (xs++ [x]):=
 ⟨_,ah,(r.snoc h).imp fun _ _ q=>jt q n _⟩
theorem bU.ext {α:Type} {R:RA α} [Mv R] {P:Addr->Prop} {H:Hp} {l:Addr} {vs us:List V} {xs ys:List α} (n:¬P l) (r:A2 (R P H) vs xs) (h:A2 (R P H) us ys):bU R P (L2.aG H l (.lst (vs++us))) l (xs++ys):=
 ⟨_,ah,(r.append h).imp fun _ _ q=>jt q n _⟩
theorem bU.new {α:Type} {R:RA α} {P:Addr->Prop} {H:Hp} {l:Addr}:bU R P (L2.aG H l (.lst [])) l ([]:List α):=⟨[],ah,A2.nil⟩
end Sw
namespace L2
open PySem PySem.Spec PyProof.Rows XH Sw Hm
def cQ {β:Type} (n:Nat) (pr:Nat->Bool) (f:Nat->β):List β:=((Dh n).filter pr).map f
theorem p7 {β:Type} (n:Nat) (pr:Nat->Bool) (f:Nat->β):cQ (n+1) pr f=cQ n pr f++(if pr n=true then [f n] else []):=by
 unfold cQ;rw[F4,EL,DS]
 congr 1
 cases h:pr n<;>simp[List.filter_cons,h]
theorem iX {β:Type} (n:Nat) (pr:Nat->Bool) (f:Nat->β):(cQ n pr f).length<=n:=by
 unfold cQ;rw[D3];have:=Ek pr (Dh n)
 rwa [E8] at this
theorem nZ {J:It} {β:Type} {n:Nat} {js:List Nat} {tc:TT} {te:TE} {σ:L2.St} {H1:Hp} {Q:VK} (R:RA β) [Mv R] (Z:Addr->Prop) (pr:Nat->Bool) (f:Nat->β) (hz:n<=sizeLine) (hZ:∀a,Z a->H1 a≠none)
  (hgo:∀i H2,aB H1 H2->i<n->J.go i H2) (hst:∀H2,aB H1 H2->J.stop n H2)
  (step:∀i,i<n->∀H2 x H3,aB H1 H2->J.yld i H2 x H3->H3=H2/\(∀S:Bool->Hp->Prop,(∀H4,aB H2 H4->S (pr i) H4)->tc (some x::aM js σ) H2 S)/\(pr i=true->∀H4,aB H2 H4->∀Q':VK,(∀y H5,aB H4 H5->R (fun a=>H4 a=none∨Z a) H5 y (f i)->Q' y H5)->te (some x::aM js σ) H4 Q'))
  (fin:∀p H',H1 p=none->aB H1 H'->bU R (fun a=>a≠p/\(H1 a=none∨Z a)) H' p (cQ n pr f)->Q (.ref p) H'):iU js tc te σ Q J H1:=by
 intro p hp;refine ⟨fun i m ys H2=>i<=n/\m=n-i/\aB H1 H2/\H2 p=some (.lst ys)/\A2 (R (fun a=>a≠p/\(H1 a=none∨Z a)) H2) ys (cQ i pr f),⟨n,Dn _,rfl,Sw.ag hp _,ah,A2.nil⟩,?_⟩
 rintro i m ys H2 ⟨hi,rfl,g,e,r⟩;refine ⟨e,?_⟩
 by_cases hin:i<n
 ·refine .inr ⟨hgo i H2 g hin,?_,fun x H3 hy=>?_⟩
  ·have:=iX i pr f;have:=r.1;omega
  obtain ⟨rfl,h1,h2⟩:=step i hin H2 x H3 g hy;refine h1 _ fun H4 g4=>?_
  have tk:=p7 i pr f;cases hpr:pr i with
  |true=>
   rw[hpr,if_pos rfl] at tk;rw[if_pos rfl];refine h2 hpr H4 g4 _ fun y H5 g5 ry=>⟨g5 _ _ (g4 _ _ e),n-(i+1),by omega,hin,rfl,Sw.du ((g.trans g4).trans g5) hp _,ah,?_⟩
   rw[tk];have np:¬(p≠p/\(H1 p=none∨Z p)):=fun z=>z.1 rfl
   refine ((r.imp fun v b q=>dA q (g4.trans g5)).snoc (iW ry fun a ha=>?_)).imp fun v b q=>jt q np _
   rcases ha with h|h
   ·exact ⟨(fun z=>by rw[z,g4 _ _ e] at h;cases h),.inl ((g.trans g4).free h)⟩
   ·exact ⟨fun z=>hZ a h (z▸hp),.inr h⟩
  |false=>
   rw[hpr,if_neg (by decide),EQ] at tk
   rw[if_neg (by decide)]
   exact ⟨n-(i+1),by omega,hin,rfl,g.trans g4,g4 _ _ e,by rw[tk];exact r.imp fun v b q=>dA q g4⟩
 ·have e2:i=n:=by omega
  subst e2;exact .inl ⟨hst H2 g,fin p H2 hp g ⟨ys,e,r⟩⟩
theorem uI {J:It} {β:Type} {n:Nat} {js:List Nat} {te:TE} {σ:L2.St} {H1:Hp} {Q:VK} (R:RA β) [Mv R] (Z:Addr->Prop) (f:Nat->β) (hz:n<=sizeLine) (hZ:∀a,Z a->H1 a≠none)
  (hgo:∀i H2,aB H1 H2->i<n->J.go i H2) (hst:∀H2,aB H1 H2->J.stop n H2)
  (step:∀i,i<n->∀H2 x H3,aB H1 H2->J.yld i H2 x H3->H3=H2/\∀Q':VK,(∀y H5,aB H2 H5->R (fun a=>H2 a=none∨Z a) H5 y (f i)->Q' y H5)->te (some x::aM js σ) H2 Q')
  (fin:∀p H',H1 p=none->aB H1 H'->bU R (fun a=>a≠p/\(H1 a=none∨Z a)) H' p ((Dh n).map f)->Q (.ref p) H'):qF js te σ Q J H1:=by
 intro p hp;refine ⟨fun i m ys H2=>i<=n/\m=n-i/\aB H1 H2/\H2 p=some (.lst ys)/\A2 (R (fun a=>a≠p/\(H1 a=none∨Z a)) H2) ys ((Dh i).map f),⟨n,Dn _,rfl,Sw.ag hp _,ah,A2.nil⟩,?_⟩
 rintro i m ys H2 ⟨hi,rfl,g,e,r⟩;refine ⟨e,?_⟩
 by_cases hin:i<n
 ·refine .inr ⟨hgo i H2 g hin,?_,fun x H3 hy=>?_⟩
  ·have:=r.1;rw[D3,E8] at this;omega
  obtain ⟨rfl,h2⟩:=step i hin H2 x H3 g hy;refine h2 _ fun y H5 g5 ry=>⟨g5 _ _ e,n-(i+1),by omega,hin,rfl,Sw.du (g.trans g5) hp _,ah,?_⟩
  rw[F4,DS];have np:¬(p≠p/\(H1 p=none∨Z p)):=fun z=>z.1 rfl
  refine ((r.imp fun v b q=>dA q g5).snoc (iW ry fun a ha=>?_)).imp fun v b q=>jt q np _
  rcases ha with h|h
  ·exact ⟨(fun z=>by rw[z,e] at h;cases h),.inl (g.free h)⟩
  ·exact ⟨fun z=>hZ a h (z▸hp),.inr h⟩
 ·have e2:i=n:=by omega
  subst e2;exact .inl ⟨hst H2 g,fin p H2 hp g ⟨ys,e,r⟩⟩
section
variable {K:D7} {β:Type} {a:Addr} {xs:List V} {n:Nat} {js:List Nat} {tc:TT} {te:TE} {σ:L2.St} {H1:Hp} {Q:VK}
theorem gE (R:RA β) [Mv R] (Z:Addr->Prop) (pr:Nat->Bool) (f:Nat->β) (hS:aC K H1 a xs) (hz:xs.length<=sizeLine) (hZ:∀a,Z a->H1 a≠none)
  (s1:∀i x,xs[i]?=some x->∀H2,aB H1 H2->∀S:Bool->Hp->Prop,(∀H4,aB H2 H4->S (pr i) H4)->tc (some x::aM js σ) H2 S)
  (s2:∀i x,xs[i]?=some x->pr i=true->∀H2,aB H1 H2->∀Q':VK,(∀y H5,aB H2 H5->R (fun a=>H2 a=none∨Z a) H5 y (f i)->Q' y H5)->te (some x::aM js σ) H2 Q')
  (fin:∀p H',H1 p=none->aB H1 H'->bU R (fun a=>a≠p/\(H1 a=none∨Z a)) H' p (cQ xs.length pr f)->Q (.ref p) H'):iU js tc te σ Q (vN K a) H1:=by
 refine nZ R Z pr f hz hZ (fun i H2 g hi=>⟨xs,xs[i],g.seq hS,D4 hi⟩) (fun H2 g=>⟨xs,g.seq hS,D9 _⟩) (fun i hi H2 x H3 g hy=>?_) fin
 obtain ⟨rfl,hx⟩:=hy;have ex:=hx xs (g.seq hS);exact ⟨rfl,s1 i x ex _ g,fun h H4 g4=>s2 i x ex h _ (g.trans g4)⟩
theorem sS (R:RA β) [Mv R] (Z:Addr->Prop) (pr:Nat->Bool) (f:Nat->β) (hz:n<=sizeLine) (hZ:∀a,Z a->H1 a≠none)
  (s1:∀i:Nat,i<n->∀H2,aB H1 H2->∀S:Bool->Hp->Prop,(∀H4,aB H2 H4->S (pr i) H4)->tc (some (.int (0+(i:Int)))::aM js σ) H2 S)
  (s2:∀i:Nat,i<n->pr i=true->∀H2,aB H1 H2->∀Q':VK,(∀y H5,aB H2 H5->R (fun a=>H2 a=none∨Z a) H5 y (f i)->Q' y H5)->te (some (.int (0+(i:Int)))::aM js σ) H2 Q')
  (fin:∀p H',H1 p=none->aB H1 H'->bU R (fun a=>a≠p/\(H1 a=none∨Z a)) H' p (cQ n pr f)->Q (.ref p) H'):iU js tc te σ Q (xh 0 n) H1:=by
 refine nZ R Z pr f hz hZ (fun i H2 g hi=>hi) (fun H2 g=>D9 n) (fun i hi H2 x H3 g hy=>?_) fin
 obtain ⟨rfl,rfl⟩:=hy;exact ⟨rfl,s1 i hi _ g,fun h H4 g4=>s2 i hi h _ (g.trans g4)⟩
theorem bv (R:RA β) [Mv R] (Z:Addr->Prop) (f:Nat->β) (hS:aC K H1 a xs) (hz:xs.length<=sizeLine) (hZ:∀a,Z a->H1 a≠none)
  (s2:∀i x,xs[i]?=some x->∀H2,aB H1 H2->∀Q':VK,(∀y H5,aB H2 H5->R (fun a=>H2 a=none∨Z a) H5 y (f i)->Q' y H5)->te (some x::aM js σ) H2 Q')
  (fin:∀p H',H1 p=none->aB H1 H'->bU R (fun a=>a≠p/\(H1 a=none∨Z a)) H' p ((Dh xs.length).map f)->Q (.ref p) H'):qF js te σ Q (vN K a) H1:=by
 refine uI R Z f hz hZ (fun i H2 g hi=>⟨xs,xs[i],g.seq hS,D4 hi⟩) (fun H2 g=>⟨xs,g.seq hS,D9 _⟩) (fun i hi H2 x H3 g hy=>?_) fin
 obtain ⟨rfl,hx⟩:=hy;exact ⟨rfl,s2 i x (hx xs (g.seq hS)) _ g⟩
theorem n4 {hd:FU} (R:RA β) [Mv R] (Z:Addr->Prop) (f:Nat->β) (hok:nD hd H1) (hz:n<=sizeLine) (hZ:∀a,Z a->H1 a≠none)
  (s2:∀i:Nat,i<n->∀H2,aB H1 H2->∀Q':VK,(∀y H5,aB H2 H5->R (fun a=>H2 a=none∨Z a) H5 y (f i)->Q' y H5)->te (some (.int (0+(i:Int)))::aM js σ) H2 Q')
  (fin:∀p H',H1 p=none->aB H1 H'->bU R (fun a=>a≠p/\(H1 a=none∨Z a)) H' p ((Dh n).map f)->Q (.ref p) H'):qF js te σ Q (wb hd 0 n) H1:=by
 refine uI R Z f hz hZ (fun i H2 g hi=>hi) (fun H2 g=>⟨D9 n,xW hok g⟩) (fun i hi H2 x H3 g hy=>?_) fin
 obtain ⟨rfl,rfl⟩:=hy;exact ⟨rfl,s2 i hi _ g⟩
end
end L2
namespace Sw
open PySem L2 XH Hm
open PySem.NumText
def yb:Str:= "abcdefghijklmnopqrstuvwxyz"
def Nm (z:Str):Prop:=1<=(sL z).length/\(sL z).length<=12/\∀c∈sL z,97<=c/\c<=122
theorem qP (c:Nat):(!(Builtin.Str.occurrences yb (Ck [c]) 0 yb.length 1).isEmpty)=decide (97<=c/\c<=122):=by
 rw[x6];have e:sL yb=(Dh 26).map (97+ ·):=by decide
 rw[e];apply decide_eq_decide.mpr;constructor
 ·intro h;obtain ⟨i,hi,rfl⟩:=DP.mp h;have:=Dy.mp hi;omega
 ·intro h;exact DP.mpr ⟨c-97,Dy.mpr (by omega),by omega⟩
def n6 (K:D7):Sp:=fun vs H Q _=>∃x:V,vs= [x]/\((∃z:Str,x= .str z/\z.length<=1000000/\(Nm z->Q (.bl true) H)/\(¬Nm z->Q (.bl false) H))∨∃ty,io K H x ty/\PySem.W.kitOne K ty (.type "str")=some false/\Q (.bl false) H)
abbrev Us:=Str×Int×Int
abbrev Wy:=Int×Int×List Us
abbrev Tk:=List (List Wy)
abbrev Tl:=List (Str×Int)
def Al (u:Us):List V:= [.str u.1,.int u.2.1,.int u.2.2]
abbrev p8:RA Us:=sR Al
def gN:RA Wy:=fun P H v w=>∃t u:Addr,v= .ref t/\P t/\P u/\H t=some (.tup [.int w.1,.int w.2.1,.ref u])/\bU p8 P H u w.2.2
instance:Mv gN where
 mv:=fun {P P' H H' v x} g h=>by
  obtain ⟨t,u,rfl,p,p2,e,vs,e2,r⟩:=h;obtain ⟨q,e'⟩:=g t _ p rfl e;obtain ⟨q2,e2'⟩:=g u _ p2 rfl e2;exact ⟨t,u,rfl,q,q2,e',vs,e2',r.imp fun _ _ k=>Mv.mv g k⟩
abbrev fj:RA (List Wy):=nY gN
def bq (D:Tl):List (Key×V):=D.map fun p=>(.inr p.1,.int p.2)
def cy (D:Tl) (z:Str):Option Int:=(D.find? fun p=>decide (p.1=z)).map (·.2)
theorem iY (D:Tl):(bq D).length=D.length:=D3 _
theorem jX {D:Tl} {i:Nat} {k:Key} {x:V} (h:(bq D)[i]?=some (k,x)):∃p,D[i]?=some p/\k= .inr p.1/\x= .int p.2:=by
 unfold bq at h;rw[DE] at h;obtain ⟨p,e,q⟩:=DB.mp h;cases q;exact ⟨p,e,rfl,rfl⟩
theorem jj (p:Str×Int) (D:Tl) (z:Str):cy (p::D) z=if p.1=z then some p.2 else cy D z:=by
 unfold cy;rw[EE]
 by_cases h:p.1=z
 ·rw[decide_eq_true h,if_pos h];rfl
 ·rw[decide_eq_false h,if_neg h]
theorem iZ (z:Str):∀D:Tl,eX (bq D) (.inr z)=(cy D z).map V.int
 | []=>rfl
 |p::D=>by
  rw[jj];show eX (((.inr p.1:Key),V.int p.2)::bq D) _=_
  by_cases h:p.1=z
  ·rw[if_pos h,cN (by show (Sum.inr p.1:Key)=_;rw[h])];rfl
  ·rw[if_neg h,cO (by intro e;exact h (by injection e)),iZ z D]
theorem kN {z:Str} {n:Int}:∀{D:Tl},(D.map (·.1)).Nodup->(z,n)∈D->cy D z=some n
 | [],_,h=>by cases h
 |p::D,nd,h=>by
  rw[E2,Eg] at nd;rw[jj];rcases DG.mp h with e|e
  ·subst e;rw[if_pos rfl]
  ·have hn:¬p.1=z:=fun q=>nd.1 (by rw[q];exact List.mem_map_of_mem (f:=Prod.fst) e)
   rw[if_neg hn,kN nd.2 e]
def yc (D:Tl) (us:List Us):Prop:=(us.map (·.1)).Nodup/\us.length<=100/\∀e∈us,∃m,cy D e.1=some m/\1<=e.2.1/\e.2.1<=m/\0<=e.2.2/\e.2.2<=1000000000
def kA (D:Tl) (ws:List Wy):Prop:=1<=ws.length/\ws.length<=2/\∀w∈ws,1<=w.1/\w.1<=w.2.1/\w.2.1<=1000000000/\yc D w.2.2
structure gw (D:Tl) (T:Tk) (A B:List Ky) (n:Int):Prop where
 d12:D.length<=12
 dnd:(D.map (·.1)).Nodup
 tool:∀p∈D,Nm p.1/\1<=p.2/\p.2<=8
 t24:T.length<=24
 ways:∀ws∈T,kA D ws
 n0:0<=n
 n8:n<=8
 a600:A.length<=600
 arcs:∀k∈A,∃p q g:Int,k= [p,q,g]/\0<=p/\p<2*(T.length:Int)+n/\0<=q/\q<2*(T.length:Int)+n/\ -1000000000<=g/\g<=1000000000
 b300:B.length<=300
 pairs:∀k∈B,∃p q:Int,k= [p,q]/\0<=p/\p<(T.length:Int)/\0<=q/\q<(T.length:Int)/\p≠q
def TD (f:Bool) (H:Hp) (a:Addr) (u:HO):Prop:=H a=some u∨(f=true/\∃o,H a=some (.frz o u))
theorem TD.same {f:Bool} {H H':Hp} {a:Addr} {u:HO} (h:TD f H a u) (g:aB H H'):TD f H' a u:=h.elim (fun e=> .inl (g _ _ e)) fun ⟨e,o,k⟩=> .inr ⟨e,o,g _ _ k⟩
theorem TD.no {H:Hp} {a:Addr} {u:HO} (h:TD false H a u):H a=some u:=h.elim id fun ⟨e,_⟩=>by cases e
structure fH (C:Addr) (f:Bool) (H:Hp) (x:Addr) (D:Tl) (T:Tk) (A B:List Ky) (n:Int):Prop where
 ex:∃(dx td tl al pl:Addr) (fs:List (Str×V)),H x=some (.ins C dx fs)/\fs.lookup ("tools" :Str)=some (.ref td)/\fs.lookup ("tasks" :Str)=some (.ref tl)/\fs.lookup ("arcs" :Str)=some (.ref al)/\fs.lookup ("apart" :Str)=some (.ref pl)/\fs.lookup ("moments" :Str)=some (.int n)/\
  TD f H td (.dK (bq D))/\bU fj An H tl T/\aW H al A/\aW H pl B
theorem fH.same {C:Addr} {f:Bool} {H H':Hp} {x:Addr} {D:Tl} {T:Tk} {A B:List Ky} {n:Int} (h:fH C f H x D T A B n) (g:aB H H'):fH C f H' x D T A B n:=by
 obtain ⟨dx,td,tl,al,pl,fs,a,b1,b2,b3,b4,b5,c,d,e,k⟩:=h.ex;exact ⟨dx,td,tl,al,pl,fs,g _ _ a,b1,b2,b3,b4,b5,c.same g,d.same g,e.same g,k.same g⟩
theorem fH.any {C:Addr} {f:Bool} {H:Hp} {x:Addr} {D:Tl} {T:Tk} {A B:List Ky} {n:Int} (h:fH C f H x D T A B n):fH C true H x D T A B n:=by
 obtain ⟨dx,td,tl,al,pl,fs,a,b1,b2,b3,b4,b5,c,d,e,k⟩:=h.ex;exact ⟨dx,td,tl,al,pl,fs,a,b1,b2,b3,b4,b5,c.elim .inl (fun ⟨_,o,q⟩=> .inr ⟨rfl,o,q⟩),d,e,k⟩
theorem aW.sq {H H':Hp} {l:Addr} {ks:List Ky} (h:aW H l ks) (g:∀a o,sQ o=true->H a=some o->H' a=some o):aW H' l ks:=by
 obtain ⟨as,e,r⟩:=h;exact ⟨as,g _ _ rfl e,r.imp fun a k q=>g _ _ rfl q⟩
theorem i5 {H:Hp} {d:Addr} {kvs:List (Key×V)} {o:Obj} (e:H d=some (.dK kvs)):∀a u,sQ u=true->H a=some u->aG H d (.frz o (.dK kvs)) a=some u:=fun a u s h=>by
 rw[aH (fun z=>by rw[z,e] at h;cases h;cases s)]
 exact h
theorem i6 {H H':Hp} {d:Addr} {kvs:List (Key×V)} {o:Obj} (e:H d=some (.dK kvs)) (g:aB (aG H d (.frz o (.dK kvs))) H'):aB H (aG H' d (.dK kvs)):=fun a u h=>by
 by_cases z:a=d
 ·subst z;rw[e] at h;cases h;exact ah
 ·rw[aH z];exact g a u (by rw[aH z];exact h)
theorem fH.walk {C:Addr} {H:Hp} {x:Addr} {D:Tl} {T:Tk} {A B:List Ky} {n:Int} {d:Addr} {kvs:List (Key×V)} {o:Obj} (h:fH C true H x D T A B n) (e:H d=some (.dK kvs)):fH C true (aG H d (.frz o (.dK kvs))) x D T A B n:=by
 obtain ⟨dx,td,tl,al,pl,fs,a,b1,b2,b3,b4,b5,c,dd,ee,k⟩:=h.ex;refine ⟨dx,td,tl,al,pl,fs,by rw[aH (im a e (by intro z;cases z))];exact a,b1,b2,b3,b4,b5,?_,dd.sq (i5 e),ee.sq (i5 e),k.sq (i5 e)⟩
 by_cases z:td=d
 ·subst z;rcases c with c|⟨_,o',c⟩
  ·rw[e] at c;cases c;exact .inr ⟨rfl,o,ah⟩
  ·rw[e] at c;cases c
 ·unfold TD;rw[aH z];exact c
def mD:Sp:=fun vs H Q _=>∃(l:Addr) (ws:List Wy) (P0:Addr->Prop),vs= [.ref l]/\bU gN P0 H l ws/\ws.length<=2/\∀(p:Addr) (H':Hp),aB H H'->H p=none->fj (fun a=>H a=none∨P0 a) H' (.ref p) ws->Q (.ref p) H'
def kO:Sp:=fun vs H Q _=>∃(td:Addr) (D:Tl),vs= [.ref td]/\H td=some (.dK (bq D))/\D.length<=12/\(∀p∈D,Nm p.1/\1<=p.2/\p.2<=8)/\∀H',aB H H'->Q .non H'
def n9:Sp:=fun vs H Q _=>∃(u td:Addr) (D:Tl) (us:List Us),vs= [.ref u,.ref td]/\bU p8 An H u us/\H td=some (.dK (bq D))/\yc D us/\∀H',aB H H'->Q .non H'
def kP:Sp:=fun vs H Q _=>∃(tl td:Addr) (D:Tl) (T:Tk),vs= [.ref tl,.ref td]/\bU fj An H tl T/\H td=some (.dK (bq D))/\T.length<=24/\(∀ws∈T,kA D ws)/\∀H',aB H H'->Q .non H'
def kQ:Sp:=fun vs H Q _=>∃(pl:Addr) (m:Int) (B:List Ky),vs= [.ref pl,.int m]/\aW H pl B/\B.length<=300/\(∀k∈B,∃p q:Int,k= [p,q]/\0<=p/\p<m/\0<=q/\q<m/\p≠q)/\Q .non H
def i7 (C:Addr):Sp:=fun vs H Q _=>∃(x:Addr) (n:Int) (f:Bool) (D:Tl) (T:Tk) (A B:List Ky),vs= [.ref x]/\fH C f H x D T A B n/\Q (.int (2*(T.length:Int)+n)) H
def C9 (H:Hp) (v:V) (B:List Ky):Prop:=(v= .non/\B= [])∨∃pl,v= .ref pl/\aW H pl B
def p9 (C:Addr):Sp:=fun vs H Q _=>∃(x dx td tl al:Addr) (v:V) (n:Int) (D:Tl) (T:Tk) (A B:List Ky),vs= [.ref x,.ref td,.ref tl,.ref al,v,.int n]/\H x=some (.ins C dx [])/\H td=some (.dK (bq D))/\bU fj An H tl T/\aW H al A/\C9 H v B/\gw D T A B n/\
 ∀H',(∀a o,a≠x->H a=some o->H' a=some o)->fH C false H' x D T A B n->Q .non H'
theorem bU.fx {α:Type} {R:RA α} [Mv R] {x:Addr} {H H':Hp} {l:Addr} {T:List α} {C dx:Addr} {fs:List (Str×V)} (h:bU R An H l T) (ex:H x=some (.ins C dx fs)) (g:Fx x H H'):bU R An H' l T:=
 h.sq fun a o s e=>g a o (fun z=>by rw[z,ex] at e;cases e;cases s) e
def qa (w:Wy) (z:Str):Option Us:=w.2.2.find? fun u=>decide (u.1=z)
def dk (w:Wy) (z:Str):Int:=match qa w z with
 |some u=>u.2.1
 |none=>0
theorem gS:∀(xs ys:List Int),(xs.foldl insI ys).length<=ys.length+xs.length
 | [],ys=>by simp
 |x::xs,ys=>by
  have:=gS xs (insI ys x);have:=nV ys x;rw[List.foldl_cons,DL];omega
section
variable (C:Addr)
def mE:Sp:=fun vs H Q _=>∃(v:V) (z:Str) (w:Wy) (P0:Addr->Prop),vs= [v,.str z]/\gN P0 H v w/\(∀(u:Us) (a:Addr),qa w z=some u->P0 a->H a=some (.tup (Al u))->Q (.ref a) H)/\(qa w z=none->Q .non H)
end
end Sw
namespace L2
open PySem PySem.Spec PyProof.Rows XH Sw
theorem kR {a:Addr} {o:Obj} {kvs:List (Key×V)} {g:TG} {tb:TS} {D:Ends} {σ:St} {H:Hp} (Pv:Nat->St->Hp->Prop) (h0:Pv 0 σ H) (hz:∀i σ H,i<=kvs.length->Pv i σ H->H a=some (.frz o (.dK kvs)))
  (hs:∀i k x σ H T,kvs[i]?=some (k,x)->Pv i σ H->H T=none->g (.ref T) σ (aG H T (.tup [kV k,x])) fun σ2 H2=>tb {D with nx:=Pv (i+1),ct:=Pv (i+1),bk:=D.nx} σ2 H2) (hd:∀σ H,Pv kvs.length σ H->D.nx σ H):
  ∃W:Nat->Nat->St->Hp->Prop,(∃m,W 0 m σ H)/\∀i m σ H,W i m σ H->
   ((Itm a o kvs).stop i H/\D.nx σ H)∨((Itm a o kvs).go i H/\∃N:St->Hp->Prop,(∀σ' H',N σ' H'->∃m',m'<m/\W (i+1) m' σ' H')/\∀x H',(Itm a o kvs).yld i H x H'->g x σ H' fun σ2 H2=>tb {D with nx:=N,ct:=N,bk:=D.nx} σ2 H2):=by
 refine ⟨fun i m σ H=>m=kvs.length-i/\i<=kvs.length/\Pv i σ H,⟨kvs.length,by simp,Dn _,h0⟩,?_⟩
 rintro i m σ H ⟨rfl,hi,p⟩
 by_cases hlt:i<kvs.length
 ·refine .inr ⟨⟨hz i σ H hi p,hlt⟩,Pv (i+1),fun σ' H' p'=>⟨kvs.length-(i+1),by omega,rfl,hlt,p'⟩,fun x H' y=>?_⟩
  obtain ⟨T,k,v,rfl,nT,hk,rfl⟩:=y;exact hs i k v σ H T hk p nT
 ·have e:i=kvs.length:=by omega
  subst e;exact .inl ⟨⟨hz _ σ H hi p,rfl⟩,hd σ H p⟩
end L2
namespace Sw
open PySem L2 XH Hm
theorem br {α:Type} (xs:List α) (d:α):(Dh xs.length).map (fun i=>xs.getD i d)=xs:=by
 apply List.ext_getElem
 ·rw[D3,E8]
 ·intro i h1 h2;rw[List.getElem_map,List.getElem_range,aX (D4 h2)]
theorem i8 {α:Type} {n:Nat} (xs:List α) (d:α) (h:n=xs.length):(Dh n).map (fun i=>xs.getD i d)=xs:=by
 subst h;exact br xs d
theorem jY {H:Hp} {td:Addr} {D:Tl} {z:Str} {m:Int} (e:Rd H td (.dK (bq D))) (h:cy D z=some m):iy H td (.str z) (some (.int m)):=
 .inl ⟨_,.inr z,e,rfl,by rw[iZ,h];rfl⟩
theorem mF {us:List Us} {z:Str}:∀{us:List Us} {i:Nat} {e:Us},us[i]?=some e->e.1=z->(∀(j:Nat) (u:Us),j<i->us[j]?=some u->u.1≠z)->us.find? (fun u=>decide (u.1=z))=some e
 | [],i,e,h,_,_=>by simp at h
 |u::us,0,e,h,hz,_=>by
  simp at h;subst h;rw[EE,decide_eq_true hz]
 |u::us,i+1,e,h,hz,hn=>by
  rw[EE,decide_eq_false (hn 0 u (by omega) rfl)]
  exact mF (us:=us) (by simpa using h) hz fun j v hj hv=>hn (j+1) v (by omega) (by simpa using hv)
theorem wC {z:Str} {us:List Us} (hn:∀(j:Nat) (u:Us),us[j]?=some u->u.1≠z):us.find? (fun u=>decide (u.1=z))=none:=by
 rw[List.find?_eq_none];intro u hu;obtain ⟨j,hj⟩:=DR.mp hu;simp[hn j u hj]
theorem wD {z:Str} {us:List Us} {e:Us} (h:us.find? (fun u=>decide (u.1=z))=some e):e∈us/\e.1=z:=by
 refine ⟨Ey h,?_⟩;have:=List.find?_some h
 simpa using this
def Am:RA (Option Us):=fun P H v o=>match o with
 |none=>v= .non
 |some u=>p8 P H v u
instance:Mv Am where
 mv:=fun {P P' H H' v x} g h=>by
  cases x with
  |none=>exact h
  |some u=>exact Mv.mv (R:=p8) g h
theorem oa {w:Wy} {z:Str} (h:qa w z=none):dk w z=0:=by unfold dk;rw[h]
theorem oe {w:Wy} {z:Str} {u:Us} (h:qa w z=some u):dk w z=u.2.1:=by unfold dk;rw[h]
open PyProof.Rows So
end Sw
namespace L2
open PySem PySem.Spec PyProof.Rows XH Sw
end L2
namespace Sw
open PySem L2 XH PyProof.Rows
end Sw
namespace L2
open PySem PySem.Spec PyProof.Rows XH Sw
theorem qb {cs:FR} {its:FS} (h:bg (cs.map V.ref) its):its=cs.map Value.ref:=by
 induction cs generalizing its with
 |nil=>cases h;rfl
 |cons c cs ih=>
  cases h with
  |cons r rr=>cases r;rw[ih rr];rfl
end L2
namespace Sw
open PySem L2 XH PyProof.Rows
def Lt (z:Str):Prop:=∀c∈sL z,97<=c/\c<=122
theorem Lt.app {x y:Str} (h:Lt x) (k:Lt y):Lt (x++y):=fun c hc=>by
 rw[jM] at hc;rcases DM.mp hc with q|q
 ·exact h c q
 ·exact k c q
theorem Lt.cut {x:Str} (h:Lt x) (lo hi:Option Int):Lt (hU x lo hi):=fun c hc=>by
 have hc':c∈((sL x).drop (HT.eV x.length 0 lo)).take (HT.eV x.length x.length hi-HT.eV x.length 0 lo):=by simpa [sL,hU] using hc
 exact h c (List.mem_of_mem_drop (Es hc'))
theorem Lt.nil:Lt "" :=fun c hc=>by
 have:c∈([]:List Nat):=hc;simp at this
theorem Lt.one {c:Nat} (h:97<=c/\c<=122):Lt ⟨#[c]⟩:=fun d hd=>by
 have:d∈ [c]:=hd;rw[DI.mp this];exact h
theorem wE {x:Str} {i:Int} (h:0<=i):(hU x none (some i)).length=min i.toNat x.length:=by
 have e1:HT.eV x.length 0 none=0:=rfl;have e2:HT.eV x.length x.length (some i)=min i.toNat x.length:=by
  unfold HT.eV;simp;omega
 show ((x.cps.toList.drop _).take _).toArray.size=_;rw[e1,e2,DN,Ds,E6];have:x.cps.toList.length=x.length:=by simp[Str.length]
 omega
theorem wG {x:Str} {i:Int} (h:0<=i):(hU x (some i) none).length=x.length-i.toNat:=by
 have e1:HT.eV x.length 0 (some i)=min i.toNat x.length:=by
  unfold HT.eV;simp;omega
 have e2:HT.eV x.length x.length none=x.length:=rfl;show ((x.cps.toList.drop _).take _).toArray.size=_;rw[e1,e2,DN,Ds,E6];have:x.cps.toList.length=x.length:=by simp[Str.length]
 omega
theorem Lt.nm {z:Str} (h:Lt z) (h1:1<=z.length) (h2:z.length<=12):Nm z:=⟨by rw[mw];exact h1,by rw[mw];exact h2,h⟩
end Sw
namespace L2
open PySem PySem.Spec PyProof.Rows XH Sw
end L2
namespace Sw
open PySem L2 XH Hm PySem.NumText
end Sw
namespace L2
open PySem PySem.Spec PyProof.Rows XH Sw
end L2
namespace Sw
open PySem L2 XH Hm
theorem A2.rev {α:Type} {R:V->α->Prop} {vs:List V} {xs:List α} (h:A2 R vs xs):A2 R vs.reverse xs.reverse:=by
 refine ⟨by simp[h.1],fun i v x e1 e2=>?_⟩
 have il:i<vs.length:=by
  have:=(D5.mp e1).1
  simpa using this
 rw[List.getElem?_reverse il] at e1;rw[List.getElem?_reverse (by rw[<-h.1];exact il),<-h.1] at e2
 exact h.2 _ v x e1 e2
theorem aV {α:Type} {us:List α} {i:Nat} {u:α} (h:us[i]?=some u):us.take (i+1)=us.take i++ [u]:=by
 rw[List.take_add_one,h]
 rfl
def mG (o:Option Int) (g:Int):Int:=if o.getD g>g then o.getD g else g
def qQ (p q:Int) (o:Option Int) (a:Rn):Option Int:=if a.1=p/\a.2.1=q then some (mG o a.2.2) else o
def c8 (A:List Rn) (p q:Int):Option Int:=A.foldl (qQ p q) none
def FoldIs (p q:Int) (A:List Rn) (o:Option Int):Option Int->Prop
 |none=>o=none/\∀a∈A,¬(a.1=p/\a.2.1=q)
 |some m=>(o=some m∨∃a∈A,a.1=p/\a.2.1=q/\a.2.2=m)/\(∀h,o=some h->h<=m)/\∀a∈A,a.1=p->a.2.1=q->a.2.2<=m
theorem wH (o:Option Int) (g:Int):(o=some (mG o g)∨mG o g=g)/\g<=mG o g/\∀h,o=some h->h<=mG o g:=by
 cases o with
 |none=>simp[mG]
 |some h=>
  simp only[mG,Option.getD_some,Option.some.injEq]
  split
  ·exact ⟨.inl rfl,by omega,fun z e=>by omega⟩
  ·exact ⟨.inr rfl,by omega,fun z e=>by omega⟩
theorem gF (p q:Int):∀(A:List Rn) (o:Option Int),FoldIs p q A o (A.foldl (qQ p q) o)
 | [],o=>by cases o<;>simp[FoldIs]
 |a::A,o=>by
  have ih:=gF p q A (qQ p q o a);show FoldIs p q (a::A) o (A.foldl (qQ p q) (qQ p q o a));generalize A.foldl (qQ p q) (qQ p q o a)=r at ih⊢
  by_cases c:a.1=p/\a.2.1=q
  ·have e:qQ p q o a=some (mG o a.2.2):=if_pos c;rw[e] at ih;obtain ⟨s1,s2,s3⟩:=wH o a.2.2;cases r with
   |none=>exact absurd ih.1 nofun
   |some m=>
    obtain ⟨h1,h2,h3⟩:=ih;have h2:=h2 _ rfl;refine ⟨?_,fun h e=>Int.le_trans (s3 h e) h2,fun b hb b1 b2=>?_⟩
    ·rcases h1 with h1|⟨b,hb,q1⟩
     ·injection h1 with h1
      rcases s1 with s1|s1
      ·exact .inl (by rw[s1,h1])
      ·exact .inr ⟨a,Dk,c.1,c.2,by omega⟩
     ·exact .inr ⟨b,DW _ hb,q1⟩
    ·rcases DG.mp hb with rfl|hb
     ·omega
     ·exact h3 b hb b1 b2
  ·have e:qQ p q o a=o:=if_neg c;rw[e] at ih;cases r with
   |none=>exact ⟨ih.1,fun b hb=>by rcases DG.mp hb with rfl|hb;exact c;exact ih.2 b hb⟩
   |some m=>
    obtain ⟨h1,h2,h3⟩:=ih;refine ⟨?_,h2,fun b hb b1 b2=>?_⟩
    ·rcases h1 with h1|⟨b,hb,q1⟩
     ·exact .inl h1
     ·exact .inr ⟨b,DW _ hb,q1⟩
    ·rcases DG.mp hb with rfl|hb
     ·exact absurd ⟨b1,b2⟩ c
     ·exact h3 b hb b1 b2
theorem sT {A:List Rn} {p q:Int} (h:∀a∈A,¬(a.1=p/\a.2.1=q)):c8 A p q=none:=by
 have:=gF p q A none;unfold c8;cases e:A.foldl (qQ p q) none with
 |none=>rfl
 |some m=>
  rw[e] at this;rcases this.1 with z|⟨a,ha,q1,q2,_⟩
  ·cases z
  ·exact absurd ⟨q1,q2⟩ (h a ha)
theorem sU {A:List Rn} {p q m:Int} (h1:∃a∈A,a.1=p/\a.2.1=q/\a.2.2=m) (h2:∀a∈A,a.1=p->a.2.1=q->a.2.2<=m):c8 A p q=some m:=by
 have:=gF p q A none;unfold c8;obtain ⟨b,hb,b1,b2,b3⟩:=h1;cases e:A.foldl (qQ p q) none with
 |none=>
  rw[e] at this;exact absurd ⟨b1,b2⟩ (this.2 b hb)
 |some k=>
  rw[e] at this;obtain ⟨q1,_,q3⟩:=this;have k1:=q3 b hb b1 b2;rcases q1 with z|⟨a,ha,a1,a2,a3⟩
  ·cases z
  ·have:=h2 a ha a1 a2
   congr 1
   omega
theorem sV {A:List Rn} {i:Nat} {a:Rn} (h:A[i]?=some a) (p q:Int):c8 (A.take (i+1)) p q=qQ p q (c8 (A.take i) p q) a:=by
 unfold c8;rw[List.take_add_one,h,List.foldl_append]
 rfl
def fw (A:List Rn) (c:List Int):Nat->Option Int
 |0=>some 0
 |i+1=>(fw A c i).bind fun t=>(c8 A (c.getD i 0) (c.getD (i+1) 0)).map fun g=>t+g
theorem i9 {A:List Rn} {c:List Int} {i:Nat} (h:fw A c i=none):∀{j:Nat},i<=j->fw A c j=none
 |0,hj=>by
  have:i=0:=by omega
  subst this;exact h
 |j+1,hj=>by
  by_cases e:i=j+1
  ·rw[<-e];exact h
  ·have:=i9 h (j:=j) (by omega)
   show (fw A c j).bind _=none;rw[this]
   rfl
theorem kS {A:List Rn} {c:List Int} {i:Nat} {x y t:Int} (h:fw A c i=some t) (hx:c[i]?=some x) (hy:c[i+1]?=some y):fw A c (i+1)=(c8 A x y).map fun g=>t+g:=by
 show (fw A c i).bind _=_;rw[h,Dl,hx,Dl,hy]
 rfl
def bP (A:List Rn) (c:List Int):Option Int:=fw A c (c.length-1)
def uJ (A:List Rn) (p q:Int) (i:Nat):Bool:=match A[i]? with
 |some r=>decide (r.1=p/\r.2.1=q)
 |none=>false
def uK (A:List Rn) (i:Nat):Int:=match A[i]? with
 |some r=>r.2.2
 |none=>0
def wI (A:List Rn) (p q:Int):List Int:=((Dh A.length).filter (uJ A p q)).map (uK A)
theorem mH {A:List Rn} {i:Nat} {r:Rn} (h:A[i]?=some r) (p q:Int):uJ A p q i=decide (r.1=p/\r.2.1=q):=by unfold uJ;rw[h]
theorem mI {A:List Rn} {i:Nat} {r:Rn} (h:A[i]?=some r):uK A i=r.2.2:=by unfold uK;rw[h]
theorem mJ {A:List Rn} {p q z:Int}:z∈wI A p q↔∃a∈A,a.1=p/\a.2.1=q/\a.2.2=z:=by
 unfold wI;simp only[DP,Ea,Dy];constructor
 ·rintro ⟨i,⟨hi,ht⟩,hv⟩;have hr:=D4 hi;rw[mH hr,decide_eq_true_eq] at ht;rw[mI hr] at hv;exact ⟨_,DO hi,ht.1,ht.2,hv⟩
 ·rintro ⟨a,ha,h1,h2,h3⟩;obtain ⟨i,hi⟩:=DR.mp ha;refine ⟨i,⟨(D5.mp hi).1,?_⟩,?_⟩
  ·rw[mH hi];exact decide_eq_true ⟨h1,h2⟩
  ·rw[mI hi];exact h3
theorem uL {A:List Rn} {p q:Int} (h:wI A p q= []):c8 A p q=none:=sT fun a ha z=>by
 have:=mJ.mpr ⟨a,ha,z.1,z.2,rfl⟩;rw[h] at this;cases this
theorem uM {A:List Rn} {p q m:Int} (h1:m∈wI A p q) (h2:∀z∈wI A p q,z<=m):c8 A p q=some m:=
 sU (mJ.mp h1) fun a ha a1 a2=>h2 _ (mJ.mpr ⟨a,ha,a1,a2,rfl⟩)
def eY (A:List Rn) (c:List Int):Option Int:=if c= [] then none else bP A (c++c.take 1)
def oV:Option Int->V
 |none=> .non
 |some g=> .int g
theorem wJ (o:Option Int) (g:Int):(o.map V.int).getD (.int g)= .int (o.getD g):=by cases o<;>rfl
abbrev uN (H:Hp) (l:Addr) (A:List Rn):Prop:=aW H l (A.map rk)
def sW (kvs:List (List Key×V)) (A:List Rn):Prop:=∀p q:Int,eX kvs [.inl p,.inl q]=(c8 A p q).map V.int
theorem sW.put {kvs:List (List Key×V)} {A:List Rn} {i:Nat} {r:Rn} (h:sW kvs (A.take i)) (hr:A[i]?=some r):sW (putK kvs [.inl r.1,.inl r.2.1] (.int (mG (c8 (A.take i) r.1 r.2.1) r.2.2))) (A.take (i+1)):=by
 intro p q;rw[ud,sV hr];unfold qQ
 by_cases c:r.1=p/\r.2.1=q
 ·obtain ⟨rfl,rfl⟩:=c;rw[if_pos rfl,if_pos ⟨rfl,rfl⟩]
  rfl
 ·rw[if_neg c,if_neg (fun z=>c (by injection z with z1 z2;injection z1 with z1;injection z2 with z2;injection z2 with z2;exact ⟨z1.symm,z2.symm⟩))]
  exact h p q
def mK:Sp:=fun vs H Q _=>∃(l:Addr) (A:List Rn),vs= [.ref l]/\uN H l A/\A.length<=700/\∀(d:Addr) (kvs:List (List Key×V)) (H':Hp),aB H H'->H d=none->H' d=some (.dT kvs)->sW kvs A->Q (.ref d) H'
def xu:Sp:=fun vs H Q _=>∃(l:Addr) (A:List Rn) (p q:Int),vs= [.ref l,.int p,.int q]/\uN H l A/\A.length<=700/\∀H',aB H H'->Q (oV (c8 A p q)) H'
def og:Sp:=fun vs H Q _=>∃(l c:Addr) (A:List Rn) (C:List Int),vs= [.ref l,.ref c]/\uN H l A/\A.length<=700/\H c=some (.lst (C.map V.int))/\C.length<=700/\∀H',aB H H'->Q (oV (bP A C)) H'
def qR:Sp:=fun vs H Q _=>∃(l c:Addr) (A:List Rn) (C:List Int),vs= [.ref l,.ref c]/\uN H l A/\A.length<=700/\H c=some (.lst (C.map V.int))/\C.length<=690/\∀H',aB H H'->Q (oV (eY A C)) H'
theorem yd {A:List Rn} {y x g:Int} (h:(y,x,g)∈A):∃G,c8 A y x=some G/\g<=G:=by
 have:=gF y x A none;unfold c8;cases e:A.foldl (qQ y x) none with
 |none=>
  rw[e] at this;exact absurd ⟨rfl,rfl⟩ (this.2 _ h)
 |some m=>
  rw[e] at this;exact ⟨m,rfl,this.2.2 _ h rfl rfl⟩
theorem jx (x:Int) (c:List Int):oZ (.int x) (c.map V.int)=decide (x∈c):=by
 unfold oZ;rw[E5];simp[vH]
end Sw
namespace L2
open PySem PySem.Spec PyProof.Rows XH Sw Hm
variable {X:Cx}
theorem cT (hc:X.calm=true):dS X (.builtin "min") (fun xs H Q=>∃(a:Addr) (ns:List Int),xs= [.ref a]/\aC X.K H a (ns.map V.int)/\ns≠ []/\∀M:Int,M∈ns->(∀z∈ns,M<=z)->Q (.int M) H):=by
 intro pins s σ H xs us Q I r h;obtain ⟨a,ns,rfl,h1,hne,q⟩:=h;obtain ⟨u,rfl,r1⟩:=vals1 r;cases r1;obtain ⟨its,rv,p,hz⟩:=I.list h1;have hi:=iB rv;obtain ⟨xs,e⟩:=hi.allInts.items;have lst:xs.toList.map (·.1)=ns:=by
  rw[<-hi.numsOf,<-nums_intItems xs,<-e]
 have len:ns.length=xs.size:=by rw[<-lst,D3,Dr]
 have pos:0<xs.size:=len▸F0.mpr hne;refine min_intList (I.ok.hd hc) (xs:=xs) (by have z:=p.isList;rw[e] at z;exact z) pos fun v h' tk hv hk=>?_
 obtain ⟨t,rfl⟩:=intItems_at hv;have best:=argBest_lt (numAt xs) (xs.size-1);refine ⟨.int _,H,I.kept (h':=h') (t':=tk) hk,⟨_,rfl⟩,q _ ?_ fun z hz=>?_⟩
 ·have m:=best.1;rw[<-lst,numAt_eq];refine getD_mem ?_;rw[lst,len];omega
 ·rw[<-lst] at hz;obtain ⟨j,hj,rfl⟩:=mem_getD hz;rw[lst,len] at hj;have m:=best.2 j (by omega)
  rw[<-numAt_eq];exact m
theorem gG (hc:X.calm=true):dS X (.builtin "sum") (fun xs H Q=>∃(a:Addr) (ns:List Int),xs= [.ref a]/\aC X.K H a (ns.map V.int)/\Q (.int ns.sum) H):=by
 intro pins s σ H xs us Q I r h;obtain ⟨a,ns,rfl,h1,q⟩:=h;obtain ⟨u,rfl,r1⟩:=vals1 r;cases r1;obtain ⟨its,rv,p,hz⟩:=I.list h1;have hi:=iB rv;obtain ⟨xs,e⟩:=hi.allInts.items;have lst:xs.toList.map (·.1)=ns:=by
  rw[<-hi.numsOf,<-nums_intItems xs,<-e]
 refine sum_intListG (I.ok.hd hc) (xs:=xs) (by have z:=p.isList;rw[e] at z;exact z) fun h' tk t hk=>?_
 refine ⟨.int ns.sum,H,I.kept (h':=h') (t':=tk) hk,⟨t,?_⟩,q⟩;rw[preSum_eq,Ee (by simp),lst]
def uO (K:D7) (te:TE):TE:=fun σ H Q=>te σ H fun x H1=>∃(a:Addr) (xs:List Int),x= .ref a/\aC K H1 a (xs.map V.int)/\xs.length<4000/\Q (.int (xs.foldl insI []).length) H1
section
variable {e:Expr} {te:TE} {p1 p2 pos pos2:Pos}
theorem jZ (hc:X.calm=true) (g1:Gl X "len") (m1:X.mg "len" =none) (g2:Gl X "set") (m2:X.mg "set" =none) (b1:bootBuiltins "len" =some (.builtin "len")) (b2:bootBuiltins "set" =some (.type "set")) (he:PE X e te)
  (hs:starEach [e] X.env= [(false,eval e X.env)]:=by rfl):
  PE X (.Call (.Name "len" p1) [.Call (.Name "set" p2) [e] [] pos2] [] pos) (uO X.K te):=by
 intro pins s σ H Q I h;apply wpAny_Call_Name_kw;refine dC I g1 m1 b1 ?_ (by decide) (by decide)
 refine Calls.callWith_builtin rfl (Calls.evalArgs_plain ?_);refine Calls.spliced_cons (x:=eval (.Call (.Name "set" p2) [e] [] pos2) X.env) (rest:= []) ?_;apply wpAny_Call_Name_kw;refine dC I g2 m2 b2 ?_ (by decide) (by decide)
 refine Dt ?_ hs rfl;rw[hs];refine Calls.spliced_cons (x:=eval e X.env) (rest:= []) (bi (he pins s σ H _ I h) fun v s1 ⟨x,H1,I1,r1,a,xs,ex,hq,few,q⟩=>?_)
 subst ex;cases r1;apply Calls.spliced_nil;obtain ⟨its,rv,pl,hz⟩:=I1.list hq;have sz:its.toArray.size=xs.length:=by rw[DN,<-rv.length,D3]
 have hli:s1.heap.IsList a its.toArray:=pl.isList;refine sP (xs:=xs) (I.ok.hd hc) hli (fun i v hv=>nW rv i v (by simpa using hv)) sz (by rw[sz];show xs.length+1<4096;omega) fun h' tk S2 kp=>?_
 apply Calls.spliced_nil;obtain ⟨o,es,ep,t,ho,hx,hd,_,hp,hb,hf,_⟩:=S2;have ln:es.size=(xs.foldl insI []).length:=by
  have:=hp.length_eq;rw[D3,Dr] at this;rw[this];unfold p6;rw[sz,DV]
 refine call_len_set ho hx hd hf (by have:es.size<4096:=hb;omega) ?_
 exact ⟨.int (xs.foldl insI []).length,H1,I1.kept (fun b o e=>kp b o (Heap.lt_size e) e),⟨_,by rw[ln]⟩,q⟩
end
end L2
namespace Sw
open PySem L2 XH Hm
theorem mL {xs:List Int}:∀{ys:List Int},(ys++xs).Nodup->xs.foldl insI ys=ys++xs:=by
 induction xs with
 |nil=>intro ys _;simp
 |cons x xs ih=>
  intro ys h;rw[List.foldl_cons];have hx:x∉ys:=by
   rw[El] at h;exact fun hm=>h.2.2 x hm x Dk rfl
  have e:insI ys x=ys++ [x]:=if_neg hx;rw[e,ih (by simpa using h)]
  simp
theorem mM {xs:List Int}:∀{ys:List Int},ys.Nodup->¬(ys++xs).Nodup->(xs.foldl insI ys).length<ys.length+xs.length:=by
 induction xs with
 |nil=>intro ys h1 h2;simp at h2;exact absurd h1 h2
 |cons x xs ih=>
  intro ys h1 h2;rw[List.foldl_cons,DL]
  by_cases hx:x∈ys
  ·have e:insI ys x=ys:=if_pos hx;rw[e];have:=gS xs ys;omega
  ·have e:insI ys x=ys++ [x]:=if_neg hx;rw[e];have:=ih (ys:=ys++ [x]) (by rw[El];exact ⟨h1,by simp,fun a ha b hb z=>by simp at hb;subst hb;exact hx (z▸ha)⟩) (by simpa using h2)
   simp at this⊢;omega
theorem j2 (xs:List Int):decide (V.int ((xs.foldl insI []).length:Nat)=V.int (xs.length:Nat))=decide xs.Nodup:=by
 by_cases h:xs.Nodup
 ·rw[decide_eq_true h,decide_eq_true];rw[mL (ys:= []) (by simpa using h)]
  rfl
 ·rw[decide_eq_false h,decide_eq_false];intro e;injection e with e
  have:=mM (xs:=xs) (ys:= []) List.nodup_nil (by simpa using h)
  simp at this;omega
abbrev Pk:=List (Option Nat)
def fM:Option Nat->V
 |none=> .non
 |some j=> .int (j:Int)
def em (H:Hp) (t:Addr) (P:Pk) (O:List Ky):Prop:=∃pl ol:Addr,H t=some (.tup [.ref pl,.ref ol])/\H pl=some (.lst (P.map fM))/\aW H ol O
theorem em.same {H H':Hp} {t:Addr} {P:Pk} {O:List Ky} (h:em H t P O) (g:aB H H'):em H' t P O:=by
 obtain ⟨pl,ol,a,b,c⟩:=h;exact ⟨pl,ol,g _ _ a,g _ _ b,c.same g⟩
theorem em.sq {H H':Hp} {t:Addr} {P:Pk} {O:List Ky} (h:em H t P O) (g:∀a o,sQ o=true->H a=some o->H' a=some o):em H' t P O:=by
 obtain ⟨pl,ol,a,b,c⟩:=h;exact ⟨pl,ol,g _ _ rfl a,g _ _ rfl b,c.sq g⟩
structure mN (T:Tk) (P:Pk):Prop where
 len:P.length=T.length
 pick:∀(i j:Nat) (ws:List Wy),P[i]?=some (some j)->T[i]?=some ws->j<ws.length
def aO (T:Tk) (P:Pk) (i:Nat):List Wy:=match P.getD i none with
 |none=>T.getD i []
 |some j=> [(T.getD i []).getD j (0,0,[])]
def eZ:List Int->Int
 | []=>0
 | [x]=>x
 |x::y::r=>if x<=eZ (y::r) then x else eZ (y::r)
theorem eP:∀{l:List Int},l≠ []->eZ l∈l/\∀z∈l,eZ l<=z
 | [],h=>absurd rfl h
 | [x],_=>by simp[eZ]
 |x::y::r,_=>by
  have ih:=eP (l:=y::r) nofun;unfold eZ
  by_cases c:x<=eZ (y::r)
  ·rw[if_pos c];refine ⟨Dk,fun z hz=>?_⟩
   rcases DG.mp hz with e|e
   ·rw[e];exact EW _
   ·have:=ih.2 z e;omega
  ·rw[if_neg c];refine ⟨DW _ ih.1,fun z hz=>?_⟩
   rcases DG.mp hz with e|e
   ·rw[e];omega
   ·exact ih.2 z e
theorem dP {l:List Int} {m:Int} (hm:m∈l) (h:∀z∈l,m<=z):m=eZ l:=by
 have hne:l≠ []:=fun e=>by rw[e] at hm;cases hm
 obtain ⟨a,b⟩:=eP hne;have:=h _ a;have:=b _ hm;omega
def gx (T:Tk) (P:Pk) (i:Nat) (z:Str):Int:=eZ ((aO T P i).map fun w=>dk w z)
def dI (T:Tk) (P:Pk) (i:Nat) (z:Str):Int:=eZ ((aO T P i).map fun w=>w.1*dk w z)
def bZ (v w:Wy):Bool:=v.2.2.any fun u=>match qa w u.1 with
 |some x=> !decide (x.2.2=u.2.2)
 |none=>false
def bQ (T:Tk) (P:Pk) (i j:Nat):Bool:=(aO T P i).all fun v=>(aO T P j).all fun w=>bZ v w
theorem gH {D:Tl} {T:Tk} {P:Pk} {i:Nat} (hT:∀ws∈T,kA D ws) (il:i<T.length):aO T P i≠ []:=by
 unfold aO;cases P.getD i none with
 |none=>
  rw[aX (D4 il)];have:=(hT _ (DO il)).1;intro (e:T[i]= []);rw[e] at this;simp at this
 |some j=>exact nofun
theorem fb {D:Tl} {T:Tk} {P:Pk} {i:Nat} (hT:∀ws∈T,kA D ws) (il:i<T.length):(aO T P i).length<=2:=by
 unfold aO;cases P.getD i none with
 |none=>
  rw[aX (D4 il)];exact (hT _ (DO il)).2.1
 |some j=>exact Nat.le_of_ble_eq_true rfl
theorem jy {D:Tl} {T:Tk} {P:Pk} {i:Nat} (hT:∀ws∈T,kA D ws) (pk:mN T P) (il:i<T.length):∀w∈aO T P i,∃ws∈T,w∈ws:=by
 intro w hw;unfold aO at hw;have hTi:=D4 il;have hPi:=D4 (show i<P.length by rw[pk.len];exact il)
 rw[aX hTi,aX hPi] at hw;cases hp:P[i]'(by rw[pk.len];exact il) with
 |none=>
  rw[hp] at hw;exact ⟨_,DO il,hw⟩
 |some j=>
  rw[hp] at hw hPi;have jl:=pk.pick i j _ hPi hTi;replace hw:w∈ [(T[i]).getD j (0,0,[])]:=hw;rw[aX (D4 jl),DI] at hw;rw[hw];exact ⟨_,DO il,DO jl⟩
section
variable (C:Addr)
structure j3 (f:Bool) (H:Hp) (x t:Addr) (D:Tl) (T:Tk) (A B:List Ky) (n:Int) (P:Pk) (O:List Ky):Prop where
 net:fH C f H x D T A B n
 case_:em H t P O
 ok:gw D T A B n
 pk:mN T P
def cv (f:Bool) (H:Hp) (x t:Addr) (Q:Tl->Tk->List Ky->List Ky->Int->Pk->List Ky->Prop):Prop:=∃(D:Tl) (T:Tk) (A B:List Ky) (n:Int) (P:Pk) (O:List Ky),j3 C f H x t D T A B n P O/\Q D T A B n P O
def fJ:Sp:=fun vs H Q _=>∃(v:V) (z:Str) (w:Wy),vs= [v,.str z]/\gN An H v w/\Q (.int (dk w z)) H
def oh:Sp:=fun vs H Q _=>∃(v v':V) (w w':Wy),vs= [v,v']/\gN An H v w/\gN An H v' w'/\Q (.bl (bZ w w')) H
def j4:Sp:=fun vs H Q _=>∃(x t:Addr) (i:Nat),vs= [.ref x,.ref t,.int i]/\cv C true H x t fun D T A B n P O=>i<T.length/\∀(p:Addr) (H':Hp),aB H H'->H p=none->bU gN An H' p (aO T P i)->Q (.ref p) H'
def mO (F:Tk->Pk->Nat->Str->Int):Sp:=fun vs H Q _=>∃(x t:Addr) (i:Nat) (z:Str),vs= [.ref x,.ref t,.int i,.str z]/\cv C true H x t fun D T A B n P O=>i<T.length/\∀H':Hp,aB H H'->Q (.int (F T P i z)) H'
def oj:Sp:=fun vs H Q _=>∃(x t:Addr) (i j:Nat),vs= [.ref x,.ref t,.int i,.int j]/\cv C true H x t fun D T A B n P O=>i<T.length/\j<T.length/\∀H':Hp,aB H H'->Q (.bl (bQ T P i j)) H'
end
theorem j3.same {C:Addr} {f:Bool} {H H':Hp} {x t:Addr} {D:Tl} {T:Tk} {A B:List Ky} {n:Int} {P:Pk} {O:List Ky} (h:j3 C f H x t D T A B n P O) (g:aB H H'):j3 C f H' x t D T A B n P O:=⟨h.net.same g,h.case_.same g,h.ok,h.pk⟩
theorem j3.any {C:Addr} {f:Bool} {H:Hp} {x t:Addr} {D:Tl} {T:Tk} {A B:List Ky} {n:Int} {P:Pk} {O:List Ky} (h:j3 C f H x t D T A B n P O):j3 C true H x t D T A B n P O:=⟨h.net.any,h.case_,h.ok,h.pk⟩
theorem j3.walk {C:Addr} {H:Hp} {x t:Addr} {D:Tl} {T:Tk} {A B:List Ky} {n:Int} {P:Pk} {O:List Ky} {d:Addr} {kvs:List (Key×V)} {o:Obj} (h:j3 C true H x t D T A B n P O) (e:H d=some (.dK kvs)):j3 C true (aG H d (.frz o (.dK kvs))) x t D T A B n P O:=⟨h.net.walk e,h.case_.sq (i5 e),h.ok,h.pk⟩
def bF (B:List Ky) (S:List Int):Bool:=B.any fun k=>decide (k.getD 0 0∈S)&&decide (k.getD 1 0∈S)
def dE (T:Tk) (P:Pk):List Int->Bool
 | []=>false
 |i::r=>(r.any fun j=>bQ T P i.toNat j.toNat)||dE T P r
def gy (D:Tl) (T:Tk) (P:Pk) (S:List Int):Bool:=D.any fun p=>decide (p.2<(S.map fun i=>gx T P i.toNat p.1).sum)
def a5 (T:Tk) (S:List Int):Bool:=S.all (fun i=>decide (0<=i)&&decide (i<(T.length:Int)))&&decide S.Nodup
def bT (D:Tl) (T:Tk) (B:List Ky) (P:Pk) (S:List Int):Bool:=(a5 T S&&decide (2<=S.length))&&(bF B S||(dE T P S||gy D T P S))
theorem eQ {T:Tk} {S:List Int} (h:a5 T S=true):(∀i∈S,0<=i/\i<(T.length:Int))/\S.Nodup:=by
 unfold a5 at h;rw[DH,decide_eq_true_eq,DD] at h;refine ⟨fun i hi=>?_,h.2⟩
 have:=h.1 i hi;rw[DH,decide_eq_true_eq,decide_eq_true_eq] at this;exact this
section
variable (C:Addr)
def kU:Sp:=fun vs H Q _=>∃(x l:Addr) (S:List Int) (f:Bool) (D:Tl) (T:Tk) (A B:List Ky) (n:Int),vs= [.ref x,.ref l]/\fH C f H x D T A B n/\T.length<=24/\H l=some (.lst (S.map V.int))/\S.length<=1000/\Q (.bl (a5 T S)) H
def qS:Sp:=fun vs H Q _=>∃(x l:Addr) (S:List Int) (f:Bool) (D:Tl) (T:Tk) (A B:List Ky) (n:Int),vs= [.ref x,.ref l]/\fH C f H x D T A B n/\(∀k∈B,∃p q:Int,k= [p,q])/\H l=some (.lst (S.map V.int))/\Q (.bl (bF B S)) H
def qT:Sp:=fun vs H Q _=>∃(x t l:Addr) (S:List Int),vs= [.ref x,.ref t,.ref l]/\H l=some (.lst (S.map V.int))/\S.length<=1000/\cv C true H x t fun D T A B n P O=>(∀i∈S,0<=i/\i<(T.length:Int))/\∀H',aB H H'->Q (.bl (dE T P S)) H'
def uP:Sp:=fun vs H Q _=>∃(x t l:Addr) (S:List Int),vs= [.ref x,.ref t,.ref l]/\H l=some (.lst (S.map V.int))/\S.length<=1000/\cv C false H x t fun D T A B n P O=>(∀i∈S,0<=i/\i<(T.length:Int))/\∀H',aB H H'->Q (.bl (gy D T P S)) H'
def qU:Sp:=fun vs H Q _=>∃(x t l:Addr) (S:List Int),vs= [.ref x,.ref t,.ref l]/\H l=some (.lst (S.map V.int))/\S.length<=1000/\cv C false H x t fun D T A B n P O=>∀H',aB H H'->Q (.bl (bT D T B P S)) H'
end
theorem uQ {x:Int} {c:List Int} {A B:Prop} (h1:x∈c->A) (h2:x∉c->B):if (if false=true then !oZ (.int x) (c.map V.int) else oZ (.int x) (c.map V.int))=true then A else B:=by
 rw[if_neg (show ¬(false=true) by decide),jx]
 exact d2 h1 h2
theorem jk (c:List Int):(c.map V.int).all gj=true:=by
 rw[DD];intro y hy;obtain ⟨i,_,rfl⟩:=DP.mp hy
 rfl
end Sw
theorem De {A B:Type} {A0:A->Prop} {A1:A->B->Prop} {k:A->B->Prop} {a:A} {b:B} (h0:A0 a) (h1:A1 a b) (q:k a b):∃a,A0 a/\∃b,A1 a b/\k a b:=⟨a,h0,b,h1,q⟩
theorem Df {A B C:Type} {A0:A->Prop} {A1:A->B->Prop} {A2:A->B->C->Prop} {k:A->B->C->Prop} {a:A} {b:B} {c:C} (h0:A0 a) (h1:A1 a b) (h2:A2 a b c) (q:k a b c):∃a,A0 a/\∃b,A1 a b/\∃c,A2 a b c/\k a b c:=⟨a,h0,b,h1,c,h2,q⟩
theorem aq {A B:Type} {p:A->B->Prop} (a:A) (b:B) (h:p a b):∃a b,p a b:=⟨a,b,h⟩
theorem bH {A B C:Type} {p:A->B->C->Prop} (a:A) (b:B) (c:C) (h:p a b c):∃a b c,p a b c:=⟨a,b,c,h⟩
theorem aN {A B C D:Type} {p:A->B->C->D->Prop} (a:A) (b:B) (c:C) (d:D) (h:p a b c d):∃a b c d,p a b c d:=⟨a,b,c,d,h⟩
theorem eN {A B C D E F:Type} {p:A->B->C->D->E->F->Prop} (a:A) (b:B) (c:C) (d:D) (e:E) (f:F) (h:p a b c d e f):∃a b c d e f,p a b c d e f:=⟨a,b,c,d,e,f,h⟩
theorem kW {A B C D E F H I J:Type} {p:A->B->C->D->E->F->H->I->J->Prop} (a:A) (b:B) (c:C) (d:D) (e:E) (f:F) (g:H) (i:I) (j:J) (h:p a b c d e f g i j):∃a b c d e f g i j,p a b c d e f g i j:=⟨a,b,c,d,e,f,g,i,j,h⟩
theorem eA {A:Type} {p:A->Prop} {G:Prop}:(∃a,p a)->(∀a,p a->G)->G
 |⟨a,h⟩,k=>k a h
theorem pd {A B:Type} {p:A->B->Prop} {G:Prop}:(∃a b,p a b)->(∀a b,p a b->G)->G
 |⟨a,b,h⟩,k=>k a b h
theorem ko {A B C:Type} {p:A->B->C->Prop} {G:Prop}:(∃a b c,p a b c)->(∀a b c,p a b c->G)->G
 |⟨a,b,c,h⟩,k=>k a b c h
theorem fZ {A B C D:Type} {p:A->B->C->D->Prop} {G:Prop}:(∃a b c d,p a b c d)->(∀a b c d,p a b c d->G)->G
 |⟨a,b,c,d,h⟩,k=>k a b c d h
theorem fK {A B C D E F:Type} {p:A->B->C->D->E->F->Prop} {G:Prop}:(∃a b c d e f,p a b c d e f)->(∀a b c d e f,p a b c d e f->G)->G
 |⟨a,b,c,d,e,f,h⟩,k=>k a b c d e f h
theorem qc {A B C D E F H I J:Type} {p:A->B->C->D->E->F->H->I->J->Prop} {G:Prop}:(∃a b c d e f g i j,p a b c d e f g i j)->(∀a b c d e f g i j,p a b c d e f g i j->G)->G
 |⟨a,b,c,d,e,f,g,i,j,h⟩,k=>k a b c d e f g i j h
theorem cZ {A B G:Prop} (h:A/\B) (k:A->B->G):G:=k h.1 h.2
theorem ij {A B C G:Prop} (h:A/\B/\C) (k:A->B->C->G):G:=k h.1 h.2.1 h.2.2
theorem eC {A B C D G:Prop} (h:A/\B/\C/\D) (k:A->B->C->D->G):G:=k h.1 h.2.1 h.2.2.1 h.2.2.2
theorem f9 {A B C D E F G:Prop} (h:A/\B/\C/\D/\E/\F) (k:A->B->C->D->E->F->G):G:=k h.1 h.2.1 h.2.2.1 h.2.2.2.1 h.2.2.2.2.1 h.2.2.2.2.2
theorem ph {A B C D E F H I J G:Prop} (h:A/\B/\C/\D/\E/\F/\H/\I/\J) (k:A->B->C->D->E->F->H->I->J->G):G:=k h.1 h.2.1 h.2.2.1 h.2.2.2.1 h.2.2.2.2.1 h.2.2.2.2.2.1 h.2.2.2.2.2.2.1 h.2.2.2.2.2.2.2.1 h.2.2.2.2.2.2.2.2
namespace L2
open PySem PySem.Spec PyProof.Rows XH Sw
structure BJ (H:Hp) (l:Addr) (ps:List (Int×Int)):Prop where
 ex:∃as:FR,as.length=ps.length/\H l=some (.lst (as.map V.ref))/\∀(i:Nat) (a:Addr) (p:Int×Int),as[i]?=some a->ps[i]?=some p->H a=some (.tup [.int p.1,.int p.2])
variable {X:Cx} {pins:FP} {σ:St} {H:Hp} {s:Shared}
theorem uR (I:aP X pins σ H s) {A:Around} (hu:A.units<cLine) {t t':Addr} {a b c d:Int} (e:H t=some (.tup [.int a,.int b])) (e':H t'=some (.tup [.int c,.int d])):SeqAt.EqAt A s (.ref t) (.ref t') (decide (a=c/\b=d)):=by
 by_cases z:t=t'
 ·subst z;rw[e] at e';injection e' with e'
  injection e' with e'
  injection e' with h1 h2
  injection h2 with h2 _
  injection h1 with h1
  injection h2 with h2
  rw[decide_eq_true ⟨h1,h2⟩];exact SeqAt.EqAt.same _
 refine SeqAt.EqAt.of_refs z ?_;obtain ⟨i1,v1,p1,_⟩:=I.tuple (bx.of e);obtain ⟨i2,v2,p2,_⟩:=I.tuple (bx.of e');cases v1 with
 |cons r1 v1=>
  cases v1 with
  |cons r2 v1=>
   cases v1;cases v2 with
   |cons r3 v2=>
    cases v2 with
    |cons r4 v2=>
     cases v2;obtain ⟨t1,rfl⟩:=r1;obtain ⟨t2,rfl⟩:=r2;obtain ⟨t3,rfl⟩:=r3;obtain ⟨t4,rfl⟩:=r4;have q:=SeqAt.RcAt.tuples (A:=A) (e:=fun j=>if j=0 then decide (a=c) else decide (b=d)) p1 p2 hu fun j g1 g2=>by
      have g1':j<2:=g1;rcases (show j=0∨j=1 by omega) with rfl|rfl
      ·exact SeqAt.EqAt.int_int (A:=A.in1) (s:=s) a t1 c t3
      ·exact SeqAt.EqAt.int_int (A:=A.in1) (s:=s) b t2 d t4
     have es:((Dh (min (List.toArray [Value.int a t1,.int b t2]).size (List.toArray [Value.int c t3,.int d t4]).size)).all (fun j=>if j=0 then decide (a=c) else decide (b=d))&&((List.toArray [Value.int a t1,.int b t2]).size==(List.toArray [Value.int c t3,.int d t4]).size))=decide (a=c/\b=d):=by
      show ((decide (a=c)&&(decide (b=d)&&true))&&true)=_;simp
     rw[es] at q;exact q
def sX (H:Hp) (a b:Int):Value->Bool
 | .ref r=>match H r with
  |some (.tup [.int c,.int d])=>decide (c=a/\d=b)
  |_=>false
 |_=>false
theorem qV {a b c d:Int} {r:Addr} (e:H r=some (.tup [.int c,.int d])):sX H a b (.ref r)=decide (c=a/\d=b):=by
 show (match H r with|some (.tup [.int c,.int d])=>decide (c=a/\d=b)|_=>false)=_
 rw[e]
theorem om {a b:Int}:∀{as:FR} {ps:List (Int×Int)},as.length=ps.length->(∀(i:Nat) (r:Addr) (p:Int×Int),as[i]?=some r->ps[i]?=some p->H r=some (.tup [.int p.1,.int p.2]))->(as.map Value.ref).any (sX H a b)=decide ((a,b)∈ps)
 | [],[],_,_=>by simp
 |r::as,p::ps,l,h=>by
  rw[E2,EB,qV (h 0 r p rfl rfl),om (by simpa using l) fun i r' p' e1 e2=>h (i+1) r' p' e1 e2]
  obtain ⟨p1,p2⟩:=p;rw[E5];simp only[Bool.or_eq_true,decide_eq_true_eq,DG,Prod.mk.injEq];constructor
  ·rintro (⟨h1,h2⟩|h)
   ·exact .inl ⟨h1.symm,h2.symm⟩
   ·exact .inr h
  ·rintro (⟨h1,h2⟩|h)
   ·exact .inl ⟨h1.symm,h2.symm⟩
   ·exact .inr h
 | [],_::_,l,_=>by simp at l
 |_::_,[],l,_=>by simp at l
theorem Ao (I:aP X pins σ H s) {A:Around} (hu:A.units<cLine) {t:Addr} {a b:Int} {as:FR} {ps:List (Int×Int)} (et:H t=some (.tup [.int a,.int b])) (al:as.length=ps.length) (ep:∀(i:Nat) (r:Addr) (p:Int×Int),as[i]?=some r->ps[i]?=some p->H r=some (.tup [.int p.1,.int p.2])):∀w∈(as.map Value.ref).toArray,SeqAt.EqAt A s w (.ref t) (sX H a b w):=fun w hw=>by
 obtain ⟨r,hr,rfl⟩:=DP.mp (by simpa using hw)
 obtain ⟨i,hi⟩:=DR.mp hr;have il:i<ps.length:=by rw[<-al];exact (D5.mp hi).1
 have er:=ep i r _ hi (D4 il);rw[qV er];exact uR I hu er et
theorem wK {X:Cx} (hu:X.A.units+1<cLine):fX X (compareOp .In) (fun x y H Q=>∃(t l:Addr) (a b:Int) (ps:List (Int×Int)),x= .ref t/\y= .ref l/\H t=some (.tup [.int a,.int b])/\BJ H l ps/\Q (.bl (decide ((a,b)∈ps))) H):=by
 intro pins s σ H x y v u Q I rx ry h;obtain ⟨t,l,a,b,ps,rfl,rfl,et,pl,q⟩:=h;obtain ⟨as,al,el,ep⟩:=pl.ex;cases rx;cases ry;obtain ⟨its,r,p,hz⟩:=I.list (aC.of el);have ei:=qb r;subst ei;refine SeqAt.in_listAt (sX H a b) p.isList (Ao I hu et al ep) ⟨.bl _,H,I,rfl,?_⟩;rw[show (as.map Value.ref).toArray.any (sX H a b)=(as.map Value.ref).any (sX H a b) by simp,om al ep]
 exact q
end L2
namespace Sw
open PySem L2 XH Hm
def bt (ps:List (Int×Int)):List Ky:=ps.map fun p=> [p.1,p.2]
theorem gI {T:Tk} {P:Pk}:∀{S:List Int},dE T P S=true↔∃(a b:Nat) (i j:Int),a<b/\S[a]?=some i/\S[b]?=some j/\bQ T P i.toNat j.toNat=true
 | []=>by simp[dE]
 |x::r=>by
  have ih:=gI (T:=T) (P:=P) (S:=r);unfold dE;rw[Bool.or_eq_true,ih,Di];constructor
  ·rintro (⟨j,hj,h⟩|⟨a,b,i,j,ab,h1,h2,h3⟩)
   ·obtain ⟨k,hk⟩:=DR.mp hj;exact ⟨0,k+1,x,j,by omega,rfl,by simpa using hk,h⟩
   ·exact ⟨a+1,b+1,i,j,by omega,by simpa using h1,by simpa using h2,h3⟩
  ·rintro ⟨a,b,i,j,ab,h1,h2,h3⟩;cases a with
   |zero=>
    simp at h1;subst h1;refine .inl ⟨j,?_,h3⟩;cases b with
    |zero=>omega
    |succ b=>exact D6 (by simpa using h2)
   |succ a=>
    cases b with
    |zero=>omega
    |succ b=>exact .inr ⟨a,b,i,j,by omega,by simpa using h1,by simpa using h2,h3⟩
theorem BJ.of {H:Hp} {l:Addr} {ps:List (Int×Int)} (h:aW H l (bt ps)):BJ H l ps:=by
 obtain ⟨as,e,r⟩:=h;refine ⟨as,by rw[r.1];unfold bt;rw[D3],e,fun i a p h1 h2=>?_⟩
 exact r.2 i a [p.1,p.2] h1 (by unfold bt;rw[DE,h2];rfl)
open PySem.NumText
theorem Lt.join:∀{ws:FQ},(∀w∈ws,Lt w)->Lt (Str.join Str.empty ws)
 | [],_=>Lt.nil
 | [x],h=>h x (by simp)
 |x::y::r,h=>by
  have ih:=Lt.join (ws:=y::r) fun w hw=>h w (DW _ hw)
  show Lt (x++Str.empty++Str.join Str.empty (y::r));exact ((h x (by simp)).app Lt.nil).app ih
theorem Lt.tjoin {ws:FQ} (h:∀w∈ws,Lt w):Lt (Txt.join "" ws):=by
 have:Txt.join "" ws=Str.join Str.empty ws:=StrLaws.glued_eq_join _ ws;rw[this];exact Lt.join h
theorem mQ {i:Int} (h0:0<=i) (h:i<26):gZ xr.cps.toList i=some (97+i.toNat):=by
 obtain ⟨n,rfl⟩:∃n:Nat,i=(n:Int):=⟨i.toNat,by omega⟩
 have hn:n<26:=by omega
 rw[DQ];refine a4 ?_;have e:xr.cps.toList=(Dh 26).map (97+ ·):=by decide
 rw[e,DE,List.getElem?_range hn]
 rfl
theorem uS {x y:Str} {c d:Nat} (h:c≠d):x++(⟨#[c]⟩:Str)++y≠x++(⟨#[d]⟩:Str)++y:=fun e=>by
 have:=congrArg sL e;rw[jM,jM,jM,jM,List.append_cancel_right_eq,List.append_cancel_left_eq] at this;replace this: [c]= [d]:=this;injection this with this
 exact h this
theorem ye {x:Str} {c:Nat}:x≠x++(⟨#[c]⟩:Str):=fun e=>by
 have:=congrArg Str.length e;rw[Str.length_append] at this;have:(⟨#[c]⟩:Str).length=1:=rfl;omega
theorem kX:∀{ws:FQ},(∀w∈ws,w.length=1)->(Str.join Str.empty ws).length=ws.length
 | [],_=>rfl
 | [x],h=>h x (by simp)
 |x::y::r,h=>by
  have ih:=kX (ws:=y::r) fun w hw=>h w (DW _ hw)
  show (x++Str.empty++Str.join Str.empty (y::r)).length=_;rw[Str.append_empty,Str.length_append,ih,h x (by simp)]
  simp only[DL];omega
theorem sY {ws:FQ} (h:∀w∈ws,w.length=1):(Txt.join "" ws).length=ws.length:=by
 have:Txt.join "" ws=Str.join Str.empty ws:=StrLaws.glued_eq_join _ ws;rw[this];exact kX h
theorem oo:∀{ws:FQ},(∀w∈ws,w.length=1)->(ws.map (fun x=>x.length)).sum=ws.length
 | [],_=>rfl
 |x::r,h=>by
  rw[E2,List.sum_cons,oo fun w hw=>h w (DW _ hw),h x (by simp),DL]
  omega
theorem qd {γ:Type} {p:γ->Prop} {f:γ->V}:∀{vs:List V},(∀v∈vs,∃c,p c/\v=f c)->∃cs:List γ,vs=cs.map f/\∀c∈cs,p c
 | [],_=>⟨[],rfl,fun c hc=>by cases hc⟩
 |v::r,h=>by
  obtain ⟨cs,e,k⟩:=qd (vs:=r) fun w hw=>h w (DW _ hw)
  obtain ⟨c,pc,e0⟩:=h v (by simp)
  refine ⟨c::cs,by rw[e,e0];rfl,fun d hd=>?_⟩
  rcases DG.mp hd with z|z
  ·rw[z];exact pc
  ·exact k d z
def uT {γ:Type} (p:γ->Prop) (f:γ->V):RA Unit:=fun _ _ v _=>∃c,p c/\v=f c
instance {γ:Type} (p:γ->Prop) (f:γ->V):Mv (uT p f):=⟨fun _ h=>h⟩
theorem A2.some_of {γ:Type} {p:γ->Prop} {f:γ->V} {P:Addr->Prop} {H:Hp} {vs:List V} {us:List Unit} (h:A2 (uT p f P H) vs us):∃cs:List γ,vs=cs.map f/\cs.length=us.length/\∀c∈cs,p c:=by
 obtain ⟨cs,e,k⟩:=qd (p:=p) (f:=f) (vs:=vs) fun v hv=>by
  obtain ⟨i,hi⟩:=DR.mp hv;obtain ⟨u,_,q⟩:=h.at_ hi;exact q
 refine ⟨cs,e,?_,k⟩;rw[<-h.1,e,D3]
theorem uU {x:Str} {i:Int} (h:0<=i) (k:i<(x.length:Int)):(hU x none (some i)).length+1+(hU x (some (i+1)) none).length=x.length:=by
 rw[wE h,wG (by omega)]
 omega
theorem kY {a b:Int} (a0:0<=a) (a1:a<26) (b0:0<=b) (b1:b<25):(a+1+b).fmod 26≠a:=by
 by_cases c:a+1+b<26
 ·rw[Int.fmod_eq_of_lt (by omega) c];omega
 ·have e:(a+1+b).fmod 26=a+1+b-26:=by
   have:a+1+b=(a+1+b-26)+26*1:=by omega
   rw[this,Int.add_mul_fmod_self_left,Int.fmod_eq_of_lt (by omega) (by omega)]
   omega
  rw[e];omega
def Ap (f:Int):Prop:=f=1∨f=10000019
def gJ:Sp:=fun vs H Q _=>∃c k:Int,vs= [.int c,.int k]/\∀v:Int,0<=v->Q (.int v) H
def oq:Sp:=fun vs H Q _=>∃c:Int,vs= [.int c]/\∀(l:Addr) (n0 n1:Str) (H':Hp),aB H H'->H' l=some (.lst [.str n0,.str n1])->Nm n0->Nm n1->n0≠n1->Q (.ref l) H'
end Sw
namespace L2
open PySem
theorem qe {X:Cx} {K:D7} (h:X.K=K) (hc:X.calm=true):dS X (.builtin "min") (fun xs H Q=>∃a ns,xs= [.ref a]/\aC K H a (ns.map V.int)/\ns≠ []/\∀M:Int,M∈ns->(∀z∈ns,M<=z)->Q (.int M) H):=by
 subst h;exact cT hc
theorem uV {X:Cx} {K:D7} (h:X.K=K) {tg l:Expr} {tl:TE} (hl:PE X l tl):PI X tg l (xi K tl):=by
 subst h;exact aF hl
end L2
namespace Sw
open PySem L2 XH Hm PySem.NumText
theorem wM {us:List Us} (nd:(us.map (·.1)).Nodup) {x:Us} (hx:x∈us):us.find? (fun u=>decide (u.1=x.1))=some x:=by
 induction us with
 |nil=>cases hx
 |cons a r ih=>
  rw[E2,Eg] at nd;rcases DG.mp hx with h|h
  ·rw[h,EE,decide_eq_true rfl]
  ·have:a.1≠x.1:=fun e=>nd.1 (by rw[e];exact List.mem_map_of_mem h)
   rw[EE,decide_eq_false this];exact ih nd.2 h
theorem fN {v w:Wy} (nd:(w.2.2.map (·.1)).Nodup):bZ v w=true↔∃u∈v.2.2,∃x∈w.2.2,u.1=x.1/\u.2.2≠x.2.2:=by
 unfold bZ;rw[Di];constructor
 ·rintro ⟨u,hu,h⟩;cases e:qa w u.1 with
  |none=>rw[e] at h;cases h
  |some x=>
   rw[e] at h;obtain ⟨m,n⟩:=wD e;refine ⟨u,hu,x,m,n.symm,fun z=>?_⟩
   rw[z] at h;simp at h
 ·rintro ⟨u,hu,x,hx,e,ne⟩;refine ⟨u,hu,?_⟩;have:qa w u.1=some x:=by unfold qa;rw[e];exact wM nd hx
  rw[this];simp;exact fun z=>ne z.symm
theorem jn {v w:Wy} (nv:(v.2.2.map (·.1)).Nodup) (nw:(w.2.2.map (·.1)).Nodup):bZ v w=bZ w v:=by
 rw[E5,fN nw,fN nv];constructor
 ·rintro ⟨u,hu,x,hx,e,ne⟩;exact ⟨x,hx,u,hu,e.symm,fun z=>ne z.symm⟩
 ·rintro ⟨u,hu,x,hx,e,ne⟩;exact ⟨x,hx,u,hu,e.symm,fun z=>ne z.symm⟩
theorem ou {T:Tk} {P:Pk} {i j:Nat} (ni:∀w∈aO T P i,(w.2.2.map (·.1)).Nodup) (nj:∀w∈aO T P j,(w.2.2.map (·.1)).Nodup):bQ T P i j=bQ T P j i:=by
 unfold bQ;rw[E5,DD,DD];constructor
 ·intro h w hw;rw[DD];intro v hv;have:=h v hv;rw[DD] at this;rw[jn (nj w hw) (ni v hv)];exact this w hw
 ·intro h v hv;rw[DD];intro w hw;have:=h w hw;rw[DD] at this;rw[jn (ni v hv) (nj w hw)];exact this v hv
def bK (T:Tk) (ps:List (Int×Int)) (P:Pk) (i j:Int):Bool:= !decide (V.int i=V.int j)&&(decide ((i,j)∈ps)||bQ T P i.toNat j.toNat)
theorem ic {D:Tl} {T:Tk} {ps:List (Int×Int)} {P:Pk} {S:List Int} (hT:∀ws∈T,kA D ws) (pk:mN T P) (pne:∀p∈ps,p.1≠p.2) (hS:∀i∈S,0<=i/\i<(T.length:Int)) (nd:S.Nodup):
  (bF (bt ps) S||dE T P S)=S.any fun i=>S.any fun j=>bK T ps P i j:=by
 have nw:∀i∈S,∀w∈aO T P i.toNat,(w.2.2.map (·.1)).Nodup:=fun i hi w hw=>by
  have:=hS i hi;obtain ⟨ws,h1,h2⟩:=jy hT pk (show i.toNat<T.length by omega) w hw
  exact ((hT ws h1).2.2 w h2).2.2.2.1
 rw[E5,Bool.or_eq_true,Di];constructor
 ·rintro (h|h)
  ·unfold bF bt at h;rw[Di] at h;obtain ⟨k,hk,h⟩:=h;obtain ⟨p,hp,rfl⟩:=DP.mp hk;rw[DH,decide_eq_true_eq,decide_eq_true_eq] at h;replace h:p.1∈S/\p.2∈S:=h;refine ⟨p.1,h.1,?_⟩;rw[Di];refine ⟨p.2,h.2,?_⟩;unfold bK;have:V.int p.1≠V.int p.2:=fun e=>pne p hp (vj e)
   simp[this];exact .inl hp
  ·obtain ⟨a,b,i,j,ab,ha,hb,u⟩:=gI.mp h;refine ⟨i,D6 ha,?_⟩;rw[Di];refine ⟨j,D6 hb,?_⟩;have:V.int i≠V.int j:=fun e=>by
    have e:=vj e;rw[e] at ha;have ja:=(D5.mp ha);have jb:=(D5.mp hb);have:=(List.getElem_inj nd).mp (ja.2.trans jb.2.symm);omega
   unfold bK;simp[this,u]
 ·rintro ⟨i,hi,h⟩;rw[Di] at h;obtain ⟨j,hj,h⟩:=h;unfold bK at h;rw[DH,Bool.or_eq_true,decide_eq_true_eq] at h;obtain ⟨ne,h⟩:=h;have ne':i≠j:=fun e=>by rw[e] at ne;simp at ne
  rcases h with h|h
  ·left;unfold bF bt;rw[Di];refine ⟨[i,j],DP.mpr ⟨(i,j),h,rfl⟩,?_⟩;show (decide (i∈S)&&decide (j∈S))=true;rw[decide_eq_true hi,decide_eq_true hj]
   rfl
  ·right;obtain ⟨a,ha⟩:=DR.mp hi;obtain ⟨b,hb⟩:=DR.mp hj;rcases Nat.lt_trichotomy a b with c|c|c
   ·exact gI.mpr ⟨a,b,i,j,c,ha,hb,h⟩
   ·rw[c,hb] at ha;cases ha;exact absurd rfl ne'
   ·exact gI.mpr ⟨b,a,j,i,c,hb,ha,by rw[ou (nw j hj) (nw i hi)];exact h⟩
structure fc (D:Tl) (H:Hp) (tl t:Addr) (T:Tk) (P:Pk):Prop where
 tasks:bU fj An H tl T
 cs:∃O,em H t P O
 pk:mN T P
 ok:∀ws∈T,kA D ws
theorem fc.same {D:Tl} {H H':Hp} {tl t:Addr} {T:Tk} {P:Pk} (h:fc D H tl t T P) (g:aB H H'):fc D H' tl t T P:=⟨h.tasks.same g,h.cs.imp fun _ c=>c.same g,h.pk,h.ok⟩
theorem fc.nd {D:Tl} {H:Hp} {tl t:Addr} {T:Tk} {P:Pk} (h:fc D H tl t T P) {i:Nat} (il:i<T.length):∀w∈aO T P i,(w.2.2.map (·.1)).Nodup:=fun w hw=>by
 obtain ⟨ws,h1,h2⟩:=jy h.ok h.pk il w hw;exact ((h.ok ws h1).2.2 w h2).2.2.2.1
def iI:Sp:=fun vs H Q _=>∃(tl t:Addr) (i:Nat) (D:Tl) (T:Tk) (P:Pk),vs= [.ref tl,.ref t,.int i]/\fc D H tl t T P/\i<T.length/\∀(p:Addr) (H':Hp),aB H H'->bU gN An H' p (aO T P i)->Q (.ref p) H'
def kZ:Sp:=fun vs H Q _=>∃(v v':V) (w w':Wy),vs= [v,v']/\gN An H v w/\gN An H v' w'/\(w'.2.2.map (·.1)).Nodup/\Q (.bl (bZ w w')) H
def k8:Sp:=fun vs H Q _=>∃(tl t:Addr) (i j:Nat) (D:Tl) (T:Tk) (P:Pk),vs= [.ref tl,.ref t,.int i,.int j]/\fc D H tl t T P/\i<T.length/\j<T.length/\∀H',aB H H'->Q (.bl (bQ T P i j)) H'
def oy:Sp:=fun vs H Q _=>∃(tp t l td tl pl:Addr) (v:V) (S:List Int) (D:Tl) (T:Tk) (P:Pk) (ps:List (Int×Int)),vs= [.ref tp,.ref t,.ref l]/\H tp=some (.tup [.ref td,.ref tl,v,.ref pl])/\H td=some (.dK (bq D))/\(D.map (·.1)).Nodup/\fc D H tl t T P/\T.length<=24/\aW H pl (bt ps)/\(∀p∈ps,p.1≠p.2)/\H l=some (.lst (S.map V.int))/\S.length<=1000/\∀H',aB H H'->Q (.bl (bT D T (bt ps) P S)) H'
theorem yf {x:Int} (h0:0<=x) (h:x<3):∃f,gZ [V.int 1,V.int 1,V.int ((10:Int)^(7:Int).toNat+19)] x=some (.int f)/\Ap f:=by
 obtain rfl|rfl|rfl:x=0∨x=1∨x=2:=by omega
 ·exact ⟨1,rfl,.inl rfl⟩
 ·exact ⟨1,rfl,.inl rfl⟩
 ·exact ⟨_,rfl,.inr (by decide)⟩
end Sw
namespace L2
open PySem
end L2
namespace Sw
open PySem L2 XH Hm PySem.NumText
end Sw
namespace L2
open PySem
theorem li {X:Cx} {K:D7} (h:X.K=K):fX X (compareOp .NotIn) (BF K true):=by
 subst h;exact iq
end L2
namespace Sw
open PySem L2 XH Hm PySem.NumText
theorem sZ (T:Tk) (P:Pk) (i:Nat) (z:Str):eZ ((aO T P i).map fun w=>dk w z*w.1)=dI T P i z:=by
 unfold dI
 congr 1
 apply Ez;intro w _;exact Int.mul_comm _ _
def qW (C:Addr):Sp:=fun vs H Q _=>∃(x:Addr) (fz:Bool) (D:Tl) (T:Tk) (A B:List Ky) (n:Int),vs= [.ref x]/\fH C fz H x D T A B n/\T.length<=24/\∀(t:Addr) (H':Hp),aB H H'->em H' t ((Dh T.length).map fun _=>none) []->Q (.ref t) H'
def ie (l:List Int):Int:= -(eZ (l.map fun z=> -z))
theorem qX {l:List Int} {m:Int} (hm:m∈l) (h:∀z∈l,z<=m):m=ie l:=by
 unfold ie;have:=dP (l:=l.map fun z=> -z) (m:= -m) (DP.mpr ⟨m,hm,rfl⟩) fun z hz=>by
  obtain ⟨y,hy,rfl⟩:=DP.mp hz;have:=h y hy;omega
 omega
def bI (T:Tk) (P:Pk):Nat->List Ky
 |0=> []
 |i+1=>bI T P i++ [[2*(i:Int),2*(i:Int)+1,eZ ((aO T P i).map (·.1))],[2*(i:Int)+1,2*(i:Int),-(ie ((aO T P i).map (·.2.1)))]]
theorem cU (T:Tk) (P:Pk):∀n,(bI T P n).length=2*n
 |0=>rfl
 |n+1=>by
  show (bI T P n++_).length=_;rw[D8,cU T P n];show 2*n+2=_;omega
def gb (O:List Ky):List Ky:=O.map fun k=> [2*k.getD 0 0+1,2*k.getD 1 0,0]
def bR (A:List Ky) (T:Tk) (P:Pk) (O:List Ky):List Ky:=A++bI T P T.length++gb O
def dW (O:List Ky):Prop:=O.length<=1000/\∀k∈O,∃p q:Int,k= [p,q]
def iJ (C:Addr):Sp:=fun vs H Q _=>∃(x t:Addr),vs= [.ref x,.ref t]/\cv C true H x t fun D T A B n P O=>dW O/\∀(l:Addr) (H':Hp),aB H H'->H l=none->aW H' l (bR A T P O)->Q (.ref l) H'
def uW:Sp:=fun vs H Q _=>∃(al tl t:Addr) (A:List Ky) (D:Tl) (T:Tk) (P:Pk) (O:List Ky),vs= [.ref al,.ref tl,.ref t]/\aW H al A/\A.length<=1000/\bU fj An H tl T/\T.length<=24/\em H t P O/\mN T P/\(∀ws∈T,kA D ws)/\dW O/\∀(l:Addr) (H':Hp),aB H H'->aW H' l (bR A T P O)->Q (.ref l) H'
theorem gA {H:Hp} {p:Addr} {as bs:FR} {A B:List Ky} (ra:dR (fun t k=>H t=some (.tup (k.map V.int))) as A) (rb:dR (fun t k=>H t=some (.tup (k.map V.int))) bs B) (np:H p=none):aW (aG H p (.lst (as.map V.ref++bs.map V.ref))) p (A++B):=
 ⟨as++bs,by rw[ah,DS],(ra.append rb).imp fun t k q=>ag np _ _ _ q⟩
theorem dR.one {R:Addr->Ky->Prop} {a:Addr} {k:Ky} (h:R a k):dR R [a] [k]:=⟨rfl,fun i t y e1 e2=>by
 cases i with
 |zero=>simp at e1 e2;subst e1 e2;exact h
 |succ n=>simp at e1⟩
theorem uX {P:Addr->Prop} {H:Hp} {l:Addr} {ks:List Ky} (h:bU (sR fun k:Ky=>k.map V.int) P H l ks):aW H l ks:=by
 obtain ⟨vs,e,r⟩:=h;obtain ⟨as,ea,_⟩:=qd (p:=fun _:Addr=>True) (f:=V.ref) (vs:=vs) fun v hv=>by
  obtain ⟨i,hi⟩:=DR.mp hv;obtain ⟨k,_,t,e,_⟩:=r.at_ hi;exact ⟨t,trivial,e⟩
 subst ea;refine ⟨as,e,⟨by rw[<-r.1,D3],fun i a k e1 e2=>?_⟩⟩
 obtain ⟨t,et,_,h⟩:=r.2 i (.ref a) k (by rw[DE,e1];rfl) e2
 injection et with et
 rw[et];exact h
end Sw
namespace L2
open PySem PySem.Spec PyProof.Rows XH
theorem qY:∀{bs:List Bool} {us:FS},bg (bs.map V.bl) us->∀(i:Nat) (v:Value),us[i]?=some v->v= .bool (bs.getD i true)
 | [],_,.nil,i,v,h=>by simp at h
 |b::bs,_,.cons r t,0,v,h=>by
  cases r
  simpa using h.symm
 |b::bs,_,.cons _ t,i+1,v,h=>by
  have:=qY (bs:=bs) t i v (by simpa using h)
  simpa using this
theorem wN (bs:List Bool):(Dh bs.length).all (fun i=>bs.getD i true)=bs.all id:=by
 rw[E5,DD,DD];constructor
 ·intro h b hb;obtain ⟨i,hi⟩:=DR.mp hb;have:=h i (Dy.mpr (D5.mp hi).1);rw[Dl,hi] at this;exact this
 ·intro h i hi;have il:=Dy.mp hi;have:=h _ (DO il);rw[Dl,D4 il];exact this
theorem s0 {X:Cx} (hc:X.calm=true):dS X (.builtin "all") (fun xs H Q=>∃(a:Addr) (bs:List Bool),xs= [.ref a]/\aC X.K H a (bs.map V.bl)/\Q (.bl (bs.all id)) H):=by
 intro pins s σ H xs us Q I r h;obtain ⟨a,bs,rfl,h1,hq⟩:=h;cases r with
 |cons r rr=>
  cases rr;cases r;obtain ⟨its,rv,p,hz⟩:=I.list h1;have hh:=I.ok.hd hc;have ln:its.length=bs.length:=by rw[<-rv.length,D3]
  have hlt:a<s.heap.objs.size:=by
   obtain ⟨o,n,e,_⟩:=id p;exact Heap.lt_size e
  refine call_all_walk (wpAny_pyIter_list p.isList ⟨s.heap.objs.size,_,_,_,_,_,fun i=>bs.getD i true,rfl,Walks.list (A:=X.A.in1) hh _ a (DF hlt) its.toArray,⟨⟨_,Heap.get?_push_size _ rfl,rfl,rfl⟩,p.isList.at fun o e=>Heap.get?_push_of_some _ e⟩,?_,fun h' tk hk=>?_⟩)
  ·intro i v s' Q' E' hv hq';have e:=qY rv i v (by simpa using hv)
   subst e;exact wpAny_truthy_bool hq'
  ·refine ⟨.bl (bs.all id),H,I.kept (h':=h') (t':=tk) fun b o e=>hk b o (by simpa using DF (Heap.lt_size e)) (Heap.get?_push_of_some _ e),?_,hq⟩
   show Value.bool _=Value.bool _;rw[DN,ln,wN]
end L2
namespace Sw
open PySem L2 XH Hm PySem.NumText
def xv (O:List Ky) (n:Nat):Prop:=O.length<=1000/\∀k∈O,∃p q:Int,k= [p,q]/\0<=p/\p<(n:Int)/\0<=q/\q<(n:Int)
def c9 (due:List Ky):List Int->Prop
 |p::q::r=>(∃g,[p,q,g]∈due)/\c9 due (q::r)
 |_=>True
def qZ (n:Int) (due:List Ky):Prop:=due.length<=2000/\∀k∈due,∃p q g:Int,k= [p,q,g]/\0<=p/\p<n/\0<=q/\q<n
theorem c9.snoc {due:List Ky} {p q g:Int} (h: [p,q,g]∈due):∀{C:List Int},c9 due (C++ [p])->c9 due (C++ [p]++ [q])
 | [],_=>⟨⟨g,h⟩,trivial⟩
 | [x],k=>⟨k.1,⟨g,h⟩,trivial⟩
 |x::y::r,k=>⟨k.1,c9.snoc h (C:=y::r) k.2⟩
def q8:Sp:=fun vs H Q _=>∃(tl t:Addr) (i:Nat) (z:Str) (D:Tl) (T:Tk) (P:Pk),vs= [.ref tl,.ref t,.int i,.str z]/\fc D H tl t T P/\i<T.length/\∀H',aB H H'->Q (.int (dI T P i z)) H'
def q9:Sp:=fun vs H Q _=>∃w m:Int,vs= [.int w,.int m]/\1<=m/\m<=1000/\Q (.int (-((-w).fdiv m))) H
def da (n:Int) (C:List Int):Bool:=C.all fun p=>decide (0<=p)&&decide (p<n)
def fk (C:Addr):Sp:=fun vs H Q _=>∃(x l:Addr) (fz:Bool) (D:Tl) (T:Tk) (A B:List Ky) (n:Int) (P:List Int),vs= [.ref x,.ref l]/\fH C fz H x D T A B n/\H l=some (.lst (P.map V.int))/\Q (.bl (da (2*(T.length:Int)+n) P)) H
def Aq (H0:Hp):RA Wy:=fun P H v w=>∃t u:Addr,v= .ref t/\P t/\P u/\H0 u=none/\H t=some (.tup [.int w.1,.int w.2.1,.ref u])/\bU p8 P H u w.2.2
instance (H0:Hp):Mv (Aq H0) where
 mv:=fun {P P' H H' v x} g h=>by
  obtain ⟨t,u,rfl,p,p2,n0,e,vs,e2,r⟩:=h;obtain ⟨q,e'⟩:=g t _ p rfl e;obtain ⟨q2,e2'⟩:=g u _ p2 rfl e2;exact ⟨t,u,rfl,q,q2,n0,e',vs,e2',r.imp fun _ _ k=>Mv.mv g k⟩
theorem fO {A:List Ky} {T:Tk} {P:Pk} {O:List Ky} (h:∀k∈A,∃p q g:Int,k= [p,q,g]):∀k∈bR A T P O,∃p q g:Int,k= [p,q,g]:=by
 have hn:∀n,∀k∈bI T P n,∃p q g:Int,k= [p,q,g]:=fun n=>by
  induction n with
  |zero=>intro k hk;cases hk
  |succ n ih=>
   intro k hk;rcases DM.mp (show k∈bI T P n++_ from hk) with z|z
   ·exact ih k z
   ·simp only[DG,DZ,or_false] at z;rcases z with rfl|rfl<;>exact ⟨_,_,_,rfl⟩
 intro k hk;unfold bR at hk;rcases DM.mp hk with z|z
 ·rcases DM.mp z with z|z
  ·exact h k z
  ·exact hn _ k z
 ·unfold gb at z;obtain ⟨o,_,rfl⟩:=DP.mp z;exact ⟨_,_,_,rfl⟩
end Sw
namespace L2
open PySem PySem.Spec PyProof.Rows XH Sw Hm
end L2
namespace Sw
open PySem L2 XH Hm PySem.NumText
end Sw
namespace L2
open PySem PySem.Spec PyProof.Rows XH Sw Hm
theorem wO {K:D7} {β:Type} {l1 l2:Addr} {xs ys:List V} {n:Nat} {g:TG} {js:List Nat} {te:TE} {σ:L2.St} {H1:Hp} {Q:VK} (R:RA β) [Mv R] (Z:Addr->Prop) (f:Nat->β) (q1:aC K H1 l1 xs) (q2:aC K H1 l2 ys) (hz:min xs.length ys.length<=sizeLine) (hZ:∀a,Z a->H1 a≠none)
  (step:∀(i:Nat) (x y:V),xs[i]?=some x->ys[i]?=some y->∀H2,aB H1 H2->∀T,H2 T=none->∀o:L2.St,o.length=n->∀Q':VK,(∀v H5,aB (aG H2 T (.tup [x,y])) H5->R (fun a=>H2 a=none∨Z a) H5 v (f i)->Q' v H5)->
   g (.ref T) (o++aM js σ) (aG H2 T (.tup [x,y])) fun σ4 H4=>(∃o':L2.St,o'.length=n/\σ4=o'++aM js σ)/\te σ4 H4 Q')
  (fin:∀p H',H1 p=none->aB H1 H'->bU R (fun a=>a≠p/\(H1 a=none∨Z a)) H' p ((Dh (min xs.length ys.length)).map f)->Q (.ref p) H'):pU n g js te σ Q (zB K l1 l2) H1:=by
 intro p hp;refine ⟨fun i m zs H2=>i<=min xs.length ys.length/\m=min xs.length ys.length-i/\aB H1 H2/\H2 p=some (.lst zs)/\A2 (R (fun a=>a≠p/\(H1 a=none∨Z a)) H2) zs ((Dh i).map f),⟨min xs.length ys.length,Dn _,rfl,Sw.ag hp _,ah,A2.nil⟩,?_⟩
 rintro i m zs H2 ⟨hi,rfl,gg,e,r⟩;refine ⟨e,?_⟩;have s1:=gg.seq q1;have s2:=gg.seq q2
 by_cases hin:i<min xs.length ys.length
 ·refine .inr ⟨⟨xs,ys,xs[i]'(by omega),ys[i]'(by omega),s1,s2,D4 _,D4 _⟩,?_,fun x H3 hy o ho=>?_⟩
  ·have:=r.1;rw[D3,E8] at this;omega
  obtain ⟨T,a,b,rfl,nT,ha,hb,rfl⟩:=hy;have gT:=Sw.ag nT (.tup [a,b]);refine step i a b (ha xs s1) (hb ys s2) H2 gg T nT o ho _ fun v H5 g5 ry=>?_
  have g25:=gT.trans g5;refine ⟨g25 _ _ e,min xs.length ys.length-(i+1),by omega,hin,rfl,Sw.du (gg.trans g25) hp _,ah,?_⟩
  rw[F4,DS];have np:¬(p≠p/\(H1 p=none∨Z p)):=fun z=>z.1 rfl
  refine ((r.imp fun v b q=>dA q g25).snoc (iW ry fun a ha=>?_)).imp fun v b q=>jt q np _
  rcases ha with h|h
  ·exact ⟨(fun z=>by rw[z,e] at h;cases h),.inl (gg.free h)⟩
  ·exact ⟨fun z=>hZ a h (z▸hp),.inr h⟩
 ·have e2:i=min xs.length ys.length:=by omega
  subst e2;exact .inl ⟨⟨xs,ys,s1,s2,by omega⟩,fin p H2 hp gg ⟨zs,e,r⟩⟩
end L2
namespace Sw
open PySem L2 XH Hm PySem.NumText
abbrev tf:RA (List Int):=nY (dL V.int)
abbrev wP (H:Hp) (l:Addr) (F:List (List Int)):Prop:=bU tf An H l F
theorem iK {H:Hp} {P:Addr->Prop} {v:V} {f:List Int} (h:tf P H v f):∃c,v= .ref c/\P c/\H c=some (.lst (f.map V.int)):=by
 obtain ⟨c,rfl,p,vs,e,r⟩:=h;rw[r.val] at e;exact ⟨c,rfl,p,e⟩
theorem oz {H:Hp} {P:Addr->Prop} {c:Addr} {f:List Int} (p:P c) (e:H c=some (.lst (f.map V.int))):tf P H (.ref c) f:=⟨c,rfl,p,_,e,A2.ofVal V.int _ _ _⟩
def eB (f:List Int):Int:=f.getLast?.getD (-1)
def lB (b:List Int):Int:=b.head?.getD (-1)
def ff (f:List Int):Int:=(eB f).fdiv 2
theorem rc {f:List Int} (h:f≠ []):gZ (f.map V.int) (-1)=some (.int (eB f)):=by
 obtain ⟨D,x,rfl⟩:∃D x,f=D++ [x]:=⟨f.dropLast,f.getLast h,(List.dropLast_concat_getLast h).symm⟩;rw[DS];have:=nq (D.map V.int) (V.int x);unfold eB;rw[List.getLast?_append]
 simpa using this
theorem wQ {b:List Int} (h:b≠ []):gZ (b.map V.int) 0=some (.int (lB b)):=by
 obtain ⟨x,D,rfl⟩:=List.exists_cons_of_ne_nil h;exact a4 (j:=0) rfl
def dG (n:Nat) (f b:List Int):Bool:=(!f.isEmpty&& !b.isEmpty)&&(decide (eB f=2*ff f/\0<=ff f/\ff f<(n:Int))&&decide (lB b=eB f+1))
def gU (n:Nat):List (List Int)->List (List Int)->Bool
 |f::F,b::B=>dG n f b&&gU n F B
 | [],[]=>true
 |_,_=>false
theorem dJ {n:Nat}:∀{F B:List (List Int)},gU n F B=true↔F.length=B.length/\∀(i:Nat) (f b:List Int),F[i]?=some f->B[i]?=some b->dG n f b=true
 | [],[]=>by simp[gU]
 | [],_::_=>by simp[gU]
 |_::_,[]=>by simp[gU]
 |f::F,b::B=>by
  have ih:=dJ (n:=n) (F:=F) (B:=B);show (dG n f b&&gU n F B)=true↔_;rw[DH,ih];constructor
  ·rintro ⟨h1,h2,h3⟩;refine ⟨by simp[h2],fun i x y e1 e2=>?_⟩
   cases i with
   |zero=>simp at e1 e2;subst e1 e2;exact h1
   |succ i=>exact h3 i x y (by simpa using e1) (by simpa using e2)
  ·rintro ⟨h1,h2⟩;exact ⟨h2 0 f b rfl rfl,by simpa using h1,fun i x y e1 e2=>h2 (i+1) x y (by simpa using e1) (by simpa using e2)⟩
def cE (n:Nat) (F B:List (List Int)):Bool:= !F.isEmpty&&(gU n F B&&decide ((F.map ff).Nodup))
def cz (N:Int) (F:List (List Int)):Bool:=F.all (da N)
def fA (A:List Rn) (F:List (List Int)):Bool:=F.all fun c=>(bP A c).isSome
def dH (A:List Rn) (F:List (List Int)):Int:=eZ (F.map fun c=>(bP A c).getD 0)
def cA (A:List Rn) (N:Int) (F:List (List Int)):Option Int:=if (cz N F&&fA A F)=true then some (dH A F) else none
def j5 (T:Tk) (P:Pk) (z:Str) (F:List (List Int)):Int:=(F.map fun f=>dI T P (ff f).toNat z).sum
def gh (D:Tl) (T:Tk) (P:Pk) (A:List Rn) (N:Int) (z:Str) (F B:List (List Int)):Option Int:=
 if cE T.length F B=true then
  match cy D z with
  |none=>none
  |some m=>match cA A N F,cA A N B with
   |some h,some t=>some (h+t+ -((-(j5 T P z F)).fdiv m))
   |_,_=>none
 else none
def cw (k:Ky):Rn:=(k.getD 0 0,k.getD 1 0,k.getD 2 0)
theorem yg {A:List Ky} (h:∀k∈A,∃p q g:Int,k= [p,q,g]):(A.map cw).map rk=A:=by
 rw[DJ]
 conv=>rhs;rw[<-List.map_id A]
 apply Ez;intro k hk;obtain ⟨p,q,g,rfl⟩:=h k hk
 rfl
theorem fP {H:Hp} {l:Addr} {A:List Ky} (h:aW H l A) (t:∀k∈A,∃p q g:Int,k= [p,q,g]):uN H l (A.map cw):=by
 show aW H l ((A.map cw).map rk);rw[yg t];exact h
def mR:Sp:=fun vs H Q _=>∃(d c:Addr) (A:List Rn) (C:List Int) (kvs:List (List Key×V)),vs= [.ref d,.ref c]/\H d=some (.dT kvs)/\sW kvs A/\H c=some (.lst (C.map V.int))/\C.length<=700/\∀H',aB H H'->Q (oV (bP A C)) H'
def fV (n:Nat) (N:Int) (f b:List Int):Option Int:=if (dG n f b&&(da N f&&da N b))=true then some (ff f) else none
def lD (C:Addr):Sp:=fun vs H Q _=>∃(x cf cb:Addr) (fz:Bool) (D:Tl) (T:Tk) (A B:List Ky) (n:Int) (f b:List Int),vs= [.ref x,.ref cf,.ref cb]/\fH C fz H x D T A B n/\H cf=some (.lst (f.map V.int))/\H cb=some (.lst (b.map V.int))/\Q (oV (fV T.length (2*(T.length:Int)+n) f b)) H
def fB (n:Nat) (N:Int) (F B:List (List Int)):Option (List Int):=if (cE n F B&&(cz N F&&cz N B))=true then some (F.map ff) else none
def Da (H:Hp) (v:V) (o:Option (List Int)):Prop:=match o with
 |none=>v= .non
 |some xs=>∃l,v= .ref l/\H l=some (.lst (xs.map V.int))
def j6 (C:Addr):Sp:=fun vs H Q _=>∃(x lf lb:Addr) (fz:Bool) (D:Tl) (T:Tk) (A B:List Ky) (n:Int) (F G:List (List Int)),vs= [.ref x,.ref lf,.ref lb]/\fH C fz H x D T A B n/\wP H lf F/\wP H lb G/\F.length<=1000/\G.length<=1000/\∀(v:V) (H':Hp),aB H H'->Da H' v (fB T.length (2*(T.length:Int)+n) F G)->Q v H'
def oA (C:Addr):Sp:=fun vs H Q _=>∃(x t:Addr) (z:Str) (lf lb:Addr) (F G:List (List Int)),vs= [.ref x,.ref t,.str z,.ref lf,.ref lb]/\wP H lf F/\wP H lb G/\F.length<=1000/\G.length<=1000/\(∀f∈F,f.length<=700)/\(∀f∈G,f.length<=700)/\cv C false H x t fun D T A B n P O=>dW O/\A.length+2*T.length+O.length<=700/\∀H',aB H H'->Q (oV (gh D T P ((bR A T P O).map cw) (2*(T.length:Int)+n) z F G)) H'
theorem yh {f:List Int} (h:f≠ []):V.int ((f.map V.int).length:Nat)≠V.int 0:=fun e=>by
 injection e with e
 rw[D3] at e;exact h (Dg (by omega))
theorem uY {f:List Int} (h:f≠ []):eB f∈f:=by
 obtain ⟨D,x,rfl⟩:∃D x,f=D++ [x]:=⟨f.dropLast,f.getLast h,(List.dropLast_concat_getLast h).symm⟩;unfold eB;rw[List.getLast?_append];simp
theorem uZ {α:Type} {o:List α} (h:o.length=2):∃a b,o= [a,b]:=by
 match o,h with
 | [a,b],_=>exact ⟨a,b,rfl⟩
theorem u0 (os:List (Option Int)):(os.map oV).all gj=true:=by
 rw[DD];intro y hy;obtain ⟨o,_,rfl⟩:=DP.mp hy;cases o<;>rfl
theorem Db (os:List (Option Int)):oZ .non (os.map oV)=os.any fun o=>o.isNone:=by
 unfold oZ;rw[List.any_map]
 congr 1
 funext o
 cases o<;>rfl
theorem yi {os:List (Option Int)} {A B:Prop} (h1:none∈os->A) (h2:none∉os->B):if (if false=true then !oZ .non (os.map oV) else oZ .non (os.map oV))=true then A else B:=by
 rw[if_neg (show ¬(false=true) by decide),Db]
 by_cases h:none∈os
 ·rw[if_pos]
  ·exact h1 h
  ·rw[Di];exact ⟨none,h,rfl⟩
 ·rw[if_neg]
  ·exact h2 h
  ·rw[Di];rintro ⟨o,ho,e⟩;cases o with
   |none=>exact h ho
   |some _=>cases e
theorem j7 {xs:List Int}:(xs.foldl insI []).length=xs.length↔xs.Nodup:=by
 have:=j2 xs
 by_cases h:xs.Nodup
 ·rw[decide_eq_true h] at this;have:=of_decide_eq_true this;injection this with e
  exact ⟨fun _=>h,fun _=>by omega⟩
 ·rw[decide_eq_false h] at this;have:=of_decide_eq_false this;exact ⟨fun e=>absurd (by rw[e]) this,fun e=>absurd e h⟩
theorem dX {n:Nat} {N:Int} {f b:List Int} {i:Int}:fV n N f b=some i↔(dG n f b=true/\da N f=true/\da N b=true)/\i=ff f:=by
 unfold fV
 split
 ·rename_i h;rw[DH,DH] at h;exact ⟨fun e=>⟨h,by injection e with e;exact e.symm⟩,fun e=>by rw[e.2]⟩
 ·rename_i h;rw[DH,DH] at h;exact ⟨fun e=>(by cases e),fun e=>absurd e.1 h⟩
theorem qg {n:Nat} {N:Int} {F G:List (List Int)} (hl:F.length=G.length) (h:none∉(Dh F.length).map fun k=>fV n N (F.getD k []) (G.getD k [])):
  (Dh F.length).map (fun k=>fV n N (F.getD k []) (G.getD k []))=(F.map ff).map some/\gU n F G=true/\cz N F=true/\cz N G=true:=by
 have all:∀k,k<F.length->∃i,fV n N (F.getD k []) (G.getD k [])=some i:=fun k hk=>by
  cases e:fV n N (F.getD k []) (G.getD k []) with
  |none=>exact absurd (DP.mpr ⟨k,Dy.mpr hk,e⟩) h
  |some i=>exact ⟨i,rfl⟩
 refine ⟨?_,?_,?_,?_⟩
 ·have e:(F.map ff).map some=(Dh F.length).map fun k=>some (ff (F.getD k [])):=by
   conv=>lhs;rw[<-br F []]
   rw[DJ,DJ]
   rfl
  rw[e];apply Ez;intro k hk;obtain ⟨i,hi⟩:=all k (Dy.mp hk);rw[hi,(dX.mp hi).2]
 ·rw[dJ];refine ⟨hl,fun k f b h1 h2=>?_⟩
  obtain ⟨i,hi⟩:=all k (D5.mp h1).1;rw[aX h1,aX h2] at hi;exact (dX.mp hi).1.1
 ·unfold cz;rw[DD];intro f hf;obtain ⟨k,hk⟩:=DR.mp hf;obtain ⟨i,hi⟩:=all k (D5.mp hk).1;rw[aX hk] at hi;exact (dX.mp hi).1.2.1
 ·unfold cz;rw[DD];intro f hf;obtain ⟨k,hk⟩:=DR.mp hf;obtain ⟨i,hi⟩:=all k (by rw[hl];exact (D5.mp hk).1)
  rw[aX hk] at hi;exact (dX.mp hi).1.2.2
theorem qh {n:Nat} {N:Int} {F G:List (List Int)} (hl:F.length=G.length) (h:none∈(Dh F.length).map fun k=>fV n N (F.getD k []) (G.getD k [])):(cE n F G&&(cz N F&&cz N G))=false:=by
 rw[<-EX];intro e;rw[DH,DH] at e;obtain ⟨t,p1,p2⟩:=e;unfold cE at t;rw[DH,DH,dJ] at t;obtain ⟨k,hk,e⟩:=DP.mp h;have kl:=Dy.mp hk;have h1:=D4 kl;have h2:=D4 (show k<G.length by omega)
 unfold cz at p1 p2;rw[DD] at p1 p2;have:=(dX (n:=n) (N:=N) (i:=ff F[k])).mpr ⟨⟨t.2.1.2 k _ _ h1 h2,p1 _ (DO kl),p2 _ (DO (show k<G.length by omega))⟩,rfl⟩
 rw[aX h1,aX h2,this] at e;cases e
theorem ig {A:List Rn} {F:List (List Int)}:fA A F=true↔none∉F.map (bP A):=by
 unfold fA;rw[DD];constructor
 ·intro h hm;obtain ⟨c,hc,e⟩:=DP.mp hm;have:=h c hc;rw[e] at this;cases this
 ·intro h c hc;cases e:bP A c with
  |none=>exact absurd (DP.mpr ⟨c,hc,e⟩) h
  |some _=>rfl
theorem lE {A:List Rn} {F:List (List Int)} (h:none∉F.map (bP A)):(F.map (bP A)).map oV=(F.map fun c=>(bP A c).getD 0).map V.int:=by
 rw[DJ,DJ];apply Ez;intro c hc;cases e:bP A c with
 |none=>exact absurd (DP.mpr ⟨c,hc,e⟩) h
 |some t=>simp[Function.comp,e,oV]
theorem oB {n:Nat} {f b:List Int} (h:dG n f b=true):∃i:Nat,i<n/\ff f=(i:Int):=by
 unfold dG at h;have h2:=((DH _ _).mp h).2;have:=of_decide_eq_true ((DH _ _).mp h2).1;exact ⟨(ff f).toNat,by omega,by omega⟩
theorem u3 {D:Tl} {z:Str} {m:Int} (h:cy D z=some m):∃p∈D,p.2=m:=by
 unfold cy at h;obtain ⟨p,hp,e⟩:=DB.mp h;exact ⟨p,Ey hp,e⟩
theorem yj {H:Hp} {td:Addr} {D:Tl} {z:Str} (e:Rd H td (.dK (bq D))) (h:cy D z=none):iy H td (.str z) none:=
 .inl ⟨_,.inr z,e,rfl,by rw[iZ,h];rfl⟩
theorem oC {n:Nat} {N:Int} {F G:List (List Int)} {S:List Int} (h:fB n N F G=some S):S=F.map ff/\cE n F G=true/\cz N F=true/\cz N G=true:=by
 unfold fB at h
 split at h
 ·rename_i c;rw[DH,DH] at c;injection h with h
  exact ⟨h.symm,c⟩
 ·cases h
theorem jo {n:Nat} {F G:List (List Int)}:cE n F G=true↔F≠ []/\gU n F G=true/\(F.map ff).Nodup:=by
 unfold cE;rw[DH,DH,decide_eq_true_eq];cases F<;>simp
theorem jc {D:Tl} {T:Tk} {P:Pk} {A:List Rn} {N:Int} {z:Str} {F G:List (List Int)} (h:cA A N F=none∨cA A N G=none):gh D T P A N z F G=none:=by
 unfold gh
 split
 ·cases cy D z with
  |none=>rfl
  |some m=>
   rcases h with e|e
   ·rw[e]
   ·rw[e];cases cA A N F<;>rfl
 ·rfl
theorem tj {D:Tl} {T:Tk} {P:Pk} {A:List Rn} {N:Int} {z:Str} {F G:List (List Int)} (h:fB T.length N F G=none):gh D T P A N z F G=none:=by
 unfold fB at h
 split at h
 ·cases h
 ·rename_i c;rw[DH,DH] at c
  by_cases tk:cE T.length F G=true
  ·by_cases p1:cz N F=true
   ·have p2:cz N G=false:=by
     rw[<-EX];exact fun p2=>c ⟨tk,p1,p2⟩
    exact jc (.inr (by unfold cA;rw[p2];rfl))
   ·exact jc (.inl (by unfold cA;rw[EX] at p1;rw[p1];rfl))
  ·unfold gh;rw[if_neg tk]
theorem j8 {A:List Rn} {N:Int} {F:List (List Int)} (h:none∈F.map (bP A)):cA A N F=none:=by
 unfold cA;rw[if_neg];intro e;rw[DH] at e;exact ig.mp e.2 h
end Sw
namespace L2
open PySem PySem.Spec PyProof.Rows XH Sw Hm
theorem oE {X:Cx} {K:D7} (h:X.K=K):BE X (zW K):=by
 subst h;exact dy
end L2
namespace Sw
open PySem L2 XH Hm PySem.NumText
def Dc (p:List Int->Prop):RA Unit:=fun P H v _=>∃f,p f/\tf P H v f
instance (p:List Int->Prop):Mv (Dc p) where
 mv:=fun {P P' H H' v x} g h=>by
  obtain ⟨f,pf,r⟩:=h;exact ⟨f,pf,Mv.mv g r⟩
def oG:Sp:=fun vs H Q _=>∃(dl:Addr) (c:Int) (i:Nat) (due:List Ky) (n:Int),vs= [.ref dl,.int c,.int i]/\aW H dl due/\qZ n due/\2*(i:Int)+1<n/\∀(l:Addr) (C:List Int) (H':Hp),H l=none->aB H H'->H' l=some (.lst (C.map V.int))->C.length<=4->(∃D,C=D++ [2*(i:Int)])->(∀p∈C,0<=p/\p<n)->c9 due C->Q (.ref l) H'
def rj:Sp:=fun vs H Q _=>∃(dl:Addr) (c:Int) (i:Nat) (due:List Ky) (n:Int),vs= [.ref dl,.int c,.int i]/\aW H dl due/\qZ n due/\2*(i:Int)+1<n/\∀(l:Addr) (C:List Int) (H':Hp),H l=none->aB H H'->H' l=some (.lst (C.map V.int))->C.length<=4->(∃D,C=(2*(i:Int)+1)::D)->(∀p∈C,0<=p/\p<n)->c9 due C->Q (.ref l) H'
theorem oH {A:List Ky} {T:Tk} {P:Pk} {O:List Ky} {n:Int} (hA:∀k∈A,Ak n k) (a:A.length<=600) (t:T.length<=24) (hO:xv O T.length) (hn:2*(T.length:Int)<=n):qZ n (bR A T P O):=by
 refine ⟨?_,fun k hk=>?_⟩
 ·unfold bR gb;rw[D8,D8,cU,D3];have:=hO.1;omega
 have hN:∀m,m<=T.length->∀k∈bI T P m,∃p q g:Int,k= [p,q,g]/\0<=p/\p<n/\0<=q/\q<n:=fun m=>by
  induction m with
  |zero=>intro _ k hk;cases hk
  |succ m ih=>
   intro hm k hk;rcases DM.mp (show k∈bI T P m++_ from hk) with z|z
   ·exact ih (by omega) k z
   ·simp only[DG,DZ,or_false] at z;rcases z with rfl|rfl<;>exact ⟨_,_,_,rfl,by omega,by omega,by omega,by omega⟩
 unfold bR at hk;rcases DM.mp hk with z|z
 ·rcases DM.mp z with z|z
  ·obtain ⟨p,q,g,e,b1,b2,b3,b4,_⟩:=hA k z;exact ⟨p,q,g,e,b1,b2,b3,b4⟩
  ·exact hN _ (D9 _) k z
 ·unfold gb at z;obtain ⟨o,ho,rfl⟩:=DP.mp z;obtain ⟨p,q,rfl,p0,p1,q0,q1⟩:=hO.2 o ho;refine ⟨2*p+1,2*q,0,rfl,?_,?_,?_,?_⟩<;>omega
end Sw
namespace L2
open PySem PySem.Spec PyProof.Rows XH Sw Hm
end L2
namespace Sw
open PySem L2 XH Hm
theorem oI {A:List Rn} {x:Int} {c:List Int}:∀i,fw A (x::c) (i+1)=(c8 A x (c.getD 0 0)).bind fun g=>(fw A c i).map fun t=>g+t
 |0=>by
  show (some (0:Int)).bind (fun t=>(c8 A ((x::c).getD 0 0) ((x::c).getD 1 0)).map fun g=>t+g)=_
  have e:(x::c).getD 1 0=c.getD 0 0:=by simp[Dl]
  rw[e];show (c8 A x (c.getD 0 0)).map _=(c8 A x (c.getD 0 0)).bind fun g=>some (g+0)
  cases c8 A x (c.getD 0 0) with
  |none=>rfl
  |some g=>show some (0+g)=some (g+0);congr 1;omega
 |i+1=>by
  show (fw A (x::c) (i+1)).bind _=_;rw[oI i];have e1:(x::c).getD (i+1) 0=c.getD i 0:=by simp[Dl]
  have e2:(x::c).getD (i+1+1) 0=c.getD (i+1) 0:=by simp[Dl]
  rw[e1,e2];cases c8 A x (c.getD 0 0) with
  |none=>rfl
  |some g=>
   show ((fw A c i).map fun t=>g+t).bind _=((fw A c i).bind _).map _
   cases fw A c i with
   |none=>rfl
   |some t=>
    show ((c8 A (c.getD i 0) (c.getD (i+1) 0)).map fun h=>g+t+h)=((c8 A (c.getD i 0) (c.getD (i+1) 0)).map fun h=>t+h).map fun s=>g+s
    cases c8 A (c.getD i 0) (c.getD (i+1) 0) with
    |none=>rfl
    |some h=>show some (g+t+h)=some (g+(t+h));congr 1;omega
end Sw
namespace L2
open PySem PySem.Spec PyProof.Rows XH Sw So Hm
end L2
namespace Hm
open PySem PySem.SeqAt PySem.MeetsSeq
end Hm
namespace L2
open PySem PySem.Spec PyProof.Rows XH Sw So Hm
end L2
namespace Sw
open PySem L2 XH Hm
theorem u4 {due:List Ky} {p q g:Int} (h: [p,q,g]∈due):∃v,c8 (due.map cw) p q=some v:=by
 have fi:=gF p q (due.map cw) none;cases e:c8 (due.map cw) p q with
 |some v=>exact ⟨v,rfl⟩
 |none=>
  exfalso;unfold c8 at e;rw[e] at fi;exact fi.2 _ (DP.mpr ⟨_,h,rfl⟩) ⟨rfl,rfl⟩
theorem gB {due:List Ky}:∀{C:List Int},c9 due C->∃t,bP (due.map cw) C=some t
 | [],_=>⟨0,rfl⟩
 | [x],_=>⟨0,rfl⟩
 |x::y::r,h=>by
  obtain ⟨⟨g,hg⟩,h2⟩:=h;obtain ⟨t,ht⟩:=gB (C:=y::r) h2;obtain ⟨v,hv⟩:=u4 hg;refine ⟨v+t,?_⟩;show fw (due.map cw) (x::y::r) ((y::r).length-1+1)=_;rw[oI];show (c8 (due.map cw) x y).bind _=_;rw[hv];show (bP (due.map cw) (y::r)).map _=_;rw[ht]
  rfl
def oJ:Sp:=fun vs H Q _=>∃m c:Int,vs= [.int m,.int c]/\1<=m/\m<=4/\∀(l:Addr) (S:List Int) (H':Hp),aB H H'->H' l=some (.lst (S.map V.int))->S.length<=4->(∀i∈S,0<=i/\i<m)->S.Nodup->Q (.ref l) H'
def BK (p:Int->List Int->Prop):RA Int:=fun P H v i=>∃f,p i f/\tf P H v f
instance (p:Int->List Int->Prop):Mv (BK p) where
 mv:=fun g ⟨f,pf,r⟩=>⟨f,pf,Mv.mv g r⟩
theorem A2.si {p:Int->List Int->Prop} {P:Addr->Prop} {H:Hp}:∀{vs:List V} {us:List Int},A2 (BK p P H) vs us->∃F,A2 (tf P H) vs F/\F.length=us.length/\∀(k:Nat) (f:List Int) (i:Int),F[k]?=some f->us[k]?=some i->p i f
 | [],us,h=>⟨[],A2.nil,h.1,fun k f i hf=>by cases hf⟩
 |v::vs,us,h=>by
  have h0:=h.1
  match us,h0 with
  |u::us,h0=>
   obtain ⟨f,pf,r⟩:=h.2 0 v u rfl rfl;obtain ⟨F,rF,lF,each⟩:=A2.si (vs:=vs) (us:=us) ⟨by simpa using h0,fun i v' u' h1 h2=>h.2 (i+1) v' u' h1 h2⟩
   refine ⟨f::F,⟨by rw[DL,DL,rF.1],fun i v' f' h1 h2=>?_⟩,by rw[DL,DL,lF],fun k f' i h1 h2=>?_⟩
   ·match i,h1,h2 with
    |0,h1,h2=>cases h1;cases h2;exact r
    |i+1,h1,h2=>exact rF.2 i v' f' h1 h2
   ·match k,h1,h2 with
    |0,h1,h2=>cases h1;cases h2;exact pf
    |k+1,h1,h2=>exact each k f' i h1 h2
def yk (due:List Ky) (N:Int) (i:Int) (f:List Int):Prop:=f.length<=4/\(∃D,f=D++ [2*i])/\(∀p∈f,0<=p/\p<N)/\c9 due f
def yl (due:List Ky) (N:Int) (i:Int) (f:List Int):Prop:=f.length<=4/\(∃D,f=(2*i+1)::D)/\(∀p∈f,0<=p/\p<N)/\c9 due f
theorem yk.last {due:List Ky} {N i:Int} {f:List Int} (h:yk due N i f):f≠ []/\eB f=2*i/\ff f=i:=by
 obtain ⟨_,⟨D,rfl⟩,_⟩:=h;have l:eB (D++ [2*i])=2*i:=by unfold eB;rw[List.getLast?_append];rfl
 refine ⟨by simp,l,?_⟩
 unfold ff;rw[l];exact Int.mul_fdiv_cancel_left _ (by decide)
theorem yl.head {due:List Ky} {N i:Int} {f:List Int} (h:yl due N i f):f≠ []/\lB f=2*i+1:=by
 obtain ⟨_,⟨D,rfl⟩,_⟩:=h;exact ⟨by simp,rfl⟩
theorem qi {N:Int} {f:List Int} (h:∀p∈f,0<=p/\p<N):da N f=true:=by
 unfold da;rw[DD];intro p hp;rw[decide_eq_true (h p hp).1,decide_eq_true (h p hp).2]
 rfl
theorem j9 {due:List Ky} {N:Int} {F:List (List Int)} (h:∀f∈F,(∀p∈f,0<=p/\p<N)/\c9 due f):cA (due.map cw) N F=some (dH (due.map cw) F):=by
 have h1:cz N F=true:=by
  unfold cz;rw[DD];exact fun f hf=>qi (h f hf).1
 have h2:fA (due.map cw) F=true:=by
  unfold fA;rw[DD];intro f hf;obtain ⟨t,e⟩:=gB (h f hf).2;rw[e]
  rfl
 unfold cA;rw[h1,h2]
 rfl
theorem u5 {D:Tl} {T:Tk} {P:Pk} {due:List Ky} {N:Int} {z:Str} {m:Int} {S:List Int} {F G:List (List Int)} (hm:cy D z=some m) (ne:S≠ []) (nd:S.Nodup) (rg:∀i∈S,0<=i/\i<(T.length:Int)) (lF:F.length=S.length) (lG:G.length=S.length)
  (hF:∀(k:Nat) (f:List Int) (i:Int),F[k]?=some f->S[k]?=some i->yk due N i f) (hG:∀(k:Nat) (f:List Int) (i:Int),G[k]?=some f->S[k]?=some i->yl due N i f):∃v,gh D T P (due.map cw) N z F G=some v:=by
 have eS:F.map ff=S:=by
  refine List.ext_getElem? fun k=>?_
  rw[DE]
  by_cases c:k<F.length
  ·have h1:=D4 c;have h2:=D4 (show k<S.length by omega)
   rw[h1,h2,EI,(hF k _ _ h1 h2).last.2.2]
  ·rw[EY (by omega),EY (by omega)]
   rfl
 have all:∀(k:Nat) (f:List Int),F[k]?=some f->∃i,S[k]?=some i/\yk due N i f:=fun k f h=>by
  have c:=(D5.mp h).1;have h2:=D4 (show k<S.length by omega)
  exact ⟨_,h2,hF k _ _ h h2⟩
 have allG:∀(k:Nat) (f:List Int),G[k]?=some f->∃i,S[k]?=some i/\yl due N i f:=fun k f h=>by
  have c:=(D5.mp h).1;have h2:=D4 (show k<S.length by omega)
  exact ⟨_,h2,hG k _ _ h h2⟩
 have tk:cE T.length F G=true:=by
  refine jo.mpr ⟨fun e=>ne (Dg (by rw[<-lF,e];rfl)),dJ.mpr ⟨by omega,fun k f b h1 h2=>?_⟩,by rw[eS];exact nd⟩
  obtain ⟨i,hi,fp⟩:=all k f h1;have bp:=hG k b i h2 hi;obtain ⟨i0,i1⟩:=rg i (D6 hi);obtain ⟨fe,fl,ft⟩:=fp.last;obtain ⟨be,bh⟩:=bp.head;unfold dG;rw[decide_eq_true (show eB f=2*ff f/\0<=ff f/\ff f<(T.length:Int) by rw[ft];exact ⟨fl,i0,i1⟩),decide_eq_true (show lB b=eB f+1 by rw[bh,fl])]
  simp[fe,be]
 have l1:=j9 (due:=due) (N:=N) (F:=F) fun f hf=>by
  obtain ⟨k,hk⟩:=DR.mp hf;obtain ⟨i,_,fp⟩:=all k f hk;exact ⟨fp.2.2.1,fp.2.2.2⟩
 have l2:=j9 (due:=due) (N:=N) (F:=G) fun f hf=>by
  obtain ⟨k,hk⟩:=DR.mp hf;obtain ⟨i,_,fp⟩:=allG k f hk;exact ⟨fp.2.2.1,fp.2.2.2⟩
 unfold gh;rw[if_pos tk,hm,l1,l2];exact ⟨_,rfl⟩
open PySem.NumText
inductive cY where
 |full (z:Str) (F G:List (List Int))
 |one (w:Str) (C:List Int)
 |ways (i:Int)
def mS (H:Hp) (t:Addr):cY->Prop
 | .full z F G=>∃lf lb:Addr,H t=some (.tup [.str "full",.str z,.ref lf,.ref lb])/\wP H lf F/\wP H lb G
 | .one w C=>∃c:Addr,H t=some (.tup [.str w,.ref c])/\H c=some (.lst (C.map V.int))
 | .ways i=>H t=some (.tup [.str "ways",.int i])
theorem mS.same {H H':Hp} {t:Addr} {r:cY} (h:mS H t r) (g:aB H H'):mS H' t r:=by
 cases r with
 |full z F G=>
  obtain ⟨lf,lb,e,a,b⟩:=h;exact ⟨lf,lb,g _ _ e,a.same g,b.same g⟩
 |one w C=>
  obtain ⟨c,e,a⟩:=h;exact ⟨c,g _ _ e,g _ _ a⟩
 |ways i=>exact g _ _ h
def oK:cY->Prop
 | .full z F G=>F.length<=30/\G.length<=30/\(∀f∈F,f.length<=30)/\∀f∈G,f.length<=30
 | .one w C=>(w= "chain" ∨w= "ring" ∨w= "split")/\C.length<=30
 | .ways i=>True
def db (D:Tl) (T:Tk) (P:Pk) (A:List Rn) (N:Int):cY->Option Int
 | .full z F G=>gh D T P A N z F G
 | .one w C=>if w= "chain" then (if da N C=true then bP A C else none) else none
 | .ways _=>none
def wR:Option Int->Bool
 |none=>false
 |some t=>decide (t>0)
def gK:Option Int->Int->Bool
 |none,_=>false
 |some b,l=>decide (b≥l)
def gC (D:Tl) (T:Tk) (P:Pk) (A:List Rn) (N:Int) (low:Option Int) (r:cY):Bool:=match r with
 | .one w C=>if w= "ring" then da N C&&wR (eY A C) else (match low with|none=>false|some l=>gK (db D T P A N r) l)
 |_=>match low with|none=>false|some l=>gK (db D T P A N r) l
section
variable (C:Addr)
def lH:Sp:=fun vs H Q _=>∃(x t row:Addr) (r:cY),vs= [.ref x,.ref t,.ref row]/\mS H row r/\oK r/\cv C false H x t fun D T A B n P O=>dW O/\A.length+2*T.length+O.length<=700/\∀H',aB H H'->Q (oV (db D T P ((bR A T P O).map cw) (2*(T.length:Int)+n) r)) H'
def ka:Sp:=fun vs H Q _=>∃(x t c:Addr) (R:List Int),vs= [.ref x,.ref t,.ref c]/\H c=some (.lst (R.map V.int))/\R.length<=30/\cv C false H x t fun D T A B n P O=>dW O/\A.length+2*T.length+O.length<=700/\∀H',aB H H'->Q (.bl (da (2*(T.length:Int)+n) R&&wR (eY ((bR A T P O).map cw) R))) H'
def rC:Sp:=fun vs H Q _=>∃(x t row:Addr) (low:Option Int) (r:cY),vs= [.ref x,.ref t,oV low,.ref row]/\mS H row r/\oK r/\cv C false H x t fun D T A B n P O=>dW O/\A.length+2*T.length+O.length<=700/\∀H',aB H H'->Q (.bl (gC D T P ((bR A T P O).map cw) (2*(T.length:Int)+n) low r)) H'
end
theorem lJ {A:List Ky} {T:Tk} {P:Pk} {O:List Ky} (h:A.length+2*T.length+O.length<=700):((bR A T P O).map cw).length<=700:=by
 rw[D3];unfold bR gb;rw[D8,D8,cU,D3];omega
theorem gw.trip {D:Tl} {T:Tk} {A B:List Ky} {n:Int} (h:gw D T A B n):∀k∈A,∃p q g:Int,k= [p,q,g]:=fun k hk=>by
 obtain ⟨p,q,g,e,_⟩:=h.arcs k hk;exact ⟨p,q,g,e⟩
def iL:cY->Prop
 | .one w _=>w≠ "ring"
 |_=>True
def As (o low:Option Int):Bool:=match low with
 |none=>false
 |some l=>gK o l
theorem jd {D:Tl} {T:Tk} {P:Pk} {A:List Rn} {N:Int} {r:cY} (h:iL r) (low:Option Int):gC D T P A N low r=As (db D T P A N r) low:=by
 cases r with
 |full _ _ _=>cases low<;>rfl
 |one w C=>
  have:gC D T P A N low (.one w C)=(match low with|none=>false|some l=>gK (db D T P A N (.one w C)) l):=if_neg h
  rw[this];cases low<;>rfl
 |ways _=>cases low<;>rfl
end Sw
namespace L2
open PySem PySem.Spec PyProof.Rows XH Sw Hm
theorem tm {X:Cx}:dS X (.builtin "len") (fun xs H Q=>∃(a:Addr) (ys:List V),xs= [.ref a]/\H a=some (.lst ys)/\Q (.int (ys.length:Nat)) H):=by
 intro pins s σ H xs us Q I r h;obtain ⟨a,ys,rfl,e,q⟩:=h;exact av pins s σ H _ us Q I r ⟨a,ys,rfl,.inl (aC.of e),q⟩
end L2
namespace Sw
open PySem L2 XH Hm PySem.NumText
theorem ii {D:Tl} {T:Tk} {P:Pk} {A:List Rn} {N:Int} {low:Option Int} {C:List Int}:gC D T P A N low (.one "ring" C)=(da N C&&wR (eY A C)):=by
 unfold gC;simp
theorem jp {D:Tl} {T:Tk} {P:Pk} {A:List Rn} {N:Int} (C:List Int):db D T P A N (.one "chain" C)=if da N C=true then bP A C else none:=by
 unfold db;simp
end Sw
namespace L2
open PySem PySem.Spec PyProof.Rows XH
end L2
namespace Sw
open PySem L2 XH Hm PySem.NumText
abbrev Cs:=List (Pk×List Ky)
inductive Rp where
 |split (S:List Int)
 |ways (i:Int)
def ym (H:Hp) (r:Addr):Rp->Prop
 | .split S=>∃c:Addr,H r=some (.tup [.str "split",.ref c])/\H c=some (.lst (S.map V.int))
 | .ways i=>H r=some (.tup [.str "ways",.int i])
def wS:Rp->Prop
 | .split S=>S.length<=8
 | .ways _=>True
def cX (P:Pk) (O:List Ky) (S S1:List Int):Cs:=S1.flatMap fun i=>(S.filter fun j=> !decide (V.int i=V.int j)).map fun j=>(P,O++ [[i,j]])
def ce (P:Pk) (O:List Ky):Rp->Cs
 | .split S=>cX P O S S
 | .ways i=> [(P.set i.toNat (some 0),O),(P.set i.toNat (some 1),O)]
def fq (T:Tk) (P:Pk) (i:Int):Bool:=(decide (0<=i)&&decide (i<(T.length:Int)))&&(decide ((T.getD i.toNat []).length=2)&&decide (P.getD i.toNat none=none))
def cB (D:Tl) (T:Tk) (B:List Ky) (P:Pk) (O:List Ky):Rp->Bool
 | .split S=> !bF O S&&bT D T B P S
 | .ways i=>fq T P i
theorem jq {P:Pk} {O:List Ky} {S S1:List Int} {i:Int}:cX P O S (S1++ [i])=cX P O S S1++(S.filter fun j=> !decide (V.int i=V.int j)).map fun j=>(P,O++ [[i,j]]):=by
 unfold cX;rw[List.flatMap_append];simp
theorem gL {P:Pk} {O:List Ky} {S:List Int} {i j:Int}:((S++ [j]).filter fun j=> !decide (V.int i=V.int j)).map (fun j=>(P,O++ [[i,j]]))=(S.filter fun j=> !decide (V.int i=V.int j)).map (fun j=>(P,O++ [[i,j]]))++(if V.int i=V.int j then [] else [(P,O++ [[i,j]])]):=by
 rw[EL,DS]
 by_cases c:V.int i=V.int j
 ·rw[if_pos c,List.filter_cons_of_neg (by rw[decide_eq_true c];decide)];rfl
 ·rw[if_neg c,List.filter_cons_of_pos (by rw[decide_eq_false c];rfl)];rfl
theorem fQ {P:Pk} {O:List Ky} {S:List Int}:∀{S1:List Int},(cX P O S S1).length<=S1.length*S.length
 | []=>by simp[cX]
 |x::r=>by
  have:cX P O S (x::r)=((S.filter fun j=> !decide (V.int x=V.int j)).map fun j=>(P,O++ [[x,j]]))++cX P O S r:=by
   unfold cX;rw[List.flatMap_cons]
  rw[this,D8,D3,DL,Nat.succ_mul];have:=Ek (fun j=> !decide (V.int x=V.int j)) S
  have:=fQ (P:=P) (O:=O) (S:=S) (S1:=r);omega
def cR:RA (Pk×List Ky):=fun P H v c=>∃t pl ol:Addr,v= .ref t/\P t/\P pl/\P ol/\H t=some (.tup [.ref pl,.ref ol])/\H pl=some (.lst (c.1.map fM))/\bU (sR fun k:Ky=>k.map V.int) P H ol c.2
instance:Mv cR where
 mv:=fun {P P' H H' v x} g h=>by
  obtain ⟨t,pl,ol,rfl,p1,p2,p3,e1,e2,vs,e3,r⟩:=h;obtain ⟨q1,f1⟩:=g t _ p1 rfl e1;obtain ⟨q2,f2⟩:=g pl _ p2 rfl e2;obtain ⟨q3,f3⟩:=g ol _ p3 rfl e3;exact ⟨t,pl,ol,rfl,q1,q2,q3,f1,f2,vs,f3,r.imp fun _ _ k=>Mv.mv g k⟩
theorem At {H:Hp} {l:Addr} {ks:List Ky} (h:aW H l ks):bU (sR fun k:Ky=>k.map V.int) An H l ks:=by
 obtain ⟨as,e,r⟩:=h;refine ⟨_,e,by rw[D3];exact r.1,fun i v k h1 h2=>?_⟩
 obtain ⟨a,ha,rfl⟩:=cC h1;exact ⟨a,rfl,trivial,r.2 i a k ha h2⟩
theorem cR.case {H:Hp} {P:Addr->Prop} {v:V} {c:Pk×List Ky} (h:cR P H v c):∃t,v= .ref t/\em H t c.1 c.2:=by
 obtain ⟨t,pl,ol,rfl,_,_,_,e1,e2,h3⟩:=h;exact ⟨t,rfl,pl,ol,e1,e2,uX h3⟩
theorem em.r {H:Hp} {t:Addr} {P:Pk} {O:List Ky} (h:em H t P O):cR An H (.ref t) (P,O):=by
 obtain ⟨pl,ol,e1,e2,h3⟩:=h;exact ⟨t,pl,ol,rfl,trivial,trivial,trivial,e1,e2,At h3⟩
structure vJ (H0 H:Hp) (l:Addr) (z:(Addr×Addr×Addr)×(Pk×List Ky)):Prop where
 n1:H0 z.1.2.1=none
 n2:H0 z.1.2.2=none
 l1:z.1.2.1≠l
 l2:z.1.2.2≠l
 e:H z.1.1=some (.tup [.ref z.1.2.1,.ref z.1.2.2])
 ep:H z.1.2.1=some (.lst (z.2.1.map fM))
 eo:aW H z.1.2.2 z.2.2
def zD (zs:List ((Addr×Addr×Addr)×(Pk×List Ky))):FR:=zs.flatMap fun z=> [z.1.2.1,z.1.2.2]
structure oM (H0 H:Hp) (l:Addr) (zs:List ((Addr×Addr×Addr)×(Pk×List Ky))):Prop where
 nl:H0 l=none
 e:H l=some (.lst (zs.map fun z=>V.ref z.1.1))
 nd:(zD zs).Nodup
 each:∀z∈zs,vJ H0 H l z
theorem wT {zs:List ((Addr×Addr×Addr)×(Pk×List Ky))} {a:Addr}:a∈zD zs↔∃z∈zs,a=z.1.2.1∨a=z.1.2.2:=by
 unfold zD;rw[List.mem_flatMap];constructor
 ·rintro ⟨z,hz,h⟩;simp only[DG,DZ,or_false] at h;exact ⟨z,hz,h⟩
 ·rintro ⟨z,hz,h⟩;refine ⟨z,hz,?_⟩;simp only[DG,DZ,or_false];exact h
theorem u6 (zs:List ((Addr×Addr×Addr)×(Pk×List Ky))) (z:(Addr×Addr×Addr)×(Pk×List Ky)):zD (zs++ [z])=zD zs++ [z.1.2.1,z.1.2.2]:=by
 unfold zD;rw[List.flatMap_append];simp
theorem u7 {H:Hp} {o b:Addr} {O:List Ky} {xs:List V} {ob:HO} (h:aW H o O) (e:H b=some (.lst xs)) (n:b≠o):aW (L2.aG H b ob) o O:=by
 obtain ⟨as,e1,r⟩:=h;refine ⟨as,by rw[aH (fun z=>n z.symm)];exact e1,r.imp fun t k q=>?_⟩
 rw[aH (fun z=>by rw[z,e] at q;cases q)]
 exact q
theorem vJ.updL {H0 H:Hp} {l b:Addr} {z:(Addr×Addr×Addr)×(Pk×List Ky)} {xs:List V} {ob:HO} (h:vJ H0 H l z) (e:H b=some (.lst xs)) (b1:b≠z.1.2.1) (b2:b≠z.1.2.2):vJ H0 (aG H b ob) l z:=
 ⟨h.n1,h.n2,h.l1,h.l2,by rw[aH (fun q=>by have:=h.e;rw[q,e] at this;cases this)];exact h.e,by rw[aH (fun q=>b1 q.symm)];exact h.ep,u7 h.eo e b2⟩
theorem vJ.same {H0 H H':Hp} {l:Addr} {z:(Addr×Addr×Addr)×(Pk×List Ky)} (h:vJ H0 H l z) (g:aB H H'):vJ H0 H' l z:=
 ⟨h.n1,h.n2,h.l1,h.l2,g _ _ h.e,g _ _ h.ep,h.eo.same g⟩
theorem oM.nil {H0 H:Hp} {l:Addr} (n:H0 l=none):oM H0 (aG H l (.lst [])) l []:=⟨n,ah,List.nodup_nil,fun z hz=>by cases hz⟩
theorem oM.later {H0 H1 H:Hp} {l:Addr} {zs:List ((Addr×Addr×Addr)×(Pk×List Ky))} (h:oM H1 H l zs) (g:aB H0 H1):oM H0 H l zs:=
 ⟨g.free h.nl,h.e,h.nd,fun z hz=>⟨g.free (h.each z hz).n1,g.free (h.each z hz).n2,(h.each z hz).l1,(h.each z hz).l2,(h.each z hz).e,(h.each z hz).ep,(h.each z hz).eo⟩⟩
theorem oM.put {H0 H H':Hp} {l:Addr} {zs:List ((Addr×Addr×Addr)×(Pk×List Ky))} (h:oM H0 H l zs) (g0:aB H0 H) (g:aB H H') {t p o:Addr} {P:Pk} {O:List Ky} (np:H p=none) (no:H o=none) (po:p≠o) (e:H' t=some (.tup [.ref p,.ref o])) (ep:H' p=some (.lst (P.map fM))) (eo:aW H' o O):oM H0 (aG H' l (.lst ((zs.map fun z=>V.ref z.1.1)++ [.ref t]))) l (zs++ [((t,p,o),(P,O))]):=by
 have pl:p≠l:=fun z=>by rw[z,h.e] at np;cases np
 have ol:o≠l:=fun z=>by rw[z,h.e] at no;cases no
 have el:=g _ _ h.e;have tc:vJ H0 H' l ((t,p,o),(P,O)):=⟨g0.free np,g0.free no,pl,ol,e,ep,eo⟩;refine ⟨h.nl,by rw[ah,DS];rfl,?_,fun z hz=>?_⟩
 ·rw[u6,El];refine ⟨h.nd,by simp[po],fun a ha b hb=>?_⟩
  obtain ⟨z,hz,q⟩:=wT.mp ha;have some_:H a≠none:=by
   rcases q with q|q
   ·rw[q,(h.each z hz).ep];exact nofun
   ·obtain ⟨as,e1,_⟩:=(h.each z hz).eo;rw[q,e1];exact nofun
  simp only[DG,DZ,or_false] at hb;rcases hb with rfl|rfl
  ·exact fun q=>some_ (by rw[q];exact np)
  ·exact fun q=>some_ (by rw[q];exact no)
 ·rcases DM.mp hz with q|q
  ·have k:=h.each z q;exact (k.same g).updL el (fun q=>k.l1 q.symm) (fun q=>k.l2 q.symm)
  ·rw[DI.mp q];exact tc.updL el (fun q=>pl q.symm) (fun q=>ol q.symm)
theorem oM.two {H H1 H2:Hp} {t1 p1 o1 t2 p2 o2 lc:Addr} {P1 P2:Pk} {O:List Ky} (g1:aB H H1) (g2:aB H1 H2) (np1:H p1=none) (no1:H o1=none) (po1:p1≠o1) (e1:H1 t1=some (.tup [.ref p1,.ref o1])) (ep1:H1 p1=some (.lst (P1.map fM))) (eo1:aW H1 o1 O)
  (np2:H1 p2=none) (no2:H1 o2=none) (po2:p2≠o2) (e2:H2 t2=some (.tup [.ref p2,.ref o2])) (ep2:H2 p2=some (.lst (P2.map fM))) (eo2:aW H2 o2 O) (nlc:H2 lc=none):oM H (L2.aG H2 lc (.lst [.ref t1,.ref t2])) lc [((t1,p1,o1),(P1,O)),((t2,p2,o2),(P2,O))]:=by
 have g3:=ag nlc (.lst [.ref t1,.ref t2]);have g23:=g2.trans g3;obtain ⟨b1,f1,_⟩:=id eo1;obtain ⟨b2,f2,_⟩:=id eo2;have n12:∀{a b:Addr} {o:HO},H1 a=some o->H1 b=none->a≠b:=fun h k z=>by rw[z,k] at h;cases h
 have nl:∀{a:Addr} {o:HO},H2 a=some o->a≠lc:=fun h z=>by rw[z,nlc] at h;cases h
 refine ⟨(g1.trans g2).free nlc,ah,?_,fun z hz=>?_⟩
 ·show [p1,o1,p2,o2].Nodup;have a:=n12 ep1 np2;have b:=n12 ep1 no2;have c:=n12 f1 np2;have d:=n12 f1 no2;simp[po1,po2,a,b,c,d]
 ·simp only[DG,DZ,or_false] at hz;rcases hz with rfl|rfl
  ·exact ⟨np1,no1,nl (g2 _ _ ep1),nl (g2 _ _ f1),g23 _ _ e1,g23 _ _ ep1,eo1.same g23⟩
  ·exact ⟨g1.free np2,g1.free no2,nl ep2,nl f2,g3 _ _ e2,g3 _ _ ep2,eo2.same g3⟩
section
variable {f:Int} {n0 n1:Str} {m0 m1:Int} {hs1 hs2:List Int} {T:Tk} {R:List Rn} {M:List Int}
theorem u8 {l r:List Int} (h:l.Perm r):l.sum=r.sum:=by
 induction h with
 |nil=>rfl
 |cons x _ ih=>simp only[List.sum_cons,ih]
 |swap x y l=>simp only[List.sum_cons];omega
 |trans _ _ a b=>exact a.trans b
end
def u9 (H H':Hp) (r:Bool) (cs:Cs) (v:V):Prop:=(r=false/\v= .non)∨(r=true/\∃(l:Addr) (zs:List ((Addr×Addr×Addr)×(Pk×List Ky))),v= .ref l/\zs.map (·.2)=cs/\oM H H' l zs)
section
variable (C:Addr)
def kb:Sp:=fun vs H Q _=>∃(t l:Addr) (P:Pk) (O:List Ky) (S:List Int),vs= [.ref t,.ref l]/\em H t P O/\dW O/\H l=some (.lst (S.map V.int))/\Q (.bl (bF O S)) H
def lK:Sp:=fun vs H Q _=>∃(x t l:Addr) (S:List Int),vs= [.ref x,.ref t,.ref l]/\H l=some (.lst (S.map V.int))/\S.length<=8/\cv C false H x t fun D T A B n P O=>dW O/\∀v H',aB H H'->u9 H H' (cB D T B P O (.split S)) (ce P O (.split S)) v->Q v H'
def ke:Sp:=fun vs H Q _=>∃(t:Addr) (i j:Nat) (P:Pk) (O:List Ky),vs= [.ref t,.int i,.int j]/\em H t P O/\i<P.length/\P.length<=24/\dW O/\∀(t' p o:Addr) (H':Hp),aB H H'->H p=none->H o=none->p≠o->H' t'=some (.tup [.ref p,.ref o])->H' p=some (.lst ((P.set i (some j)).map fM))->aW H' o O->Q (.ref t') H'
def rD:Sp:=fun vs H Q _=>∃(x t:Addr) (i:Int),vs= [.ref x,.ref t,.int i]/\cv C false H x t fun D T A B n P O=>dW O/\∀v H',aB H H'->u9 H H' (fq T P i) (ce P O (.ways i)) v->Q v H'
def oN:Sp:=fun vs H Q _=>∃(x t r:Addr) (w:Rp),vs= [.ref x,.ref t,.ref r]/\ym H r w/\wS w/\cv C false H x t fun D T A B n P O=>dW O/\∀v H',aB H H'->u9 H H' (cB D T B P O w) (ce P O w) v->Q v H'
end
theorem eR {P:Pk} {O:List Ky} {w:Rp} (ok:wS w):(ce P O w).length<=64:=by
 cases w with
 |split S=>
  have:=fQ (P:=P) (O:=O) (S:=S) (S1:=S);have h8:S.length<=8:=ok;have:S.length*S.length<=8*8:=Nat.mul_le_mul h8 h8;show (cX P O S S).length<=64;omega
 |ways i=>show 2<=64;decide
theorem mU {T:Tk} {P:Pk} {i:Int} (pl:P.length=T.length) (h:fq T P i=true):0<=i/\i<(P.length:Int):=by
 unfold fq at h;simp only[DH,decide_eq_true_eq] at h;rw[pl];exact h.1
def Dd:RA Unit:=fun P H v _=>∃(r:Addr) (i:Int),v= .ref r/\P r/\H r=some (.tup [.str "ways",.int i])
instance:Mv Dd where
 mv:=fun {P P' H H' v x} g h=>by
  obtain ⟨r,i,rfl,p,e⟩:=h;obtain ⟨q,e'⟩:=g r _ p rfl e;exact ⟨r,i,rfl,q,e'⟩
end Sw
namespace L2
open PySem PySem.Spec PyProof.Rows XH Sw
section
variable {prog:Program} {w:World} {A:Around} {R:Result->Shared->Prop} {I:Addr} {fp wr:FR} {n:Nat} {P:Nat->Value->Prop} {St:Nat->Heap->Prop}
def Cn:FU->Array Value
 |none=> #[]
 |some v=> #[v,v]
def Au (num:Nat->Int) (P:Nat->Value->Prop) (j:Nat) (o:FU):Prop:=(j=0/\o=none)∨∃v i,o=some v/\i<j/\P i v/\∀i',i'<j->num i<=num i'
theorem wU (W:Walks prog w A.in1 I fp wr n P St) (num:Nat->Int) (hcmp:CmpOf prog w A.in1 .Lt P fun i j=>decide (num i<num j)) (S:Addr) (sf:S∉fp) (d:Value):
  ∀(k j:Nat) (s:Shared) (o:FU) (c:Nat),n-j=k->j<=n->St j s.heap->Au num P j o->s.heap.get? S=some {cls:= .type "list",dict:=none,data:= .seq (Cn o) c,slots:= #[]}->
  (∀v h' tk,((n=0/\v=d)∨∃i,i<n/\P i v/\∀i',i'<n->num i<=num i')->(∀b x,b∉wr->b≠S->s.heap.get? b=some x->h'.get? b=some x)->R (.ok (.ret v)) {s with heap:=h',toks:=tk})->
  codeAny (model prog w) A (.builtin "min.loop" ⟨[.ref I,.none,.ref S],[("default",d)]⟩) R s:=by
 have sw:S∉wr:=fun h=>sf (W.sub _ h)
 have nm:(toString "min" ++toString ".loop" :String)= "min.loop" :=by decide
 intro k
 induction k with
 |zero=>
  intro j s o c hk hj st bo hS q;obtain rfl:j=n:=by omega
  refine codeAny_builtin PySem.F.entry_min_loop (?_);rw[Around.under_plainId ET _];show wpAny _ A.in1 (seqItems? (.ref S)>>=_) _ _ s;refine wpAny_bind (wpAny_seqItems hS rfl (?_));show wpAny _ A.in1 (tryCatch (pyNext (.ref I)) _>>=_) _ _ s;refine wpAny_bind (wpAny_tryCatch (W.done s _ _ st fun h' tk hk'=>?_))
  have hS':=hk' S _ sw hS;rcases bo with ⟨j0,rfl⟩|⟨v,i,rfl,il,pv,le⟩
  ·exact wpAny_bind (wpAny_rule (wpAny_pure (q d _ tk (.inl ⟨j0,rfl⟩) fun b x hw _ e=>hk' b x hw e)))
  ·show wpAny _ A.in1 (updateSeq S (fun _=> #[])>>=_) _ _ _;refine wpAny_bind (wpAny_updateSeq hS' rfl (wpAny_bind (wpAny_letGo (wpAny_pure ?_))) (hz:=by show 2<=sizeLine;rw[sizeLine_eq];omega))
   exact q v _ tk (.inr ⟨i,il,pv,le⟩) fun b x hw hs e=>(Heap.get?_update_other _ _ (fun z=>hs z.symm)).trans (hk' b x hw e)
 |succ k ih=>
  intro j s o c hk hj st bo hS q;have jl:j<n:=by omega
  refine codeAny_builtin PySem.F.entry_min_loop (?_);rw[Around.under_plainId ET _];show wpAny _ A.in1 (seqItems? (.ref S)>>=_) _ _ s;refine wpAny_bind (wpAny_seqItems hS rfl (?_));show wpAny _ A.in1 (tryCatch (pyNext (.ref I)) _>>=_) _ _ s;refine wpAny_bind (wpAny_tryCatch (W.item j s _ _ jl st fun v h' tk pv st' hk'=>?_))
  have hS':=hk' S _ sw hS;have other:∀{h:Heap} {f:Obj->Obj} {b:Addr} {x:Obj},b≠S->h.get? b=some x->(h.update S f).get? b=some x:=fun hb e=>(Heap.get?_update_other _ _ (fun z=>hb z.symm)).trans e
  have fS:∀b∈fp,b≠S:=fun b hb z=>sf (by rw[<-z];exact hb)
  rcases bo with ⟨j0,rfl⟩|⟨vb,i,rfl,il,pb,le⟩
  ·show wpAny _ A.in1 (updateSeq S (fun _=> #[v,v])>>=_) _ _ _;refine wpAny_bind (wpAny_updateSeq hS' rfl ?_)
   rw[nm];refine wpAny_pure ⟨plainId_quiet ET _,ih (j+1) _ (some v) _ (by omega) jl (W.frame _ _ _ st' fun b hb x e=>other (fS b hb) e) (.inr ⟨v,j,rfl,by omega,pv,fun i' hi'=>?_⟩) (Heap.get?_update_self _ hS' rfl) fun v' h2 t2 pr kp=>q v' h2 t2 pr fun b x hw hs e=>kp b x hw hs (other hs (hk' b x hw e))⟩
   obtain rfl:i'=j:=by omega
   exact EW _
  ·show wpAny _ A.in1 (tryCatch (holding [v,v] (richCompare .Lt v vb>>=_)) _>>=_) _ _ _;refine wpAny_bind (wpAny_tryCatch (wpAny_holding (wpAny_bind (hcmp j i v vb _ _ _ pv pb ?_))));refine wpAny_bind (wpAny_holding (wpAny_truthy_bool (wpAny_bind (wpAny_letGo (wpAny_pure ?_)))))
   by_cases hb:num j<num i
   ·have he:decide (num j<num i)=true:=decide_eq_true hb;simp only[he,if_true];refine wpAny_bind (wpAny_updateSeq hS' rfl (wpAny_bind (wpAny_letGo ?_)) (hz:=by show 2<=sizeLine;rw[sizeLine_eq];omega))
    rw[nm];refine wpAny_pure ⟨plainId_quiet ET _,ih (j+1) _ (some v) _ (by omega) jl (W.frame _ _ _ st' fun b hb x e=>other (fS b hb) e) (.inr ⟨v,j,rfl,by omega,pv,fun i' hi'=>?_⟩) (Heap.get?_update_self _ hS' rfl) fun v' h2 t2 pr kp=>q v' h2 t2 pr fun b x hw hs e=>kp b x hw hs (other hs (hk' b x hw e))⟩
    by_cases c2:i'=j
    ·rw[c2];exact EW _
    ·have:=le i' (by omega);omega
   ·have he:decide (num j<num i)=false:=decide_eq_false hb;simp only[he,Bool.false_eq_true,if_false];refine wpAny_bind (wpAny_letGo ?_);rw[nm];refine wpAny_pure ⟨plainId_quiet ET _,ih (j+1) _ (some vb) c (by omega) jl st' (.inr ⟨vb,i,rfl,by omega,pb,fun i' hi'=>?_⟩) hS' fun v' h2 t2 pr kp=>q v' h2 t2 pr fun b x hw hs e=>kp b x hw hs (hk' b x hw e)⟩
    by_cases c2:i'=j
    ·rw[c2];omega
    ·exact le i' (by omega)
end
theorem tu (a d:Value):argsOk "min" ⟨[a],[(Str.ofString "default",d)]⟩:=by unfold argsOk;kernel_rfl
def Av (K:D7) (te:TE):TE:=fun σ H Q=>te σ H fun x H1=>∃(a:Addr) (ns:List Int),x= .ref a/\aC K H1 a (ns.map V.int)/\((ns= []/\Q .non H1)∨(ns≠ []/\∀M:Int,M∈ns->(∀z∈ns,M<=z)->Q (.int M) H1))
theorem wV {X:Cx} {e:Expr} {te:TE} {p1 pos kp cp:Pos} {cj:Nat} (hc:X.calm=true) (g1:Gl X "min") (m1:X.mg "min" =none) (b1:bootBuiltins "min" =some (.builtin "min")) (he:PE X e te)
  (hs:starEach [e] X.env= [(false,eval e X.env)]:=by rfl):PE X (.Call (.Name "min" p1) [e] [⟨some "default",.Constant .none cj cp,kp⟩] pos) (Av X.K te):=by
 intro pins s σ H Q I h;apply wpAny_Call_Name_kw;refine dC I g1 m1 b1 ?_ (by decide) (by decide)
 have hb:backTo pos (starEach [e] X.env)= [(false,eval e X.env)]:=by rw[hs];rfl
 rw[hb];refine callWith_builtin_kwB rfl rfl (evalArgs_kwB rfl ?_);refine Calls.spliced_cons (x:=eval e X.env) (rest:= []) (bi (he pins s σ H _ I h) fun v s1 ⟨x,H1,I1,r1,a,ns,ex,hl,q⟩=>?_)
 subst ex;cases r1;refine Calls.spliced_nil (kws_cons (Constant_none (kws_nil ?_)));obtain ⟨its,rv,p,hz⟩:=I1.list hl;have hi:=iB rv;obtain ⟨xs,ei⟩:=hi.allInts.items;have lst:xs.toList.map (·.1)=ns:=by
  rw[<-hi.numsOf,<-nums_intItems xs,<-ei]
 have len:ns.length=xs.size:=by rw[<-lst,D3,Dr]
 have pl:=p.isList;rw[ei] at pl;have hh:X.A.in1.handled=none:=I1.ok.hd hc;refine kmk_tree PySem.F.kind_min PySem.F.plain_min PySem.F.entry_min (tu _ _) ?_;show wpAny _ X.A.in1 (Builtin.Builtins.bindParams "min" ["key","default"] 0 ⟨[],[(Str.ofString "default",Value.none)]⟩>>=_) _ _ s1;refine wpAny_bind (wpAny_of_eq (show Builtin.Builtins.bindParams "min" ["key","default"] 0 ⟨[],[(Str.ofString "default",Value.none)]⟩=pure [none,some Value.none] from rfl) (wpAny_bind (wpAny_pure ?_)))
 refine wpAny_bind (iter_intList pl fun s₂ es st hfp hlI=>?_)
 subst es;refine wpAny_bind (wpAny_newObj_type ?_);have nm:(toString "min" ++toString ".loop" :String)= "min.loop" :=by decide
 rw[nm];have W:=Walks.list (prog:=X.prog) (w:=X.w) (A:=X.A.in1) hh _ a hlI (intItems xs);refine wpAny_pure ⟨plainId_quiet ET _,wU W (numAt xs) (CmpOf.ints_lt (numAt xs) fun _ _=>intItems_at) _ (fun hm=>Ec _ (hfp _ hm)) Value.none _ 0 _ none _ rfl (Dn _) (W.frame _ _ _ st fun b _ o e=>Heap.get?_push_of_some _ e) (.inl ⟨rfl,rfl⟩) (Heap.get?_push_size _ rfl) fun v h' tk pr kp=>?_⟩
 have kept:∀b o,s1.heap.get? b=some o->h'.get? b=some o:=fun b o e=>by
  have l1:=Heap.lt_size e;refine kp b o (fun hm=>?_) (fun z=>?_) (Heap.get?_push_of_some _ (Heap.get?_push_of_some _ e))
  ·rw[DI.mp hm] at l1;exact Ec _ l1
  ·rw[z] at l1;have l2:(s1.heap.push {cls:= .type "list_iterator",data:= .fields #[.ref a,.int 0 0]}).objs.size<s1.heap.objs.size:=l1;rw[Heap.size_push] at l2;omega
 have sz:(intItems xs).size=ns.length:=by rw[len];simp[intItems]
 rcases q with ⟨e0,q⟩|⟨ne,q⟩
 ·rcases pr with ⟨_,rfl⟩|⟨i,il,_,_⟩
  ·exact ⟨.non,H1,I1.kept (h':=h') (t':=tk) kept,rfl,q⟩
  ·rw[sz,e0] at il;cases il
 ·rcases pr with ⟨e0,_⟩|⟨i,il,pv,le⟩
  ·rw[sz] at e0;exact absurd (Dg e0) ne
  ·obtain ⟨t,rfl⟩:=intItems_at pv;refine ⟨.int _,H1,I1.kept (h':=h') (t':=tk) kept,⟨_,rfl⟩,q _ ?_ fun z hz=>?_⟩
   ·rw[<-lst,numAt_eq];exact getD_mem (by rw[lst,<-sz];exact il)
   ·rw[<-lst] at hz;obtain ⟨j,hj,rfl⟩:=mem_getD hz;have:=le j (by rw[sz,<-lst];exact hj)
    rw[<-numAt_eq];exact this
end L2
namespace Sw
open PySem L2 XH Hm PySem.NumText
def wW (K:D7) (a:Addr) (xs:FQ):Prop:=∃(o:Obj) (its:Array Value) (n:Nat),K.lookup a=some o/\o.cls= .type "tuple" /\o.data= .seq its n/\its.size<=sizeLine/\bg (xs.map V.str) its.toList
theorem wW.sq {K:D7} {a:Addr} {xs:FQ} (h:wW K a xs) (H:Hp):bx K H a (xs.map V.str):= .inr h
def ju:RA cY:=fun P H v r=>∃t:Addr,v= .ref t/\P t/\match r with
 | .full z F G=>∃lf lb:Addr,P lf/\P lb/\H t=some (.tup [.str "full",.str z,.ref lf,.ref lb])/\bU tf P H lf F/\bU tf P H lb G
 | .one w C=>∃c:Addr,P c/\H t=some (.tup [.str w,.ref c])/\H c=some (.lst (C.map V.int))
 | .ways i=>H t=some (.tup [.str "ways",.int i])
instance:Mv ju where
 mv:=fun {P P' H H' v r} g h=>by
  obtain ⟨t,rfl,pt,h⟩:=h;cases r with
  |full z F G=>
   obtain ⟨lf,lb,p1,p2,e,⟨vf,ef,rf⟩,⟨vb,eb,rb⟩⟩:=h;obtain ⟨q0,e'⟩:=g _ _ pt rfl e;obtain ⟨q1,e1⟩:=g _ _ p1 rfl ef;obtain ⟨q2,e2⟩:=g _ _ p2 rfl eb;exact ⟨t,rfl,q0,lf,lb,q1,q2,e',⟨vf,e1,rf.imp fun _ _ k=>Mv.mv g k⟩,⟨vb,e2,rb.imp fun _ _ k=>Mv.mv g k⟩⟩
  |one w C=>
   obtain ⟨c,p1,e,ec⟩:=h;obtain ⟨q0,e'⟩:=g _ _ pt rfl e;obtain ⟨q1,e1⟩:=g _ _ p1 rfl ec;exact ⟨t,rfl,q0,c,q1,e',e1⟩
  |ways i=>
   obtain ⟨q0,e'⟩:=g _ _ pt rfl h;exact ⟨t,rfl,q0,e'⟩
theorem ju.row {P:Addr->Prop} {H:Hp} {v:V} {r:cY} (h:ju P H v r):∃t,v= .ref t/\mS H t r:=by
 obtain ⟨t,rfl,_,h⟩:=h;cases r with
 |full z F G=>
  obtain ⟨lf,lb,_,_,e,a,b⟩:=h;exact ⟨t,rfl,lf,lb,e,a.any,b.any⟩
 |one w C=>
  obtain ⟨c,_,e,ec⟩:=h;exact ⟨t,rfl,c,e,ec⟩
 |ways i=>exact ⟨t,rfl,h⟩
def cg:cY->Option Rp
 | .one w C=>if w= "split" then some (.split C) else none
 | .ways i=>some (.ways i)
 | .full _ _ _=>none
theorem kf (w:Str) (C:List Int):cg (.one w C)=if w= "split" then some (.split C) else none:=rfl
abbrev gO:=Pk×List Ky
section
variable (D:Tl) (T:Tk) (A B:List Ky) (n:Int)
def eE (low:Option Int) (c:gO) (r:cY):Bool:=gC D T c.1 ((bR A T c.1 c.2).map cw) (2*(T.length:Int)+n) low r
def dU (low:Option Int) (c:gO) (q:Cs) (r:cY):Option Cs:=match cg r with
 |some w=>if cB D T B c.1 c.2 w=true then some (ce c.1 c.2 w++q) else none
 |none=>if eE D T A n low c r=true then some q else none
def dv (low:Option Int) (p:Cs) (r:cY):Option Cs:=match p with
 | []=>none
 |c::q=>dU D T A B n low c q r
def gi (low:Option Int):Cs->List cY->Option Cs
 |p,[]=>some p
 |p,r::rs=>(dv D T A B n low p r).bind fun q=>gi low q rs
def cI:Cs:= [((Dh T.length).map fun _=>none,[])]
def lM (low:Option Int) (rs:List cY):Bool:=decide (gi D T A B n low (cI T) rs=some [])
end
section
variable {D:Tl} {T:Tk} {A B:List Ky} {n:Int} {low:Option Int}
theorem de:∀{xs ys:List cY} {p:Cs},gi D T A B n low p (xs++ys)=(gi D T A B n low p xs).bind fun q=>gi D T A B n low q ys
 | [],_,_=>rfl
 |x::xs,ys,p=>by
  show (dv D T A B n low p x).bind _=((dv D T A B n low p x).bind _).bind _;cases dv D T A B n low p x with
  |none=>rfl
  |some q=>exact de (xs:=xs)
theorem mV {r:cY} {p:Cs}:gi D T A B n low p [r]=dv D T A B n low p r:=by
 show (dv D T A B n low p r).bind _=_;cases dv D T A B n low p r<;>rfl
theorem rE {rs:List cY} {k:Nat} {r:cY} (h:rs[k]?=some r) {p q:Cs} (hq:gi D T A B n low p (rs.take k)=some q):gi D T A B n low p (rs.take (k+1))=dv D T A B n low q r:=by
 rw[List.take_add_one,h,Option.toList_some,de,hq];exact mV
theorem wX {rs:List cY} {k:Nat} (h:gi D T A B n low (cI T) (rs.take k)=none):lM D T A B n low rs=false:=by
 unfold lM;rw[<-Ej k rs,de,h];exact decide_eq_false nofun
theorem oO {rs:List cY} {p:Cs} (h:gi D T A B n low (cI T) rs=some p):lM D T A B n low rs=decide (p= []):=by
 unfold lM;rw[h];cases p with
 |nil=>rfl
 |cons c q=>
  rw[decide_eq_false (show ¬some (c::q)=some [] from fun e=>by injection e with e;cases e),decide_eq_false (show ¬(c::q)= [] from nofun)]
structure jz (T:Tk) (k:Nat) (c:gO):Prop where
 pk:mN T c.1
 len:c.2.length<=k
 ord:∀y∈c.2,∃p q:Int,y= [p,q]/\0<=p/\p<(T.length:Int)/\0<=q/\q<(T.length:Int)
theorem jz.ordOk {k:Nat} {c:gO} (h:jz T k c) (hk:k<=1000):xv c.2 T.length:=⟨by have:=h.len;omega,h.ord⟩
theorem jz.pairs {k:Nat} {c:gO} (h:jz T k c) (hk:k<=1000):dW c.2:=⟨by have:=h.len;omega,fun y hy=>by
 obtain ⟨p,q,e,_⟩:=h.ord y hy;exact ⟨p,q,e⟩⟩
theorem jz.mono {k m:Nat} {c:gO} (h:jz T k c) (hk:k<=m):jz T m c:=⟨h.pk,by have:=h.len;omega,h.ord⟩
theorem je:∀c∈cI T,jz T 0 c:=fun c hc=>by
 rw[DI.mp hc];refine ⟨⟨by simp,fun i j ws h1 h2=>?_⟩,D9 _,nofun⟩
 dsimp only at h1;rw[DE] at h1;obtain ⟨a,_,e⟩:=DB.mp h1;cases e
theorem lN {k:Nat} {c:gO} {w:Rp} (hr:cB D T B c.1 c.2 w=true) (h:jz T k c):∀c'∈ce c.1 c.2 w,jz T (k+1) c':=by
 intro c' hc;cases w with
 |split S=>
  replace hc:c'∈cX c.1 c.2 S S:=hc;unfold cX at hc;rw[List.mem_flatMap] at hc;obtain ⟨i,hi,hc⟩:=hc;obtain ⟨j,hj,rfl⟩:=DP.mp hc;have hj:=(Ea.mp hj).1;have:(!bF c.2 S&&bT D T B c.1 S)=true:=hr;unfold bT at this;simp only[DH] at this;obtain ⟨rg,_⟩:=eQ this.2.1.1;refine ⟨h.pk,by rw[D8];have:=h.len;show c.2.length+1<=_;omega,fun y hy=>?_⟩
  rcases DM.mp hy with z|z
  ·exact h.ord y z
  ·rw[DI.mp z];exact ⟨i,j,rfl,(rg i hi).1,(rg i hi).2,(rg j hj).1,(rg j hj).2⟩
 |ways i=>
  have hw:fq T c.1 i=true:=hr;unfold fq at hw;simp only[DH,decide_eq_true_eq] at hw;obtain ⟨⟨i0,i1⟩,l2,pn⟩:=hw;have key:∀j:Nat,j<2->jz T (k+1) (c.1.set i.toNat (some j),c.2):=fun j hj=>by
   refine ⟨⟨by rw[List.length_set];exact h.pk.len,fun a b ws h1 h2=>?_⟩,by have:=h.len;show c.2.length<=_;omega,h.ord⟩
   by_cases e:a=i.toNat
   ·subst e;have il:i.toNat<c.1.length:=by rw[h.pk.len];omega
    dsimp only at h1;rw[List.getElem?_set_self il] at h1;injection h1 with h1
    injection h1 with h1
    rw[Dl,h2] at l2;have:ws.length=2:=l2;omega
   ·dsimp only at h1;rw[List.getElem?_set_ne (fun z=>e z.symm)] at h1
    exact h.pk.pick a b ws h1 h2
  replace hc:c'∈ [(c.1.set i.toNat (some 0),c.2),(c.1.set i.toNat (some 1),c.2)]:=hc;simp only[DG,DZ,or_false] at hc;rcases hc with rfl|rfl
  ·exact key 0 (by decide)
  ·exact key 1 (by decide)
theorem va {k:Nat} {p q:Cs} {r:cY} (h:dv D T A B n low p r=some q) (hp:∀c∈p,jz T k c):∀c∈q,jz T (k+1) c:=by
 cases p with
 |nil=>cases h
 |cons c0 p0=>
  have rest:∀c∈p0,jz T (k+1) c:=fun c hc=>(hp c (DW _ hc)).mono (Eu _)
  replace h:dU D T A B n low c0 p0 r=some q:=h;unfold dU at h;cases hi:cg r with
  |some w=>
   rw[hi] at h;dsimp only at h
   by_cases c1:cB D T B c0.1 c0.2 w=true
   ·rw[if_pos c1] at h;injection h with h
    subst h;intro c hc;rcases DM.mp hc with z|z
    ·exact lN c1 (hp c0 Dk) c z
    ·exact rest c z
   ·rw[if_neg c1] at h;cases h
  |none=>
   rw[hi] at h;dsimp only at h
   by_cases c1:eE D T A n low c0 r=true
   ·rw[if_pos c1] at h;injection h with h
    subst h;exact rest
   ·rw[if_neg c1] at h;cases h
theorem qj:∀{rs:List cY} {k:Nat} {p q:Cs},gi D T A B n low p rs=some q->(∀c∈p,jz T k c)->∀c∈q,jz T (k+rs.length) c
 | [],k,p,q,h,hp=>by
  injection h with h
  subst h;exact hp
 |r::rs,k,p,q,h,hp=>by
  obtain ⟨p1,h1,h2⟩:=DY.mp h;intro c hc;have:=qj h2 (va h1 hp) c hc;exact this.mono (by rw[DL];omega)
def fW (r:cY):Prop:=oK r/\∀w,cg r=some w->wS w
theorem vc {p q:Cs} {r:cY} (h:dv D T A B n low p r=some q) (ok:fW r):q.length<=p.length+64:=by
 cases p with
 |nil=>cases h
 |cons c0 p0=>
  replace h:dU D T A B n low c0 p0 r=some q:=h;unfold dU at h;cases hi:cg r with
  |some w=>
   rw[hi] at h;dsimp only at h
   by_cases c1:cB D T B c0.1 c0.2 w=true
   ·rw[if_pos c1] at h;injection h with h
    subst h;have:=eR (P:=c0.1) (O:=c0.2) (ok.2 w hi);rw[D8,DL];omega
   ·rw[if_neg c1] at h;cases h
  |none=>
   rw[hi] at h;dsimp only at h
   by_cases c1:eE D T A n low c0 r=true
   ·rw[if_pos c1] at h;injection h with h
    subst h;rw[DL];omega
   ·rw[if_neg c1] at h;cases h
theorem qk:∀{rs:List cY} {p q:Cs},gi D T A B n low p rs=some q->(∀r∈rs,fW r)->q.length<=p.length+64*rs.length
 | [],p,q,h,_=>by
  injection h with h
  subst h;exact D9 _
 |r::rs,p,q,h,ok=>by
  obtain ⟨p1,h1,h2⟩:=DY.mp h;have a:=vc h1 (ok r Dk);have b:=qk h2 fun x hx=>ok x (DW _ hx)
  rw[DL];omega
end
def vd (C:Addr):Sp:=fun vs H Q _=>∃(x l:Addr) (low:Option Int) (D:Tl) (T:Tk) (A B:List Ky) (n:Int) (rs:List cY),vs= [.ref x,oV low,.ref l]/\fH C false H x D T A B n/\gw D T A B n/\bU ju An H l rs/\(∀r∈rs,fW r)/\A.length+2*T.length+rs.length<=700/\∀H',aB H H'->Q (.bl (lM D T A B n low rs)) H'
def eD (r:cY):Bool:=(cg r).isSome
def kg:Sp:=fun vs H Q _=>∃(l:Addr) (rs:List cY),vs= [.ref l]/\bU ju An H l rs/\(∀r∈rs,oK r)/\rs.length<=1000/\∀H',aB H H'->Q (.int ((rs.filter eD).length:Nat)) H'
theorem kh {H:Hp} {t:Addr} {r:cY} (h:mS H t r) (ok:oK r):∃w ys,H t=some (.tup (.str w::ys))/\(w= "split" ∨w= "ways" ↔eD r=true):=by
 cases r with
 |full z F G=>
  obtain ⟨lf,lb,e,_,_⟩:=h;exact ⟨_,_,e,⟨fun z=>by rcases z with z|z<;>exact absurd z (by decide),fun z=>by cases z⟩⟩
 |one w C=>
  obtain ⟨c,e,ec⟩:=h;refine ⟨w,_,e,?_⟩;unfold eD;rw[kf]
  by_cases c1:w= "split"
  ·rw[if_pos c1];exact ⟨fun _=>rfl,fun _=> .inl c1⟩
  ·rw[if_neg c1];refine ⟨fun z=>?_,fun z=>by cases z⟩
   rcases z with z|z
   ·exact absurd z c1
   ·exfalso;obtain ⟨hw,_⟩:=ok;subst z;rcases hw with z|z|z<;>exact absurd z (by decide)
 |ways i=>exact ⟨_,_,h,⟨fun _=>rfl,fun _=> .inr rfl⟩⟩
theorem oP {H:Hp} {t:Addr} {r:cY} {w:Rp} (h:mS H t r) (hw:cg r=some w):ym H t w:=by
 cases r with
 |full z F G=>cases hw
 |one v C=>
  rw[kf] at hw
  by_cases c1:v= "split"
  ·rw[if_pos c1] at hw;cases hw;subst c1;exact h
  ·rw[if_neg c1] at hw;cases hw
 |ways i=>
  cases hw;exact h
theorem A2.unsnoc {α:Type} {R:V->α->Prop} {us:List V} {xs:List α} {x:α} (h:A2 R us (xs++ [x])):∃us0 u,us=us0++ [u]/\R u x/\A2 R us0 xs:=by
 have l:=h.1;rw[D8] at l;rcases List.eq_nil_or_concat us with rfl|⟨us0,u,rfl⟩
 ·simp at l
 ·rw[List.concat_eq_append] at h l⊢;have l0:us0.length=xs.length:=by simpa using l
  refine ⟨us0,u,rfl,h.2 us0.length u x (by simp) (by rw[l0];simp),?_⟩
  have:=h.take us0.length
  rwa [List.take_left' rfl,List.take_left' l0.symm] at this
theorem vJ.rn {H0 H:Hp} {l lp:Addr} {us:List V} {o:HO} {z:(Addr×Addr×Addr)×(Pk×List Ky)} (h:vJ H0 H l z) (e0:H0 lp=some o) (e:H lp=some (.lst us)):cR (fun a=>a≠lp) H (.ref z.1.1) z.2:=by
 obtain ⟨as,e3,r⟩:=h.eo;have nt:∀{a:Addr} {xs:List V},H a=some (.tup xs)->a≠lp:=fun ha q=>by rw[q,e] at ha;cases ha
 have nn:∀{a:Addr},H0 a=none->a≠lp:=fun ha q=>by rw[q,e0] at ha;cases ha
 refine ⟨z.1.1,z.1.2.1,z.1.2.2,rfl,nt h.e,nn h.n1,nn h.n2,h.e,h.ep,_,e3,by rw[D3];exact r.1,fun i v k h1 h2=>?_⟩
 obtain ⟨a,ha,rfl⟩:=cC h1;have:=r.2 i a k ha h2;exact ⟨a,rfl,nt this,this⟩
theorem oM.rn {H0 H:Hp} {l lp:Addr} {us:List V} {o:HO} {zs:List ((Addr×Addr×Addr)×(Pk×List Ky))} (h:oM H0 H l zs) (e0:H0 lp=some o) (e:H lp=some (.lst us)):A2 (cR (fun a=>a≠lp) H) (zs.map fun z=>V.ref z.1.1) (zs.map (·.2)):=by
 refine ⟨by rw[D3,D3],fun i v c h1 h2=>?_⟩
 rw[DE] at h1 h2;obtain ⟨z,hz,rfl⟩:=DB.mp h1;obtain ⟨z',hz',rfl⟩:=DB.mp h2;rw[hz] at hz';cases hz';exact (h.each z (D6 hz)).rn e0 e
end Sw
namespace L2
open PySem PySem.Spec PyProof.Rows XH
theorem wY {X:Cx} {K:D7} (h:X.K=K):fX X (compareOp .In) (BF K false):=by
 subst h;exact cS
end L2
namespace Sw
open PySem L2 XH Hm PySem.NumText
def Aw:RA Unit:=fun _ _ _ _=>True
instance:Mv Aw where
 mv:=fun _ h=>h
theorem Ax {r:cY} {w:Str} (iw:w= "split" ∨w= "ways" ↔eD r=true):oZ (.str w) ((["split","ways"]:FQ).map V.str)=eD r:=by
 rw[qJ,E5,decide_eq_true_eq,<-iw];simp
theorem ve {α:Type} (rs:List α) (d:α) (pr:α->Bool):(cQ rs.length (fun i=>pr (rs.getD i d)) fun _=>()).length=(rs.filter pr).length:=by
 unfold cQ;rw[D3];have:(rs.filter pr).length=(((Dh rs.length).map fun i=>rs.getD i d).filter pr).length:=by rw[br]
 rw[this,List.filter_map,D3]
 rfl
structure BL (n0 n1:Str) (us:List Us):Prop where
 len:us.length<=2
 nd:(us.map (·.1)).Nodup
 use:∀e∈us,(e.1=n0∨e.1=n1)/\1<=e.2.1/\e.2.1<=2/\0<=e.2.2/\e.2.2<=180
def BM (n0 n1:Str) (w:Wy):Prop:=1<=w.1/\w.1<=w.2.1/\w.2.1<=1000000000/\BL n0 n1 w.2.2
def rG:Sp:=fun vs H Q _=>∃(c f:Int) (ln:Addr) (n0 n1:Str),vs= [.int c,.ref ln,.int f]/\H ln=some (.lst [.str n0,.str n1])/\n0≠n1/\1<=f/\f<=10000019/\∀(v:V) (w:Wy) (H':Hp),aB H H'->gN (fun a=>H a=none) H' v w->BM n0 n1 w->Q v H'
theorem vh {n0 n1:Str} {m0 m1:Int} (ne:n0≠n1) (h0:2<=m0) (h1:2<=m1) {w:Wy} (h:BM n0 n1 w):1<=w.1/\w.1<=w.2.1/\w.2.1<=1000000000/\yc [(n0,m0),(n1,m1)] w.2.2:=by
 obtain ⟨a,b,c,u⟩:=h;refine ⟨a,b,c,u.nd,by have:=u.len;omega,fun e he=>?_⟩
 obtain ⟨k,k1,k2,k3,k4⟩:=u.use e he;rcases k with k|k
 ·refine ⟨m0,?_,k1,by omega,k3,by omega⟩
  unfold cy;rw[k];simp
 ·refine ⟨m1,?_,k1,by omega,k3,by omega⟩
  unfold cy;rw[k];simp[ne]
def oQ (K:D7):Sp:=fun vs H Q _=>∃(a:Addr) (ns:List Int),vs= [.ref a]/\aC K H a (ns.map V.int)/\ns.length<=63/\∀(tp td tl la lp:Addr) (n0 n1:Str) (m0 m1 mo:Int) (T:Tk) (A:List Ky) (ps:List (Int×Int)) (H':Hp),aB H H'->H' tp=some (.tup [.ref td,.ref tl,.ref la,.ref lp,.int mo])->H' td=some (.dK (bq [(n0,m0),(n1,m1)]))->bU fj An H' tl T->aW H' la A->aW H' lp (bt ps)->n0≠n1->1<=T.length->T.length<=4->A.length<=63->(∀p∈ps,p.1≠p.2)->gw [(n0,m0),(n1,m1)] T A (bt ps) mo->Q (.ref tp) H'
theorem wZ {K:D7} {β:Type} {l1:Addr} {xs:List V} {n:Nat} {g:TG} {js:List Nat} {te:TE} {σ:L2.St} {H1:Hp} {Q:VK} (R:RA β) [Mv R] (Z:Addr->Prop) (f:Nat->β) (q1:aC K H1 l1 xs) (hz:xs.length<=sizeLine) (hZ:∀a,Z a->H1 a≠none)
  (step:∀(i:Nat) (x:V),xs[i]?=some x->∀H2,aB H1 H2->∀o:L2.St,o.length=n->∀Q':VK,(∀v H5,aB H2 H5->R (fun a=>H2 a=none∨Z a) H5 v (f i)->Q' v H5)->
   g x (o++aM js σ) H2 fun σ4 H4=>(∃o':L2.St,o'.length=n/\σ4=o'++aM js σ)/\te σ4 H4 Q')
  (fin:∀p H',H1 p=none->aB H1 H'->bU R (fun a=>a≠p/\(H1 a=none∨Z a)) H' p ((Dh xs.length).map f)->Q (.ref p) H'):pU n g js te σ Q (vN K l1) H1:=by
 intro p hp;refine ⟨fun i m zs H2=>i<=xs.length/\m=xs.length-i/\aB H1 H2/\H2 p=some (.lst zs)/\A2 (R (fun a=>a≠p/\(H1 a=none∨Z a)) H2) zs ((Dh i).map f),⟨xs.length,Dn _,rfl,Sw.ag hp _,ah,A2.nil⟩,?_⟩
 rintro i m zs H2 ⟨hi,rfl,gg,e,r⟩;refine ⟨e,?_⟩;have s1:=gg.seq q1
 by_cases hin:i<xs.length
 ·refine .inr ⟨⟨xs,xs[i]'(by omega),s1,D4 _⟩,?_,fun x H3 hy o ho=>?_⟩
  ·have:=r.1;rw[D3,E8] at this;omega
  obtain ⟨rfl,hx⟩:=hy;refine step i x (hx xs s1) H3 gg o ho _ fun v H5 g25 ry=>?_
  refine ⟨g25 _ _ e,xs.length-(i+1),by omega,hin,rfl,Sw.du (gg.trans g25) hp _,ah,?_⟩
  rw[F4,DS];have np:¬(p≠p/\(H1 p=none∨Z p)):=fun z=>z.1 rfl
  refine ((r.imp fun v b q=>dA q g25).snoc (iW ry fun a ha=>?_)).imp fun v b q=>jt q np _
  rcases ha with h|h
  ·exact ⟨(fun z=>by rw[z,e] at h;cases h),.inl (gg.free h)⟩
  ·exact ⟨fun z=>hZ a h (z▸hp),.inr h⟩
 ·have e2:i=xs.length:=by omega
  subst e2;exact .inl ⟨⟨xs,s1,D9 _⟩,fin p H2 hp gg ⟨zs,e,r⟩⟩
structure oR (H:Hp) (tp:Addr) (D:Tl) (T:Tk) (A:List Ky) (ps:List (Int×Int)):Prop where
 ex:∃td tl la pl:Addr,H tp=some (.tup [.ref td,.ref tl,.ref la,.ref pl])/\H td=some (.dK (bq D))/\bU fj An H tl T/\aW H la A/\aW H pl (bt ps)
theorem oR.same {H H':Hp} {tp:Addr} {D:Tl} {T:Tk} {A:List Ky} {ps:List (Int×Int)} (h:oR H tp D T A ps) (g:aB H H'):oR H' tp D T A ps:=by
 obtain ⟨td,tl,la,pl,a,b,c,d,e⟩:=h.ex;exact ⟨td,tl,la,pl,g _ _ a,g _ _ b,c.same g,d.same g,e.same g⟩
structure tz (H:Hp) (tp t:Addr) (D:Tl) (T:Tk) (A:List Ky) (ps:List (Int×Int)) (n:Int) (c:gO):Prop where
 part:oR H tp D T A ps
 cs:em H t c.1 c.2
 ok:gw D T A (bt ps) n
 cok:jz T 400 c
 t1:1<=T.length
 t4:T.length<=4
 ne:∀p∈ps,p.1≠p.2
 a63:A.length<=63
 d2:D.length=2
theorem tz.same {H H':Hp} {tp t:Addr} {D:Tl} {T:Tk} {A:List Ky} {ps:List (Int×Int)} {n:Int} {c:gO} (h:tz H tp t D T A ps n c) (g:aB H H'):tz H' tp t D T A ps n c:=⟨h.part.same g,h.cs.same g,h.ok,h.cok,h.t1,h.t4,h.ne,h.a63,h.d2⟩
def oS:Sp:=fun vs H Q _=>∃(tp t:Addr) (D:Tl) (T:Tk) (A:List Ky) (ps:List (Int×Int)) (n:Int) (c:gO),vs= [.ref tp,.ref t]/\tz H tp t D T A ps n c/\∀(l:Addr) (Ss:List (List Int)) (H':Hp),aB H H'->wP H' l Ss->Ss.length<=16->(∀S∈Ss,S.length<=4/\cB D T (bt ps) c.1 c.2 (.split S)=true)->Q (.ref l) H'
theorem tD {O:List Ky} {S:List Int}:((Dh O.length).map fun i=> !decide ((O.getD i []).getD 0 0∈S)|| !decide ((O.getD i []).getD 1 0∈S)).all id= !bF O S:=by
 unfold bF;rw[List.all_map]
 conv=>rhs;rw[<-br O []]
 rw[List.any_map,List.not_any_eq_all_not]
 congr 1
 funext i
 show (_||_)= !(_&&_);rw[Bool.not_and]
def Ay (D:Tl) (T:Tk) (B:List Ky) (c:gO) (r:cY):Prop:=fW r/\∃w,cg r=some w/\cB D T B c.1 c.2 w=true
def mW:Sp:=fun vs H Q _=>∃(tp t:Addr) (x:Int) (D:Tl) (T:Tk) (A:List Ky) (ps:List (Int×Int)) (n:Int) (c:gO),vs= [.ref tp,.ref t,.int x]/\tz H tp t D T A ps n c/\∀(v:V) (H':Hp),aB H H'->(v= .non∨∃r,ju (fun a=>H a=none) H' v r/\Ay D T (bt ps) c r)->Q v H'
theorem ql {D:Tl} {T:Tk} {ps:List (Int×Int)} {P:Pk} (ok:∀ws∈T,kA D ws) (pk:mN T P) (pne:∀p∈ps,p.1≠p.2) {S S':List Int} (pm:S'.Perm S) (hc:bT D T (bt ps) P S=true):bT D T (bt ps) P S'=true:=by
 have hu:a5 T S=true:=by
  unfold bT at hc;rw[DH,DH] at hc;exact hc.1.1
 obtain ⟨rg,nd⟩:=eQ hu;have nd':=pm.nodup_iff.mpr nd;have rg':∀i∈S',0<=i/\i<(T.length:Int):=fun i hi=>rg i (pm.mem_iff.mp hi)
 unfold bT at hc⊢;rw[<-Bool.or_assoc,ic ok pk pne rg nd] at hc;rw[<-Bool.or_assoc,ic ok pk pne rg' nd'];rw[DH,DH,decide_eq_true_eq,Bool.or_eq_true] at hc⊢;refine ⟨⟨?_,by rw[pm.length_eq];exact hc.1.2⟩,?_⟩
 ·unfold a5;rw[DH,DD,decide_eq_true_eq];refine ⟨fun i hi=>?_,nd'⟩
  have:=rg' i hi;rw[decide_eq_true this.1,decide_eq_true this.2]
  rfl
 ·rcases hc.2 with q|q
  ·left;rw[Di] at q⊢;obtain ⟨i,hi,q⟩:=q;rw[Di] at q;obtain ⟨j,hj,q⟩:=q;refine ⟨i,pm.mem_iff.mpr hi,?_⟩;rw[Di];exact ⟨j,pm.mem_iff.mpr hj,q⟩
  ·right;unfold gy at q⊢;rw[Di] at q⊢;obtain ⟨p,hp',q⟩:=q;refine ⟨p,hp',?_⟩;rw[decide_eq_true_eq] at q⊢;have:(S'.map fun i=>gx T P i.toNat p.1).sum=(S.map fun i=>gx T P i.toNat p.1).sum:=u8 (pm.map _)
   omega
theorem qm {O:List Ky} {S S':List Int} (pm:S'.Perm S):bF O S'=bF O S:=by
 unfold bF
 congr 1
 funext k
 have h:∀x:Int,decide (x∈S')=decide (x∈S):=fun x=>by rw[E5,decide_eq_true_eq,decide_eq_true_eq];exact pm.mem_iff
 rw[h,h]
theorem qo {D:Tl} {T:Tk} {ps:List (Int×Int)} {P:Pk} {O:List Ky} (ok:∀ws∈T,kA D ws) (pk:mN T P) (pne:∀p∈ps,p.1≠p.2) {S S':List Int} (pm:S'.Perm S) (h:cB D T (bt ps) P O (.split S)=true):cB D T (bt ps) P O (.split S')=true:=by
 replace h:(!bF O S&&bT D T (bt ps) P S)=true:=h;show (!bF O S'&&bT D T (bt ps) P S')=true;rw[DH] at h⊢;exact ⟨by rw[qm pm];exact h.1,ql ok pk pne pm h.2⟩
theorem tE {D:Tl} {T:Tk} {B:List Ky} {P:Pk} {O:List Ky} {S:List Int} (h:cB D T B P O (.split S)=true):2<=S.length:=by
 replace h:(!bF O S&&bT D T B P S)=true:=h;unfold bT at h;simp only[DH,decide_eq_true_eq] at h;exact h.2.1.2
theorem tF (S:List Int) (k:Nat):(S.drop k++S.take k).Perm S:=by
 have:=List.perm_append_comm (l₁:=S.drop k) (l₂:=S.take k);rw[Ej] at this;exact this
abbrev bV (T:Tk) (A:List Ky) (c:gO):List Ky:=bR A T c.1 c.2
structure rH (D:Tl) (T:Tk) (A:List Ky) (n:Int) (c:gO) (r:cY) (o:Option Int):Prop where
 ok:fW r
 lf:cg r=none
 bd:(o=none/\∃C,r= .one "ring" C/\(da (2*(T.length:Int)+n) C&&wR (eY ((bV T A c).map cw) C))=true)∨∃v,o=some v/\iL r/\db D T c.1 ((bV T A c).map cw) (2*(T.length:Int)+n) r=some v
theorem tG {D:Tl} {T:Tk} {A:List Ky} {n:Int} {c:gO} {r:cY} {o low:Option Int} (h:rH D T A n c r o) (hl:∀v,o=some v->∃l,low=some l/\l<=v):eE D T A n low c r=true:=by
 unfold eE;rcases h.bd with ⟨_,C,rfl,e⟩|⟨v,ho,nr,e⟩
 ·rw[ii];exact e
 ·obtain ⟨l,rfl,le⟩:=hl v ho;rw[jd nr,e];exact decide_eq_true le
def vm:Sp:=fun vs H Q _=>∃(tp t dl:Addr) (x:Int) (D:Tl) (T:Tk) (A:List Ky) (ps:List (Int×Int)) (n:Int) (c:gO),vs= [.ref tp,.ref t,.ref dl,.int x]/\tz H tp t D T A ps n c/\aW H dl (bV T A c)/\∀(tq:Addr) (v:V) (o:Option Int) (r:cY) (H':Hp),aB H H'->H' tq=some (.tup [v,oV o])->ju (fun a=>H a=none) H' v r->rH D T A n c r o->Q (.ref tq) H'
theorem lO {due:List Ky} {p q:Int} {E:List Int} (h:∃g,[p,q,g]∈due) (k:c9 due (q::E)):∀{C:List Int},c9 due (C++ [p])->c9 due (C++ [p]++q::E)
 | [],_=>⟨h,k⟩
 | [x],z=>⟨z.1,h,k⟩
 |x::y::r,z=>⟨z.1,lO h k (C:=y::r) z.2⟩
theorem rJ {T:Tk} {P:Pk}:∀{m i:Nat},i<m-> [2*(i:Int),2*(i:Int)+1,eZ ((aO T P i).map (·.1))]∈bI T P m/\ [2*(i:Int)+1,2*(i:Int),-(ie ((aO T P i).map (·.2.1)))]∈bI T P m
 |0,i,h=>absurd h (Nat.not_lt_zero _)
 |m+1,i,h=>by
  show _∈bI T P m++_/\_∈bI T P m++_
  by_cases e:i=m
  ·subst e;exact ⟨DA _ Dk,DA _ (DW _ Dk)⟩
  ·have:=rJ (T:=T) (P:=P) (m:=m) (i:=i) (by omega)
   exact ⟨E1 _ this.1,E1 _ this.2⟩
theorem vn {T:Tk} {A:List Ky} {c:gO} {i:Nat} (h:i<T.length):∃g,[2*(i:Int),2*(i:Int)+1,g]∈bV T A c:=⟨_,E1 _ (DA _ (rJ h).1)⟩
theorem tz.trip {H:Hp} {tp t:Addr} {D:Tl} {T:Tk} {A:List Ky} {ps:List (Int×Int)} {n:Int} {c:gO} (h:tz H tp t D T A ps n c):qZ (2*(T.length:Int)+n) (bV T A c):=by
 have n0:=h.ok.n0;exact oH (fun k hk=>h.ok.arcs k hk) h.ok.a600 h.ok.t24 (h.cok.ordOk (by decide)) (by omega)
theorem tz.trF {H:Hp} {tp t:Addr} {D:Tl} {T:Tk} {A:List Ky} {ps:List (Int×Int)} {n:Int} {c:gO} (h:tz H tp t D T A ps n c):∀k∈bV T A c,∃p q g:Int,k= [p,q,g]:=fO h.ok.trip
theorem tz.l7 {H:Hp} {tp t:Addr} {D:Tl} {T:Tk} {A:List Ky} {ps:List (Int×Int)} {n:Int} {c:gO} (h:tz H tp t D T A ps n c):A.length+2*T.length+c.2.length<=700:=by
 have:=h.a63;have:=h.t4;have:=h.cok.len;omega
theorem w6 {D:Tl} {T:Tk} {P:Pk} {due:List Ky} {N:Int} {z:Str} {m:Int} {S:List Int} {F G:List (List Int)} (hm:cy D z=some m) (ne:S≠ []) (nd:S.Nodup) (rg:∀i∈S,0<=i/\i<(T.length:Int)) (lF:F.length=S.length) (lG:G.length=S.length)
  (hF:∀(k:Nat) (f:List Int) (i:Int),F[k]?=some f->S[k]?=some i->yk due N i f) (hG:∀(k:Nat) (f:List Int) (i:Int),G[k]?=some f->S[k]?=some i->yl due N i f):gh D T P (due.map cw) N z F G=some (dH (due.map cw) F+dH (due.map cw) G+ -((-(S.map fun i=>dI T P i.toNat z).sum).fdiv m)):=by
 have eS:F.map ff=S:=by
  refine List.ext_getElem? fun k=>?_
  rw[DE]
  by_cases c:k<F.length
  ·have h1:=D4 c;have h2:=D4 (show k<S.length by omega)
   rw[h1,h2,EI,(hF k _ _ h1 h2).last.2.2]
  ·rw[EY (by omega),EY (by omega)]
   rfl
 obtain ⟨v,hv⟩:=u5 (P:=P) hm ne nd rg lF lG hF hG;have ew:j5 T P z F=(S.map fun i=>dI T P i.toNat z).sum:=by
  unfold j5;rw[<-eS,DJ]
  rfl
 rw[hv];unfold gh at hv
 by_cases tk:cE T.length F G=true
 ·rw[if_pos tk,hm] at hv;dsimp only at hv;unfold cA at hv
  by_cases c1:(cz N F&&fA (due.map cw) F)=true
  ·by_cases c2:(cz N G&&fA (due.map cw) G)=true
   ·rw[if_pos c1,if_pos c2] at hv;dsimp only at hv;rw[<-hv,ew]
   ·rw[if_pos c1,if_neg c2] at hv;cases hv
  ·rw[if_neg c1] at hv;cases hv
 ·rw[if_neg tk] at hv;cases hv
theorem vv {D:Tl}:(bq D).map (·.1)=(D.map (·.1)).map (fun y=>(.inr y:Key)):=by
 unfold bq;rw[DJ,DJ]
 rfl
theorem vw {D:Tl} (nd:(D.map (·.1)).Nodup) {z:Str} (h:z∈D.map (·.1)):∃p∈D,p.1=z/\cy D z=some p.2:=by
 unfold cy;cases e:D.find? fun p=>decide (p.1=z) with
 |none=>
  exfalso;obtain ⟨p,hp,rfl⟩:=DP.mp h;have:=List.find?_eq_none.mp e p hp;simp at this
 |some p=>
  have:=List.find?_some e;exact ⟨p,Ey e,by simpa using this,rfl⟩
def yn (A A':List Rn):Prop:=∀a∈A,∃g',a.2.2<=g'/\(a.1,a.2.1,g')∈A'
theorem xa {A A':List Rn} (h:yn A A') {p q m:Int} (e:c8 A p q=some m):∃m',m<=m'/\c8 A' p q=some m':=by
 have fi:=gF p q A none;unfold c8 at e;rw[e] at fi;obtain ⟨h1,_,_⟩:=fi;rcases h1 with h1|⟨a,ha,a1,a2,a3⟩
 ·cases h1
 ·obtain ⟨g',le,mem⟩:=h a ha;rw[a1,a2] at mem;obtain ⟨G,eG,leG⟩:=yd mem;exact ⟨G,by omega,eG⟩
theorem oT {A A':List Rn} (h:yn A A') {c:List Int}:∀{i:Nat} {t:Int},fw A c i=some t->∃t',t<=t'/\fw A' c i=some t'
 |0,t,e=>⟨t,EW _,e⟩
 |i+1,t,e=>by
  obtain ⟨t0,e0,e⟩:=DY.mp (show (fw A c i).bind _=some t from e)
  obtain ⟨g,eg,rfl⟩:=DB.mp e;obtain ⟨t0',l0,e0'⟩:=oT h e0;obtain ⟨g',lg,eg'⟩:=xa h eg;refine ⟨t0'+g',by omega,?_⟩
  show (fw A' c i).bind _=_;rw[e0'];show (c8 A' _ _).map _=_;rw[eg']
  rfl
theorem ki {A A':List Rn} (h:yn A A') {c:List Int} {t:Int} (e:bP A c=some t):∃t',t<=t'/\bP A' c=some t':=oT h e
theorem tH:∀{l l':List Int},l.length=l'.length->(∀(i:Nat) (x y:Int),l[i]?=some x->l'[i]?=some y->x<=y)->eZ l<=eZ l':=fun {l l'} hl h=>by
 by_cases e:l'= []
 ·have:l= []:=Dg (by rw[hl,e];rfl)
  rw[e,this];exact EW _
 ·obtain ⟨m,_⟩:=eP e;obtain ⟨i,hi⟩:=DR.mp m;have il:i<l.length:=by rw[hl];exact (D5.mp hi).1
  have e1:l≠ []:=fun z=>by rw[z] at il;cases il
  have:=(eP e1).2 _ (DO il);have:=h i _ _ (D4 il) hi;omega
theorem kj {l l':List Int} (ne:l'≠ []) (h:∀x∈l',x∈l):eZ l<=eZ l':=by
 have m:=(eP ne).1;have e:l≠ []:=fun z=>by have:=h _ m;rw[z] at this;cases this
 exact (eP e).2 _ (h _ m)
theorem vx {l l':List Int} (ne:l'≠ []) (h:∀x∈l',x∈l): -(ie l)<= -(ie l'):=by
 unfold ie;have:=kj (l:=l.map fun z=> -z) (l':=l'.map fun z=> -z) (by simpa using ne) fun x hx=>by
  obtain ⟨y,hy,rfl⟩:=DP.mp hx;exact DP.mpr ⟨y,h y hy,rfl⟩
 omega
def km (T:Tk) (P P':Pk):Prop:=∀i,aO T P' i=aO T P i∨(aO T P' i≠ []/\∀w∈aO T P' i,w∈aO T P i)
theorem vy {T:Tk} {P:Pk} {i j:Nat} (pk:mN T P) (h:fq T P (i:Int)=true) (hj:j<2):km T P (P.set i (some j)):=fun k=>by
 unfold fq at h;rw[DQ] at h;simp only[DH,decide_eq_true_eq] at h;obtain ⟨⟨i0,i1⟩,l2,pn⟩:=h
 by_cases e:k=i
 ·subst e;right;have e1:aO T (P.set k (some j)) k= [(T.getD k []).getD j (0,0,[])]:=by
   unfold aO;rw[Dl,List.getElem?_set_self (by rw[pk.len];omega)]
   rfl
  have e2:aO T P k=T.getD k []:=by
   unfold aO;rw[pn]
  rw[e1,e2];refine ⟨nofun,fun w hw=>?_⟩
  rw[DI.mp hw,aX (D4 (show j<(T.getD k []).length by omega))]
  exact DO _
 ·left;unfold aO;rw[Dl,List.getElem?_set_ne (fun z=>e z.symm),<-Dl]
theorem yo {T:Tk} {P P':Pk} (h:km T P P') (i:Nat) (z:Str):dI T P i z<=dI T P' i z:=by
 unfold dI;rcases h i with e|⟨ne,sub⟩
 ·rw[e];exact EW _
 ·exact kj (by simpa using ne) fun x hx=>by
   obtain ⟨w,hw,rfl⟩:=DP.mp hx;exact DP.mpr ⟨w,sub w hw,rfl⟩
theorem lQ {T:Tk} {P P':Pk} (h:km T P P'):∀m,yn ((bI T P m).map cw) ((bI T P' m).map cw)
 |0=>fun a ha=>by cases ha
 |m+1=>fun a ha=>by
  rw[show bI T P (m+1)=bI T P m++_ from rfl,DS] at ha
  rw[show bI T P' (m+1)=bI T P' m++_ from rfl,DS]
  rcases DM.mp ha with z|z
  ·obtain ⟨g',le,mem⟩:=lQ h m a z;exact ⟨g',le,E1 _ mem⟩
  ·have mn:eZ ((aO T P m).map (·.1))<=eZ ((aO T P' m).map (·.1)):=by
    rcases h m with e|⟨ne,sub⟩
    ·rw[e];exact EW _
    ·exact kj (by simpa using ne) fun x hx=>by
      obtain ⟨w,hw,rfl⟩:=DP.mp hx;exact DP.mpr ⟨w,sub w hw,rfl⟩
   have mx: -(ie ((aO T P m).map (·.2.1)))<= -(ie ((aO T P' m).map (·.2.1))):=by
    rcases h m with e|⟨ne,sub⟩
    ·rw[e];exact EW _
    ·exact vx (by simpa using ne) fun x hx=>by
      obtain ⟨w,hw,rfl⟩:=DP.mp hx;exact DP.mpr ⟨w,sub w hw,rfl⟩
   simp only[E2,List.map_nil,DG,DZ,or_false] at z;rcases z with rfl|rfl
   ·exact ⟨_,mn,DA _ Dk⟩
   ·exact ⟨_,mx,DA _ (DW _ Dk)⟩
theorem xb {A A':List Rn} (h:∀a∈A,a∈A'):yn A A':=fun a ha=>⟨a.2.2,EW _,h a ha⟩
structure Below (T:Tk) (A:List Ky) (c c':gO):Prop where
 dom:yn ((bV T A c).map cw) ((bV T A c').map cw)
 op:km T c.1 c'.1
theorem tI (T:Tk) (P:Pk):km T P P:=fun _=> .inl rfl
theorem vA {D:Tl} {T:Tk} {A B:List Ky} {k:Nat} {c c':gO} {w:Rp} (ok:jz T k c) (hr:cB D T B c.1 c.2 w=true) (hc:c'∈ce c.1 c.2 w):Below T A c c':=by
 cases w with
 |split S=>
  replace hc:c'∈cX c.1 c.2 S S:=hc;unfold cX at hc;rw[List.mem_flatMap] at hc;obtain ⟨i,hi,hc⟩:=hc;obtain ⟨j,hj,rfl⟩:=DP.mp hc;refine ⟨xb fun a ha=>?_,tI _ _⟩
  obtain ⟨y,hy,rfl⟩:=DP.mp ha;refine DP.mpr ⟨y,?_,rfl⟩;show y∈A++bI T c.1 T.length++gb (c.2++ [[i,j]]);unfold gb;rw[DS,<-Dz];exact E1 _ hy
 |ways i=>
  have hw:fq T c.1 i=true:=hr;have i0:0<=i:=by
   unfold fq at hw;simp only[DH,decide_eq_true_eq] at hw;exact hw.1.1
  obtain ⟨m,rfl⟩:∃m:Nat,i=(m:Int):=⟨i.toNat,by omega⟩
  have key:∀j,j<2->Below T A c (c.1.set m (some j),c.2):=fun j hj=>by
   have op:=vy ok.pk hw hj;refine ⟨fun a ha=>?_,op⟩
   replace ha:a∈(A++bI T c.1 T.length++gb c.2).map cw:=ha;show ∃g',_/\_∈(A++bI T (c.1.set m (some j)) T.length++gb c.2).map cw;rw[DS,DS] at ha⊢;rcases DM.mp ha with z|z
   ·rcases DM.mp z with y|y
    ·exact ⟨a.2.2,EW _,E1 _ (E1 _ y)⟩
    ·obtain ⟨g',le,mem⟩:=lQ op _ a y;exact ⟨g',le,E1 _ (DA _ mem)⟩
   ·exact ⟨a.2.2,EW _,DA _ z⟩
  replace hc:c'∈ [(c.1.set (m:Int).toNat (some 0),c.2),(c.1.set (m:Int).toNat (some 1),c.2)]:=hc;rw[DQ] at hc;simp only[DG,DZ,or_false] at hc;rcases hc with rfl|rfl
  ·exact key 0 (by decide)
  ·exact key 1 (by decide)
theorem lR {A A':List Rn} (h:yn A A') {N:Int} {F:List (List Int)} {v:Int} (e:cA A N F=some v):∃v',v<=v'/\cA A' N F=some v':=by
 unfold cA at e
 by_cases c1:(cz N F&&fA A F)=true
 ·rw[if_pos c1] at e;injection e with e
  subst e;rw[DH] at c1;have all:∀f∈F,∃t t',bP A f=some t/\bP A' f=some t'/\t<=t':=fun f hf=>by
   have h2:=c1.2;unfold fA at h2;rw[DD] at h2;obtain ⟨t,et⟩:=Do.mp (h2 f hf);obtain ⟨t',le,et'⟩:=ki h et;exact ⟨t,t',et,et',le⟩
  refine ⟨dH A' F,?_,?_⟩
  ·unfold dH;refine tH (by rw[D3,D3]) fun i x y hx hy=>?_
   rw[DE] at hx hy;obtain ⟨f,hf,rfl⟩:=DB.mp hx;rw[hf] at hy;injection hy with hy
   subst hy;obtain ⟨t,t',et,et',le⟩:=all f (D6 hf);show (bP A f).getD 0<=(bP A' f).getD 0;rw[et,et'];exact le
  ·unfold cA;refine if_pos ?_;rw[DH];refine ⟨c1.1,?_⟩;unfold fA;rw[DD];intro f hf;obtain ⟨t,t',et,et',le⟩:=all f hf;rw[et']
   rfl
 ·rw[if_neg c1] at e;cases e
theorem xw:∀{F:List (List Int)} {f g:List Int->Int},(∀x,f x<=g x)->(F.map f).sum<=(F.map g).sum
 | [],_,_,_=>EW _
 |x::F,f,g,h=>by
  simp only[E2,List.sum_cons];have:=h x;have:=xw (F:=F) h;omega
theorem Co {a b m:Int} (hm:1<=m) (h:a<=b): -((-a).fdiv m)<= -((-b).fdiv m):=by
 rw[Int.fdiv_eq_ediv_of_nonneg _ (by omega),Int.fdiv_eq_ediv_of_nonneg _ (by omega)]
 have:=Int.ediv_le_ediv (show 0<m by omega) (show-b<= -a by omega)
 omega
theorem xc {D:Tl} {T:Tk} {A:List Ky} {c c':gO} (b:Below T A c c') (td:∀p∈D,1<=p.2) {N:Int} {z:Str} {F G:List (List Int)} {v:Int} (e:gh D T c.1 ((bV T A c).map cw) N z F G=some v):∃v',v<=v'/\gh D T c'.1 ((bV T A c').map cw) N z F G=some v':=by
 unfold gh at e⊢
 by_cases tk:cE T.length F G=true
 ·rw[if_pos tk] at e⊢;cases hm:cy D z with
  |none=>rw[hm] at e;cases e
  |some m=>
   rw[hm] at e;dsimp only at e⊢;have m1:1<=m:=by
    unfold cy at hm;obtain ⟨p,hp,rfl⟩:=DB.mp hm;exact td p (Ey hp)
   cases h1:cA ((bV T A c).map cw) N F with
   |none=>rw[h1] at e;cases e
   |some h=>
    cases h2:cA ((bV T A c).map cw) N G with
    |none=>rw[h1,h2] at e;cases e
    |some t=>
     rw[h1,h2] at e;injection e with e
     obtain ⟨h',le1,e1⟩:=lR b.dom h1;obtain ⟨t',le2,e2⟩:=lR b.dom h2;rw[e1,e2];refine ⟨_,?_,rfl⟩;have:=Co m1 (xw (F:=F) (f:=fun f=>dI T c.1 (ff f).toNat z) (g:=fun f=>dI T c'.1 (ff f).toNat z) fun f=>yo b.op _ _)
     unfold j5 at e⊢;omega
 ·rw[if_neg tk] at e;cases e
theorem tJ {D:Tl} {T:Tk} {A:List Ky} {c c':gO} (b:Below T A c c') (td:∀p∈D,1<=p.2) {N:Int} {r:cY} {v:Int} (e:db D T c.1 ((bV T A c).map cw) N r=some v):∃v',v<=v'/\db D T c'.1 ((bV T A c').map cw) N r=some v':=by
 cases r with
 |full z F G=>exact xc b td e
 |one w C=>
  replace e:(if w= "chain" then (if da N C=true then bP ((bV T A c).map cw) C else none) else none)=some v:=e
  show ∃v',v<=v'/\(if w= "chain" then (if da N C=true then bP ((bV T A c').map cw) C else none) else none)=some v'
  by_cases c1:w= "chain"
  ·rw[if_pos c1] at e⊢
   by_cases c2:da N C=true
   ·rw[if_pos c2] at e⊢;exact ki b.dom e
   ·rw[if_neg c2] at e;cases e
  ·rw[if_neg c1] at e;cases e
 |ways i=>cases e
theorem qq {D:Tl} {T:Tk} {A:List Ky} {n:Int} {c c':gO} (b:Below T A c c') (td:∀p∈D,1<=p.2) {low:Option Int} {r:cY} (h:eE D T A n low c r=true):eE D T A n low c' r=true:=by
 unfold eE at h⊢
 by_cases hr:∃C,r= .one "ring" C
 ·obtain ⟨C,rfl⟩:=hr;rw[ii] at h⊢;rw[DH] at h⊢;refine ⟨h.1,?_⟩;cases e:eY ((bV T A c).map cw) C with
  |none=>rw[show eY ((bR A T c.1 c.2).map cw) C=none from e] at h;cases h.2
  |some t=>
   rw[show eY ((bR A T c.1 c.2).map cw) C=some t from e] at h
   unfold eY at e
   by_cases c0:C= []
   ·rw[if_pos c0] at e;cases e
   ·rw[if_neg c0] at e;obtain ⟨t',le,e'⟩:=ki b.dom e;have t0:t>0:=of_decide_eq_true h.2;have:eY ((bR A T c'.1 c'.2).map cw) C=some t':=by
     unfold eY;rw[if_neg c0];exact e'
    rw[this];exact decide_eq_true (show t'>0 by omega)
 ·have nr:iL r:=by
   cases r with
   |full _ _ _=>trivial
   |one w C=>exact fun z=>hr ⟨C,by rw[z]⟩
   |ways _=>trivial
  rw[jd nr] at h⊢;cases low with
  |none=>cases h
  |some l=>
   replace h:gK (db D T c.1 ((bV T A c).map cw) (2*(T.length:Int)+n) r) l=true:=h;show gK (db D T c'.1 ((bV T A c').map cw) (2*(T.length:Int)+n) r) l=true;cases e:db D T c.1 ((bV T A c).map cw) (2*(T.length:Int)+n) r with
   |none=>rw[e] at h;cases h
   |some v=>
    rw[e] at h;obtain ⟨v',le,e'⟩:=tJ b td e;rw[e'];have:v≥l:=of_decide_eq_true h;exact decide_eq_true (show v'≥l by omega)
def kn:Sp:=fun vs H Q _=>∃(t r:Addr) (w:Rp) (P:Pk) (O:List Ky) (Z:Addr->Prop),vs= [.ref t,.ref r]/\cR Z H (.ref t) (P,O)/\dW O/\P.length<=24/\ym H r w/\wS w/\(∀i,w= .ways i->0<=i/\i<(P.length:Int))/\∀(l:Addr) (H':Hp),aB H H'->H l=none->bU cR (fun a=>a≠l/\(H a=none∨Z a)) H' l (ce P O w)->Q (.ref l) H'
structure oU (H:Hp) (tp:Addr) (D:Tl) (T:Tk) (A:List Ky) (ps:List (Int×Int)) (n:Int):Prop where
 part:oR H tp D T A ps
 ok:gw D T A (bt ps) n
 t1:1<=T.length
 t4:T.length<=4
 ne:∀p∈ps,p.1≠p.2
 a63:A.length<=63
 d2:D.length=2
theorem oU.same {H H':Hp} {tp:Addr} {D:Tl} {T:Tk} {A:List Ky} {ps:List (Int×Int)} {n:Int} (h:oU H tp D T A ps n) (g:aB H H'):oU H' tp D T A ps n:=⟨h.part.same g,h.ok,h.t1,h.t4,h.ne,h.a63,h.d2⟩
theorem oU.pc {H:Hp} {tp t:Addr} {D:Tl} {T:Tk} {A:List Ky} {ps:List (Int×Int)} {n:Int} {c:gO} (h:oU H tp D T A ps n) (hc:em H t c.1 c.2) (ok:jz T 400 c):tz H tp t D T A ps n c:=⟨h.part,hc,h.ok,ok,h.t1,h.t4,h.ne,h.a63,h.d2⟩
inductive pi (D:Tl) (T:Tk) (A B:List Ky) (n:Int):Nat->List cY->List Int->Cs->Prop
 |nil:pi D T A B n 0 [] [] (cI T)
 |inn {m:Nat} {rs:List cY} {ts:List Int} {c:gO} {q:Cs} {r:cY} {w:Rp}:pi D T A B n m rs ts (c::q)->fW r->cg r=some w->cB D T B c.1 c.2 w=true->pi D T A B n (m+1) (rs++ [r]) ts (ce c.1 c.2 w++q)
 |leaf {m:Nat} {rs:List cY} {ts:List Int} {c:gO} {q:Cs} {r:cY} {o:Option Int}:pi D T A B n m rs ts (c::q)->rH D T A n c r o->pi D T A B n m (rs++ [r]) (ts++o.toList) q
def vB (low:Option Int) (ts:List Int):Prop:=∀t∈ts,∃l,low=some l/\l<=t
section
variable {D:Tl} {T:Tk} {A B:List Ky} {n:Int} {m:Nat} {rs:List cY} {ts:List Int} {q:Cs}
theorem oW {low:Option Int} {c:gO} {q:Cs} {r:cY} {w:Rp} (hi:cg r=some w) (hr:cB D T B c.1 c.2 w=true):dv D T A B n low (c::q) r=some (ce c.1 c.2 w++q):=by
 show dU D T A B n low c q r=_;unfold dU;rw[hi];exact if_pos hr
theorem lS {low:Option Int} {c:gO} {q:Cs} {r:cY} (hi:cg r=none) (hr:eE D T A n low c r=true):dv D T A B n low (c::q) r=some q:=by
 show dU D T A B n low c q r=_;unfold dU;rw[hi];exact if_pos hr
theorem vC (h:pi D T A B n m rs ts q) {low:Option Int} (hl:vB low ts):gi D T A B n low (cI T) rs=some q:=by
 induction h with
 |nil=>rfl
 |inn h ok hi hr ih=>
  rw[de,ih hl];show gi D T A B n low _ [_]=_;rw[mV];exact oW hi hr
 |leaf h lf ih=>
  rw[de,ih fun t ht=>hl t (E1 _ ht)]
  show gi D T A B n low _ [_]=_;rw[mV];exact lS lf.lf (tG lf fun v hv=>hl v (DA _ (by rw[hv];exact DI.mpr rfl)))
theorem qr (h:pi D T A B n m rs ts q):(∀r∈rs,fW r)/\(rs.filter eD).length=m/\q.length<=1+64*m/\∀c∈q,jz T m c:=by
 induction h with
 |nil=>exact ⟨fun r hr=>(by cases hr),rfl,D9 _,je⟩
 | @inn m rs ts c q r w h ok hi hr ih=>
  obtain ⟨i1,i2,i3,i4⟩:=ih;refine ⟨fun x hx=>?_,?_,?_,fun c' hc=>?_⟩
  ·rcases DM.mp hx with z|z
   ·exact i1 x z
   ·rw[DI.mp z];exact ok
  ·rw[EL,D8,i2,List.filter_cons_of_pos (by unfold eD;rw[hi];rfl)]
   rfl
  ·have:=eR (P:=c.1) (O:=c.2) (ok.2 w hi);rw[D8];rw[DL] at i3;omega
  ·rcases DM.mp hc with z|z
   ·exact lN hr (i4 c Dk) c' z
   ·exact (i4 c' (DW _ z)).mono (Eu _)
 | @leaf m rs ts c q r o h lf ih=>
  obtain ⟨i1,i2,i3,i4⟩:=ih;refine ⟨fun x hx=>?_,?_,?_,fun c' hc=>i4 c' (DW _ hc)⟩
  ·rcases DM.mp hx with z|z
   ·exact i1 x z
   ·rw[DI.mp z];exact lf.ok
  ·rw[EL,D8,i2,List.filter_cons_of_neg (by unfold eD;rw[lf.lf];decide)]
   rfl
  ·rw[DL] at i3;omega
theorem vD {c:gO}:rH D T A n c (.one "chain" []) (some 0):=by
 refine ⟨⟨⟨.inl rfl,by simp⟩,fun w hw=>by cases hw⟩,rfl,.inr ⟨0,rfl,(show ("chain" :Str)≠ "ring" by decide),?_⟩⟩
 rw[jp]
 rfl
theorem oX (h:pi D T A B n m rs ts q):∀k,k<=q.length->pi D T A B n m (rs++EA k (.one "chain" [])) (ts++EA k 0) (q.drop k)
 |0,_=>by simpa using h
 |k+1,hk=>by
  have ih:=oX h k (by omega)
  have e:=List.drop_eq_getElem_cons (show k<q.length by omega)
  rw[e] at ih;have:=pi.leaf ih (vD (c:=q[k]));rw[Dz,Dz,show (some (0:Int)).toList= [0] from rfl,<-List.replicate_succ',<-List.replicate_succ'] at this
  exact this
end
def rK:Sp:=fun vs H Q _=>∃(tp lc:Addr) (cs:List Int) (D:Tl) (T:Tk) (A:List Ky) (ps:List (Int×Int)) (n:Int),vs= [.ref tp,.ref lc]/\oU H tp D T A ps n/\H lc=some (.lst (cs.map V.int))/\cs.length<=63/\∀(tq lp lt:Addr) (m:Nat) (rs:List cY) (ts:List Int) (H':Hp),aB H H'->H' tq=some (.tup [.ref lp,.ref lt])->bU ju An H' lp rs->H' lt=some (.lst (ts.map V.int))->rs.length<=330->ts.length<=330->m<=4->pi D T A (bt ps) n m rs ts []->Q (.ref tq) H'
section
variable {D:Tl} {T:Tk} {A B:List Ky} {n:Int}
theorem vE {low low':Option Int} {p q q':Cs} {r:cY} (h:dv D T A B n low p r=some q) (h':dv D T A B n low' p r=some q'):q=q':=by
 cases p with
 |nil=>cases h
 |cons c p0=>
  replace h:dU D T A B n low c p0 r=some q:=h;replace h':dU D T A B n low' c p0 r=some q':=h';unfold dU at h h';cases hi:cg r with
  |some w=>
   rw[hi] at h h';dsimp only at h h'
   by_cases c1:cB D T B c.1 c.2 w=true
   ·rw[if_pos c1] at h h';rw[h] at h';injection h'
   ·rw[if_neg c1] at h;cases h
  |none=>
   rw[hi] at h h';dsimp only at h h'
   by_cases c1:eE D T A n low c r=true
   ·by_cases c2:eE D T A n low' c r=true
    ·rw[if_pos c1] at h;rw[if_pos c2] at h';rw[h] at h';injection h'
    ·rw[if_neg c2] at h';cases h'
   ·rw[if_neg c1] at h;cases h
theorem vF {low low':Option Int}:∀{rs:List cY} {p q q':Cs},gi D T A B n low p rs=some q->gi D T A B n low' p rs=some q'->q=q'
 | [],p,q,q',h,h'=>by
  injection h with h
  injection h' with h'
  rw[<-h,<-h']
 |r::rs,p,q,q',h,h'=>by
  obtain ⟨p1,h1,h2⟩:=DY.mp h;obtain ⟨p2,h3,h4⟩:=DY.mp h';have:=vE h1 h3;subst this;exact vF h2 h4
theorem oY {low:Option Int} {rs:List cY} {p z:Cs} (h:gi D T A B n low p rs=some z) (k:Nat):∃q,gi D T A B n low p (rs.take k)=some q/\gi D T A B n low q (rs.drop k)=some z:=by
 rw[<-Ej k rs,de] at h;exact DY.mp h
theorem xx {low:Option Int} {rs:List cY} {p z q:Cs} (h:gi D T A B n low p rs=some z) {k:Nat} {r:cY} (hk:rs[k]?=some r) (hq:gi D T A B n low p (rs.take k)=some q):∃c p0 q1,q=c::p0/\dv D T A B n low (c::p0) r=some q1/\gi D T A B n low p (rs.take (k+1))=some q1/\gi D T A B n low q1 (rs.drop (k+1))=some z:=by
 obtain ⟨q1,h1,h2⟩:=oY h (k+1);have h3:=rE hk hq;rw[h1] at h3;cases q with
 |nil=>cases h3
 |cons c p0=>exact ⟨c,p0,q1,rfl,h3.symm,h1,h2⟩
theorem rL {low:Option Int} {c:gO} {p0 q1:Cs} {r:cY} (h:dv D T A B n low (c::p0) r=some q1):(∃w,cg r=some w/\cB D T B c.1 c.2 w=true/\q1=ce c.1 c.2 w++p0)∨(cg r=none/\eE D T A n low c r=true/\q1=p0):=by
 replace h:dU D T A B n low c p0 r=some q1:=h;unfold dU at h;cases hi:cg r with
 |some w=>
  rw[hi] at h;dsimp only at h
  by_cases c1:cB D T B c.1 c.2 w=true
  ·rw[if_pos c1] at h;injection h with h
   exact .inl ⟨w,rfl,c1,h.symm⟩
  ·rw[if_neg c1] at h;cases h
 |none=>
  rw[hi] at h;dsimp only at h
  by_cases c1:eE D T A n low c r=true
  ·rw[if_pos c1] at h;injection h with h
   exact .inr ⟨rfl,c1,h.symm⟩
  ·rw[if_neg c1] at h;cases h
theorem vG {low:Option Int} {r:cY} (hi:cg r=none) {p0:Cs}:∀{cs:Cs},(∀c∈cs,eE D T A n low c r=true)->gi D T A B n low (cs++p0) (EA cs.length r)=some p0
 | [],_=>rfl
 |c::cs,h=>by
  show (dv D T A B n low (c::(cs++p0)) r).bind _=_;rw[lS hi (h c Dk)];exact vG hi fun c' hc=>h c' (DW _ hc)
def mX (rs:List cY) (k m:Nat) (r' r:cY):List cY:=rs.take k++(r'::EA m r)++rs.drop (k+1)
theorem yp {low0 low:Option Int} {rs:List cY} {k:Nat} {r r':cY} {w:Rp} {c:gO} {p0:Cs} {kc:Nat} (td:∀p∈D,1<=p.2) (cok:jz T kc c) (hk:rs[k]?=some r) (hi:cg r=none) (hq:gi D T A B n low0 (cI T) (rs.take k)=some (c::p0)) (hi':cg r'=some w) (hr:cB D T B c.1 c.2 w=true)
  (h:gi D T A B n low (cI T) rs=some []):gi D T A B n low (cI T) (mX rs k (ce c.1 c.2 w).length r' r)=some []:=by
 obtain ⟨q,h1,_⟩:=oY h k;have:=vF h1 hq;subst this;obtain ⟨c',p0',q1,e,h3,_,h5⟩:=xx h hk h1;cases e;rcases rL h3 with ⟨w',e,_⟩|⟨_,sh,e1⟩
 ·rw[hi] at e;cases e
 rw[e1] at h5;unfold mX;rw[de,de,h1];show ((dv D T A B n low (c::p0) r').bind fun q=>gi D T A B n low q (EA _ r)).bind _=_
 rw[oW hi' hr];show (gi D T A B n low (ce c.1 c.2 w++p0) (EA _ r)).bind _=_;rw[vG hi fun c1 hc=>qq (vA cok hr hc) td sh]
 exact h5
theorem xf {rs:List cY} {k m:Nat} {r r':cY} {w:Rp} (hk:rs[k]?=some r) (hi:cg r=none) (hi':cg r'=some w):((mX rs k m r' r).filter eD).length=(rs.filter eD).length+1:=by
 have e:rs=rs.take k++r::rs.drop (k+1):=by
  have h1:=(D5.mp hk);obtain ⟨h2,h3⟩:=h1;rw[<-h3,<-List.drop_eq_getElem_cons h2,Ej]
 have b1:eD r=false:=by unfold eD;rw[hi];rfl
 have b2:eD r'=true:=by unfold eD;rw[hi'];rfl
 have rep:(EA m r).filter eD= []:=by
  rw[List.filter_eq_nil_iff];intro x hx;rw[(List.mem_replicate.mp hx).2,b1]
  decide
 conv=>rhs;rw[e]
 unfold mX;rw[EL,EL,EL,List.filter_cons_of_pos b2,rep,List.filter_cons_of_neg (by rw[b1];decide)]
 simp only[D8,DL,List.length_nil];omega
theorem yq {rs:List cY} {k m:Nat} {r r':cY} (hk:rs[k]?=some r) (ok:∀x∈rs,fW x) (ok':fW r'):(∀x∈mX rs k m r' r,fW x)/\(mX rs k m r' r).length<=rs.length+m:=by
 have kl:=(D5.mp hk).1;unfold mX;refine ⟨fun x hx=>?_,?_⟩
 ·rcases DM.mp hx with z|z
  ·rcases DM.mp z with y|y
   ·exact ok x (Es y)
   ·rcases DG.mp y with u|u
    ·rw[u];exact ok'
    ·rw[(List.mem_replicate.mp u).2];exact ok r (D6 hk)
  ·exact ok x (List.mem_of_mem_drop z)
 ·rw[D8,D8,DL,EK,Ds,E6];omega
end
structure xy (D:Tl) (T:Tk) (A B:List Ky) (n:Int) (rs o:List cY):Prop where
 ok:∀r∈o,fW r
 len:o.length<=400
 inn:(o.filter eD).length=(rs.filter eD).length+1
 go:∀low,gi D T A B n low (cI T) rs=some []->gi D T A B n low (cI T) o=some []
def rM:Sp:=fun vs H Q _=>∃(tp lp:Addr) (x:Int) (D:Tl) (T:Tk) (A:List Ky) (ps:List (Int×Int)) (n:Int) (rs:List cY) (low0:Option Int),vs= [.ref tp,.ref lp,.int x]/\oU H tp D T A ps n/\bU ju An H lp rs/\(∀r∈rs,fW r)/\rs.length<=330/\gi D T A (bt ps) n low0 (cI T) rs=some []/\∀(l:Addr) (os:List (List cY)) (H':Hp),aB H H'->bU (nY ju) An H' l os->os.length<=330->(∀o∈os,xy D T A (bt ps) n rs o)->Q (.ref l) H'
theorem gM {D:Tl} {T:Tk} {A B:List Ky} {n:Int} {low:Option Int} {rs:List cY} (h:gi D T A B n low (cI T) rs=some []):lM D T A B n low rs=true:=by
 rw[oO h]
 rfl
theorem qu (xs:List V) (c:Nat):fY xs none (some (c:Int))=xs.take c:=by
 have e1:HT.eV xs.length 0 none=0:=rfl;have e2:HT.eV xs.length xs.length (some (c:Int))=min c xs.length:=by
  show (if (c:Int)<0 then ((c:Int)+(xs.length:Int)).toNat else min (c:Int).toNat xs.length)=_
  rw[if_neg (by omega),DQ]
 unfold fY;rw[e1,e2,List.drop_zero,Nat.sub_zero];rcases Nat.le_total c xs.length with q|q
 ·rw[Nat.min_eq_left q]
 ·rw[Nat.min_eq_right q,DV,Ee q]
end Sw
namespace Lk77
open PySem L2 Sw XH PyProof.Rows Hm
abbrev FV (x:Addr):Option V:=some (.ref x)
theorem cJ {X:Cx} {N P:FQ} {sp:Scope} (i:Nat) (sc:aE N P sp) {x:Str} {e:Expr} {te:TE} {pos pos':Pos} (he:PE X e te) (hi:X.N[i]?=some x:=by rfl) (hx:Loc X.env.scope x:=by exact Or.inl rfl) (hn:X.N=N:=by rfl) (hs:swapsWith e (some (.Name x pos')) pos.line X.env=pure false:=by rfl) (hf:X.fn x=true∨X.env.scope.names.lookup x=some .local:=by first|exact .inl rfl|exact .inr rfl|assumption):PS X (.Assign [.Name x pos'] e pos) (rW te (cu i)):=fr (hn▸sc.nd) hi hx he hs hf
theorem cM {X:Cx} {N P:FQ} {sp:Scope} (i:Nat) (sc:aE N P sp) {x:Str} {pos:Pos} (hi:X.N[i]?=some x:=by rfl) (hx:Loc X.env.scope x:=by exact Or.inl rfl) (hn:X.N=N:=by rfl) (hf:X.fn x=true∨X.env.scope.names.lookup x=some .local:=by first|exact .inl rfl|exact .inr rfl|assumption):PG X (.Name x pos) (cu i):=dw (hn▸sc.nd) hi hx hf
theorem bL {X:Cx} {k j:Nat} {x:Str} {ps:FQ} {dvs:List V} {sp:Sp} {e:Expr} {es:List Expr} {t:TA} {p pos:Pos} (D:Dx X.prog X.w X.K X.mg X.base a8 k x ps dvs sp) (hr:dQ j X.A) (ha:PA X (e::es) t) (hk:k<=j:=by decide) (hg:Gl X x:=by rfl) (hdb:(x==("__debug__" :Str))=false:=by decide) (he:starEach (e::es) X.env=(false,eval e X.env)::starEach es X.env:=by rfl) (hpl:(backTo pos (starEach es X.env)).any (·.1)=false:=by rfl):PE X (.Call (.Name x p) (e::es) [] pos) (tY sp [] E0 t):=xU D hr hk hg ha hdb he hpl
def top (i:Nat):Stmt:=PySem.Challenge.pw_stovework_k77_whole_papers_said_otherwis.main.body.getD i (.Pass ⟨0,0,0,0⟩)
def clsAt (s:Stmt) (i:Nat):Stmt:=match s with| .ClassDef _ _ _ body _ _ _ _ _ _ _=>body.getD i (.Pass ⟨0,0,0,0⟩)|_=>s
abbrev Cp:Stmt:=top 7
abbrev Cq:Stmt:=top 17
abbrev Cr:Stmt:=top 20
abbrev Ct:Stmt:=top 21
abbrev Cu:Stmt:=top 23
abbrev Cv:Stmt:=top 22
abbrev Cw:Stmt:=top 24
abbrev Cy:Stmt:=top 25
abbrev BN:Stmt:=clsAt (top 16) 0
abbrev Cz:Stmt:=top 19
abbrev yr:Stmt:=top 18
abbrev yt:Stmt:=top 27
abbrev yu:Stmt:=top 32
abbrev yw:Stmt:=top 28
abbrev yx:Stmt:=top 30
abbrev yy:Stmt:=top 31
abbrev yz:Stmt:=top 34
abbrev yA:Stmt:=top 33
abbrev yB:Stmt:=top 29
abbrev yC:Stmt:=top 36
abbrev yD:Stmt:=top 38
abbrev yE:Stmt:=top 37
abbrev yF:Stmt:=top 39
abbrev yG:Stmt:=top 42
abbrev yH:Stmt:=top 43
abbrev yI:Stmt:=top 44
abbrev yJ:Stmt:=top 45
abbrev yK:Stmt:=top 41
abbrev yL:Stmt:=top 50
abbrev yM:Stmt:=top 49
abbrev yN:Stmt:=top 48
abbrev yO:Stmt:=top 47
abbrev yP:Stmt:=top 55
abbrev yQ:Stmt:=top 54
abbrev yR:Stmt:=top 57
abbrev yS:Stmt:=top 56
abbrev yT:Stmt:=top 53
abbrev yU:Stmt:=top 58
abbrev yV:Stmt:=top 60
abbrev yW:Stmt:=top 59
abbrev yX:Stmt:=top 61
abbrev yY:Stmt:=top 62
abbrev yZ:Stmt:=top 64
abbrev y3:Stmt:=top 66
abbrev y4:Stmt:=top 67
abbrev y6:Stmt:=top 68
abbrev y8:Stmt:=top 69
abbrev y9:Stmt:=top 70
abbrev za:Stmt:=top 71
abbrev zb:Stmt:=top 72
abbrev zc:Stmt:=top 73
abbrev zd:Stmt:=top 74
abbrev ze:Stmt:=top 75
abbrev zf:Stmt:=top 76
abbrev zg:Stmt:=top 77
abbrev zh:Stmt:=top 78
abbrev zj:Stmt:=top 79
abbrev zm:Stmt:=top 80
abbrev zp:Stmt:=top 81
abbrev zq:Stmt:=top 82
abbrev zr:Stmt:=top 83
abbrev zu:Stmt:=top 84
abbrev zw:Stmt:=top 85
abbrev zx:Stmt:=top 86
abbrev zy:Stmt:=top 87
abbrev mY:Stmt:=top 88
structure Bn (K:D7) (mg:FO) (Ff on Fp:Addr):Prop where
 FC:∃t,mg "LETTERS" =some (.str "abcdefghijklmnopqrstuvwxyz" t)
 Fn:∃t,mg "MOST_LETTERS" =some (.int 12 t)
 Fr:∃t,mg "MOST_TASKS" =some (.int 24 t)
 Fq:∃t,mg "MOST_TOOLS" =some (.int 12 t)
 Fo:∃t,mg "MOST_PIECES" =some (.int 8 t)
 Fv:∃t,mg "MOST_WAYS" =some (.int 2 t)
 Fm:∃t,mg "MOST_MOMENTS" =some (.int 8 t)
 Fw:∃t,mg "MOST_ARCS" =some (.int 600 t)
 Fs:∃t,mg "MOST_APART" =some (.int 300 t)
 Fk:∃t,mg "GREATEST" =some (.int 1000000000 t)
 FM:mg "abs" =none
 FL:mg "all" =none
 FG:mg "dict" =none
 Fy:mg "enumerate" =none
 Ft:mg "isinstance" =none
 Ev:mg "len" =none
 Fe:mg "list" =none
 FB:mg "max" =none
 Fj:mg "min" =none
 Fc:mg "range" =none
 Fl:mg "reversed" =none
 FE:mg "set" =none
 FD:mg "sorted" =none
 FK:mg "str" =none
 FA:mg "sum" =none
 FH:mg "zip" =none
 Fz:mg "INNER" =some (.ref Ff)
 FJ:mg "Net" =some (.ref on)
 Fu:wW K Ff ["split","ways"]
 Fb:vR K on
 FI:Mk K on Fp
 Fd:cx K on "tools"
 Fa:cx K on "tasks"
 Fi:cx K on "arcs"
 Fg:cx K on "apart"
 Fh:cx K on "moments"
section
variable {P:Program} {w:World} {K:D7} {mg:FO} {base:Heap} {f:Addr} {fd:FuncData} {Ff on Fp:Addr}
variable (B:Bn K mg Ff on Fp)
include B
theorem CA {dV:Value} (F:bn K "is_name" "is_name" Cp dV f fd):bf P w K mg base a8 1 f fd ["thing"] (n6 K):=by
 have sc:aE ["thing","sign"] ["thing"] (ar Cp):=dn (by decide+kernel)
 refine F.ok sc (fun vs H Q E h=>?_) (fun cdv A outer s H vs Q E hr h=>?_)
 ·obtain ⟨_,rfl,_⟩:=h
  rfl
 obtain ⟨x,rfl,h⟩:=h;refine ⟨_,(ae (aL (PW.pt (dZ (cq (dj (ay (sA (K:=K) rfl) rfl B.Ft boot_isinstance (@aa _ _ _ _ _ (pv 0) (@aa _ _ _ _ _ (vM (v:= .ty "str") rfl B.FK boot_str rfl) ac rfl) rfl)))) (dZ (ao fD (ay iu rfl B.Ev boot_len (@aa _ _ _ _ _ (pv 0) ac rfl)) af (aD _)) (dD (ao fR (ay iu rfl B.Ev boot_len (@aa _ _ _ _ _ (pv 0) ac rfl)) (c6 rfl B.Fn) (aD _)))))) (aj (au bE)) aw) (ae (aQ PassesOwn.never rfl (xZ (pv 0)) (cM 1 sc) (aj (aL (ao md (pv 1) (uv rfl B.FC) (by with_unfolding_all rfl)) (aj (au bE)) aw))) (aj (au bE)))),?_⟩
 try dsimp only[cxK]
 rcases h with ⟨z,rfl,hz,q1,q0⟩|⟨ty,hty,hk,q⟩
 ·have hz':z.length<=sizeLine:=EF hz (by decide)
  have hl:=mw z;try dsimp only[cu,df]
  refine cut (fun σ H'=>H=H'/\σ= [some (.str z),none]/\1<=z.length/\z.length<=12) (fun N hN=>?_) ?_
  ·refine ⟨_,rfl,aN _ _ _ true ⟨rfl,.str _,rfl,_,rfl,cP ⟨_,rfl,z,rfl,hz',aq _ _ ⟨rfl,rfl,_,rfl,d2 (fun c=>?_) (fun c1=>⟨_,rfl,z,rfl,hz',aq _ _ ⟨rfl,rfl,_,rfl,d2 (fun c=>?_) (fun c2=>?_)⟩⟩)⟩⟩⟩⟩
   ·exact q0 fun n=>by have:=n.1;omega
   ·exact q0 fun n=>by have:=n.2.1;omega
   ·exact hN _ _ ⟨rfl,rfl,by omega,by omega⟩
  rintro σ _ ⟨rfl,rfl,l1,l2⟩;refine ⟨_,rfl,z,rfl,wj (fun i σ H2=>H=H2/\(∃o,σ= [some (.str z),o])/\∀j c,j<i->z.cps[j]?=some c->97<=c/\c<=122) ⟨rfl,⟨_,rfl⟩,fun j c h=>absurd h (by omega)⟩ (fun i c σ H2 hc hP=>?_) (fun σ H2 hP=>?_)⟩
  ·obtain ⟨rfl,⟨o,rfl⟩,hP⟩:=hP;refine ⟨_,rfl,aq _ _ ⟨rfl,rfl,_,rfl,C6 (fun e=>?_) (fun e=>?_)⟩⟩
   ·have e':=(qP c).symm.trans e;refine q0 fun n=>?_
    have:=n.2.2 c (D6 (show (sL z)[i]?=some c by rw[<-hc];exact EJ))
    rw[decide_eq_true this] at e';cases e'
   ·have e':=(qP c).symm.trans e;refine ⟨rfl,⟨_,rfl⟩,fun j c' hj hc'=>?_⟩
    rcases Nat.lt_succ_iff_lt_or_eq.mp hj with k|k
    ·exact hP j c' k hc'
    ·subst k;rw[hc] at hc';cases hc';exact of_decide_eq_true e'
  ·obtain ⟨rfl,⟨o,rfl⟩,hP⟩:=hP;refine q1 ⟨by omega,by omega,fun c hc=>?_⟩
   obtain ⟨i,hi⟩:=DR.mp hc;have hi':z.cps[i]?=some c:=by rw[<-hi];exact EJ.symm
   exact hP i c (by have:=(Array.getElem?_eq_some_iff.mp hi').1;exact this) hi'
 ·exact ⟨_,rfl,aN _ _ _ false ⟨rfl,hty,hk,_,rfl,cL q⟩⟩
theorem CB {dV:Value} (F:bn K "points_of" "points_of" Cq dV f fd):bf P w K mg base a8 1 f fd ["net"] (i7 on):=by
 have sc:aE ["net"] ["net"] (ar Cq):=dn (by decide+kernel)
 refine F.ok sc (fun vs H Q E h=>?_) (fun cdv A outer s H vs Q E hr h=>?_)
 ·obtain ⟨_,_,_,_,_,_,_,rfl,_⟩:=h
  rfl
 refine fK h fun x n fz D T A _hi=>?_
 refine eA _hi fun B2 _hj=>?_
 refine ij _hj fun _r1 N q=>?_
 clear h _hi _hj;subst _r1;refine ⟨_,(aj (au (am a7 (am aY af (ay av rfl B.Ev boot_len (@aa _ _ _ _ _ (cH (pv 0) rfl) ac rfl))) (cH (pv 0) rfl)))),?_⟩;try dsimp only[cxK]
 refine fK N.ex fun dx td tl al pl fs _hi=>?_
 refine ph _hi fun e0 l1 l2 l3 l4 l5 e1 _r1 _hj=>?_
 refine cZ _hj fun e3 e4=>?_
 obtain ⟨as,e2,r2⟩:=_r1;refine ⟨_,rfl,aN x _ dx _ ⟨_,⟨rfl,e0,B.Fb,B.Fa,l2,aq tl _ ⟨rfl,.inl (aC.of e2),aq _ _ ⟨rfl,rfl,IntMulOk.of_left (by decide),_,rfl,aN x _ dx _ ⟨_,⟨rfl,e0,B.Fb,B.Fh,l5,aq _ _ ⟨rfl,rfl,?_⟩⟩⟩⟩⟩⟩⟩⟩
 rw[r2.1];exact q
theorem CC {dV:Value} (F:bn K "copy_of_task" "copy_of_task" Cr dV f fd):bf P w K mg base a8 1 f fd ["ways"] mD:=by
 have sc:aE ["ways"] ["ways"] (ar Cr):=dn (by decide+kernel)
 refine F.ok sc (fun vs H Q E h=>?_) (fun cdv A outer s H vs Q E hr h=>?_)
 ·obtain ⟨_,_,_,rfl,_⟩:=h
  rfl
 obtain ⟨l,ws,P0,rfl,⟨vs,el,r0⟩,l2,q⟩:=h;refine ⟨_,(aj (au (bG (own:= "way") (ys:= []) (js:= []) rfl (cok fT .nil (by decide) rfl rfl rfl rfl rfl rfl rfl rfl) (aF (pv 0)) (fun C fp s H=>(@bj _ _ _ _ _ (@aa _ _ _ _ _ (aA (bu (K:=K) rfl) (pv 0) af (fun _ _=>rfl)) (@aa _ _ _ _ _ (aA (bu (K:=K) rfl) (pv 0) af (fun _ _=>rfl)) (@aa _ _ _ _ _ (bJ (jO (K:=K) rfl) rfl B.Fe boot_list (@aa _ _ _ _ _ (aA (bu (K:=K) rfl) (pv 0) af (fun _ _=>rfl)) ac rfl)) ac rfl) rfl) rfl)))))),?_⟩
 try dsimp only[cxK]
 have sl:sizeLine=16777216:=sizeLine_eq;have r:=r0.imp fun _ _ q=>wB q
 refine ⟨_,rfl,l,rfl,⟨_,aC.of el⟩,bv gN (fun a=>P0 a/\H a≠none) (fun i=>ws.getD i (0,0,[])) (aC.of el) (by rw[r.1];omega) (fun a h=>h.2) (fun i y hy H3 g Q' hQ=>?_) fun p H' np g hp=>?_⟩
 ·refine eA (r.at_ hy) fun w _hi=>?_
  refine cZ _hi fun hw _hj=>?_
  refine pd _hj fun t u _hk=>?_
  refine eC _hk fun _r1 _ _ _hl=>?_
  refine cZ _hl fun et _hm=>?_
  refine eA _hm fun us _hn=>?_
  refine cZ _hn fun eu ru=>?_
  clear _hi _hj _hk _hl _hm _hn;subst _r1;have et3:=g _ _ et;rw[aX hw] at hQ;refine ⟨_,rfl,aN t _ _ _ ⟨rfl,rfl,bx.of et3,rfl,_,rfl,aN t _ _ _ ⟨rfl,rfl,bx.of et3,rfl,_,rfl,aN t _ _ _ ⟨rfl,rfl,bx.of et3,rfl,aq u us ⟨rfl,.inl (aC.of (g _ _ eu)),fun u' nu=>⟨by show 3<=sizeLine;decide,fun t' nt=>?_⟩⟩⟩⟩⟩⟩
  have g1:=ag nu (.lst us);have g2:=ag nt (.tup [.int w.1,.int w.2.1,.ref u']);exact hQ _ _ (g1.trans g2) (aq t' u' ⟨rfl,.inl (g1.free nt),.inl nu,ah,us,g2 _ _ ah,ru.imp fun v e q=>iW (dA q (g.trans (g1.trans g2))) fun a h=> .inr h⟩)
 ·rw[i8 ws (0,0,[]) r.1] at hp;exact q p H' g np ⟨p,rfl,.inl np,hp.mono fun a h=>h.2.imp id fun z=>z.1⟩
theorem CD {dV:Value} (F:bn K "refuse_wrong_tools" "refuse_wrong_tools" Ct dV f fd) (DZ0:Dx P w K mg base a8 1 "is_name" ["thing"] [] (n6 K)):bf P w K mg base a8 2 f fd ["tools"] kO:=by
 have sc:aE ["tools","tool","many"] ["tools"] (ar Ct):=dn (by decide+kernel)
 refine F.ok sc (fun vs H Q E h=>?_) (fun cdv A outer s H vs Q E hr h=>?_)
 ·obtain ⟨_,_,rfl,_⟩:=h
  rfl
 obtain ⟨td,D,rfl,e,l12,ok,q⟩:=h;refine ⟨_,(ae (aL (ao fR (ay pT rfl B.Ev boot_len (@aa _ _ _ _ _ (pv 0) ac rfl)) (c6 rfl B.Fq) (aD _)) (aj bN) aw) (aj (pP (aQ PassesOwn.never rfl (nL (jG PySem.F.plainAttrs_dict PySem.F.slot_dict_items PySem.F.type_dict_items nK (pv 0))) (cV rfl (aI (cM 1 sc) (aI (cM 2 sc) bX))) (ae (aL (cq (dj (bL DZ0 hr (@aa _ _ _ _ _ (pv 1) ac rfl)))) (aj bN) aw) (aj (aL (cq (cG dq dq af (pv 2) (c6 rfl B.Fo))) (aj bN) aw))))))),?_⟩;try dsimp only[cxK]
 refine ⟨_,rfl,aq td _ ⟨rfl,e,aq _ _ ⟨rfl,rfl,_,rfl,dF (by rw[iY];omega) ?_⟩⟩⟩
 refine ⟨_,rfl,.inr (.inr (.inl ⟨rfl,.inl ⟨_,e⟩⟩)),aq td _ ⟨rfl,rfl,e,fun v nv=>?_⟩⟩
 have g:=ag nv (.ext fun h=>h.IsItemsView v td)
 refine (bH v td _ ⟨rfl,ah,g _ _ e,fun o nf=>?_⟩)
 have e1:=g _ _ e;generalize aG H v (.ext fun h=>h.IsItemsView v td)=H1 at g e1⊢
 have ef:aG H1 td (.frz o (.dK (bq D))) td=some (.frz o (.dK (bq D))):=ah;refine kR (fun i σ H'=>aB (aG H1 td (.frz o (.dK (bq D)))) H'/\∃o1 o2:Option V,σ= [FV td,o1,o2]) ⟨.refl _,aq none none rfl⟩ (fun i σ H' _ h=>h.1 _ _ ef) ?_ ?_
 ·rintro i k y σ H2 T' hk ⟨g2,o1,o2,rfl⟩ nT;obtain ⟨p,hp,rfl,rfl⟩:=jX hk;obtain ⟨n1,n2,n3⟩:=ok p (D6 hp);have g3:=g2.trans (ag nT (.tup [kV (.inr p.1),.int p.2]));have zl:p.1.length<=1000000:=by have:=n1.2.1;rw[mw] at this;omega
  refine (aq T' _ ⟨rfl,bx.of ah,rfl,aq _ _ ⟨rfl,aq _ _ ⟨rfl,rfl,?_⟩⟩⟩);refine ⟨_,rfl,_,rfl,.inl ⟨p.1,rfl,zl,fun _=>⟨_,rfl,cP ?_⟩,fun z=>absurd n1 z⟩⟩
  exact ⟨_,rfl,aq _ _ ⟨rfl,rfl,_,rfl,dT n2 (aq _ _ ⟨rfl,rfl,_,rfl,nF n3 ⟨g3,aq _ _ rfl⟩⟩)⟩⟩
 ·rintro σ H2 ⟨g2,o1,o2,rfl⟩;exact (bH td o _ ⟨g2 _ _ ef,nf,q _ (g.trans (i6 e1 g2))⟩)
theorem CF {dV:Value} (F:bn K "refuse_wrong_uses" "refuse_wrong_uses" Cu dV f fd):bf P w K mg base a8 1 f fd ["uses","tools"] n9:=by
 have sc:aE ["uses","tools","use"] ["uses","tools"] (ar Cu):=dn (by decide+kernel)
 refine F.ok sc (fun vs H Q E h=>?_) (fun cdv A outer s H vs Q E hr h=>?_)
 ·obtain ⟨_,_,_,_,rfl,_⟩:=h
  rfl
 refine fZ h fun u td D us _hi=>?_
 refine eC _hi fun _r1 _r2 ed _hj=>?_
 refine cZ _hj fun _r3 q=>?_
 clear h _hi _hj;subst _r1;obtain ⟨vs,eu,ru⟩:=_r2;obtain ⟨nd,l100,ok⟩:=_r3;refine ⟨_,(ae (aL (ao eT (sI rfl rfl B.Ev rfl B.FE PyProof.Rows.Boot.«len» PyProof.Rows.Boot.«set» (bG (own:= "use") (ys:= []) (js:= []) rfl (cok fT .nil (by decide) rfl rfl rfl rfl rfl rfl rfl rfl) (aF (pv 0)) (fun C fp s H=>(aA (bu (K:=K) rfl) (pv 0) af (fun _ _=>rfl))))) (ay av rfl B.Ev boot_len (@aa _ _ _ _ _ (pv 0) ac rfl)) (aD _)) (aj bN) aw) (aj (aQ PassesOwn.never rfl (aF (pv 0)) (cM 2 sc) (ae (aL (pw (iQ (gn hr) (aA aK (pv 2) af (fun _ _=>rfl)) (pv 1)) (by with_unfolding_all rfl)) (aj bN) aw) (ae (aL (cq (cG dq dq af (aA aK (pv 2) af (fun _ _=>rfl)) (iz (gn hr) (pv 1) (aA aK (pv 2) af (fun _ _=>rfl)) (fun _ _=>rfl)))) (aj bN) aw) (aj (aL (cq (cG dq dq af (aA aK (pv 2) af (fun _ _=>rfl)) (c6 rfl B.Fk))) (aj bN) aw))))))),?_⟩
 try dsimp only[cxK]
 have sl:sizeLine=16777216:=sizeLine_eq;refine ⟨_,rfl,u,rfl,⟨_,aC.of eu⟩,bv (dL V.str) (fun _=>False) (fun i=>(us.getD i ("",0,0)).1) (aC.of eu) (by rw[ru.1];omega) (fun a h=>h.elim) (fun i y hy H3 g Q' hQ=>?_) fun p H' np g hp=>?_⟩
 ·obtain ⟨e,he,t,rfl,_,et⟩:=ru.at_ hy;rw[aX he] at hQ;exact ⟨_,rfl,aN t _ _ _ ⟨rfl,rfl,bx.of (g _ _ et),rfl,hQ _ _ (.refl _) rfl⟩⟩
 obtain ⟨ps,ep,rp⟩:=hp;have e1:ps=(us.map fun e=>(.inr e.1:Key)).map kV:=by
  rw[rp.val,DJ,DJ]
  conv=>rhs;rw[<-br us ("",0,0),DJ,<-ru.1]
  rfl
 rw[e1] at ep;refine (aq p (us.map fun e=>(.inr e.1:Key)) ⟨rfl,aC.of ep,?_,by rw[D3];omega,_,rfl,aq u _ ⟨rfl,.inl (aC.of (g _ _ eu)),rfl,_,rfl,C5 (by rw[D3,ru.1]) ?_⟩⟩)
 ·have:(us.map fun e=>(.inr e.1:Key))=(us.map (·.1)).map Sum.inr:=by rw[DJ];rfl
  rw[this];exact nd.map (f:=(Sum.inr:Str->Key)) fun a b h e=>h (by injection e)
 clear ep rp e1;refine ⟨_,rfl,u,rfl,⟨_,aC.of (g _ _ eu)⟩,aR (xs:=vs) (fun i σ H2=>H'=H2/\∃o2:Option V,σ= [FV u,FV td,o2]) ⟨rfl,none,rfl⟩ (fun i σ H2 _ h=>by rw[<-h.1];exact aC.of (g _ _ eu)) ?_ ?_⟩
 ·rintro i y σ H2 hy ⟨rfl,o2,rfl⟩;obtain ⟨e,he,t,rfl,_,et⟩:=ru.at_ hy;obtain ⟨m,hm,k1,k2,k3,k4⟩:=ok e (D6 he);have et':=g _ _ et;have dg:=jY (.inl (g _ _ ed)) hm;refine ⟨_,rfl,aN t _ _ _ ⟨rfl,rfl,bx.of et',rfl,_,rfl,aq td _ ⟨rfl,dg,_,rfl,cP ?_⟩⟩⟩;refine ⟨_,rfl,aN t _ _ _ ⟨rfl,rfl,bx.of et',rfl,aq _ _ ⟨rfl,rfl,_,rfl,dT k1 ⟨_,rfl,_,rfl,aN t _ _ _ ⟨rfl,rfl,bx.of et',rfl,aq td _ ⟨rfl,dg,aq _ _ ⟨rfl,rfl,_,rfl,nF k2 ?_⟩⟩⟩⟩⟩⟩⟩;exact ⟨_,rfl,aN t _ _ _ ⟨rfl,rfl,bx.of et',rfl,aq _ _ ⟨rfl,rfl,_,rfl,dT k3 (aq _ _ ⟨rfl,rfl,_,rfl,nF k4 ⟨rfl,_,rfl⟩⟩)⟩⟩⟩
 ·rintro σ H2 ⟨rfl,o2,rfl⟩;exact q _ g
theorem CG {dV:Value} (F:bn K "refuse_wrong_tasks" "refuse_wrong_tasks" Cv dV f fd) (DZ4:Dx P w K mg base a8 1 "refuse_wrong_uses" ["uses","tools"] [] n9):bf P w K mg base a8 2 f fd ["tasks","tools"] kP:=by
 have sc:aE ["tasks","tools","ways","way"] ["tasks","tools"] (ar Cv):=dn (by decide+kernel)
 refine F.ok sc (fun vs H Q E h=>?_) (fun cdv A outer s H vs Q E hr h=>?_)
 ·obtain ⟨_,_,_,_,rfl,_⟩:=h
  rfl
 refine fZ h fun tl td D T _hi=>?_
 refine f9 _hi fun _r1 _r2 ed l24 ok q=>?_
 clear h _hi;subst _r1;obtain ⟨as,el,r⟩:=_r2;refine ⟨_,(ae (aL (ao fR (ay av rfl B.Ev boot_len (@aa _ _ _ _ _ (pv 0) ac rfl)) (c6 rfl B.Fr) (aD _)) (aj bN) aw) (aj (aQ PassesOwn.never rfl (aF (pv 0)) (cM 2 sc) (ae (aL (cq (cG dq dq af (ay av rfl B.Ev boot_len (@aa _ _ _ _ _ (pv 2) ac rfl)) (c6 rfl B.Fv))) (aj bN) aw) (aj (aQ PassesOwn.never rfl (aF (pv 2)) (cM 3 sc) (ae (aL (cq (sD dq dq dq af (aA aK (pv 3) af (fun _ _=>rfl)) (aA aK (pv 3) af (fun _ _=>rfl)) (c6 rfl B.Fk))) (aj bN) aw) (aj (bC (bL DZ4 hr (@aa _ _ _ _ _ (aA aK (pv 3) af (fun _ _=>rfl)) (@aa _ _ _ _ _ (pv 1) ac rfl) rfl))))))))))),?_⟩
 try dsimp only[cxK]
 have ll:as.length=T.length:=r.1;refine ⟨_,rfl,aq tl _ ⟨rfl,.inl (aC.of el),aq _ _ ⟨rfl,rfl,_,rfl,dF (by rw[ll];omega) ?_⟩⟩⟩
 refine ⟨_,rfl,tl,rfl,⟨_,aC.of el⟩,aR (xs:=as) (fun i σ H'=>aB H H'/\∃o2 o3:Option V,σ= [FV tl,FV td,o2,o3]) ⟨.refl _,aq none none rfl⟩ (fun i σ H' _ h=>aC.of (h.1 _ _ el)) ?_ ?_⟩
 ·rintro i y σ H1 hy ⟨g1,o2,o3,rfl⟩;refine eA (r.at_ hy) fun ws _hi=>?_
  refine cZ _hi fun hw _hj=>?_
  refine eA _hj fun wl _hk=>?_
  refine ij _hk fun _r1 _ _hl=>?_
  refine eA _hl fun ts _hm=>?_
  refine cZ _hm fun ets0 rt0=>?_
  clear _hi _hj _hk _hl _hm;subst _r1;have ets:=g1 _ _ ets0;have rt:=rt0.imp fun _ _ q=>dA q g1
  obtain ⟨o1,o2',ow⟩:=ok ws (D6 hw);have lw:ts.length=ws.length:=rt.1;refine ⟨_,rfl,aq wl _ ⟨rfl,.inl (aC.of ets),aq _ _ ⟨rfl,rfl,_,rfl,dT (by rw[lw];omega) (aq _ _ ⟨rfl,rfl,_,rfl,nF (by rw[lw];omega) ?_⟩)⟩⟩⟩
  refine ⟨_,rfl,wl,rfl,⟨_,aC.of ets⟩,aR (xs:=ts) (fun j σ H'=>aB H H'/\aB H1 H'/\∃o3:Option V,σ= [FV tl,FV td,FV wl,o3]) ⟨g1,.refl _,o3,rfl⟩ (fun j σ H' _ h=>aC.of (h.2.1 _ _ ets)) ?_ ?_⟩
  ·rintro j z σ H2 hz ⟨g2,g12,o3,rfl⟩;refine eA (rt.at_ hz) fun w _hi=>?_
   refine cZ _hi fun hw2 _hj=>?_
   refine pd _hj fun t u _hk=>?_
   refine eC _hk fun _r1 _ _ _hl=>?_
   refine cZ _hl fun et0 lu0=>?_
   clear _hi _hj _hk _hl;subst _r1;have et:=g12 _ _ et0;obtain ⟨w1,w2,w3,w4⟩:=ow w (D6 hw2);refine ⟨_,rfl,aN t _ _ _ ⟨rfl,rfl,bx.of et,rfl,aq _ _ ⟨rfl,rfl,_,rfl,dT w1 ⟨_,rfl,aN t _ _ _ ⟨rfl,rfl,bx.of et,rfl,aq _ _ ⟨rfl,rfl,_,rfl,dT w2 (aq _ _ ⟨rfl,rfl,_,rfl,nF w3 ?_⟩)⟩⟩⟩⟩⟩⟩;exact ⟨_,rfl,aN t _ _ _ ⟨rfl,rfl,bx.of et,rfl,_,rfl,aN u td D w.2.2 ⟨rfl,lu0.same g12,g2 _ _ ed,w4,fun H3 g3=>⟨g2.trans g3,g12.trans g3,_,rfl⟩⟩⟩⟩
  ·rintro σ H2 ⟨g2,_,o3,rfl⟩;exact ⟨g2,aq _ _ rfl⟩
 ·rintro σ H1 ⟨g1,o2,o3,rfl⟩;exact q _ g1
theorem CH {dV:Value} (F:bn K "refuse_wrong_arcs" "refuse_wrong_arcs" Cw dV f fd):bf P w K mg base a8 1 f fd ["arcs","points"] qK:=by
 have sc:aE ["arcs","points","arc"] ["arcs","points"] (ar Cw):=dn (by decide+kernel)
 refine F.ok sc (fun vs H Q E h=>?_) (fun cdv A outer s H vs Q E hr h=>?_)
 ·obtain ⟨_,_,_,rfl,_⟩:=h
  rfl
 refine ko h fun al m A _hi=>?_
 refine eC _hi fun _r1 _r2 l6 _hj=>?_
 refine cZ _hj fun ok q=>?_
 clear h _hi _hj;subst _r1;obtain ⟨as,el,r⟩:=_r2;refine ⟨_,(ae (aL (ao fR (ay av rfl B.Ev boot_len (@aa _ _ _ _ _ (pv 0) ac rfl)) (c6 rfl B.Fw) (aD _)) (aj bN) aw) (aj (aQ PassesOwn.never rfl (aF (pv 0)) (cM 2 sc) (ae (aL (cq (PW.pt (cF (cG dq fD af (aA aK (pv 2) af (fun _ _=>rfl)) (pv 1)) (bW (cG dq fD af (aA aK (pv 2) af (fun _ _=>rfl)) (pv 1)))))) (aj bN) aw) (aj (aL (ao fR (ay tW rfl B.FM boot_abs (@aa _ _ _ _ _ (aA aK (pv 2) af (fun _ _=>rfl)) ac rfl)) (c6 rfl B.Fk) (aD _)) (aj bN) aw)))))),?_⟩
 try dsimp only[cxK]
 have ll:(as.map V.ref).length=A.length:=by rw[D3];exact r.1
 refine ⟨_,rfl,aq al _ ⟨rfl,.inl (aC.of el),aq _ _ ⟨rfl,rfl,_,rfl,dF (by rw[ll];omega) ?_⟩⟩⟩
 refine ⟨_,rfl,al,rfl,⟨_,aC.of el⟩,aR (xs:=as.map V.ref) (fun i σ H'=>H=H'/\∃o2:Option V,σ= [FV al,some (.int m),o2]) ⟨rfl,none,rfl⟩ (fun i σ H' _ h=>by rw[<-h.1];exact aC.of el) ?_ ?_⟩
 ·rintro i x σ H1 hx ⟨rfl,o2,rfl⟩;rw[DE] at hx;obtain ⟨t,ht,rfl⟩:=DB.mp hx;have il:i<A.length:=by rw[<-r.1];exact (D5.mp ht).1
  have et:=r.2 i t _ ht (D4 il);refine ko (ok _ (DO il)) fun a b g _hi=>?_
  refine f9 _hi fun e a0 a1 b0 b1 _hj=>?_
  refine cZ _hj fun g0 g1=>?_
  rw[e] at et;refine ⟨_,rfl,aN t _ _ _ ⟨rfl,rfl,bx.of et,rfl,aq _ _ ⟨rfl,rfl,_,rfl,dT a0 ⟨_,rfl,aq _ _ ⟨rfl,rfl,_,rfl,dT a1 ⟨_,rfl,aN t _ _ _ ⟨rfl,rfl,bx.of et,rfl,aq _ _ ⟨rfl,rfl,_,rfl,dT b0 ⟨_,rfl,aq _ _ ⟨rfl,rfl,_,rfl,nF b1 ?_⟩⟩⟩⟩⟩⟩⟩⟩⟩⟩;exact ⟨_,rfl,aN t _ _ _ ⟨rfl,rfl,bx.of et,rfl,g,rfl,aq _ _ ⟨rfl,rfl,_,rfl,dF (by split<;>omega) ⟨rfl,_,rfl⟩⟩⟩⟩
 ·rintro σ H1 ⟨rfl,o2,rfl⟩;exact q
theorem CI {dV:Value} (F:bn K "refuse_wrong_pairs" "refuse_wrong_pairs" Cy dV f fd):bf P w K mg base a8 1 f fd ["pairs","many"] kQ:=by
 have sc:aE ["pairs","many","pair"] ["pairs","many"] (ar Cy):=dn (by decide+kernel)
 refine F.ok sc (fun vs H Q E h=>?_) (fun cdv A outer s H vs Q E hr h=>?_)
 ·obtain ⟨_,_,_,rfl,_⟩:=h
  rfl
 refine ko h fun pl m B2 _hi=>?_
 refine eC _hi fun _r1 _r2 l3 _hj=>?_
 refine cZ _hj fun ok q=>?_
 clear h _hi _hj;subst _r1;obtain ⟨as,el,r⟩:=_r2;refine ⟨_,(ae (aL (ao fR (ay av rfl B.Ev boot_len (@aa _ _ _ _ _ (pv 0) ac rfl)) (c6 rfl B.Fs) (aD _)) (aj bN) aw) (aj (aQ PassesOwn.never rfl (aF (pv 0)) (cM 2 sc) (ae (aL (cq (PW.pt (cF (cG dq fD af (aA aK (pv 2) af (fun _ _=>rfl)) (pv 1)) (bW (cG dq fD af (aA aK (pv 2) af (fun _ _=>rfl)) (pv 1)))))) (aj bN) aw) (aj (aL (ao b8 (aA aK (pv 2) af (fun _ _=>rfl)) (aA aK (pv 2) af (fun _ _=>rfl)) (aD _)) (aj bN) aw)))))),?_⟩
 try dsimp only[cxK]
 have ll:(as.map V.ref).length=B2.length:=by rw[D3];exact r.1
 refine ⟨_,rfl,aq pl _ ⟨rfl,.inl (aC.of el),aq _ _ ⟨rfl,rfl,_,rfl,dF (by rw[ll];omega) ?_⟩⟩⟩
 refine ⟨_,rfl,pl,rfl,⟨_,aC.of el⟩,aR (xs:=as.map V.ref) (fun i σ H'=>H=H'/\∃o2:Option V,σ= [FV pl,some (.int m),o2]) ⟨rfl,none,rfl⟩ (fun i σ H' _ h=>by rw[<-h.1];exact aC.of el) ?_ ?_⟩
 ·rintro i y σ H1 hy ⟨rfl,o2,rfl⟩;obtain ⟨t,ht,rfl⟩:=cC hy;have il:i<B2.length:=by rw[<-r.1];exact (D5.mp ht).1
  have et:=r.2 i t _ ht (D4 il);refine pd (ok _ (DO il)) fun a b _hi=>?_
  refine f9 _hi fun e a0 a1 b0 b1 ab=>?_
  rw[e] at et;refine ⟨_,rfl,aN t _ _ _ ⟨rfl,rfl,bx.of et,rfl,aq _ _ ⟨rfl,rfl,_,rfl,dT a0 ⟨_,rfl,aq _ _ ⟨rfl,rfl,_,rfl,dT a1 ⟨_,rfl,aN t _ _ _ ⟨rfl,rfl,bx.of et,rfl,aq _ _ ⟨rfl,rfl,_,rfl,dT b0 ⟨_,rfl,aq _ _ ⟨rfl,rfl,_,rfl,nF b1 ?_⟩⟩⟩⟩⟩⟩⟩⟩⟩⟩;exact ⟨_,rfl,aN t _ _ _ ⟨rfl,rfl,bx.of et,rfl,_,rfl,aN t _ _ _ ⟨rfl,rfl,bx.of et,rfl,rfl,_,rfl,C4 ab ⟨rfl,_,rfl⟩⟩⟩⟩
 ·rintro σ H1 ⟨rfl,o2,rfl⟩;exact q
theorem CJ {dV:Value} (F:bn K "__init__" "Net.__init__" BN dV f fd) (DZ1:Dx P w K mg base a8 1 "points_of" ["net"] [] (i7 on)) (DZ2:Dx P w K mg base a8 1 "copy_of_task" ["ways"] [] mD) (DZ3:Dx P w K mg base a8 2 "refuse_wrong_tools" ["tools"] [] kO) (DZ5:Dx P w K mg base a8 2 "refuse_wrong_tasks" ["tasks","tools"] [] kP) (DZ6:Dx P w K mg base a8 1 "refuse_wrong_arcs" ["arcs","points"] [] qK) (DZ7:Dx P w K mg base a8 1 "refuse_wrong_pairs" ["pairs","many"] [] kQ):bf P w K mg base a8 3 f fd ["self","tools","tasks","arcs","apart","moments"] (p9 on):=by
 have sc:aE ["self","tools","tasks","arcs","apart","moments"] ["self","tools","tasks","arcs","apart","moments"] (ar BN):=dn (by decide+kernel)
 refine F.ok sc (fun vs H Q E h=>?_) (fun cdv A outer s H vs Q E hr h=>?_)
 ·obtain ⟨_,_,_,_,_,_,_,_,_,_,_,rfl,_⟩:=h
  rfl
 refine qc h fun x dx td tl al v n D T _hi=>?_
 refine pd _hi fun A B2 _hj=>?_
 refine f9 _hj fun _r1 ex etd hT hA _hk=>?_
 refine ij _hk fun hv ok q=>?_
 clear h _hi _hj _hk;subst _r1;refine ⟨_,(ae (jE (pv 0) (bJ jK rfl B.FG jP (@aa _ _ _ _ _ (pv 1) ac rfl)) rfl) (ae (jE (pv 0) (bG (own:= "ways") (ys:= []) (js:= []) rfl (cok fT .nil (by decide) rfl rfl rfl rfl rfl rfl rfl rfl) (aF (pv 2)) (fun C fp s H=>(bL DZ2 hr (@aa _ _ _ _ _ (pv 0) ac rfl)))) rfl) (ae (jE (pv 0) (bJ bD rfl B.Fe boot_list (@aa _ _ _ _ _ (pv 3) ac rfl)) rfl) (ae (jE (pv 0) (jB (ao fu (pv 4) aZ (aD _)) (@aU _ _ _ _ ac) (bJ bD rfl B.Fe boot_list (@aa _ _ _ _ _ (pv 4) ac rfl))) rfl) (ae (jE (pv 0) (pv 5) rfl) (ae (bC (bL DZ3 hr (@aa _ _ _ _ _ (cH (pv 0) rfl) ac rfl))) (ae (bC (bL DZ5 hr (@aa _ _ _ _ _ (cH (pv 0) rfl) (@aa _ _ _ _ _ (cH (pv 0) rfl) ac rfl) rfl))) (ae (aL (cq (cG dq dq af (pv 5) (c6 rfl B.Fm))) (aj bN) aw) (ae (bC (bL DZ6 hr (@aa _ _ _ _ _ (cH (pv 0) rfl) (@aa _ _ _ _ _ (bL DZ1 hr (@aa _ _ _ _ _ (pv 0) ac rfl)) ac rfl) rfl))) (aj (bC (bL DZ7 hr (@aa _ _ _ _ _ (cH (pv 0) rfl) (@aa _ _ _ _ _ (ay av rfl B.Ev boot_len (@aa _ _ _ _ _ (cH (pv 0) rfl) ac rfl)) ac rfl) rfl))))))))))))),?_⟩
 try dsimp only[cxK]
 have sl:sizeLine=16777216:=sizeLine_eq;refine ⟨_,rfl,aq td _ ⟨rfl,etd,fun td' ntd=>?_⟩⟩
 have g1:=ag ntd (.dK (bq D));refine ⟨_,rfl,aN x _ dx _ ⟨rfl,g1 _ _ ex,B.Fb,B.Fd,by decide,?_⟩⟩
 have e1:aG (aG H td' (.dK (bq D))) x (.ins on dx (bb "tools" (.ref td') [])) x=some (.ins on dx (bb "tools" (.ref td') [])):=ah;have f1:Fx x H (aG (aG H td' (.dK (bq D))) x (.ins on dx (bb "tools" (.ref td') []))):=(Fx.of g1).trans (Fx.put x _ _);have d1:aG (aG H td' (.dK (bq D))) x (.ins on dx (bb "tools" (.ref td') [])) td'=some (.dK (bq D)):=by
  rw[aH (fun z=>by rw[z,ex] at ntd;cases ntd)]
  exact ah
 generalize aG (aG H td' (.dK (bq D))) x (.ins on dx (bb "tools" (.ref td') []))=H1 at e1 f1 d1⊢;obtain ⟨vs,el,rT⟩:=hT.fx ex f1;clear g1 ntd;refine ⟨_,rfl,tl,rfl,⟨_,aC.of el⟩,bv fj (fun a=>An a/\H1 a≠none) (fun i=>T.getD i []) (aC.of el) (by rw[rT.1];have:=ok.t24;omega) (fun a h=>h.2) (fun i y hy H3 g Q' hQ=>?_) fun p H2 np g2 hp=>?_⟩
 ·obtain ⟨ws,hw,hwl⟩:=rT.at_ hy;obtain ⟨l,rfl,_,lw⟩:=wB hwl;obtain ⟨w1,w2,w3⟩:=ok.ways ws (D6 hw);rw[aX hw] at hQ;exact ⟨_,rfl,bH l ws _ ⟨rfl,lw.same g,w2,fun p H4 g4 _ wf=>hQ _ _ g4 wf⟩⟩
 rw[i8 T [] rT.1] at hp;have hT2:=hp.any;have e2:=g2 _ _ e1;have d2:=g2 _ _ d1;have f2:Fx x H H2:=f1.trans (Fx.of g2);clear hp g2 np rT el;refine ⟨_,rfl,x,_,dx,_,rfl,e2,B.Fb,B.Fa,by
  have:=bw "tools" (.ref td') [];simp at*;omega,?_⟩
 have e3:aG H2 x (.ins on dx (bb "tasks" (.ref p) (bb "tools" (.ref td') []))) x=some (.ins on dx (bb "tasks" (.ref p) (bb "tools" (.ref td') []))):=ah;have w3:Fx x H2 (aG H2 x (.ins on dx (bb "tasks" (.ref p) (bb "tools" (.ref td') [])))):=Fx.put x H2 _;generalize aG H2 x (.ins on dx (bb "tasks" (.ref p) (bb "tools" (.ref td') [])))=H3 at e3 w3⊢;have d3:=w3 _ _ (im d2 e2 (by intro z;cases z)) d2
 have hT3:=hT2.fx e2 w3;have f3:=f2.trans w3;clear d2 hT2 f2 w3 e2 e1 d1 f1;obtain ⟨bs,eal,rA⟩:=aW.fx hA ex f3;refine ⟨_,rfl,aq al _ ⟨rfl,.inl (aC.of eal),fun al' nal=>?_⟩⟩
 have g4:=ag nal (.lst (bs.map V.ref));have hA4:aW (aG H3 al' (.lst (bs.map V.ref))) al' A:=⟨bs,ah,rA.imp fun a k q=>g4 _ _ q⟩
 have e4:=g4 _ _ e3;have d4:=g4 _ _ d3;have hT4:=hT3.same g4;have f4:=f3.trans (Fx.of g4);generalize aG H3 al' (.lst (bs.map V.ref))=H4 at hA4 e4 d4 hT4 f4⊢;clear g4 nal d3 hT3 f3 rA eal e3;refine ⟨_,rfl,x,_,dx,_,rfl,e4,B.Fb,B.Fi,by
  have:=bw "tools" (.ref td') [];have:=bw "tasks" (.ref p) (bb "tools" (.ref td') []);simp at*;omega,?_⟩
 have e5:aG H4 x (.ins on dx (bb "arcs" (.ref al') (bb "tasks" (.ref p) (bb "tools" (.ref td') [])))) x=some (.ins on dx (bb "arcs" (.ref al') (bb "tasks" (.ref p) (bb "tools" (.ref td') [])))):=ah;have w5:Fx x H4 (aG H4 x (.ins on dx (bb "arcs" (.ref al') (bb "tasks" (.ref p) (bb "tools" (.ref td') []))))):=Fx.put x H4 _;generalize aG H4 x (.ins on dx (bb "arcs" (.ref al') (bb "tasks" (.ref p) (bb "tools" (.ref td') []))))=H5 at e5 w5⊢;have d5:=w5 _ _ (im d4 e4 (by intro z;cases z)) d4
 have hT5:=hT4.fx e4 w5;have hA5:=hA4.fx e4 w5;have f5:=f4.trans w5;clear d4 hT4 hA4 f4 w5 e4;try dsimp only[cu,df]
 refine cut (fun σ H'=>∃pl':Addr,σ= [FV x,FV td,FV tl,FV al,some v,some (.int n)]/\H' x=some (.ins on dx (bb "apart" (.ref pl') (bb "arcs" (.ref al') (bb "tasks" (.ref p) (bb "tools" (.ref td') [])))))/\H' td'=some (.dK (bq D))/\bU fj An H' p T/\aW H' al' A/\aW H' pl' B2/\Fx x H H') (fun N hN=>?_) ?_
 ·have fin:∀(cs:FR) (pl':Addr),H5 pl'=none->dR (fun t k=>H5 t=some (.tup (k.map V.int))) cs B2->N [some (.ref x),some (.ref td),some (.ref tl),some (.ref al),some v,some (.int n)] (aG (aG H5 pl' (.lst (cs.map V.ref))) x (.ins on dx (bb "apart" (.ref pl') (bb "arcs" (.ref al') (bb "tasks" (.ref p) (bb "tools" (.ref td') [])))))):=fun cs pl' npl rB=>by
   have g6:=ag npl (.lst (cs.map V.ref));have hB6:aW (aG H5 pl' (.lst (cs.map V.ref))) pl' B2:=⟨cs,ah,rB.imp fun a k q=>g6 _ _ q⟩
   have e6:=g6 _ _ e5;have d6:=g6 _ _ d5;have hT6:=hT5.same g6;have hA6:=hA5.same g6;have f6:=f5.trans (Fx.of g6);generalize aG H5 pl' (.lst (cs.map V.ref))=H6 at hB6 e6 d6 hT6 hA6 f6⊢;have w7:Fx x H6 (aG H6 x (.ins on dx (bb "apart" (.ref pl') (bb "arcs" (.ref al') (bb "tasks" (.ref p) (bb "tools" (.ref td') [])))))):=Fx.put x H6 _;exact hN _ _ ⟨pl',rfl,ah,w7 _ _ (im d6 e6 (by intro z;cases z)) d6,hT6.fx e6 w7,hA6.fx e6 w7,hB6.fx e6 w7,f6.trans w7⟩
  rcases hv with ⟨rfl,rfl⟩|⟨pl,rfl,hB⟩
  ·refine ⟨_,rfl,rfl,_,rfl,dT rfl ⟨by show 0<=sizeLine;decide,fun pl' npl=>?_⟩⟩
   have l3:(bb "arcs" (.ref al') (bb "tasks" (.ref p) (bb "tools" (.ref td') []))).length<1000:=by
    have:=bw "tools" (.ref td') [];have:=bw "tasks" (.ref p) (bb "tools" (.ref td') []);have:=bw "arcs" (.ref al') (bb "tasks" (.ref p) (bb "tools" (.ref td') []));simp at*;omega
   exact ⟨_,rfl,aN x _ dx _ ⟨rfl,ag npl _ _ _ e5,B.Fb,B.Fg,l3,fin [] pl' npl dR.nil⟩⟩
  ·obtain ⟨cs,epl,rB⟩:=aW.fx hB ex f5;refine ⟨_,rfl,rfl,_,rfl,dF (by intro z;cases z) ⟨_,rfl,aq pl _ ⟨rfl,.inl (aC.of epl),fun pl' npl=>?_⟩⟩⟩
   have l3:(bb "arcs" (.ref al') (bb "tasks" (.ref p) (bb "tools" (.ref td') []))).length<1000:=by
    have:=bw "tools" (.ref td') [];have:=bw "tasks" (.ref p) (bb "tools" (.ref td') []);have:=bw "arcs" (.ref al') (bb "tasks" (.ref p) (bb "tools" (.ref td') []));simp at*;omega
   exact ⟨_,rfl,aN x _ dx _ ⟨rfl,ag npl _ _ _ e5,B.Fb,B.Fg,l3,fin cs pl' npl rB⟩⟩
 clear d5 hT5 hA5 f5 e5;intro σ H7 h_;refine eA h_ fun pl' _hi=>?_
 refine f9 _hi fun _r1 e7 d7 hT7 hA7 _hj=>?_
 refine cZ _hj fun hB7 f7=>?_
 clear h_ _hi _hj;subst _r1;have l4:(bb "apart" (.ref pl') (bb "arcs" (.ref al') (bb "tasks" (.ref p) (bb "tools" (.ref td') [])))).length<1000:=by
  have:=bw "tools" (.ref td') [];have:=bw "tasks" (.ref p) (bb "tools" (.ref td') []);have:=bw "arcs" (.ref al') (bb "tasks" (.ref p) (bb "tools" (.ref td') []));have:=bw "apart" (.ref pl') (bb "arcs" (.ref al') (bb "tasks" (.ref p) (bb "tools" (.ref td') [])));simp at*;omega
 refine ⟨_,rfl,_,rfl,aN x _ dx _ ⟨rfl,e7,B.Fb,B.Fh,l4,?_⟩⟩;have e8:aG H7 x (.ins on dx (jQ (.ref td') (.ref p) (.ref al') (.ref pl') (.int n))) x=some (.ins on dx (jQ (.ref td') (.ref p) (.ref al') (.ref pl') (.int n))):=ah;have w8:Fx x H7 (aG H7 x (.ins on dx (jQ (.ref td') (.ref p) (.ref al') (.ref pl') (.int n)))):=Fx.put x H7 _;change L2.xE _ _ _ _ (aG H7 x (.ins on dx (jQ (.ref td') (.ref p) (.ref al') (.ref pl') (.int n))));generalize aG H7 x (.ins on dx (jQ (.ref td') (.ref p) (.ref al') (.ref pl') (.int n)))=H8 at e8 w8⊢;have d8:=w8 _ _ (im d7 e7 (by intro z;cases z)) d7
 have hT8:=hT7.fx e7 w8;have hA8:=hA7.fx e7 w8;have hB8:=hB7.fx e7 w8;have f8:=f7.trans w8;clear d7 hT7 hA7 hB7 f7 w8 e7;obtain ⟨k1,k2,k3,k4,k5⟩:=wA (td:= .ref td') (tl:= .ref p) (al:= .ref al') (pl:= .ref pl') (n:= .int n);have N8:fH on false H8 x D T A B2 n:=⟨dx,td',p,al',pl',_,e8,k1,k2,k3,k4,k5,.inl d8,hT8,hA8,hB8⟩;refine ⟨_,rfl,aN x _ dx _ ⟨_,⟨rfl,e8,B.Fb,B.Fd,k1,aq td' D ⟨rfl,d8,ok.d12,ok.tool,fun H9 g9=>?_⟩⟩⟩⟩
 refine ⟨_,rfl,aN x _ dx _ ⟨_,⟨rfl,(g9 _ _ e8),B.Fb,B.Fa,k2,_,rfl,aN x _ dx _ ⟨_,⟨rfl,(g9 _ _ e8),B.Fb,B.Fd,k1,aN p td' D T ⟨rfl,hT8.same g9,g9 _ _ d8,ok.t24,ok.ways,fun H10 g10=>?_⟩⟩⟩⟩⟩⟩
 have g:=g9.trans g10;refine ⟨_,rfl,aq _ _ ⟨rfl,rfl,_,rfl,dT ok.n0 (aq _ _ ⟨rfl,rfl,_,rfl,nF ok.n8 ?_⟩)⟩⟩;refine ⟨_,rfl,aN x _ dx _ ⟨_,⟨rfl,(g _ _ e8),B.Fb,B.Fi,k3,_,rfl,eN x n false D T A ⟨B2,⟨rfl,N8.same g,bH al' _ A ⟨rfl,hA8.same g,ok.a600,ok.arcs,?_⟩⟩⟩⟩⟩⟩;obtain ⟨ps,ep8,rp8⟩:=hT8.same g;refine ⟨_,rfl,aN x _ dx _ ⟨_,⟨rfl,(g _ _ e8),B.Fb,B.Fg,k4,_,rfl,aN x _ dx _ ⟨_,⟨rfl,(g _ _ e8),B.Fb,B.Fa,k2,aq p _ ⟨rfl,.inl (aC.of ep8),bH pl' _ B2 ⟨rfl,hB8.same g,ok.b300,fun k hk=>?_,?_⟩⟩⟩⟩⟩⟩⟩
 ·rw[rp8.1];exact ok.pairs k hk
 exact q _ (f8.trans (Fx.of g)) (N8.same g)
theorem CK {dV:Value} (F:bn K "use_in" "use_in" Cz dV f fd):bf P w K mg base a8 1 f fd ["way","tool"] mE:=by
 have sc:aE ["way","tool","use"] ["way","tool"] (ar Cz):=dn (by decide+kernel)
 refine F.ok sc (fun vs H Q E h=>?_) (fun cdv A outer s H vs Q E hr h=>?_)
 ·obtain ⟨_,_,_,_,rfl,_⟩:=h
  rfl
 refine fZ h fun v z w P0 _hi=>?_
 refine eC _hi fun _r1 _r2 q1 q0=>?_
 clear h _hi;subst _r1;obtain ⟨t,u,rfl,_,_,et,us,eu,ru⟩:=_r2;refine ⟨_,(ae (aQ PassesOwn.never rfl (aF (aA aK (pv 0) af (fun _ _=>rfl))) (cM 2 sc) (aj (aL (ao b8 (aA aK (pv 2) af (fun _ _=>rfl)) (pv 1) (aD _)) (aj (au (pv 2))) aw))) (aj (au aZ))),?_⟩
 try dsimp only[cxK]
 refine ⟨_,rfl,aN t _ _ _ ⟨rfl,rfl,bx.of et,rfl,u,rfl,⟨_,aC.of eu⟩,aR (xs:=us) (fun i σ H'=>H=H'/\(∃o2:Option V,σ= [FV t,some (.str z),o2])/\∀(j:Nat) (e:Us),j<i->w.2.2[j]?=some e->e.1≠z) ⟨rfl,⟨none,rfl⟩,fun j e h=>absurd h (by omega)⟩ (fun i σ H' _ h=>by rw[<-h.1];exact aC.of eu) ?_ ?_⟩⟩
 ·rintro i y σ H1 hy ⟨rfl,⟨o2,rfl⟩,hn⟩;obtain ⟨e,he,a,rfl,pa,ea⟩:=ru.at_ hy;refine ⟨_,rfl,aN a _ _ _ ⟨rfl,rfl,bx.of ea,rfl,_,rfl,rfl,_,rfl,d2 (fun c=>?_) (fun c=>?_)⟩⟩
  ·exact ⟨_,rfl,q1 e a (mF (us:=w.2.2) he (by injection c) hn) pa ea⟩
  ·refine ⟨rfl,⟨_,rfl⟩,fun j e' hj he'=>?_⟩
   rcases Nat.lt_succ_iff_lt_or_eq.mp hj with h|h
   ·exact hn j e' h he'
   ·subst h;rw[he] at he';cases he';exact fun z=>c (by rw[z])
 ·rintro σ H1 ⟨rfl,⟨o2,rfl⟩,hn⟩;exact q0 (wC fun j e he=>hn j e (by rw[ru.1];exact (D5.mp he).1) he)
theorem Az {dV:Value} (F:bn K "are_points" "are_points" yr dV f fd) (DZ1:Dx P w K mg base a8 1 "points_of" ["net"] [] (i7 on)):bf P w K mg base a8 2 f fd ["net","some"] (fk on):=by
 have sc:aE ["net","some","point"] ["net","some"] (ar yr):=dn (by decide+kernel)
 refine F.ok sc (fun vs H Q E h=>?_) (fun cdv A outer s H vs Q E hr h=>?_)
 ·obtain ⟨_,_,_,_,_,_,_,_,_,rfl,_⟩:=h
  rfl
 refine qc h fun x l fz D T A B2 n C _hi=>?_
 refine eC _hi fun _r1 N el q=>?_
 clear h _hi;subst _r1;refine ⟨_,(ae (aQ PassesOwn.never rfl (aF (pv 1)) (cM 2 sc) (aj (aL (cq (cG dq fD af (pv 2) (bL DZ1 hr (@aa _ _ _ _ _ (pv 0) ac rfl)))) (aj (au bE)) aw))) (aj (au bE))),?_⟩;try dsimp only[cxK]
 refine ⟨_,rfl,l,rfl,⟨_,aC.of el⟩,aR (xs:=C.map V.int) (fun k σ H'=>H=H'/\(∃o2:Option V,σ= [FV x,FV l,o2])/\da (2*(T.length:Int)+n) (C.take k)=true) ⟨rfl,⟨none,rfl⟩,rfl⟩ (fun k σ H' _ h=>by rw[<-h.1];exact aC.of el) ?_ ?_⟩
 ·rintro k y σ H1 hy ⟨rfl,⟨o2,rfl⟩,hall⟩;rw[DE] at hy;obtain ⟨p,hp,rfl⟩:=DB.mp hy;have bad:(decide (0<=p)&&decide (p<2*(T.length:Int)+n))=false->da (2*(T.length:Int)+n) C=false:=fun h=>by
   unfold da;rw[<-EX,DD];intro hh;have:=hh p (D6 hp);rw[h] at this;cases this
  refine ⟨_,rfl,aq _ _ ⟨rfl,rfl,_,rfl,d2 (fun c1=>⟨_,rfl,eN x n fz D T A ⟨B2,⟨rfl,N,aq _ _ ⟨rfl,rfl,_,rfl,n2 (fun c2=>?_) (fun c2=>⟨rfl,⟨_,rfl⟩,?_⟩)⟩⟩⟩⟩) (fun c1=>⟨_,rfl,cL ?_⟩)⟩⟩
  ·rw[bad (by rw[decide_eq_false c2,EO])] at q
   exact q
  ·unfold da at hall⊢;rw[aV hp,F5,hall,EC,Eh,List.all_nil,F3,decide_eq_true c1,decide_eq_true c2]
   rfl
  ·rw[bad (by rw[decide_eq_false c1,EN])] at q
   exact q
 ·rintro σ H1 ⟨rfl,⟨o2,rfl⟩,hall⟩;rw[D3,DV] at hall;rw[hall] at q;exact q
theorem AA {dV:Value} (F:bn K "start_case" "start_case" yt dV f fd):bf P w K mg base a8 1 f fd ["net"] (qW on):=by
 have sc:aE ["net"] ["net"] (ar yt):=dn (by decide+kernel)
 refine F.ok sc (fun vs H Q E h=>?_) (fun cdv A outer s H vs Q E hr h=>?_)
 ·obtain ⟨_,_,_,_,_,_,_,rfl,_⟩:=h
  rfl
 refine fK h fun x fz D T A B2 _hi=>?_
 refine eA _hi fun n _hj=>?_
 refine eC _hj fun _r1 NG t24 q=>?_
 clear h _hi _hj;subst _r1;refine ⟨_,(aj (au (@bj _ _ _ _ _ (@aa _ _ _ _ _ (bG (own:= "ways") (ys:= []) (js:= []) rfl (cok fT .nil (by decide) rfl rfl rfl rfl rfl rfl rfl rfl) (aF (cH (pv 0) rfl)) (fun C fp s H=>aZ)) (@aa _ _ _ _ _ (@aU _ _ _ _ ac) ac rfl) rfl)))),?_⟩
 try dsimp only[cxK]
 have sl:sizeLine=16777216:=sizeLine_eq;refine fK NG.ex fun dx td tl al pl fs _hi=>?_
 refine ph _hi fun e0 l1 l2 l3 l4 l5 ed _r1 _hj=>?_
 refine cZ _hj fun hA hB=>?_
 obtain ⟨vs,el,rT⟩:=_r1;refine ⟨_,rfl,aN x _ dx _ ⟨_,⟨rfl,e0,B.Fb,B.Fa,l2,tl,rfl,⟨_,aC.of el⟩,bv (dL fM) (fun _=>False) (fun _=>(none:Option Nat)) (aC.of el) (by rw[rT.1];omega) (fun a h=>h.elim) (fun k y hy H4 g4 Q' hQ=>hQ _ _ (.refl _) rfl) fun lk H1 nlk g1 hk=>?_⟩⟩⟩
 obtain ⟨us,ek,rk'⟩:=hk;rw[rT.1] at rk';rw[rk'.val] at ek;exact ⟨by show 0<=sizeLine;decide,fun lo nlo=>⟨by show 2<=sizeLine;decide,fun t nt=>q t _ ((g1.trans (ag nlo _)).trans (ag nt _)) (aq lk lo ⟨ah,ag nt _ _ _ (ag nlo _ _ _ ek),⟨[],ag nt _ _ _ ah,dR.nil⟩⟩)⟩⟩
theorem AB {dV:Value} (F:bn K "many_in" "many_in" yu dV f fd) (DZ9:Dx P w K mg base a8 1 "use_in" ["way","tool"] [] mE):bf P w K mg base a8 2 f fd ["way","tool"] fJ:=by
 have sc:aE ["way","tool","use"] ["way","tool"] (ar yu):=dn (by decide+kernel)
 refine F.ok sc (fun vs H Q E h=>?_) (fun cdv A outer s H vs Q E hr h=>?_)
 ·obtain ⟨_,_,_,rfl,_⟩:=h
  rfl
 obtain ⟨v,z,w,rfl,rw',q⟩:=h;refine ⟨_,(ae (cJ 2 sc (bL DZ9 hr (@aa _ _ _ _ _ (pv 0) (@aa _ _ _ _ _ (pv 1) ac rfl) rfl))) (aj (au (jB (ao fu (pv 2) aZ (aD _)) af (aA aK (pv 2) af (fun _ _=>rfl)))))),?_⟩
 try dsimp only[cxK]
 refine ⟨_,rfl,_,rfl,aN v z w _ ⟨rfl,rw',fun u a hu _ ha=>?_,fun hn=>?_⟩⟩
 ·rw[oe hu] at q;exact ⟨_,rfl,rfl,_,rfl,dF nofun ⟨_,rfl,aN a _ _ _ ⟨rfl,rfl,bx.of ha,rfl,q⟩⟩⟩
 ·rw[oa hn] at q;exact ⟨_,rfl,rfl,_,rfl,dT rfl q⟩
theorem AC {dV:Value} (F:bn K "open_ways" "open_ways" yw dV f fd) (DZ2:Dx P w K mg base a8 1 "copy_of_task" ["ways"] [] mD):bf P w K mg base a8 2 f fd ["net","case","i"] (j4 on):=by
 have sc:aE ["net","case","i","ways","pick"] ["net","case","i"] (ar yw):=dn (by decide+kernel)
 refine F.ok sc (fun vs H Q E h=>?_) (fun cdv A outer s H vs Q E hr h=>?_)
 ·obtain ⟨_,_,_,rfl,_⟩:=h
  rfl
 refine ko h fun x t i _hi=>?_
 refine cZ _hi fun _r1 _hj=>?_
 refine fK _hj fun D T A B2 n P _hk=>?_
 refine eA _hk fun O _hl=>?_
 refine ij _hl fun NC il q=>?_
 clear h _hi _hj _hk _hl;subst _r1;refine ⟨_,(ae (cJ 3 sc (bL DZ2 hr (@aa _ _ _ _ _ (aA a9 (cH (pv 0) rfl) (pv 2) (fun _ _=>rfl)) ac rfl))) (ae (cJ 4 sc (aA a9 (aA aK (pv 1) af (fun _ _=>rfl)) (pv 2) (fun _ _=>rfl))) (aj (au (jB (ao fu (pv 4) aZ (aD _)) (pv 3) (@aU _ _ _ _ (@aa _ _ _ _ _ (aA a9 (pv 3) (pv 4) (fun _ _=>rfl)) ac rfl))))))),?_⟩
 try dsimp only[cxK]
 refine fK NC.net.ex fun dx td tl al pl fs _hi=>?_
 refine ph _hi fun e0 l1 l2 l3 l4 l5 ed _r1 _hj=>?_
 refine cZ _hj fun hA hB=>?_
 obtain ⟨vs,el,rT⟩:=_r1;obtain ⟨kl,ol,ec,ek,ho⟩:=id NC.case_;have hT:=D4 il;have ol':=fb (P:=P) NC.ok.ways il;obtain ⟨w1,w2,_⟩:=NC.ok.ways _ (DO il);obtain ⟨y,hy,wl,rfl,_,lw⟩:=rT.get hT;have hP:=D4 (show i<P.length by rw[NC.pk.len];exact il)
 have oF:aO T P i=match P[i]'(by rw[NC.pk.len];exact il) with|none=>T[i]|some j=> [(T[i]).getD j (0,0,[])]:=by
  unfold aO;rw[aX hT,aX hP];try rfl
 refine ⟨_,rfl,aN x _ dx _ ⟨_,⟨rfl,e0,B.Fb,B.Fa,l2,_,rfl,aN tl _ _ _ ⟨rfl,rfl,aC.of el,(a4 hy),bH wl _ _ ⟨rfl,lw,w2,fun p H1 g1 np wf=>?_⟩⟩⟩⟩⟩
 refine ⟨_,rfl,aN t _ _ _ ⟨rfl,rfl,bx.of (g1 _ _ ec),rfl,_,rfl,aN kl _ _ _ ⟨rfl,rfl,aC.of (g1 _ _ ek),(a4 (dO hP)),?_⟩⟩⟩;obtain ⟨p',e',hpn,lp⟩:=wf;cases e';have lpA:=lp.any;cases hp:P[i]'(by rw[NC.pk.len];exact il) with
 |none=>
  rw[hp] at oF;refine ⟨_,rfl,rfl,_,rfl,dT rfl ⟨_,rfl,?_⟩⟩;rw[oF] at q;exact q p H1 g1 np lpA
 |some j=>
  rw[hp] at oF hP;have jl:=NC.pk.pick i j _ hP hT;have hw:=D4 jl;replace oF:aO T P i= [(T[i]).getD j (0,0,[])]:=oF;rw[aX hw] at oF;obtain ⟨ys,ey,ry⟩:=lpA;obtain ⟨v,hv,rv⟩:=ry.get hw;refine ⟨_,rfl,rfl,_,rfl,dF nofun ⟨_,rfl,_,rfl,aN p _ _ _ ⟨rfl,rfl,aC.of ey,(a4 hv),by show 1<=sizeLine;decide,fun p2 np2=>?_⟩⟩⟩
  rw[oF] at q;exact q p2 _ (g1.trans (ag np2 _)) (g1.free np2) ⟨_,ah,A2.one (dA rv (ag np2 _))⟩
theorem AD {dV:Value} (F:bn K "want_of" "want_of" yx dV f fd) (DZ12:Dx P w K mg base a8 2 "many_in" ["way","tool"] [] fJ) (DZ13:Dx P w K mg base a8 2 "open_ways" ["net","case","i"] [] (j4 on)):bf P w K mg base a8 3 f fd ["net","case","i","tool"] (mO on gx):=by
 have sc:aE ["net","case","i","tool"] ["net","case","i","tool"] (ar yx):=dn (by decide+kernel)
 refine F.ok sc (fun vs H Q E h=>?_) (fun cdv A outer s H vs Q E hr h=>?_)
 ·obtain ⟨_,_,_,_,rfl,_⟩:=h
  rfl
 refine fZ h fun x t i z _hi=>?_
 refine cZ _hi fun _r1 _hj=>?_
 refine fK _hj fun D T A B2 n P _hk=>?_
 refine eA _hk fun O _hl=>?_
 refine ij _hl fun NC il q=>?_
 clear h _hi _hj _hk _hl;subst _r1;refine ⟨_,(aj (au (ay (cT rfl) rfl B.Fj boot_min (@aa _ _ _ _ _ (bG (own:= "way") (ys:= ["tool"]) (js:= [3]) rfl (cok (fU fT) (.cons rfl .nil) (by decide) rfl rfl rfl rfl rfl rfl rfl rfl) (aF (bL DZ13 hr (@aa _ _ _ _ _ (pv 0) (@aa _ _ _ _ _ (pv 1) (@aa _ _ _ _ _ (pv 2) ac rfl) rfl) rfl))) (fun C fp s H=>(bL DZ12 hr (@aa _ _ _ _ _ (pv 0) (@aa _ _ _ _ _ (pv 1) ac rfl) rfl)))) ac rfl)))),?_⟩
 try dsimp only[cxK]
 have sl:sizeLine=16777216:=sizeLine_eq;have ne:=gH (P:=P) NC.ok.ways il;have ln:=fb (P:=P) NC.ok.ways il;refine ⟨_,rfl,_,rfl,_,rfl,bH x t i ⟨rfl,eN D T A B2 n P ⟨O,⟨NC,il,fun p H1 g1 np ⟨vs,ev,rv⟩=>?_⟩⟩⟩⟩
 refine ⟨p,rfl,⟨_,aC.of ev⟩,bv (dL V.int) (fun _=>False) (fun k=>(fun w:Wy=>dk w z) ((aO T P i).getD k (0,0,[]))) (aC.of ev) (by rw[rv.1];omega) (fun a h=>h.elim) (fun k y hy H2 g2 Q' hQ=>?_) fun p2 H2 np2 g2 hp=>?_⟩
 ·obtain ⟨w,hw,rw'⟩:=rv.at_ hy;rw[aX hw] at hQ;exact ⟨_,rfl,_,rfl,bH y z w ⟨rfl,dA rw' g2,hQ _ _ (.refl _) rfl⟩⟩
 ·obtain ⟨us,eu,ru⟩:=hp;have eus:us=((aO T P i).map fun w:Wy=>dk w z).map V.int:=by
   rw[ru.val,rv.1]
   conv=>rhs;rw[<-br (aO T P i) (0,0,[])]
   rw[DJ,DJ,DJ]
   rfl
  rw[eus] at eu;refine (aq p2 _ ⟨rfl,aC.of eu,by simpa using ne,fun M hM hle=>?_⟩)
  rw[dP hM hle];exact q _ (g1.trans g2)
theorem AE {dV:Value} (F:bn K "work_of" "work_of" yy dV f fd) (DZ12:Dx P w K mg base a8 2 "many_in" ["way","tool"] [] fJ) (DZ13:Dx P w K mg base a8 2 "open_ways" ["net","case","i"] [] (j4 on)):bf P w K mg base a8 3 f fd ["net","case","i","tool"] (mO on dI):=by
 have sc:aE ["net","case","i","tool"] ["net","case","i","tool"] (ar yy):=dn (by decide+kernel)
 refine F.ok sc (fun vs H Q E h=>?_) (fun cdv A outer s H vs Q E hr h=>?_)
 ·obtain ⟨_,_,_,_,rfl,_⟩:=h
  rfl
 refine fZ h fun x t i z _hi=>?_
 refine cZ _hi fun _r1 _hj=>?_
 refine fK _hj fun D T A B2 n P _hk=>?_
 refine eA _hk fun O _hl=>?_
 refine ij _hl fun NC il q=>?_
 clear h _hi _hj _hk _hl;subst _r1;refine ⟨_,(aj (au (ay (cT rfl) rfl B.Fj boot_min (@aa _ _ _ _ _ (bG (own:= "way") (ys:= ["tool"]) (js:= [3]) rfl (cok (fU fT) (.cons rfl .nil) (by decide) rfl rfl rfl rfl rfl rfl rfl rfl) (aF (bL DZ13 hr (@aa _ _ _ _ _ (pv 0) (@aa _ _ _ _ _ (pv 1) (@aa _ _ _ _ _ (pv 2) ac rfl) rfl) rfl))) (fun C fp s H=>(am aY (aA (bu (K:=K) rfl) (pv 0) af (fun _ _=>rfl)) (bL DZ12 hr (@aa _ _ _ _ _ (pv 0) (@aa _ _ _ _ _ (pv 1) ac rfl) rfl))))) ac rfl)))),?_⟩
 try dsimp only[cxK]
 have sl:sizeLine=16777216:=sizeLine_eq;have ne:=gH (P:=P) NC.ok.ways il;have ln:=fb (P:=P) NC.ok.ways il;refine ⟨_,rfl,_,rfl,_,rfl,bH x t i ⟨rfl,eN D T A B2 n P ⟨O,⟨NC,il,fun p H1 g1 np ⟨vs,ev,rv⟩=>?_⟩⟩⟩⟩
 refine ⟨p,rfl,⟨_,aC.of ev⟩,bv (dL V.int) (fun _=>False) (fun k=>(fun w:Wy=>w.1*dk w z) ((aO T P i).getD k (0,0,[]))) (aC.of ev) (by rw[rv.1];omega) (fun a h=>h.elim) (fun k y hy H2 g2 Q' hQ=>?_) fun p2 H2 np2 g2 hp=>?_⟩
 ·obtain ⟨w,hw,rw'⟩:=rv.at_ hy;rw[aX hw] at hQ;obtain ⟨tw,uw,rfl,pa,pb,etw,lw⟩:=id rw';have w1:1<=w.1/\w.1<=1000000000:=by
   obtain ⟨ws,hws,hww⟩:=jy NC.ok.ways NC.pk il w (D6 hw);obtain ⟨a1,a2,a3,_⟩:=(NC.ok.ways ws hws).2.2 w hww;omega
  exact ⟨_,rfl,aN tw _ _ _ ⟨rfl,rfl,bx.of (g2 _ _ etw),rfl,_,rfl,_,rfl,bH (.ref tw) z w ⟨rfl,dA rw' g2,aq _ _ ⟨rfl,rfl,IntMulOk.of_left (intBits_le_64 (by omega) (by omega)),hQ _ _ (.refl _) rfl⟩⟩⟩⟩
 ·obtain ⟨us,eu,ru⟩:=hp;have eus:us=((aO T P i).map fun w:Wy=>w.1*dk w z).map V.int:=by
   rw[ru.val,rv.1]
   conv=>rhs;rw[<-br (aO T P i) (0,0,[])]
   rw[DJ,DJ,DJ]
   rfl
  rw[eus] at eu;refine (aq p2 _ ⟨rfl,aC.of eu,by simpa using ne,fun M hM hle=>?_⟩)
  rw[dP hM hle];exact q _ (g1.trans g2)
theorem AF {dV:Value} (F:bn K "heats_differ" "heats_differ" yz dV f fd) (DZ9:Dx P w K mg base a8 1 "use_in" ["way","tool"] [] mE):bf P w K mg base a8 2 f fd ["one","other"] oh:=by
 have sc:aE ["one","other","tool","many","heat","use"] ["one","other"] (ar yz):=dn (by decide+kernel)
 refine F.ok sc (fun vs H Q E h=>?_) (fun cdv A outer s H vs Q E hr h=>?_)
 ·obtain ⟨_,_,_,_,rfl,_⟩:=h
  rfl
 refine fZ h fun v v' w w' _hi=>?_
 refine eC _hi fun _r1 _r2 rw' q=>?_
 clear h _hi;subst _r1;obtain ⟨t,u,rfl,_,_,et,us,eu,ru⟩:=_r2;refine ⟨_,(ae (aQ PassesOwn.never rfl (aF (aA aK (pv 0) af (fun _ _=>rfl))) (cV rfl (aI (cM 2 sc) (aI (cM 3 sc) (aI (cM 4 sc) bX)))) (ae (cJ 5 sc (bL DZ9 hr (@aa _ _ _ _ _ (pv 1) (@aa _ _ _ _ _ (pv 2) ac rfl) rfl))) (aj (aL (PW.pt (cF (ao fg (pv 5) aZ (aD _)) (bW (ao eT (aA aK (pv 5) af (fun _ _=>rfl)) (pv 4) (aD _))))) (aj (au bE)) aw)))) (aj (au bE))),?_⟩
 try dsimp only[cxK]
 refine ⟨_,rfl,aN t _ _ _ ⟨rfl,rfl,bx.of et,rfl,u,rfl,⟨_,aC.of eu⟩,aR (xs:=us) (fun i σ H'=>H=H'/\(∃o2 o3 o4 o5:Option V,σ= [FV t,some v',o2,o3,o4,o5])/\(w.2.2.take i).any (fun u=>match qa w' u.1 with|some x=> !decide (x.2.2=u.2.2)|none=>false)=false) ⟨rfl,(aN none none none none rfl),rfl⟩ (fun i σ H' _ h=>by rw[<-h.1];exact aC.of eu) ?_ ?_⟩⟩
 ·rintro i y σ H1 hy ⟨rfl,⟨o2,o3,o4,o5,rfl⟩,hn⟩;obtain ⟨e,he,a,rfl,_,ea⟩:=ru.at_ hy;have tk:w.2.2.take (i+1)=w.2.2.take i++ [e]:=aV he;refine (aq a _ ⟨rfl,bx.of ea,rfl,aq _ _ ⟨rfl,aq _ _ ⟨rfl,aq _ _ ⟨rfl,rfl,?_⟩⟩⟩⟩);have no:(match qa w' e.1 with|some x=> !decide (x.2.2=e.2.2)|none=>false)=false->(w.2.2.take (i+1)).any (fun u=>match qa w' u.1 with|some x=> !decide (x.2.2=u.2.2)|none=>false)=false:=fun h=>by
   rw[tk,ER,hn,Du,EB,Ew,Eb];exact h
  refine ⟨_,rfl,_,rfl,aN v' e.1 w' _ ⟨rfl,rw',fun x b hx _ hb=>?_,fun hx=>?_⟩⟩
  ·refine ⟨_,rfl,rfl,_,rfl,nT nofun ⟨_,rfl,aN b _ _ _ ⟨rfl,rfl,bx.of hb,rfl,_,rfl,rfl,_,rfl,xp (fun c=>?_) (fun c=>?_)⟩⟩⟩
   ·have:bZ w w'=true:=by
     unfold bZ;rw[Di];exact ⟨e,D6 he,by rw[hx];simp[c]⟩
    rw[this] at q;exact q
   ·exact ⟨rfl,(aN _ _ _ _ rfl),no (by rw[hx];simp[c])⟩
  ·exact ⟨_,rfl,rfl,_,rfl,nF rfl ⟨rfl,(aN _ _ _ _ rfl),no (by rw[hx])⟩⟩
 ·rintro σ H1 ⟨rfl,⟨o2,o3,o4,o5,rfl⟩,hn⟩;rw[ru.1,DV] at hn;have:bZ w w'=false:=hn;rw[this] at q;exact q
theorem AG {dV:Value} (F:bn K "unlike_heats" "unlike_heats" yA dV f fd) (DZ13:Dx P w K mg base a8 2 "open_ways" ["net","case","i"] [] (j4 on)) (DZ16:Dx P w K mg base a8 2 "heats_differ" ["one","other"] [] oh):bf P w K mg base a8 3 f fd ["net","case","i","j"] (oj on):=by
 have sc:aE ["net","case","i","j","one","other"] ["net","case","i","j"] (ar yA):=dn (by decide+kernel)
 refine F.ok sc (fun vs H Q E h=>?_) (fun cdv A outer s H vs Q E hr h=>?_)
 ·obtain ⟨_,_,_,_,rfl,_⟩:=h
  rfl
 refine fZ h fun x t i j _hi=>?_
 refine cZ _hi fun _r1 _hj=>?_
 refine fK _hj fun D T A B2 n P _hk=>?_
 refine eA _hk fun O _hl=>?_
 refine eC _hl fun NC il jl q=>?_
 clear h _hi _hj _hk _hl;subst _r1;refine ⟨_,(ae (aQ PassesOwn.never rfl (aF (bL DZ13 hr (@aa _ _ _ _ _ (pv 0) (@aa _ _ _ _ _ (pv 1) (@aa _ _ _ _ _ (pv 2) ac rfl) rfl) rfl))) (cM 4 sc) (aj (aQ PassesOwn.never rfl (aF (bL DZ13 hr (@aa _ _ _ _ _ (pv 0) (@aa _ _ _ _ _ (pv 1) (@aa _ _ _ _ _ (pv 3) ac rfl) rfl) rfl))) (cM 5 sc) (aj (aL (cq (dj (bL DZ16 hr (@aa _ _ _ _ _ (pv 4) (@aa _ _ _ _ _ (pv 5) ac rfl) rfl)))) (aj (au bE)) aw))))) (aj (au bE))),?_⟩;try dsimp only[cxK]
 refine ⟨_,rfl,_,rfl,_,rfl,bH x t i ⟨rfl,eN D T A B2 n P ⟨O,⟨NC,il,fun p H1 g1 np ⟨vs,ev,rv⟩=>?_⟩⟩⟩⟩
 refine ⟨p,rfl,⟨_,aC.of ev⟩,aR (xs:=vs) (fun k σ H'=>aB H1 H'/\(∃o4 o5:Option V,σ= [FV x,FV t,some (.int (i:Int)),some (.int (j:Int)),o4,o5])/\((aO T P i).take k).all (fun v=>(aO T P j).all fun w=>bZ v w)=true) ⟨.refl _,(aq none none rfl),rfl⟩ (fun k σ H' _ h=>aC.of (h.1 _ _ ev)) ?_ ?_⟩
 ·rintro k y σ H2 hy ⟨g2,⟨o4,o5,rfl⟩,hall⟩;obtain ⟨v,hv,rv'⟩:=rv.at_ hy;have kk:=g1.trans g2;refine ⟨_,rfl,_,rfl,_,rfl,bH x t j ⟨rfl,eN D T A B2 n P ⟨O,⟨NC.same kk,jl,fun p3 H3 g3 np3 ⟨us,eu,ru⟩=>?_⟩⟩⟩⟩
  refine ⟨p3,rfl,⟨_,aC.of eu⟩,aR (xs:=us) (fun m σ H'=>H3=H'/\(∃o5:Option V,σ= [FV x,FV t,some (.int (i:Int)),some (.int (j:Int)),some y,o5])/\((aO T P j).take m).all (fun w=>bZ v w)=true) ⟨rfl,⟨_,rfl⟩,rfl⟩ (fun m σ H' _ h=>by rw[<-h.1];exact aC.of eu) ?_ ?_⟩
  ·rintro m y2 σ H4 hy2 ⟨rfl,⟨o5,rfl⟩,hm⟩;obtain ⟨w,hw,rw'⟩:=ru.at_ hy2;refine ⟨_,rfl,_,rfl,aN y y2 v w ⟨rfl,dA rv' (g2.trans g3),rw',_,rfl,?_⟩⟩;cases hd:bZ v w with
   |true=>
    refine cP ⟨rfl,⟨_,rfl⟩,?_⟩;rw[aV hw,F5,hm,EC,Eh,List.all_nil,F3];exact hd
   |false=>
    have:bQ T P i j=false:=by
     unfold bQ;rw[<-EX,DD];intro h;have h2:=h v (D6 hv);rw[DD] at h2;have:=h2 w (D6 hw);rw[hd] at this;cases this
    rw[this] at q;exact cL (q _ (kk.trans g3))
  ·rintro σ H4 ⟨rfl,⟨o5,rfl⟩,hm⟩;rw[ru.1,DV] at hm;refine ⟨g2.trans g3,(aq _ _ rfl),?_⟩;rw[aV hv,F5,hall,EC,Eh,List.all_nil,F3];exact hm
 ·rintro σ H2 ⟨g2,⟨o4,o5,rfl⟩,hall⟩;rw[rv.1,DV] at hall;have:bQ T P i j=true:=hall;rw[this] at q;exact q _ (g1.trans g2)
theorem AH {dV:Value} (F:bn K "arcs_of" "arcs_of" yB dV f fd) (DZ13:Dx P w K mg base a8 2 "open_ways" ["net","case","i"] [] (j4 on)):bf P w K mg base a8 3 f fd ["net","case"] (iJ on):=by
 have sc:aE ["net","case","arcs","i","ways","j"] ["net","case"] (ar yB):=dn (by decide+kernel)
 refine F.ok sc (fun vs H Q E h=>?_) (fun cdv A outer s H vs Q E hr h=>?_)
 ·obtain ⟨_,_,rfl,_⟩:=h
  rfl
 refine pd h fun x t _hi=>?_
 refine cZ _hi fun _r1 _hj=>?_
 refine fK _hj fun D T A B2 n P _hk=>?_
 refine eA _hk fun O _hl=>?_
 refine ij _hl fun NC po q=>?_
 clear h _hi _hj _hk _hl;subst _r1;refine ⟨_,(ae (cJ 2 sc (bJ bD rfl B.Fe boot_list (@aa _ _ _ _ _ (cH (pv 0) rfl) ac rfl))) (ae (aQ PassesOwn.never rfl (b9 rfl B.Fc (@aa _ _ _ _ _ (ay av rfl B.Ev boot_len (@aa _ _ _ _ _ (cH (pv 0) rfl) ac rfl)) ac rfl)) (cM 3 sc) (ae (cJ 4 sc (bL DZ13 hr (@aa _ _ _ _ _ (pv 0) (@aa _ _ _ _ _ (pv 1) (@aa _ _ _ _ _ (pv 3) ac rfl) rfl) rfl))) (ae (bC (dt DK DU DT a6 (pv 2) (@aa _ _ _ _ _ (@bj _ _ _ _ _ (@aa _ _ _ _ _ (am aY af (pv 3)) (@aa _ _ _ _ _ (am a7 (am aY af (pv 3)) af) (@aa _ _ _ _ _ (ay (cT rfl) rfl B.Fj boot_min (@aa _ _ _ _ _ (bG (own:= "way") (ys:= []) (js:= []) rfl (cok fT .nil (by decide) rfl rfl rfl rfl rfl rfl rfl rfl) (aF (pv 4)) (fun C fp s H=>(aA (bu (K:=K) rfl) (pv 0) af (fun _ _=>rfl)))) ac rfl)) ac rfl) rfl) rfl)) ac rfl))) (aj (bC (dt DK DU DT a6 (pv 2) (@aa _ _ _ _ _ (@bj _ _ _ _ _ (@aa _ _ _ _ _ (am a7 (am aY af (pv 3)) af) (@aa _ _ _ _ _ (am aY af (pv 3)) (@aa _ _ _ _ _ (jD gY (ay (iS rfl) rfl B.FB boot_max (@aa _ _ _ _ _ (bG (own:= "way") (ys:= []) (js:= []) rfl (cok fT .nil (by decide) rfl rfl rfl rfl rfl rfl rfl rfl) (aF (pv 4)) (fun C fp s H=>(aA (bu (K:=K) rfl) (pv 0) af (fun _ _=>rfl)))) ac rfl))) ac rfl) rfl) rfl)) ac rfl))))))) (ae (aQ PassesOwn.never rfl (aF (aA aK (pv 1) af (fun _ _=>rfl))) (cV rfl (aI (cM 3 sc) (aI (cM 5 sc) bX))) (aj (bC (dt DK DU DT a6 (pv 2) (@aa _ _ _ _ _ (@bj _ _ _ _ _ (@aa _ _ _ _ _ (am a7 (am aY af (pv 3)) af) (@aa _ _ _ _ _ (am aY af (pv 5)) (@aa _ _ _ _ _ af ac rfl) rfl) rfl)) ac rfl))))) (aj (au (pv 2)))))),?_⟩
 try dsimp only[cxK]
 have sl:sizeLine=16777216:=sizeLine_eq;refine fK NC.net.ex fun dx td tl al pl fs _hi=>?_
 refine ph _hi fun e0 l1 l2 l3 l4 l5 ed _r1 _hj=>?_
 refine cZ _hj fun _r2 hB=>?_
 obtain ⟨vs,el,rT⟩:=_r1;obtain ⟨ba,ea,ra⟩:=_r2;obtain ⟨kl,ol,ec,ek,⟨bo,eo,ro⟩⟩:=id NC.case_;have a600:=NC.ok.a600;have t24:=NC.ok.t24;have lv:vs.length=T.length:=rT.1;refine ⟨_,rfl,aN x _ dx _ ⟨_,⟨rfl,e0,B.Fb,B.Fi,l3,aq al _ ⟨rfl,.inl (aC.of ea),fun l nl=>?_⟩⟩⟩⟩
 have g0:=ag nl (.lst (ba.map V.ref));have hA0:aW (aG H l (.lst (ba.map V.ref))) l (A++bI T P 0):=⟨ba,ah,by rw[show A++bI T P 0=A from EQ A];exact ra.imp fun a k q=>g0 _ _ q⟩
 generalize aG H l (.lst (ba.map V.ref))=H0 at g0 hA0⊢;try dsimp only[cu,df]
 refine cut (fun σ H'=>∃o3 o4 o5:Option V,σ= [FV x,FV t,FV l,o3,o4,o5]/\aB H H'/\aW H' l (A++bI T P T.length)) (fun N hN=>?_) ?_
 ·refine ⟨_,rfl,aN x _ dx _ ⟨_,⟨rfl,(g0 _ _ e0),B.Fb,B.Fa,l2,aq tl _ ⟨rfl,.inl (aC.of (g0 _ _ el)),_,rfl,by omega,by omega,ca (fun i σ H'=>∃o3 o4 o5:Option V,σ= [FV x,FV t,FV l,o3,o4,o5]/\aB H H'/\aW H' l (A++bI T P i)) (bH none none none ⟨rfl,g0,hA0⟩) ?_ ?_⟩⟩⟩⟩
  ·rintro i σ H1 hi ⟨o3,o4,o5,rfl,g1,⟨bs,eb,rb⟩⟩;rw[DQ,lv] at hi;have zi:(0+(i:Int))=(i:Int):=Ef _;have ne:=gH (P:=P) NC.ok.ways hi;have ln:=fb (P:=P) NC.ok.ways hi;have lb:bs.length=A.length+2*i:=by rw[rb.1,D8,cU]
   refine ⟨_,rfl,_,rfl,_,rfl,bH x t i ⟨by rw[zi];rfl,eN D T A B2 n P ⟨O,⟨NC.same g1,hi,fun p H2 g2 np ⟨vs,ev,rv⟩=>?_⟩⟩⟩⟩
   refine ⟨_,rfl,.inl ⟨rfl,_,aC.of (g2 _ _ eb)⟩,_,rfl,aq _ _ ⟨rfl,rfl,IntMulOk.of_left (by decide),_,rfl,aq _ _ ⟨rfl,rfl,IntMulOk.of_left (by decide),aq _ _ ⟨rfl,rfl,_,rfl,p,rfl,⟨_,aC.of ev⟩,bv (dL V.int) (fun _=>False) (fun k=>(fun w:Wy=>w.1) ((aO T P i).getD k (0,0,[]))) (aC.of ev) (by rw[rv.1];omega) (fun a h=>h.elim) (fun k y hy Hk gk Q' hQ=>?_) fun p2 H3 np2 g3 hp2=>?_⟩⟩⟩⟩
   ·refine eA (rv.at_ hy) fun w _hi=>?_
    refine cZ _hi fun hw _hj=>?_
    refine pd _hj fun tw uw _hk=>?_
    refine eC _hk fun _r1 _ _ _hl=>?_
    refine cZ _hl fun etw _=>?_
    clear _hi _hj _hk _hl;subst _r1;rw[aX hw] at hQ;exact ⟨_,rfl,aN tw _ _ _ ⟨rfl,rfl,bx.of (gk _ _ etw),rfl,hQ _ _ (.refl _) rfl⟩⟩
   obtain ⟨us,eu,ru⟩:=hp2;have eus:us=((aO T P i).map fun w:Wy=>w.1).map V.int:=by
    rw[ru.val,rv.1]
    conv=>rhs;rw[<-br (aO T P i) (0,0,[])]
    rw[DJ,DJ,DJ]
    rfl
   rw[eus] at eu;refine (aq p2 _ ⟨rfl,aC.of eu,by simpa using ne,fun M hM hle=>⟨by show 3<=sizeLine;decide,fun t1 nt1=>(bH l _ _ ⟨rfl,rfl,ag nt1 _ _ _ ((g2.trans g3) _ _ eb),by rw[D3];omega,?_⟩)⟩⟩)
   rw[zi,dP hM hle];obtain ⟨m1,hm1⟩:∃m1,m1=eZ ((aO T P i).map fun w:Wy=>w.1):=⟨_,rfl⟩
   rw[<-hm1];have gt1:=ag nt1 (.tup [.int (2*(i:Int)),.int (2*(i:Int)+1),.int m1]);have k4:=((g1.trans g2).trans g3).trans gt1;have q4:=(g2.trans g3).trans gt1;have hA4:=gv (k:= [2*(i:Int),2*(i:Int)+1,m1]) (q4 _ _ eb) (rb.imp fun a k q=>q4 _ _ q) ah
   have k5:=du k4 nl (.lst (bs.map V.ref++ [.ref t1]));have ev5:aG (aG H3 t1 (.tup [.int (2*(i:Int)),.int (2*(i:Int)+1),.int m1])) l (.lst (bs.map V.ref++ [.ref t1])) p=some (.lst vs):=by
    rw[aH (fun e=>by rw[e,eb] at np;cases np)]
    exact (g3.trans gt1) _ _ ev
   have tw5:∀tw ys,H2 tw=some (.tup ys)->aG (aG H3 t1 (.tup [.int (2*(i:Int)),.int (2*(i:Int)+1),.int m1])) l (.lst (bs.map V.ref++ [.ref t1])) tw=some (.tup ys):=fun tw ys e=>by
    rw[aH (fun z=>by rw[z,g2 _ _ eb] at e;cases e)]
    exact (g3.trans gt1) _ _ e
   generalize aG (aG H3 t1 (.tup [.int (2*(i:Int)),.int (2*(i:Int)+1),.int m1])) l (.lst (bs.map V.ref++ [.ref t1]))=H5 at hA4 k5 ev5 tw5⊢;clear eu eus ru us gt1 k4 q4 nt1 g3 np2;obtain ⟨cs,ecs,rcs⟩:=hA4;have lc:cs.length=A.length+2*i+1:=by rw[rcs.1,D8,D8,cU];rfl
   refine ⟨_,rfl,.inl ⟨rfl,_,aC.of ecs⟩,_,rfl,aq _ _ ⟨rfl,rfl,IntMulOk.of_left (by decide),aq _ _ ⟨rfl,rfl,_,rfl,aq _ _ ⟨rfl,rfl,IntMulOk.of_left (by decide),_,rfl,p,rfl,⟨_,aC.of ev5⟩,bv (dL V.int) (fun _=>False) (fun k=>(fun w:Wy=>w.2.1) ((aO T P i).getD k (0,0,[]))) (aC.of ev5) (by rw[rv.1];omega) (fun a h=>h.elim) (fun k y hy Hk gk Q' hQ=>?_) fun p3 H6 np3 g6 hp3=>?_⟩⟩⟩⟩
   ·refine eA (rv.at_ hy) fun w _hi=>?_
    refine cZ _hi fun hw _hj=>?_
    refine pd _hj fun tw uw _hk=>?_
    refine eC _hk fun _r1 _ _ _hl=>?_
    refine cZ _hl fun etw _=>?_
    clear _hi _hj _hk _hl;subst _r1;rw[aX hw] at hQ;exact ⟨_,rfl,aN tw _ _ _ ⟨rfl,rfl,bx.of (gk _ _ (tw5 _ _ etw)),rfl,hQ _ _ (.refl _) rfl⟩⟩
   obtain ⟨us,eu,ru⟩:=hp3;have eus:us=((aO T P i).map fun w:Wy=>w.2.1).map V.int:=by
    rw[ru.val,rv.1]
    conv=>rhs;rw[<-br (aO T P i) (0,0,[])]
    rw[DJ,DJ,DJ]
    rfl
   rw[eus] at eu;refine (aq p3 _ ⟨rfl,aC.of eu,by simpa using ne,fun M2 hM2 hle2=>⟨_,rfl,by show 3<=sizeLine;decide,fun t2 nt2=>(bH l _ _ ⟨rfl,rfl,ag nt2 _ _ _ (g6 _ _ ecs),by rw[D3];omega,?_⟩)⟩⟩)
   rw[qX hM2 hle2];have gt2:=ag nt2 (.tup [.int (2*(i:Int)+1),.int (2*(i:Int)),.int (-(ie ((aO T P i).map fun w:Wy=>w.2.1)))])
   have hA7:=gv (k:= [2*(i:Int)+1,2*(i:Int),-(ie ((aO T P i).map fun w:Wy=>w.2.1))]) ((g6.trans gt2) _ _ ecs) (rcs.imp fun a k q=>(g6.trans gt2) _ _ q) ah
   refine (bH _ _ _ ⟨rfl,du ((k5.trans g6).trans gt2) nl _,?_⟩);have e:A++bI T P (i+1)=A++bI T P i++ [[2*(i:Int),2*(i:Int)+1,m1]]++ [[2*(i:Int)+1,2*(i:Int),-(ie ((aO T P i).map fun w:Wy=>w.2.1))]]:=by
    rw[hm1];show A++(bI T P i++_)=_;rw[Dz,Dz]
    rfl
   rw[e];exact hA7
  ·rintro σ H1 ⟨o3,o4,o5,rfl,g1,hA⟩;rw[DQ,lv] at hA;exact hN _ _ (bH _ _ _ ⟨rfl,g1,hA⟩)
 clear hA0 g0;rintro σ H1 ⟨o3,o4,o5,rfl,g1,hA⟩;refine ⟨_,rfl,aN t _ _ _ ⟨rfl,rfl,bx.of (g1 _ _ ec),rfl,ol,rfl,⟨_,aC.of (g1 _ _ eo)⟩,aR (xs:=bo.map V.ref) (fun k σ H'=>∃o3 o4 o5:Option V,σ= [FV x,FV t,FV l,o3,o4,o5]/\aB H H'/\aW H' l (A++bI T P T.length++gb (O.take k))) (bH _ _ _ ⟨rfl,g1,by rw[List.take_zero];exact (EQ _).symm▸hA⟩) (fun k σ H' _ h=>by obtain ⟨_,_,_,_,g,_⟩:=h;exact aC.of (g _ _ eo)) ?_ ?_⟩⟩
 ·rintro k y σ H2 hy ⟨o3,o4,o5,rfl,g2,⟨bs,eb,rb⟩⟩;obtain ⟨b,hb,rfl⟩:=cC hy;have kl:k<O.length:=by rw[<-ro.1];exact (D5.mp hb).1
  have hk:=D4 kl;have eb':=ro.2 k b _ hb hk;obtain ⟨p,q',ek'⟩:=po.2 _ (DO kl);rw[ek'] at eb' hk;have lb:bs.length<=2000:=by
   have:=rb.1;have h1:=po.1;rw[D8,D8,cU] at this;unfold gb at this;rw[D3,Ds] at this;omega
  refine (aq b _ ⟨rfl,bx.of (g2 _ _ eb'),rfl,aq _ _ ⟨rfl,aq _ _ ⟨rfl,rfl,?_⟩⟩⟩);refine ⟨_,rfl,.inl ⟨rfl,_,aC.of eb⟩,_,rfl,aq _ _ ⟨rfl,rfl,IntMulOk.of_left (by decide),aq _ _ ⟨rfl,rfl,_,rfl,aq _ _ ⟨rfl,rfl,IntMulOk.of_left (by decide),by show 3<=sizeLine;decide,fun t1 nt1=>(bH l _ _ ⟨rfl,rfl,ag nt1 _ _ _ eb,by rw[D3];omega,?_⟩)⟩⟩⟩⟩
  have gt:=ag nt1 (.tup [.int (2*p+1),.int (2*q'),.int 0]);refine (bH _ _ _ ⟨rfl,du (g2.trans gt) nl _,?_⟩);have e:gb (O.take (k+1))=gb (O.take k)++ [[2*p+1,2*q',0]]:=by
   unfold gb;rw[aV hk,DS]
   rfl
  rw[e,<-Dz];exact gv (gt _ _ eb) (rb.imp fun a k q=>gt _ _ q) ah
 ·rintro σ H2 ⟨o3,o4,o5,rfl,g2,hA2⟩;have lo:(bo.map V.ref).length=O.length:=by rw[D3,ro.1]
  rw[lo,DV] at hA2;exact ⟨_,rfl,q l H2 g2 nl hA2⟩
theorem AI {dV:Value} (F:bn K "greatest_lags" "greatest_lags" yC dV f fd):bf P w K mg base a8 1 f fd ["arcs"] mK:=by
 have sc:aE ["arcs","lags","p","q","lag"] ["arcs"] (ar yC):=dn (by decide+kernel)
 refine F.ok sc (fun vs H Q E h=>?_) (fun cdv A outer s H vs Q E hr h=>?_)
 ·obtain ⟨_,_,rfl,_⟩:=h
  rfl
 obtain ⟨l,A,rfl,⟨as,el,rA⟩,l7,q⟩:=h;refine ⟨_,(ae (cJ 1 sc ui) (ae (aQ PassesOwn.never rfl (aF (pv 0)) (cV rfl (aI (cM 2 sc) (aI (cM 3 sc) (aI (cM 4 sc) bX)))) (aj (v5 (gn hr) (pv 1) (@bj _ _ _ _ _ (@aa _ _ _ _ _ (pv 2) (@aa _ _ _ _ _ (pv 3) ac rfl) rfl)) (ay (r8 rfl) rfl B.FB boot_max (@aa _ _ _ _ _ (pv 4) (@aa _ _ _ _ _ (uj (gn hr) (pv 1) (@bj _ _ _ _ _ (@aa _ _ _ _ _ (pv 2) (@aa _ _ _ _ _ (pv 3) ac rfl) rfl)) (pv 4) ⟨rfl,rfl,rfl,rfl⟩) ac rfl) rfl)) rfl))) (aj (au (pv 1))))),?_⟩;try dsimp only[cxK]
 have sl:sizeLine=16777216:=sizeLine_eq;have la:(as.map V.ref).length=A.length:=by rw[D3,rA.1,D3]
 refine fun d nd=>?_
 have g0:=ag nd (.dT []);refine ⟨_,rfl,l,rfl,⟨_,aC.of (g0 _ _ el)⟩,aR (xs:=as.map V.ref) (fun i σ H'=>∃o2 o3 o4:Option V,σ= [FV l,FV d,o2,o3,o4]/\aB H H'/\∃kvs,H' d=some (.dT kvs)/\kvs.length<=i/\sW kvs (A.take i)) (bH none none none ⟨rfl,g0,[],ah,D9 _,fun p q=>rfl⟩) (fun i σ H' _ ⟨_,_,_,_,g,_⟩=>aC.of (g _ _ el)) ?_ ?_⟩
 ·intro i y σ H1 hy h_;refine ko h_ fun o2 o3 o4 _hi=>?_
  refine ij _hi fun _r1 g1 _hj=>?_
  refine eA _hj fun kvs _hk=>?_
  refine ij _hk fun ed lk vk=>?_
  clear h_ _hi _hj _hk;subst _r1;obtain ⟨b,hb,rfl⟩:=cC hy;obtain ⟨r,hr',eb⟩:=pX rA hb;have ir:=(D5.mp hr').1;refine (aq b _ ⟨rfl,bx.of (g1 _ _ eb),rfl,aq _ _ ⟨rfl,aq _ _ ⟨rfl,aq _ _ ⟨rfl,rfl,?_⟩⟩⟩⟩);refine ⟨_,rfl,_,rfl,d,rfl,.inr ⟨_,.inl ed⟩,_,rfl,_,rfl,by show 2<=sizeLine;decide,fun t1 n1=>⟨_,rfl,_,iy.t (k:= [.inl r.1,.inl r.2.1]) (ag n1 _ _ _ ed) ah,?_⟩⟩
  rw[vk,wJ];refine (aq _ _ ⟨rfl,_,rfl,_,rfl,_,rfl,by show 2<=sizeLine;decide,fun t2 n2=>(aq d _ ⟨rfl,ue.t (k:= [.inl r.1,.inl r.2.1]) (ag n2 _ _ _ (ag n1 _ _ _ ed)) ah (by omega),?_⟩)⟩)
  exact (bH _ _ _ ⟨rfl,du ((g1.trans (ag n1 _)).trans (ag n2 _)) nd _,_,ah,EF (fh _ _ _) (by omega),vk.put hr'⟩)
 ·intro σ H1 h_;refine ko h_ fun o2 o3 o4 _hi=>?_
  refine ij _hi fun _r1 g1 _hj=>?_
  refine eA _hj fun kvs _hk=>?_
  refine ij _hk fun ed lk vk=>?_
  clear h_ _hi _hj _hk;subst _r1;rw[la,DV] at vk;exact ⟨_,rfl,q d kvs _ g1 nd ed vk⟩
theorem AJ {dV:Value} (F:bn K "total_by" "total_by" yD dV f fd):bf P w K mg base a8 1 f fd ["lags","chain"] mR:=by
 have sc:aE ["lags","chain","total","p","q"] ["lags","chain"] (ar yD):=dn (by decide+kernel)
 refine F.ok sc (fun vs H Q E h=>?_) (fun cdv A outer s H vs Q E hr h=>?_)
 ·obtain ⟨_,_,_,_,_,rfl,_⟩:=h
  rfl
 refine fZ h fun d c A C _hi=>?_
 refine eA _hi fun kvs _hj=>?_
 refine f9 _hj fun _r1 ed vk ec1 c7 k=>?_
 clear h _hi _hj;subst _r1;refine ⟨_,(ae (cJ 2 sc af) (ae (aQ PassesOwn.never rfl (ut rfl B.FH (@aa _ _ _ _ _ (pv 1) (@aa _ _ _ _ _ (bO dy (pv 1) (bY af) cK) ac rfl) rfl)) (cV rfl (aI (cM 3 sc) (aI (cM 4 sc) bX))) (ae (aL (pw (iQ (gn hr) (@bj _ _ _ _ _ (@aa _ _ _ _ _ (pv 3) (@aa _ _ _ _ _ (pv 4) ac rfl) rfl)) (pv 0)) (by with_unfolding_all rfl)) (aj (au aZ)) aw) (aj (xJ (i:=2) sc.nd rfl (Or.inl rfl) (iz (gn hr) (pv 0) (@bj _ _ _ _ _ (@aa _ _ _ _ _ (pv 3) (@aa _ _ _ _ _ (pv 4) ac rfl) rfl)) (fun _ _=>rfl)) xK)))) (aj (au (pv 2))))),?_⟩
 try dsimp only[cxK]
 have sl:sizeLine=16777216:=sizeLine_eq;refine ⟨_,rfl,_,rfl,_,rfl,aq c _ ⟨rfl,aC.of ec1,fun p1 n1=>?_⟩⟩
 have cD:fY (C.map V.int) (some 1) none=(C.drop 1).map V.int:=by rw[show (1:Int)=((1:Nat):Int) from rfl,sM,List.map_drop]
 rw[cD];have g2:=ag n1 (.lst ((C.drop 1).map V.int));have ed2:=ag n1 (.lst ((C.drop 1).map V.int)) _ _ ed;have ep:aG H p1 (.lst ((C.drop 1).map V.int)) p1=some (.lst ((C.drop 1).map V.int)):=ah;generalize aG H p1 (.lst ((C.drop 1).map V.int))=H2 at g2 ed2 ep⊢;have ml:min (C.map V.int).length ((C.drop 1).map V.int).length=C.length-1:=by rw[D3,D3,E6];omega
 refine (aq c p1 ⟨rfl,⟨_,aC.of (g2 _ _ ec1)⟩,⟨_,aC.of ep⟩,wg (xs:=C.map V.int) (ys:=(C.drop 1).map V.int) (fun i σ H'=>∃(o4 o5:Option V) (t:Int),σ= [FV d,FV c,some (.int t),o4,o5]/\aB H2 H'/\fw A C i=some t) (bH none none 0 ⟨rfl,.refl _,rfl⟩) (fun i σ H' _ ⟨_,_,_,_,g,_⟩=>⟨aC.of (g _ _ (g2 _ _ ec1)),aC.of (g _ _ ep)⟩) ?_ ?_⟩)
 ·rintro i y z σ H3 T' hy hz ⟨o4,o5,t,rfl,g3,ht⟩ nT;rw[DE] at hy hz;obtain ⟨x,hx,rfl⟩:=DB.mp hy;obtain ⟨w',hw,rfl⟩:=DB.mp hz;rw[List.getElem?_drop,Nat.add_comm] at hw;have st:=kS ht hx hw;have iw:=(D5.mp hw).1;have g4:=g3.trans (ag nT (.tup [.int x,.int w']));refine (aq T' _ ⟨rfl,bx.of ah,rfl,aq _ _ ⟨rfl,aq _ _ ⟨rfl,rfl,?_⟩⟩⟩);generalize aG H3 T' (.tup [.int x,.int w'])=H4 at g4⊢;have ed4:=g4 _ _ ed2;refine ⟨_,rfl,_,rfl,by show 2<=sizeLine;decide,fun t1 n1=>⟨_,rfl,aq d _ ⟨rfl,iy.t (k:= [.inl x,.inl w']) (ag n1 _ _ _ ed4) ah,?_⟩⟩⟩
  rw[vk];have g5:=g4.trans (ag n1 (.tup [.int x,.int w']));cases hl:c8 A x w' with
  |none=>
   rw[hl] at st;refine ⟨_,rfl,cL ?_⟩;have e:bP A C=none:=i9 (i:=i+1) st (by omega)
   have:=k _ (g2.trans g5);rw[e] at this;exact this
  |some gg=>
   rw[hl] at st;refine ⟨_,rfl,cP ?_⟩;refine ⟨_,rfl,_,rfl,_,rfl,_,rfl,by show 2<=sizeLine;decide,fun t2 n2=>(aq d (.int gg) ⟨rfl,?_,aq _ _ ⟨rfl,rfl,bH _ _ _ ⟨rfl,g5.trans (ag n2 _),st⟩⟩⟩)⟩
   have:=iy.t (k:= [.inl x,.inl w']) (ag n2 (.tup [.int x,.int w']) _ _ (ag n1 (.tup [.int x,.int w']) _ _ ed4)) ah;rw[vk,hl] at this;exact this
 ·rintro σ H3 ⟨o4,o5,t,rfl,g3,ht⟩;rw[ml] at ht;have:=k _ (g2.trans g3);rw[show bP A C=some t from ht] at this
  exact ⟨_,rfl,this⟩
theorem AK {dV:Value} (F:bn K "chain_total" "chain_total" yE dV f fd) (DZ19:Dx P w K mg base a8 1 "greatest_lags" ["arcs"] [] mK) (DZ20:Dx P w K mg base a8 1 "total_by" ["lags","chain"] [] mR):bf P w K mg base a8 2 f fd ["arcs","chain"] og:=by
 have sc:aE ["arcs","chain"] ["arcs","chain"] (ar yE):=dn (by decide+kernel)
 refine F.ok sc (fun vs H Q E h=>?_) (fun cdv A outer s H vs Q E hr h=>?_)
 ·obtain ⟨_,_,_,_,rfl,_⟩:=h
  rfl
 refine fZ h fun l c A C _hi=>?_
 refine f9 _hi fun _r1 hA l7 ec c7 k=>?_
 clear h _hi;subst _r1;refine ⟨_,(aj (au (bL DZ20 hr (@aa _ _ _ _ _ (bL DZ19 hr (@aa _ _ _ _ _ (pv 0) ac rfl)) (@aa _ _ _ _ _ (pv 1) ac rfl) rfl)))),?_⟩;try dsimp only[cxK]
 refine ⟨_,rfl,aq l A ⟨rfl,hA,l7,fun d kvs H1 g1 nd ed vk=>?_⟩⟩
 exact ⟨_,rfl,aN d c A C ⟨kvs,⟨rfl,ed,vk,g1 _ _ ec,c7,fun H' g'=>k _ (g1.trans g')⟩⟩⟩
theorem AL {dV:Value} (F:bn K "ring_total" "ring_total" yF dV f fd) (DZ21:Dx P w K mg base a8 2 "chain_total" ["arcs","chain"] [] og):bf P w K mg base a8 3 f fd ["arcs","ring"] qR:=by
 have sc:aE ["arcs","ring"] ["arcs","ring"] (ar yF):=dn (by decide+kernel)
 refine F.ok sc (fun vs H Q E h=>?_) (fun cdv A outer s H vs Q E hr h=>?_)
 ·obtain ⟨_,_,_,_,rfl,_⟩:=h
  rfl
 refine fZ h fun l c A C _hi=>?_
 refine f9 _hi fun _r1 hA l7 ec c7 k=>?_
 clear h _hi;subst _r1;refine ⟨_,(ae (aL (ao b8 (ay av rfl B.Ev boot_len (@aa _ _ _ _ _ (pv 1) ac rfl)) af (aD _)) (aj (au aZ)) aw) (aj (au (bL DZ21 hr (@aa _ _ _ _ _ (pv 0) (@aa _ _ _ _ _ (am cW (pv 1) (@aU _ _ _ _ (@aa _ _ _ _ _ (aA a9 (pv 1) af (fun _ _=>rfl)) ac rfl))) ac rfl) rfl))))),?_⟩
 try dsimp only[cxK]
 have sl:sizeLine=16777216:=sizeLine_eq;have lc:(C.map V.int).length=C.length:=D3 _;refine ⟨_,rfl,aq c _ ⟨rfl,.inl (aC.of ec),rfl,_,rfl,d2 (fun e=>?_) (fun e=>?_)⟩⟩
 ·injection e with e
  have c0:C= []:=Dg (by omega)
  have:=k _ (.refl _);rw[show eY A C=none from if_pos c0] at this
  exact this
 ·cases C with
  |nil=>exact absurd rfl e
  |cons x r=>
   refine ⟨_,rfl,_,rfl,_,rfl,aN c _ _ _ ⟨rfl,rfl,aC.of ec,a4 (j:=0) (dO (show (x::r)[0]?=some x from rfl)),by show 1<=sizeLine;decide,fun l1 n1=>(aN c l1 _ _ ⟨rfl,rfl,ag n1 _ _ _ ec,ah,by rw[lc];simp at c7⊢;omega,fun p np=>?_⟩)⟩⟩
   have g:=(ag n1 (.lst [.int x])).trans (ag np (.lst ((x::r).map V.int++ [.int x])));refine (aN l p A ((x::r)++ [x]) ⟨rfl,hA.same g,l7,?_,by rw[D8];simp at c7⊢;omega,fun H' g'=>?_⟩)
   ·rw[ah,DS]
    rfl
   ·have:=k _ (g.trans g');rw[show eY A (x::r)=bP A ((x::r)++ [x]) from if_neg nofun] at this
    exact this
theorem AM {dV:Value} (F:bn K "are_unlike_tasks" "are_unlike_tasks" yG dV f fd):bf P w K mg base a8 1 f fd ["net","some"] (kU on):=by
 have sc:aE ["net","some","i"] ["net","some"] (ar yG):=dn (by decide+kernel)
 refine F.ok sc (fun vs H Q E h=>?_) (fun cdv A outer s H vs Q E hr h=>?_)
 ·obtain ⟨_,_,_,_,_,_,_,_,_,rfl,_⟩:=h
  rfl
 refine qc h fun x l S2 fz D T A B2 n _hi=>?_
 refine f9 _hi fun _r1 NG t24 el sz q=>?_
 clear h _hi;subst _r1;refine ⟨_,(ae (aQ PassesOwn.never rfl (aF (pv 1)) (cM 2 sc) (aj (aL (cq (cG dq fD af (pv 2) (ay av rfl B.Ev boot_len (@aa _ _ _ _ _ (cH (pv 0) rfl) ac rfl)))) (aj (au bE)) aw))) (aj (au (eJ b8 (jZ rfl rfl B.Ev rfl B.FE PyProof.Rows.Boot.«len» PyProof.Rows.Boot.«set» (pv 1)) (ay av rfl B.Ev boot_len (@aa _ _ _ _ _ (pv 1) ac rfl)) (aD _))))),?_⟩;try dsimp only[cxK]
 refine fK NG.ex fun dx td tl al pl fs _hi=>?_
 refine ph _hi fun e0 l1 l2 l3 l4 l5 ed _r1 _hj=>?_
 refine cZ _hj fun hA hB=>?_
 obtain ⟨vs,etl,rT⟩:=_r1;refine ⟨_,rfl,l,rfl,⟨_,aC.of el⟩,aR (xs:=S2.map V.int) (fun k σ H'=>H=H'/\(∃o2:Option V,σ= [FV x,FV l,o2])/\(S2.take k).all (fun i=>decide (0<=i)&&decide (i<(T.length:Int)))=true) ⟨rfl,⟨none,rfl⟩,rfl⟩ (fun k σ H' _ h=>by rw[<-h.1];exact aC.of el) ?_ ?_⟩
 ·rintro k y σ H1 hy ⟨rfl,⟨o2,rfl⟩,hall⟩;rw[DE] at hy;obtain ⟨i,hi,rfl⟩:=DB.mp hy;have bad:(decide (0<=i)&&decide (i<(T.length:Int)))=false->a5 T S2=false:=fun h=>by
   unfold a5;have:S2.all (fun i=>decide (0<=i)&&decide (i<(T.length:Int)))=false:=by
    rw[<-EX,DD];intro hh;have:=hh i (D6 hi);rw[h] at this;cases this
   rw[this,EN]
  have fine:(decide (0<=i)&&decide (i<(T.length:Int)))=true->(S2.take (k+1)).all (fun i=>decide (0<=i)&&decide (i<(T.length:Int)))=true:=fun h=>by
   rw[aV hi,F5,hall,EC,Eh,List.all_nil,F3];exact h
  refine ⟨_,rfl,aq _ _ ⟨rfl,rfl,_,rfl,d2 (fun c1=>⟨_,rfl,aN x _ dx _ ⟨_,⟨rfl,e0,B.Fb,B.Fa,l2,aq tl _ ⟨rfl,.inl (aC.of etl),aq _ _ ⟨rfl,rfl,_,rfl,n2 (fun c2=>?_) (fun c2=>?_)⟩⟩⟩⟩⟩) (fun c1=>⟨_,rfl,cL ?_⟩)⟩⟩
  ·rw[rT.1] at c2;rw[bad (by rw[decide_eq_false c2,EO])] at q
   exact q
  ·rw[rT.1] at c2;exact ⟨rfl,⟨_,rfl⟩,fine (by rw[decide_eq_true c1,decide_eq_true c2];rfl)⟩
  ·rw[bad (by rw[decide_eq_false c1,EN])] at q
   exact q
 ·rintro σ H1 ⟨rfl,⟨o2,rfl⟩,hall⟩;rw[D3,DV] at hall;refine ⟨_,rfl,aq l S2 ⟨rfl,aC.of el,by omega,_,rfl,aq l _ ⟨rfl,.inl (aC.of el),rfl,?_⟩⟩⟩
  have e:a5 T S2=decide S2.Nodup:=by
   unfold a5;rw[hall,EC]
  rw[e,<-j2] at q;rw[D3];exact q
theorem AN {dV:Value} (F:bn K "two_apart" "two_apart" yH dV f fd):bf P w K mg base a8 1 f fd ["net","some"] (qS on):=by
 have sc:aE ["net","some","one","other"] ["net","some"] (ar yH):=dn (by decide+kernel)
 refine F.ok sc (fun vs H Q E h=>?_) (fun cdv A outer s H vs Q E hr h=>?_)
 ·obtain ⟨_,_,_,_,_,_,_,_,_,rfl,_⟩:=h
  rfl
 refine qc h fun x l S2 fz D T A B2 n _hi=>?_
 refine eC _hi fun _r1 NG pr _hj=>?_
 refine cZ _hj fun el q=>?_
 clear h _hi _hj;subst _r1;refine ⟨_,(ae (aQ PassesOwn.never rfl (aF (cH (pv 0) rfl)) (cV rfl (aI (cM 2 sc) (aI (cM 3 sc) bX))) (aj (aL (PW.pt (cF (ao cS (pv 2) (pv 1) (by with_unfolding_all rfl)) (bW (ao cS (pv 3) (pv 1) (by with_unfolding_all rfl))))) (aj (au bE)) aw))) (aj (au bE))),?_⟩
 try dsimp only[cxK]
 refine fK NG.ex fun dx td tl al pl fs _hi=>?_
 refine ph _hi fun e0 l1 l2 l3 l4 l5 ed hT _hj=>?_
 refine cZ _hj fun hA _r1=>?_
 obtain ⟨ks,eb,rB⟩:=_r1;refine ⟨_,rfl,aN x _ dx _ ⟨_,⟨rfl,e0,B.Fb,B.Fg,l4,pl,rfl,⟨_,aC.of eb⟩,aR (xs:=ks.map V.ref) (fun k σ H'=>H=H'/\(∃o2 o3:Option V,σ= [FV x,FV l,o2,o3])/\(B2.take k).any (fun k=>decide (k.getD 0 0∈S2)&&decide (k.getD 1 0∈S2))=false) ⟨rfl,(aq none none rfl),rfl⟩ (fun k σ H' _ h=>by rw[<-h.1];exact aC.of eb) ?_ ?_⟩⟩⟩
 ·rintro k y σ H1 hy ⟨rfl,⟨o2,o3,rfl⟩,hn⟩;obtain ⟨a,ha,rfl⟩:=cC hy;have il:k<B2.length:=by rw[<-rB.1];exact (D5.mp ha).1
  have hk:=D4 il;have ea:=rB.2 k a _ ha hk;obtain ⟨p,q',ek⟩:=pr _ (DO il);rw[ek] at ea hk;have go:(decide (p∈S2)&&decide (q'∈S2))=false->(B2.take (k+1)).any (fun k=>decide (k.getD 0 0∈S2)&&decide (k.getD 1 0∈S2))=false:=fun h=>by
   rw[aV hk,ER,hn,Du,EB,Ew,Eb];exact h
  refine (aq a _ ⟨rfl,bx.of ea,rfl,aq _ _ ⟨rfl,aq _ _ ⟨rfl,rfl,?_⟩⟩⟩);refine ⟨_,rfl,_,rfl,aq l _ ⟨rfl,.inl (aC.of el),rfl,jk S2,_,rfl,uQ (fun c1=>⟨_,rfl,_,rfl,aq l _ ⟨rfl,.inl (aC.of el),rfl,jk S2,_,rfl,uQ (fun c2=>?_) (fun c2=>?_)⟩⟩) (fun c1=>?_)⟩⟩
  ·have:bF B2 S2=true:=by
    unfold bF;rw[Di];refine ⟨_,D6 hk,?_⟩;show (decide (p∈S2)&&decide (q'∈S2))=true;rw[decide_eq_true c1,decide_eq_true c2]
    rfl
   rw[this] at q;exact q
  ·exact ⟨rfl,(aq _ _ rfl),go (by rw[decide_eq_false c2,EO])⟩
  ·exact ⟨rfl,(aq _ _ rfl),go (by rw[decide_eq_false c1,EN])⟩
 ·rintro σ H1 ⟨rfl,⟨o2,o3,rfl⟩,hn⟩;rw[D3,rB.1,DV] at hn;have:bF B2 S2=false:=hn;rw[this] at q;exact q
theorem AO {dV:Value} (F:bn K "two_at_unlike_heats" "two_at_unlike_heats" yI dV f fd) (DZ17:Dx P w K mg base a8 3 "unlike_heats" ["net","case","i","j"] [] (oj on)):bf P w K mg base a8 4 f fd ["net","case","some"] (qT on):=by
 have sc:aE ["net","case","some","place","one","other"] ["net","case","some"] (ar yI):=dn (by decide+kernel)
 refine F.ok sc (fun vs H Q E h=>?_) (fun cdv A outer s H vs Q E hr h=>?_)
 ·obtain ⟨_,_,_,_,rfl,_⟩:=h
  rfl
 refine fZ h fun x t l S2 _hi=>?_
 refine eC _hi fun _r1 el sz _hj=>?_
 refine fK _hj fun D T A B2 n P _hk=>?_
 refine eA _hk fun O _hl=>?_
 refine ij _hl fun NC rg q=>?_
 clear h _hi _hj _hk _hl;subst _r1;refine ⟨_,(ae (aQ PassesOwn.never rfl (we rfl B.Fy (@aa _ _ _ _ _ (pv 2) ac rfl)) (cV rfl (aI (cM 3 sc) (aI (cM 4 sc) bX))) (aj (aQ PassesOwn.never rfl (aF (bO dy (pv 2) (bY (am a7 (pv 3) af)) cK)) (cM 5 sc) (aj (aL (dj (bL DZ17 hr (@aa _ _ _ _ _ (pv 0) (@aa _ _ _ _ _ (pv 1) (@aa _ _ _ _ _ (pv 4) (@aa _ _ _ _ _ (pv 5) ac rfl) rfl) rfl) rfl))) (aj (au bE)) aw))))) (aj (au bE))),?_⟩;try dsimp only[cxK]
 refine ⟨_,rfl,l,rfl,⟨_,aC.of el⟩,uo (xs:=S2.map V.int) (fun k σ H'=>aB H H'/\(∃o3 o4 o5:Option V,σ= [FV x,FV t,FV l,o3,o4,o5])/\dE T P S2=dE T P (S2.drop k)) ⟨.refl _,(bH none none none rfl),rfl⟩ (fun k σ H' _ h=>aC.of (h.1 _ _ el)) ?_ ?_⟩
 ·rintro k y σ H1 T' hy ⟨g1,⟨o3,o4,o5,rfl⟩,he⟩ nT';rw[DE] at hy;obtain ⟨i,hi,rfl⟩:=DB.mp hy;have kl:=(D5.mp hi).1;have dr:S2.drop k=i::S2.drop (k+1):=by
   rw[List.drop_eq_getElem_cons kl];rw[D4 kl] at hi;cases hi
   rfl
  rw[dr] at he;have iT:=rg i (D6 hi);have g2:=g1.trans (ag nT' (.tup [.int (k:Int),.int i]));refine (aq T' _ ⟨rfl,bx.of ah,rfl,aq _ _ ⟨rfl,aq _ _ ⟨rfl,rfl,?_⟩⟩⟩);generalize aG H1 T' (.tup [.int (k:Int),.int i])=H2 at g2⊢;refine ⟨_,rfl,_,rfl,aq _ _ ⟨rfl,rfl,_,rfl,aq l _ ⟨rfl,aC.of (g2 _ _ el),fun p3 np3=>?_⟩⟩⟩
  have cd:fY (S2.map V.int) (some ((k:Int)+1)) none=(S2.drop (k+1)).map V.int:=by
   have:=gu (xs:=S2.map V.int) (c:=k+1) (by rw[D3];omega)
   rw[<-List.map_drop] at this;exact this
  rw[cd];have g3:=g2.trans (ag np3 (.lst ((S2.drop (k+1)).map V.int)));have e3:aG H2 p3 (.lst ((S2.drop (k+1)).map V.int)) p3=some (.lst ((S2.drop (k+1)).map V.int)):=ah;generalize aG H2 p3 (.lst ((S2.drop (k+1)).map V.int))=H3 at g3 e3⊢;refine ⟨p3,rfl,⟨_,aC.of e3⟩,aR (xs:=(S2.drop (k+1)).map V.int) (fun m σ H'=>aB H3 H'/\(∃o5:Option V,σ= [FV x,FV t,FV l,some (.int (k:Int)),some (.int i),o5])/\((S2.drop (k+1)).take m).any (fun j=>bQ T P i.toNat j.toNat)=false) ⟨.refl _,⟨_,rfl⟩,rfl⟩ (fun m σ H' _ h=>aC.of (h.1 _ _ e3)) ?_ ?_⟩
  ·rintro m y σ H4 hy ⟨g4,⟨o5,rfl⟩,hn⟩;rw[DE] at hy;obtain ⟨j,hj,rfl⟩:=DB.mp hy;have jm:j∈S2:=List.mem_of_mem_drop (D6 hj);have jT:=rg j jm;obtain ⟨ni,hni⟩:∃ni:Nat,i=(ni:Int):=⟨i.toNat,by omega⟩
   obtain ⟨nj,hnj⟩:∃nj:Nat,j=(nj:Int):=⟨j.toNat,by omega⟩
   refine ⟨_,rfl,_,rfl,_,rfl,_,rfl,aN x t ni nj ⟨by rw[hni,hnj];rfl,eN D T A B2 n P ⟨O,⟨NC.same (g3.trans g4),by omega,by omega,fun H5 g5=>⟨_,rfl,?_⟩⟩⟩⟩⟩
   have ei:i.toNat=ni:=by omega
   have ej:j.toNat=nj:=by omega
   cases hu:bQ T P ni nj with
   |true=>
    have:dE T P S2=true:=by
     rw[he];unfold dE;have:(S2.drop (k+1)).any (fun j=>bQ T P i.toNat j.toNat)=true:=by
      rw[Di];exact ⟨j,D6 hj,by rw[ei,ej];exact hu⟩
     rw[this,Ex]
    rw[this] at q;exact cL (q _ ((g3.trans g4).trans g5))
   |false=>
    refine cP ⟨g4.trans g5,⟨_,rfl⟩,?_⟩;rw[aV hj,ER,hn,Du,EB,Ew,Eb,ei,ej];exact hu
  ·rintro σ H4 ⟨g4,⟨o5,rfl⟩,hn⟩;rw[D3,DV] at hn;refine ⟨g3.trans g4,(bH _ _ _ rfl),?_⟩;rw[he];show ((S2.drop (k+1)).any (fun j=>bQ T P i.toNat j.toNat)||dE T P (S2.drop (k+1)))=_
   rw[hn,Du]
 ·rintro σ H1 ⟨g1,⟨o3,o4,o5,rfl⟩,he⟩;rw[D3,List.drop_length] at he;have:dE T P S2=false:=he;rw[this] at q;exact q _ g1
theorem AQ {dV:Value} (F:bn K "too_much_wanted" "too_much_wanted" yJ dV f fd) (DZ14:Dx P w K mg base a8 3 "want_of" ["net","case","i","tool"] [] (mO on gx)):bf P w K mg base a8 4 f fd ["net","case","some"] (uP on):=by
 have sc:aE ["net","case","some","tool","many"] ["net","case","some"] (ar yJ):=dn (by decide+kernel)
 refine F.ok sc (fun vs H Q E h=>?_) (fun cdv A outer s H vs Q E hr h=>?_)
 ·obtain ⟨_,_,_,_,rfl,_⟩:=h
  rfl
 refine fZ h fun x t l S2 _hi=>?_
 refine eC _hi fun _r1 els sz _hj=>?_
 refine fK _hj fun D T A B2 n P _hk=>?_
 refine eA _hk fun O _hl=>?_
 refine ij _hl fun NC rg q=>?_
 clear h _hi _hj _hk _hl;subst _r1;refine ⟨_,(ae (pP (aQ PassesOwn.never rfl (nL (jG PySem.F.plainAttrs_dict PySem.F.slot_dict_items PySem.F.type_dict_items nK (cH (pv 0) rfl))) (cV rfl (aI (dw (i:=3) sc.nd rfl (Or.inr rfl)) (aI (cM 4 sc) bX))) (aj (aL (ao fR (ay (gG rfl) rfl B.FA PyProof.Rows.Boot.«sum» (@aa _ _ _ _ _ (bG (own:= "i") (ys:= ["net","case","tool"]) (js:= [0,1,3]) rfl (cok (fU (fU (fU fT))) (.cons rfl (.cons rfl (.cons rfl .nil))) (by decide) rfl rfl rfl rfl rfl rfl rfl rfl) (aF (pv 2)) (fun C fp s H=>(bL DZ14 hr (@aa _ _ _ _ _ (pv 1) (@aa _ _ _ _ _ (pv 2) (@aa _ _ _ _ _ (pv 0) (@aa _ _ _ _ _ (pv 3) ac rfl) rfl) rfl) rfl)))) ac rfl)) (pv 4) (aD _)) (aj (au bE)) aw)))) (aj (au bE))),?_⟩
 try dsimp only[cxK]
 have sl:sizeLine=16777216:=sizeLine_eq;refine fK NC.net.ex fun dx td tl al pl fs _hi=>?_
 refine ph _hi fun e0 l1 l2 l3 l4 l5 ed _r1 _hj=>?_
 refine cZ _hj fun hA hB=>?_
 obtain ⟨vs,el,rT⟩:=_r1;obtain ⟨kl,ol,ec,ek,ho⟩:=id NC.case_;have etd:=ed.no;refine ⟨_,rfl,aN x _ dx _ ⟨_,⟨rfl,e0,B.Fb,B.Fd,l1,.inr (.inr (.inl ⟨rfl,.inl ⟨_,etd⟩⟩)),aq td _ ⟨rfl,rfl,etd,fun v nv=>?_⟩⟩⟩⟩
 have g:=ag nv (.ext fun h=>h.IsItemsView v td)
 refine (bH v td _ ⟨rfl,ah,g _ _ etd,fun o nf=>?_⟩)
 have e1:=g _ _ etd;generalize aG H v (.ext fun h=>h.IsItemsView v td)=H1 at g e1⊢
 have ef:aG H1 td (.frz o (.dK (bq D))) td=some (.frz o (.dK (bq D))):=ah;have NF:=(NC.any.same g).walk (o:=o) e1;have elf:aG H1 td (.frz o (.dK (bq D))) l=some (.lst (S2.map V.int)):=i5 e1 _ _ rfl (g _ _ els);have thaw:∀{H':Hp},aB (aG H1 td (.frz o (.dK (bq D)))) H'->aB H1 (aG H' td (.dK (bq D))):=fun g=>i6 e1 g
 generalize aG H1 td (.frz o (.dK (bq D)))=Hf at ef NF elf thaw⊢;refine kR (fun k σ H'=>aB Hf H'/\(∃o3 o4:Option V,σ= [FV x,FV t,FV l,o3,o4])/\(D.take k).any (fun p=>decide (p.2<(S2.map fun i=>gx T P i.toNat p.1).sum))=false) ⟨.refl _,(aq none none rfl),rfl⟩ (fun i σ H' _ h=>h.1 _ _ ef) ?_ ?_
 ·rintro k ky y σ H2 T' hk ⟨g2,⟨o3,o4,rfl⟩,hn⟩ nT';obtain ⟨p,hp,rfl,rfl⟩:=jX hk;have g3:=g2.trans (ag nT' (.tup [kV (.inr p.1),.int p.2]));refine (aq T' _ ⟨rfl,bx.of ah,rfl,aq _ _ ⟨rfl,aq _ _ ⟨rfl,rfl,?_⟩⟩⟩);generalize aG H2 T' (.tup [kV (.inr p.1),.int p.2])=H3 at g3⊢;refine ⟨_,rfl,l,rfl,⟨_,aC.of (g3 _ _ elf)⟩,bv (dL V.int) (fun _=>False) (fun i=>gx T P (S2.getD i 0).toNat p.1) (aC.of (g3 _ _ elf)) (by rw[D3];omega) (fun a h=>h.elim) (fun m y hy H4 g4 Q' hQ=>?_) fun p2 H4 np2 g4 hp2=>?_⟩
  ·rw[DE] at hy;obtain ⟨i,hi,rfl⟩:=DB.mp hy;have iT:=rg i (D6 hi);obtain ⟨ni,hni⟩:∃ni:Nat,i=(ni:Int):=⟨i.toNat,by omega⟩
   rw[aX hi,show i.toNat=ni by omega] at hQ
   exact ⟨_,rfl,_,rfl,_,rfl,_,rfl,aN x t ni p.1 ⟨by rw[hni];rfl,eN D T A B2 n P ⟨O,⟨NF.same (g3.trans g4),by omega,fun H5 g5=>hQ _ _ g5 rfl⟩⟩⟩⟩
  ·obtain ⟨us,eu,ru⟩:=hp2;have eus:us=(S2.map fun i=>gx T P i.toNat p.1).map V.int:=by
    rw[ru.val,D3]
    conv=>rhs;rw[<-br S2 0]
    rw[DJ,DJ,DJ]
    rfl
   rw[eus] at eu;refine (aq p2 _ ⟨rfl,aC.of eu,_,rfl,aq _ _ ⟨rfl,rfl,_,rfl,d2 (fun c=>?_) (fun c=>?_)⟩⟩)
   ·have:gy D T P S2=true:=by
     unfold gy;rw[Di];exact ⟨p,D6 hp,decide_eq_true c⟩
    rw[this] at q;exact (bH td o _ ⟨(g3.trans g4) _ _ ef,nf,q _ (g.trans (thaw (g3.trans g4)))⟩)
   ·refine ⟨g3.trans g4,(aq _ _ rfl),?_⟩;rw[aV hp,ER,hn,Du,EB,Ew,Eb];exact decide_eq_false c
 ·rintro σ H2 ⟨g2,⟨o3,o4,rfl⟩,hn⟩;rw[iY,DV] at hn;have:gy D T P S2=false:=hn;rw[this] at q;exact (bH td o _ ⟨g2 _ _ ef,nf,q _ (g.trans (thaw g2))⟩)
theorem AR {dV:Value} (F:bn K "clashes" "clashes" yK dV f fd) (DZ23:Dx P w K mg base a8 1 "are_unlike_tasks" ["net","some"] [] (kU on)) (DZ24:Dx P w K mg base a8 1 "two_apart" ["net","some"] [] (qS on)) (DZ25:Dx P w K mg base a8 4 "two_at_unlike_heats" ["net","case","some"] [] (qT on)) (DZ26:Dx P w K mg base a8 4 "too_much_wanted" ["net","case","some"] [] (uP on)):bf P w K mg base a8 5 f fd ["net","case","some"] (qU on):=by
 have sc:aE ["net","case","some"] ["net","case","some"] (ar yK):=dn (by decide+kernel)
 refine F.ok sc (fun vs H Q E h=>?_) (fun cdv A outer s H vs Q E hr h=>?_)
 ·obtain ⟨_,_,_,_,rfl,_⟩:=h
  rfl
 refine fZ h fun x t l S2 _hi=>?_
 refine eC _hi fun _r1 el sz _hj=>?_
 refine fK _hj fun D T A B2 n P _hk=>?_
 refine eA _hk fun O _hl=>?_
 refine cZ _hl fun NC q=>?_
 clear h _hi _hj _hk _hl;subst _r1;dsimp only at q;refine ⟨_,(ae (aL (PW.pt (dZ (cq (dj (bL DZ23 hr (@aa _ _ _ _ _ (pv 0) (@aa _ _ _ _ _ (pv 2) ac rfl) rfl)))) (dD (ao fD (ay av rfl B.Ev boot_len (@aa _ _ _ _ _ (pv 2) ac rfl)) af (aD _))))) (aj (au bE)) aw) (aj (au (tR (bL DZ24 hr (@aa _ _ _ _ _ (pv 0) (@aa _ _ _ _ _ (pv 2) ac rfl) rfl)) (tR (bL DZ25 hr (@aa _ _ _ _ _ (pv 0) (@aa _ _ _ _ _ (pv 1) (@aa _ _ _ _ _ (pv 2) ac rfl) rfl) rfl)) (lW (bL DZ26 hr (@aa _ _ _ _ _ (pv 0) (@aa _ _ _ _ _ (pv 1) (@aa _ _ _ _ _ (pv 2) ac rfl) rfl) rfl)))))))),?_⟩;try dsimp only[cxK]
 have cf:bT D T B2 P S2=((a5 T S2&&decide (2<=S2.length))&&(bF B2 S2||(dE T P S2||gy D T P S2))):=rfl;refine ⟨_,rfl,_,rfl,x,l,S2,_,D,T,A,B2,n,rfl,NC.net,NC.ok.t24,el,sz,_,rfl,?_⟩;cases hu:a5 T S2 with
 |false=>
  rw[hu,EN,EN] at cf;rw[cf] at q;exact cL (q _ (.refl _))
 |true=>
  obtain ⟨rg,nd⟩:=eQ hu;refine cP ⟨_,rfl,l,_,rfl,.inl (aC.of el),_,_,rfl,rfl,_,rfl,d2 (fun c=>?_) (fun c=>?_)⟩
  ·rw[D3] at c;rw[decide_eq_false (show ¬2<=S2.length by omega),EO,EN] at cf
   rw[cf] at q;exact q _ (.refl _)
  ·rw[D3] at c;rw[hu,decide_eq_true (show 2<=S2.length by omega),EC,EC] at cf
   refine ⟨_,rfl,_,rfl,x,l,S2,_,D,T,A,B2,n,rfl,NC.net,fun k hk=>?_,el,_,rfl,?_⟩
   ·obtain ⟨p,q',e,_⟩:=NC.ok.pairs k hk;exact ⟨p,q',e⟩
   cases ha:bF B2 S2 with
   |true=>
    rw[ha,Ex] at cf;rw[cf] at q;exact cL (q _ (.refl _))
   |false=>
    rw[ha,Du] at cf;refine cP ⟨_,rfl,_,rfl,_,rfl,x,t,l,S2,rfl,el,sz,D,T,A,B2,n,P,O,NC.any,rg,fun H1 g1=>⟨_,rfl,?_⟩⟩
    cases hh:dE T P S2 with
    |true=>
     rw[hh,Ex] at cf;rw[cf] at q;exact cL (q _ g1)
    |false=>
     rw[hh,Du] at cf;rw[cf] at q;exact cP ⟨_,rfl,_,rfl,_,rfl,aN x t l S2 ⟨rfl,g1 _ _ el,sz,eN D T A B2 n P ⟨O,⟨NC.same g1,rg,fun H2 g2=>q _ (g1.trans g2)⟩⟩⟩⟩
theorem AS {dV:Value} (F:bn K "turns_for" "turns_for" yL dV f fd):bf P w K mg base a8 1 f fd ["work","many"] q9:=by
 have sc:aE ["work","many"] ["work","many"] (ar yL):=dn (by decide+kernel)
 refine F.ok sc (fun vs H Q E h=>?_) (fun cdv A outer s H vs Q E hr h=>?_)
 ·obtain ⟨_,_,rfl,_⟩:=h
  rfl
 obtain ⟨w,m,rfl,m1,m2,q⟩:=h;refine ⟨_,(aj (au (jD gY (am aT (jD gY (pv 0)) (pv 1))))),?_⟩;try dsimp only[cxK]
 exact ⟨_,rfl,_,rfl,_,rfl,aq _ _ ⟨rfl,rfl,⟨by omega,DC (by omega)⟩,_,rfl,q⟩⟩
theorem AT {dV:Value} (F:bn K "task_between" "task_between" yM dV f fd) (DZ10:Dx P w K mg base a8 2 "are_points" ["net","some"] [] (fk on)):bf P w K mg base a8 3 f fd ["net","front","back"] (lD on):=by
 have sc:aE ["net","front","back","i"] ["net","front","back"] (ar yM):=dn (by decide+kernel)
 refine F.ok sc (fun vs H Q E h=>?_) (fun cdv A outer s H vs Q E hr h=>?_)
 ·obtain ⟨_,_,_,_,_,_,_,_,_,_,_,rfl,_⟩:=h
  rfl
 refine qc h fun x cf cb fz D T A B2 n _hi=>?_
 refine pd _hi fun f b _hj=>?_
 refine eC _hj fun _r1 N ef _hk=>?_
 refine cZ _hk fun eb q=>?_
 clear h _hi _hj _hk;subst _r1;refine ⟨_,(ae (aL (PW.pt (dZ (ao b8 (ay av rfl B.Ev boot_len (@aa _ _ _ _ _ (pv 1) ac rfl)) af (aD _)) (dD (ao b8 (ay av rfl B.Ev boot_len (@aa _ _ _ _ _ (pv 2) ac rfl)) af (aD _))))) (aj (au aZ)) aw) (ae (aL (PW.pt (dZ (cq (dj (bL DZ10 hr (@aa _ _ _ _ _ (pv 0) (@aa _ _ _ _ _ (pv 1) ac rfl) rfl)))) (dD (cq (dj (bL DZ10 hr (@aa _ _ _ _ _ (pv 0) (@aa _ _ _ _ _ (pv 2) ac rfl) rfl))))))) (aj (au aZ)) aw) (ae (cJ 3 sc (am aT (aA a9 (pv 1) (jD gY af) (fun _ _=>rfl)) af)) (ae (aL (PW.pt (dZ (ao xk (pv 3) (ay av rfl B.Ev boot_len (@aa _ _ _ _ _ (cH (pv 0) rfl) ac rfl)) (aD _)) (dZ (ao eT (aA a9 (pv 1) (jD gY af) (fun _ _=>rfl)) (am aY af (pv 3)) (aD _)) (dD (ao eT (aA a9 (pv 2) af (fun _ _=>rfl)) (am a7 (am aY af (pv 3)) af) (aD _)))))) (aj (au aZ)) aw) (aj (au (pv 3))))))),?_⟩
 try dsimp only[cxK]
 have no:(dG T.length f b&&(da (2*(T.length:Int)+n) f&&da (2*(T.length:Int)+n) b))=false->Q .non H:=fun h=>by
  have e:oV (fV T.length (2*(T.length:Int)+n) f b)= .non:=by unfold fV;rw[h];rfl
  rw[e] at q;exact q
 by_cases hf:f= []
 ·refine ⟨_,rfl,aq cf _ ⟨rfl,.inl (aC.of ef),rfl,_,rfl,dT (by rw[hf];rfl) (cL (no ?_))⟩⟩
  unfold dG;rw[hf]
  rfl
 by_cases hb:b= []
 ·refine ⟨_,rfl,aq cf _ ⟨rfl,.inl (aC.of ef),rfl,_,rfl,dF (yh hf) ⟨_,rfl,aq cb _ ⟨rfl,.inl (aC.of eb),rfl,_,rfl,dT (by rw[hb];rfl) (no ?_)⟩⟩⟩⟩
  unfold dG;rw[hb];simp
 refine ⟨_,rfl,aq cf _ ⟨rfl,.inl (aC.of ef),rfl,_,rfl,dF (yh hf) ⟨_,rfl,aq cb _ ⟨rfl,.inl (aC.of eb),rfl,_,rfl,dF (yh hb) ?_⟩⟩⟩⟩;refine ⟨_,rfl,_,rfl,kW x cf fz D T A B2 n f ⟨rfl,N,ef,_,rfl,?_⟩⟩;cases h1:da (2*(T.length:Int)+n) f with
 |false=>exact cL (cL (no (by rw[h1];simp)))
 |true=>
  refine cP ⟨_,rfl,_,rfl,kW x cb fz D T A B2 n b ⟨rfl,N,eb,_,rfl,?_⟩⟩;cases h2:da (2*(T.length:Int)+n) b with
  |false=>exact cL (no (by rw[h2];simp))
  |true=>
   refine cP ?_;refine fK N.ex fun dx td tl al pl fs _hi=>?_
   refine ph _hi fun e0 l1 l2 l3 l4 l5 ed _r1 _hj=>?_
   refine cZ _hj fun hA hB=>?_
   obtain ⟨vs,el,rT⟩:=_r1;have l0:0<=eB f:=by
    unfold da at h1;rw[DD] at h1;have:=h1 _ (uY hf);rw[DH] at this;exact of_decide_eq_true this.1
   have t0:0<=ff f:=Int.fdiv_nonneg l0 (by decide)
   have bad:¬((eB f=2*ff f/\0<=ff f/\ff f<(T.length:Int))/\lB b=eB f+1)->(dG T.length f b&&(da (2*(T.length:Int)+n) f&&da (2*(T.length:Int)+n) b))=false:=fun h=>by
    have:dG T.length f b=false:=by
     unfold dG;rw[<-Bool.decide_and,decide_eq_false h,EO]
    rw[this]
    rfl
   refine ⟨_,rfl,_,rfl,aN cf _ _ _ ⟨rfl,rfl,aC.of ef,(rc hf),aq _ _ ⟨rfl,rfl,⟨by decide,DC (by decide)⟩,?_⟩⟩⟩
   refine ⟨_,rfl,_,rfl,aN x _ dx _ ⟨_,⟨rfl,e0,B.Fb,B.Fa,l2,aq tl _ ⟨rfl,.inl (aC.of el),aq _ _ ⟨rfl,rfl,_,rfl,d2 (fun c=>?_) (fun c=>?_)⟩⟩⟩⟩⟩
   ·rw[rT.1] at c;exact cL (no (bad fun h=>by have:=h.1.2.2;unfold ff at this;omega))
   rw[rT.1] at c;refine ⟨_,rfl,_,rfl,aN cf _ _ _ ⟨rfl,rfl,aC.of ef,(rc hf),_,rfl,aq _ _ ⟨rfl,rfl,IntMulOk.of_left (by decide),rfl,_,rfl,xp (fun c2=>cL (no (bad fun h=>c2 h.1.1))) (fun c2=>?_)⟩⟩⟩
   refine ⟨_,rfl,aN cb _ _ _ ⟨rfl,rfl,aC.of eb,(wQ hb),_,rfl,aq _ _ ⟨rfl,rfl,IntMulOk.of_left (by decide),aq _ _ ⟨rfl,rfl,rfl,_,rfl,xp (fun c3=>no (bad fun h=>c3 (h.2.trans (congrArg (· +1) c2)))) (fun c3=>?_)⟩⟩⟩⟩
   have e:fV T.length (2*(T.length:Int)+n) f b=some (ff f):=by
    rw[dX];refine ⟨⟨?_,h1,h2⟩,rfl⟩;unfold dG;have:decide (eB f=2*ff f/\0<=ff f/\ff f<(T.length:Int))=true:=decide_eq_true ⟨c2,t0,by unfold ff;omega⟩
    rw[this,decide_eq_true (show lB b=eB f+1 by rw[c3,<-c2])]
    simp[hf,hb]
   rw[e] at q;exact ⟨_,rfl,q⟩
theorem AU {dV:Value} (F:bn K "tasks_between" "tasks_between" yN dV f fd) (DZ29:Dx P w K mg base a8 3 "task_between" ["net","front","back"] [] (lD on)):bf P w K mg base a8 4 f fd ["net","fronts","backs"] (j6 on):=by
 have sc:aE ["net","fronts","backs","tasks"] ["net","fronts","backs"] (ar yN):=dn (by decide+kernel)
 refine F.ok sc (fun vs H Q E h=>?_) (fun cdv A outer s H vs Q E hr h=>?_)
 ·obtain ⟨_,_,_,_,_,_,_,_,_,_,_,rfl,_⟩:=h
  rfl
 refine qc h fun x lf lb fz D T A B2 n _hi=>?_
 refine pd _hi fun F2 G _hj=>?_
 refine f9 _hj fun _r1 N hF hG f1 _hk=>?_
 refine cZ _hk fun g1 q=>?_
 clear h _hi _hj _hk;subst _r1;refine ⟨_,(ae (aL (PW.pt (dZ (ao eT (ay av rfl B.Ev boot_len (@aa _ _ _ _ _ (pv 1) ac rfl)) (ay av rfl B.Ev boot_len (@aa _ _ _ _ _ (pv 2) ac rfl)) (aD _)) (dD (ao b8 (ay av rfl B.Ev boot_len (@aa _ _ _ _ _ (pv 1) ac rfl)) af (aD _))))) (aj (au aZ)) aw) (ae (uE sc.nd (i:=3) rfl rfl (os:= ["front","back"]) (ys:= ["net"]) (js:= [0]) rfl (Aj (fU fT) (.cons rfl .nil) rfl rfl rfl rfl rfl rfl rfl) (ut rfl B.FH (@aa _ _ _ _ _ (pv 1) (@aa _ _ _ _ _ (pv 2) ac rfl) rfl)) (fun C fp s H=>qL (K:=K) (n:=2) rfl rfl (aI (iH (os:= ["front","back"]) (ys:= ["net"]) (i:=0) (by decide) rfl rfl) (aI (iH (os:= ["front","back"]) (ys:= ["net"]) (i:=1) (by decide) rfl rfl) bX))) (fun C fp s H=>(bL DZ29 hr (@aa _ _ _ _ _ (pv 2) (@aa _ _ _ _ _ (pv 0) (@aa _ _ _ _ _ (pv 1) ac rfl) rfl) rfl)))) (ae (aL (PW.pt (dZ (ao cS aZ (pv 3) (by with_unfolding_all rfl)) (dD (ao eT (jZ rfl rfl B.Ev rfl B.FE PyProof.Rows.Boot.«len» PyProof.Rows.Boot.«set» (pv 3)) (ay av rfl B.Ev boot_len (@aa _ _ _ _ _ (pv 3) ac rfl)) (aD _))))) (aj (au aZ)) aw) (aj (au (pv 3)))))),?_⟩
 try dsimp only[cxK]
 have sl:sizeLine=16777216:=sizeLine_eq;obtain ⟨vf,ef,rf⟩:=id hF;obtain ⟨vg,eg,rg⟩:=id hG;have lF:vf.length=F2.length:=rf.1;have lG:vg.length=G.length:=rg.1;have no:(cE T.length F2 G&&(cz (2*(T.length:Int)+n) F2&&cz (2*(T.length:Int)+n) G))=false->∀H',aB H H'->Q .non H':=fun h H' g=>by
  refine q _ _ g ?_;have e:fB T.length (2*(T.length:Int)+n) F2 G=none:=by unfold fB;rw[h];rfl
  rw[e]
  rfl
 refine ⟨_,rfl,aq lf _ ⟨rfl,.inl (aC.of ef),_,rfl,aq lb _ ⟨rfl,.inl (aC.of eg),rfl,_,rfl,xp (fun c=>cL (no ?_ _ (.refl _))) (fun c=>?_)⟩⟩⟩
 ·have:gU T.length F2 G=false:=by
   rw[<-EX,dJ];exact fun h=>c (by rw[lF,lG,h.1])
  unfold cE;rw[this];simp
 have hl:F2.length=G.length:=by omega
 refine ⟨_,rfl,aq lf _ ⟨rfl,.inl (aC.of ef),rfl,_,rfl,Cf (fun c0=>no ?_ _ (.refl _)) (fun c0=>?_)⟩⟩
 ·have:F2= []:=Dg (by omega)
  unfold cE;rw[this]
  rfl
 refine ⟨_,rfl,_,rfl,aq lf lb ⟨rfl,⟨_,aC.of ef⟩,⟨_,aC.of eg⟩,wO (dL oV) (fun _=>False) (fun k=>fV T.length (2*(T.length:Int)+n) (F2.getD k []) (G.getD k [])) (aC.of ef) (aC.of eg) (by omega) (fun a h=>h.elim) (fun k y z hy hz H2 g2 T' nT o ho Q' hQ=>?_) fun lt H2 nlt g2 ht=>?_⟩⟩
 ·obtain ⟨o1,o2,rfl⟩:=uZ ho;obtain ⟨f,hf,hc1⟩:=rf.at_ hy;obtain ⟨b,hb,hc2⟩:=rg.at_ hz;obtain ⟨cf,rfl,_,ecf⟩:=iK hc1;obtain ⟨cb,rfl,_,ecb⟩:=iK hc2;have g3:=g2.trans (ag nT (.tup [.ref cf,.ref cb]));rw[aX hf,aX hb] at hQ;exact (aq T' _ ⟨rfl,bx.of ah,rfl,aq _ _ ⟨rfl,aq _ _ ⟨rfl,rfl,⟨[some (.ref cf),some (.ref cb)],rfl,rfl⟩,_,rfl,_,rfl,_,rfl,kW x cf cb fz D T A B2 n (aq f b ⟨rfl,N.same g3,g3 _ _ ecf,g3 _ _ ecb,hQ _ _ (.refl _) rfl⟩)⟩⟩⟩)
 obtain ⟨vs,et,rt⟩:=ht;rw[show min vf.length vg.length=F2.length by omega] at rt
 rw[rt.val] at et;refine ⟨_,rfl,aq lt _ ⟨rfl,.inl (aC.of et),rfl,u0 _,_,rfl,yi (fun c1=>cL (no (qh hl c1) _ g2)) (fun c1=>?_)⟩⟩
 obtain ⟨e1,zk,p1,p2⟩:=qg hl c1;rw[e1] at et;have et2:H2 lt=some (.lst ((F2.map ff).map V.int)):=by
  rw[et,DJ,DJ,DJ]
  rfl
 refine ⟨_,rfl,aq lt (F2.map ff) ⟨rfl,aC.of et2,by rw[D3];omega,_,rfl,aq lt _ ⟨rfl,.inl (aC.of et2),rfl,_,rfl,xp (fun c2=>no ?_ _ g2) (fun c2=>?_)⟩⟩⟩
 ·have:¬(F2.map ff).Nodup:=fun nd=>c2 (by rw[j7.mpr nd,D3 (as:=F2.map ff)])
  unfold cE;rw[decide_eq_false this];simp
 have nd:(F2.map ff).Nodup:=j7.mp (by rw[D3 (as:=F2.map ff)] at c2;omega)
 refine ⟨_,rfl,q _ _ g2 ?_⟩;have e:fB T.length (2*(T.length:Int)+n) F2 G=some (F2.map ff):=by
  unfold fB cE;rw[zk,p1,p2,decide_eq_true nd];have:F2≠ []:=fun e=>c0 (by rw[lF,e];rfl)
  cases F2 with
  |nil=>exact absurd rfl this
  |cons _ _=>rfl
 rw[e];exact ⟨lt,rfl,et2⟩
theorem AV {dV:Value} (F:bn K "stretch_total" "stretch_total" yO dV f fd) (DZ15:Dx P w K mg base a8 3 "work_of" ["net","case","i","tool"] [] (mO on dI)) (DZ18:Dx P w K mg base a8 3 "arcs_of" ["net","case"] [] (iJ on)) (DZ19:Dx P w K mg base a8 1 "greatest_lags" ["arcs"] [] mK) (DZ20:Dx P w K mg base a8 1 "total_by" ["lags","chain"] [] mR) (DZ28:Dx P w K mg base a8 1 "turns_for" ["work","many"] [] q9) (DZ30:Dx P w K mg base a8 4 "tasks_between" ["net","fronts","backs"] [] (j6 on)):bf P w K mg base a8 5 f fd ["net","case","tool","fronts","backs"] (oA on):=by
 have sc:aE ["net","case","tool","fronts","backs","tasks","lags","heads","tails","work"] ["net","case","tool","fronts","backs"] (ar yO):=dn (by decide+kernel)
 refine F.ok sc (fun vs H Q E h=>?_) (fun cdv A outer s H vs Q E hr h=>?_)
 ·obtain ⟨_,_,_,_,_,_,_,rfl,_⟩:=h
  rfl
 refine fK h fun x t z lf lb F2 _hi=>?_
 refine eA _hi fun G _hj=>?_
 refine f9 _hj fun _r1 hF hG f1 g1' _hk=>?_
 refine ij _hk fun fl gl _hl=>?_
 refine fK _hl fun D T A B2 n P _hm=>?_
 refine eA _hm fun O _hn=>?_
 refine eC _hn fun NC po l7 q=>?_
 clear h _hi _hj _hk _hl _hm _hn;subst _r1;refine ⟨_,(ae (cJ 5 sc (bL DZ30 hr (@aa _ _ _ _ _ (pv 0) (@aa _ _ _ _ _ (pv 3) (@aa _ _ _ _ _ (pv 4) ac rfl) rfl) rfl))) (ae (aL (PW.pt (dZ (pw (iQ (gn hr) (pv 2) (cH (pv 0) rfl)) (by with_unfolding_all rfl)) (dD (ao fu (pv 5) aZ (aD _))))) (aj (au aZ)) aw) (ae (fr (i:=6) sc.nd rfl (Or.inr rfl) (bL DZ19 hr (@aa _ _ _ _ _ (bL DZ18 hr (@aa _ _ _ _ _ (pv 0) (@aa _ _ _ _ _ (pv 1) ac rfl) rfl)) ac rfl))) (ae (fG (own:= "chain") (ys:= ["lags"]) (js:= [6]) sc.nd (i:=7) rfl rfl rfl (cok (fU fT) (.cons rfl .nil) (by decide) rfl rfl rfl rfl rfl rfl rfl rfl) (aF (pv 3)) (fun C fp s H=>(bL DZ20 hr (@aa _ _ _ _ _ (pv 1) (@aa _ _ _ _ _ (pv 0) ac rfl) rfl)))) (ae (fG (own:= "chain") (ys:= ["lags"]) (js:= [6]) sc.nd (i:=8) rfl rfl rfl (cok (fU fT) (.cons rfl .nil) (by decide) rfl rfl rfl rfl rfl rfl rfl rfl) (aF (pv 4)) (fun C fp s H=>(bL DZ20 hr (@aa _ _ _ _ _ (pv 1) (@aa _ _ _ _ _ (pv 0) ac rfl) rfl)))) (ae (aL (PW.pt (dZ (ao cS aZ (pv 7) (by with_unfolding_all rfl)) (dD (ao cS aZ (pv 8) (by with_unfolding_all rfl))))) (aj (au aZ)) aw) (ae (cJ 9 sc (ay (gG rfl) rfl B.FA PyProof.Rows.Boot.«sum» (@aa _ _ _ _ _ (bG (own:= "i") (ys:= ["net","case","tool"]) (js:= [0,1,2]) rfl (cok (fU (fU (fU fT))) (.cons rfl (.cons rfl (.cons rfl .nil))) (by decide) rfl rfl rfl rfl rfl rfl rfl rfl) (aF (pv 5)) (fun C fp s H=>(bL DZ15 hr (@aa _ _ _ _ _ (pv 1) (@aa _ _ _ _ _ (pv 2) (@aa _ _ _ _ _ (pv 0) (@aa _ _ _ _ _ (pv 3) ac rfl) rfl) rfl) rfl)))) ac rfl))) (aj (au (am a7 (am a7 (ay (cT rfl) rfl B.Fj boot_min (@aa _ _ _ _ _ (pv 7) ac rfl)) (ay (cT rfl) rfl B.Fj boot_min (@aa _ _ _ _ _ (pv 8) ac rfl))) (bL DZ28 hr (@aa _ _ _ _ _ (pv 9) (@aa _ _ _ _ _ (iz (gn hr) (cH (pv 0) rfl) (pv 2) (fun _ _=>rfl)) ac rfl) rfl)))))))))))),?_⟩
 try dsimp only[cxK]
 have sl:sizeLine=16777216:=sizeLine_eq;have tr:∀k∈A,∃p q g:Int,k= [p,q,g]:=fun k hk=>by
  obtain ⟨p,q,g,e,_⟩:=NC.ok.arcs k hk;exact (bH p q g e)
 have no:gh D T P ((bR A T P O).map cw) (2*(T.length:Int)+n) z F2 G=none->∀H',aB H H'->Q .non H':=fun h H' g=>by
  have:=q H' g;rw[h] at this;exact this
 refine ⟨_,rfl,_,rfl,_,rfl,kW x lf lb false D T A B2 n (aq F2 G ⟨rfl,NC.net,hF,hG,f1,g1',fun v H1 g1 hv=>?_⟩)⟩
 refine fK ((NC.net.same g1).ex) fun dx td tl al pl fs _hi=>?_
 refine ph _hi fun e0 l1 l2 l3 l4 l5 ed hT _hj=>?_
 refine cZ _hj fun hA hB=>?_
 replace ed:=ed.no;cases hm:cy D z with
 |none=>
  refine ⟨_,rfl,_,rfl,aN x _ dx _ ⟨_,⟨rfl,e0,B.Fb,B.Fd,l1,aq td _ ⟨rfl,yj (.inl ed) hm,_,rfl,cL (cL (no ?_ _ g1))⟩⟩⟩⟩;unfold gh;rw[hm]
  split<;>rfl
 |some m=>
  obtain ⟨m1,m8⟩:1<=m/\m<=8:=by
   obtain ⟨p,hp,e⟩:=u3 hm;have:=NC.ok.tool p hp;rw[e] at this;exact this.2
  refine ⟨_,rfl,_,rfl,aN x _ dx _ ⟨_,⟨rfl,e0,B.Fb,B.Fd,l1,aq td _ ⟨rfl,jY (.inl ed) hm,_,rfl,cP ?_⟩⟩⟩⟩;cases ht:fB T.length (2*(T.length:Int)+n) F2 G with
  |none=>
   rw[ht] at hv;replace hv:v= .non:=hv;subst hv;refine ⟨_,rfl,rfl,_,rfl,dT rfl (no ?_ _ g1)⟩;exact tj ht
  |some S2=>
   rw[ht] at hv;obtain ⟨lt,rfl,et⟩:=hv;obtain ⟨eS,tk,p1,p2⟩:=oC ht;subst eS;refine ⟨_,rfl,rfl,_,rfl,dF nofun ?_⟩;refine ⟨_,rfl,_,rfl,aq x t ⟨rfl,eN D T A B2 n P ⟨O,⟨(NC.same g1).any,po,fun la H2 g2 nla hA2=>?_⟩⟩⟩⟩
   have trF:=fO (T:=T) (P:=P) (O:=O) tr;have lA:((bR A T P O).map cw).length<=700:=by
    rw[D3];unfold bR gb;rw[D8,D8,cU,D3];omega
   have no2:cA ((bR A T P O).map cw) (2*(T.length:Int)+n) F2=none∨cA ((bR A T P O).map cw) (2*(T.length:Int)+n) G=none->∀H',aB H H'->Q .non H':=fun h=>no (jc h)
   refine (aq la _ ⟨rfl,fP hA2 trF,lA,fun d kvs H3 g3 nd edk vk=>?_⟩)
   generalize (bR A T P O).map cw=Ar at q no no2 vk lA;have k3:=(g1.trans g2).trans g3;obtain ⟨vf,ef,rf⟩:=hF.same k3;have lf':vf.length=F2.length:=rf.1;refine ⟨_,rfl,lf,rfl,⟨_,aC.of ef⟩,bv (dL oV) (fun _=>False) (fun k=>bP Ar (F2.getD k [])) (aC.of ef) (by rw[rf.1];omega) (fun a h=>h.elim) (fun k y hy Hk gk Q' hQ=>?_) fun lh H4 nlh g4 hh=>?_⟩
   ·obtain ⟨f,hf,hc⟩:=rf.at_ hy;obtain ⟨c,rfl,_,ec⟩:=iK hc;rw[aX hf] at hQ;exact ⟨_,rfl,_,rfl,aN d c Ar f ⟨kvs,⟨rfl,gk _ _ edk,vk,gk _ _ ec,fl f (D6 hf),fun H' g'=>hQ _ _ g' rfl⟩⟩⟩
   obtain ⟨wh,eh,rh⟩:=hh;rw[rf.1] at rh;rw[rh.val] at eh;have eF:(Dh F2.length).map (fun k=>bP Ar (F2.getD k []))=F2.map (bP Ar):=by
    conv=>rhs;rw[<-br F2 []]
    rw[DJ]
    rfl
   rw[eF] at eh;have k4:=k3.trans g4;obtain ⟨vg,eg,rg⟩:=hG.same k4;have lg':vg.length=G.length:=rg.1;refine ⟨_,rfl,lb,rfl,⟨_,aC.of eg⟩,bv (dL oV) (fun _=>False) (fun k=>bP Ar (G.getD k [])) (aC.of eg) (by rw[rg.1];omega) (fun a h=>h.elim) (fun k y hy Hk gk Q' hQ=>?_) fun lt2 H5 nlt2 g5 hh2=>?_⟩
   ·obtain ⟨f,hf,hc⟩:=rg.at_ hy;obtain ⟨c,rfl,_,ec⟩:=iK hc;rw[aX hf] at hQ;exact ⟨_,rfl,_,rfl,aN d c Ar f ⟨kvs,⟨rfl,(g4.trans gk) _ _ edk,vk,gk _ _ ec,gl f (D6 hf),fun H' g'=>hQ _ _ g' rfl⟩⟩⟩
   obtain ⟨wt,et2,rt⟩:=hh2;rw[rg.1] at rt;rw[rt.val] at et2;have eG:(Dh G.length).map (fun k=>bP Ar (G.getD k []))=G.map (bP Ar):=by
    conv=>rhs;rw[<-br G []]
    rw[DJ]
    rfl
   rw[eG] at et2;have k5:=k4.trans g5;have eh5:=g5 _ _ eh;clear eF eG rh rt rf rg ef eg;refine ⟨_,rfl,aq lh _ ⟨rfl,.inl (aC.of eh5),rfl,u0 _,_,rfl,yi (fun c1=>cL (no2 (.inl (j8 c1)) _ k5)) (fun c1=>?_)⟩⟩
   refine ⟨_,rfl,aq lt2 _ ⟨rfl,.inl (aC.of et2),rfl,u0 _,_,rfl,yi (fun c2=>no2 (.inr (j8 c2)) _ k5) (fun c2=>?_)⟩⟩
   rw[lE c1] at eh5;rw[lE c2] at et2;have et5:=(((g2.trans g3).trans g4).trans g5) _ _ et;have NC5:=NC.same k5;obtain ⟨nF,zk,ndF⟩:=jo.mp tk;have nG:G≠ []:=fun e=>nF (Dg (by rw[(dJ.mp zk).1,e];rfl))
   refine ⟨_,rfl,lt,rfl,⟨_,aC.of et5⟩,bv (dL V.int) (fun _=>False) (fun k=>dI T P (ff (F2.getD k [])).toNat z) (aC.of et5) (by rw[D3,D3];omega) (fun a h=>h.elim) (fun k y hy Hk gk Q' hQ=>?_) fun lw H6 nlw g6 hw=>?_⟩
   ·rw[DE,DE] at hy;obtain ⟨i,hi,rfl⟩:=DB.mp hy;obtain ⟨f,hf,rfl⟩:=DB.mp hi;rw[aX hf] at hQ;have kl:=(D5.mp hf).1;obtain ⟨j,jl,ej⟩:=oB ((dJ.mp zk).2 k _ _ hf (D4 (show k<G.length by rw[<-(dJ.mp zk).1];exact kl)))
    rw[ej,DQ] at hQ;exact ⟨_,rfl,_,rfl,_,rfl,_,rfl,aN x t j z ⟨by rw[ej];rfl,eN D T A B2 n P ⟨O,⟨(NC5.same gk).any,jl,fun H' g'=>hQ _ _ g' rfl⟩⟩⟩⟩
   obtain ⟨ww,ew,rw'⟩:=hw;rw[rw'.val] at ew;have eW:((Dh (((F2.map ff).map V.int).length)).map fun k=>dI T P (ff (F2.getD k [])).toNat z)=F2.map fun f=>dI T P (ff f).toNat z:=by
    rw[D3,D3]
    conv=>rhs;rw[<-br F2 []]
    rw[DJ]
    rfl
   rw[eW] at ew;refine (aq lw _ ⟨rfl,aC.of ew,?_⟩);have k6:=k5.trans g6;refine fK ((NC5.same g6).net.ex) fun dx' td' tl' al' pl' fs' _hi=>?_
   refine f9 _hi fun e0' l1' _ _ _ _hj=>?_
   refine ij _hj fun _ ed' _=>?_
   replace ed':=ed'.no;refine ⟨_,rfl,aq lh _ ⟨rfl,aC.of (g6 _ _ eh5),by simpa using nF,fun M hM hle=>⟨_,rfl,aq lt2 _ ⟨rfl,aC.of (g6 _ _ et2),by simpa using nG,fun M2 hM2 hle2=>?_⟩⟩⟩⟩
   rw[dP hM hle,dP hM2 hle2];refine (aq _ _ ⟨rfl,rfl,_,rfl,_,rfl,aN x _ dx' _ ⟨_,⟨rfl,e0',B.Fb,B.Fd,l1',_,rfl,aq td' _ ⟨rfl,jY (.inl ed') hm,aq _ m ⟨rfl,m1,by omega,aq _ _ ⟨rfl,rfl,?_⟩⟩⟩⟩⟩⟩)
   have e:gh D T P Ar (2*(T.length:Int)+n) z F2 G=some (dH Ar F2+dH Ar G+ -((-(j5 T P z F2)).fdiv m)):=by
    unfold gh;rw[if_pos tk,hm];unfold cA;rw[p1,p2,ig.mpr c1,ig.mpr c2]
    rfl
   have:=q _ k6;rw[e] at this;exact this
theorem AW {dV:Value} (F:bn K "has_order_of" "has_order_of" yP dV f fd):bf P w K mg base a8 1 f fd ["case","tasks"] kb:=by
 have sc:aE ["case","tasks","i","j"] ["case","tasks"] (ar yP):=dn (by decide+kernel)
 refine F.ok sc (fun vs H Q E h=>?_) (fun cdv A outer s H vs Q E hr h=>?_)
 ·obtain ⟨_,_,_,_,_,rfl,_⟩:=h
  rfl
 refine fZ h fun t l P O _hi=>?_
 refine eA _hi fun S2 _hj=>?_
 refine eC _hj fun _r1 _r2 pr _hk=>?_
 refine cZ _hk fun el q=>?_
 clear h _hi _hj _hk;subst _r1;obtain ⟨kl,ol,ec,ek,⟨ks,eb,rB⟩⟩:=_r2;refine ⟨_,(ae (aQ PassesOwn.never rfl (aF (aA aK (pv 0) af (fun _ _=>rfl))) (cV rfl (aI (cM 2 sc) (aI (cM 3 sc) bX))) (aj (aL (PW.pt (cF (ao cS (pv 2) (pv 1) (by with_unfolding_all rfl)) (bW (ao cS (pv 3) (pv 1) (by with_unfolding_all rfl))))) (aj (au bE)) aw))) (aj (au bE))),?_⟩
 try dsimp only[cxK]
 refine ⟨_,rfl,aN t _ _ _ ⟨rfl,rfl,bx.of ec,rfl,ol,rfl,⟨_,aC.of eb⟩,aR (xs:=ks.map V.ref) (fun k σ H'=>H=H'/\(∃o2 o3:Option V,σ= [FV t,FV l,o2,o3])/\(O.take k).any (fun k=>decide (k.getD 0 0∈S2)&&decide (k.getD 1 0∈S2))=false) ⟨rfl,(aq none none rfl),rfl⟩ (fun k σ H' _ h=>by rw[<-h.1];exact aC.of eb) ?_ ?_⟩⟩
 ·rintro k y σ H1 hy ⟨rfl,⟨o2,o3,rfl⟩,hn⟩;obtain ⟨a,ha,rfl⟩:=cC hy;have il:k<O.length:=by rw[<-rB.1];exact (D5.mp ha).1
  have hk:=D4 il;have ea:=rB.2 k a _ ha hk;obtain ⟨p,q',ek⟩:=pr.2 _ (DO il);rw[ek] at ea hk;have go:(decide (p∈S2)&&decide (q'∈S2))=false->(O.take (k+1)).any (fun k=>decide (k.getD 0 0∈S2)&&decide (k.getD 1 0∈S2))=false:=fun h=>by
   rw[aV hk,ER,hn,Du,EB,Ew,Eb];exact h
  refine (aq a _ ⟨rfl,bx.of ea,rfl,aq _ _ ⟨rfl,aq _ _ ⟨rfl,rfl,?_⟩⟩⟩);refine ⟨_,rfl,_,rfl,aq l _ ⟨rfl,.inl (aC.of el),rfl,jk S2,_,rfl,uQ (fun c1=>⟨_,rfl,_,rfl,aq l _ ⟨rfl,.inl (aC.of el),rfl,jk S2,_,rfl,uQ (fun c2=>?_) (fun c2=>?_)⟩⟩) (fun c1=>?_)⟩⟩
  ·have:bF O S2=true:=by
    unfold bF;rw[Di];refine ⟨_,D6 hk,?_⟩;show (decide (p∈S2)&&decide (q'∈S2))=true;rw[decide_eq_true c1,decide_eq_true c2]
    rfl
   rw[this] at q;exact q
  ·exact ⟨rfl,(aq _ _ rfl),go (by rw[decide_eq_false c2,EO])⟩
  ·exact ⟨rfl,(aq _ _ rfl),go (by rw[decide_eq_false c1,EN])⟩
 ·rintro σ H1 ⟨rfl,⟨o2,o3,rfl⟩,hn⟩;rw[D3,rB.1,DV] at hn;have:bF O S2=false:=hn;rw[this] at q;exact q
theorem AX {dV:Value} (F:bn K "cases_of_split" "cases_of_split" yQ dV f fd) (DZ27:Dx P w K mg base a8 5 "clashes" ["net","case","some"] [] (qU on)) (DZ32:Dx P w K mg base a8 1 "has_order_of" ["case","tasks"] [] kb):bf P w K mg base a8 6 f fd ["net","case","tasks"] (lK on):=by
 have sc:aE ["net","case","tasks","cases","one","other"] ["net","case","tasks"] (ar yQ):=dn (by decide+kernel)
 refine F.ok sc (fun vs H Q E h=>?_) (fun cdv A outer s H vs Q E hr h=>?_)
 ·obtain ⟨_,_,_,_,rfl,_⟩:=h
  rfl
 refine fZ h fun x t l S2 _hi=>?_
 refine eC _hi fun _r1 el s8 _hj=>?_
 refine fK _hj fun D T A B2 n P _hk=>?_
 refine eA _hk fun O _hl=>?_
 refine ij _hl fun NC po q=>?_
 clear h _hi _hj _hk _hl;subst _r1;refine ⟨_,(ae (aL (PW.pt (dZ (cq (dj (bL DZ27 hr (@aa _ _ _ _ _ (pv 0) (@aa _ _ _ _ _ (pv 1) (@aa _ _ _ _ _ (pv 2) ac rfl) rfl) rfl)))) (dD (dj (bL DZ32 hr (@aa _ _ _ _ _ (pv 1) (@aa _ _ _ _ _ (pv 2) ac rfl) rfl)))))) (aj (au aZ)) aw) (ae (cJ 3 sc (@aU _ _ _ _ ac)) (ae (aQ PassesOwn.never rfl (aF (pv 2)) (cM 4 sc) (aj (aQ PassesOwn.never rfl (aF (pv 2)) (cM 5 sc) (aj (aL (ao eT (pv 4) (pv 5) (aD _)) (aj (bC (dt DK DU DT a6 (pv 3) (@aa _ _ _ _ _ (@bj _ _ _ _ _ (@aa _ _ _ _ _ (bJ bD rfl B.Fe boot_list (@aa _ _ _ _ _ (aA aK (pv 1) af (fun _ _=>rfl)) ac rfl)) (@aa _ _ _ _ _ (am cW (aA aK (pv 1) af (fun _ _=>rfl)) (@aU _ _ _ _ (@aa _ _ _ _ _ (@bj _ _ _ _ _ (@aa _ _ _ _ _ (pv 4) (@aa _ _ _ _ _ (pv 5) ac rfl) rfl)) ac rfl))) ac rfl) rfl)) ac rfl)))) aw))))) (aj (au (pv 3)))))),?_⟩
 try dsimp only[cxK]
 have sl:sizeLine=16777216:=sizeLine_eq;have rF:cB D T B2 P O (.split S2)=(!bF O S2&&bT D T B2 P S2):=rfl;refine ⟨_,rfl,_,rfl,_,rfl,aN x t l S2 ⟨rfl,el,by omega,eN D T A B2 n P ⟨O,⟨NC,fun H1 g1=>⟨_,rfl,?_⟩⟩⟩⟩⟩
 cases hc:bT D T B2 P S2 with
 |false=>exact cL (q _ _ g1 (.inl ⟨by rw[rF,hc,EO],rfl⟩))
 |true=>
  have hC:=NC.case_.same g1;obtain ⟨kl,ol,ec,ek,⟨bo,eo,ro⟩⟩:=id hC;have el1:=g1 _ _ el;refine cP ⟨_,rfl,_,rfl,aN t l P O ⟨S2,⟨rfl,hC,po,el1,_,rfl,?_⟩⟩⟩;cases ha:bF O S2 with
  |true=>exact cL (q _ _ g1 (.inl ⟨by rw[rF,ha];rfl,rfl⟩))
  |false=>
   refine cP ⟨by show 0<=sizeLine;decide,fun lc nlc=>?_⟩
   have lbo:bo.length<=1000:=by rw[ro.1];exact po.1
   refine ⟨_,rfl,l,rfl,⟨_,aC.of (ag nlc _ _ _ el1)⟩,aR (xs:=S2.map V.int) (fun k σ H'=>(∃o4 o5:Option V,σ= [FV x,FV t,FV l,FV lc,o4,o5])/\aB H1 H'/\∃zs,zs.map (·.2)=cX P O S2 (S2.take k)/\oM H1 H' lc zs) ⟨(aq none none rfl),ag nlc _,[],rfl,oM.nil nlc⟩ (fun k σ H' _ h=>aC.of (h.2.1 _ _ el1)) ?_ ?_⟩
   ·rintro k y σ H2 hy ⟨⟨o4,o5,rfl⟩,g2,zs,ez,cn⟩;rw[DE] at hy;obtain ⟨i,hi,rfl⟩:=DB.mp hy;refine ⟨_,rfl,l,rfl,⟨_,aC.of (g2 _ _ el1)⟩,aR (xs:=S2.map V.int) (fun m σ H'=>(∃o5:Option V,σ= [FV x,FV t,FV l,FV lc,some (.int i),o5])/\aB H1 H'/\∃zs,zs.map (·.2)=cX P O S2 (S2.take k)++((S2.take m).filter fun j=> !decide (V.int i=V.int j)).map (fun j=>(P,O++ [[i,j]]))/\oM H1 H' lc zs) ⟨⟨_,rfl⟩,g2,zs,by rw[ez];simp,cn⟩ (fun k σ H' _ h=>aC.of (h.2.1 _ _ el1)) ?_ ?_⟩
    ·rintro m y σ H3 hy ⟨⟨o5,rfl⟩,g3,zs,ez,cn⟩;rw[DE] at hy;obtain ⟨j,hj,rfl⟩:=DB.mp hy;refine ⟨_,rfl,_,rfl,rfl,_,rfl,n2 (fun c1=>?_) (fun c1=>⟨⟨_,rfl⟩,g3,zs,by rw[ez,aV hj,gL,if_pos c1,EQ],cn⟩)⟩
     have lz:zs.length<=1000:=by
      have h1:=congrArg List.length ez;rw[D3,D8,D3] at h1;have h2:=fQ (P:=P) (O:=O) (S:=S2) (S1:=S2.take k);have h3:(S2.take k).length*S2.length<=8*8:=Nat.mul_le_mul (by rw[Ds];omega) s8
      have h4:=Ek (fun j=> !decide (V.int i=V.int j)) (S2.take m)
      rw[Ds] at h4;omega
     refine ⟨_,rfl,.inl ⟨rfl,_,aC.of cn.e⟩,_,rfl,aN t _ _ _ ⟨rfl,rfl,bx.of (g3 _ _ ec),rfl,aq kl _ ⟨rfl,.inl (aC.of (g3 _ _ ek)),fun p np=>?_⟩⟩⟩
     have e1:=ag np (.lst (P.map fM));refine ⟨_,rfl,aN t _ _ _ ⟨rfl,rfl,bx.of (e1 _ _ (g3 _ _ ec)),rfl,_,rfl,_,rfl,by show 2<=sizeLine;decide,fun t1 nt1=>⟨by show 1<=sizeLine;decide,fun l1 nl1=>?_⟩⟩⟩
     have e2:=ag nt1 (.tup [.int i,.int j]);have e3:=ag nl1 (.lst [.ref t1]);have k3:=g3.trans ((e1.trans e2).trans e3);refine (aN ol l1 _ _ ⟨rfl,rfl,k3 _ _ eo,ah,by rw[D3];simp;omega,fun o no=>?_⟩)
     have hO:=gA (ro.imp fun a k q=>k3 _ _ q) (dR.one (k:= [i,j]) (a:=t1) (e3 _ _ ah)) no
     have e4:=ag no (.lst (bo.map V.ref++ [.ref t1]));refine ⟨by show 2<=sizeLine;decide,fun t2 nt2=>?_⟩
     have e5:=ag nt2 (.tup [.ref p,.ref o]);have ge:=(((e1.trans e2).trans e3).trans e4).trans e5;have ep:=(((e2.trans e3).trans e4).trans e5) _ _ (ah (H:=H3) (a:=p) (o:= .lst (P.map fM)));have no3:H3 o=none:=((e1.trans e2).trans e3).free no;have po':p≠o:=fun z=>by
      have q1:=(e2.trans e3) p _ ah;subst z;rw[q1] at no;cases no
     refine (bH lc _ _ ⟨rfl,rfl,ge _ _ cn.e,by rw[D3];omega,⟨_,rfl⟩,du (g3.trans ge) nlc _,_,?_,cn.put g3 ge np no3 po' ah ep (hO.same e5)⟩)
     rw[DS,ez,aV hj,gL,if_neg c1,Dz]
     rfl
    ·rintro σ H3 ⟨⟨o5,rfl⟩,g3,zs,ez,cn⟩;rw[D3,DV] at ez;exact ⟨(aq _ _ rfl),g3,zs,by rw[ez,aV hi,jq],cn⟩
   ·rintro σ H2 ⟨⟨o4,o5,rfl⟩,g2,zs,ez,cn⟩;rw[D3,DV] at ez;exact ⟨_,rfl,q _ _ (g1.trans g2) (.inr ⟨by rw[rF,ha,hc];rfl,aq lc zs ⟨rfl,ez,cn.later g1⟩⟩)⟩
theorem AY {dV:Value} (F:bn K "with_pick" "with_pick" yR dV f fd):bf P w K mg base a8 1 f fd ["case","i","way"] ke:=by
 have sc:aE ["case","i","way","picks"] ["case","i","way"] (ar yR):=dn (by decide+kernel)
 refine F.ok sc (fun vs H Q E h=>?_) (fun cdv A outer s H vs Q E hr h=>?_)
 ·obtain ⟨_,_,_,_,_,rfl,_⟩:=h
  rfl
 refine fZ h fun t i j P _hi=>?_
 refine eA _hi fun O _hj=>?_
 refine f9 _hj fun _r1 _r2 il p24 po q=>?_
 clear h _hi _hj;subst _r1;obtain ⟨kl,ol,ec,ek,⟨bo,eo,ro⟩⟩:=_r2;refine ⟨_,(ae (cJ 3 sc (bJ bD rfl B.Fe boot_list (@aa _ _ _ _ _ (aA aK (pv 0) af (fun _ _=>rfl)) ac rfl))) (ae (jC (pv 2) (xI (pv 3) (pv 1) set_list)) (aj (au (@bj _ _ _ _ _ (@aa _ _ _ _ _ (pv 3) (@aa _ _ _ _ _ (bJ bD rfl B.Fe boot_list (@aa _ _ _ _ _ (aA aK (pv 0) af (fun _ _=>rfl)) ac rfl)) ac rfl) rfl)))))),?_⟩
 try dsimp only[cxK]
 have sl:sizeLine=16777216:=sizeLine_eq;refine ⟨_,rfl,aN t _ _ _ ⟨rfl,rfl,bx.of ec,rfl,aq kl _ ⟨rfl,.inl (aC.of ek),fun p np=>?_⟩⟩⟩
 have e1:=ag np (.lst (P.map fM));refine ⟨_,rfl,_,rfl,_,rfl,aN p _ _ i ⟨rfl,rfl,ah,?_,?_⟩⟩
 ·rw[D3];exact wx il
 have g1:=du e1 np (.lst ((P.map fM).set i (.int (j:Int))));have ep:aG (aG H p (.lst (P.map fM))) p (.lst ((P.map fM).set i (.int (j:Int)))) p=some (.lst ((P.set i (some j)).map fM)):=by
  rw[ah,List.map_set]
  rfl
 generalize aG (aG H p (.lst (P.map fM))) p (.lst ((P.map fM).set i (.int (j:Int))))=H1 at g1 ep⊢;refine ⟨_,rfl,_,rfl,aN t _ _ _ ⟨rfl,rfl,bx.of (g1 _ _ ec),rfl,aq ol _ ⟨rfl,.inl (aC.of (g1 _ _ eo)),fun o no=>⟨by show 2<=sizeLine;decide,fun t2 nt2=>?_⟩⟩⟩⟩
 have e2:=ag no (.lst (bo.map V.ref));have e3:=ag nt2 (.tup [.ref p,.ref o]);exact q t2 p o _ ((g1.trans e2).trans e3) np (g1.free no) (fun z=>by rw[z,no] at ep;cases ep) ah (e3 _ _ (e2 _ _ ep)) ⟨bo,e3 _ _ ah,ro.imp fun a k q=>e3 _ _ (e2 _ _ (g1 _ _ q))⟩
theorem AZ {dV:Value} (F:bn K "cases_of_ways" "cases_of_ways" yS dV f fd) (DZ34:Dx P w K mg base a8 1 "with_pick" ["case","i","way"] [] ke):bf P w K mg base a8 2 f fd ["net","case","i"] (rD on):=by
 have sc:aE ["net","case","i"] ["net","case","i"] (ar yS):=dn (by decide+kernel)
 refine F.ok sc (fun vs H Q E h=>?_) (fun cdv A outer s H vs Q E hr h=>?_)
 ·obtain ⟨_,_,_,rfl,_⟩:=h
  rfl
 refine ko h fun x t i _hi=>?_
 refine cZ _hi fun _r1 _hj=>?_
 refine fK _hj fun D T A B2 n P _hk=>?_
 refine eA _hk fun O _hl=>?_
 refine ij _hl fun NC po q=>?_
 clear h _hi _hj _hk _hl;subst _r1;refine ⟨_,(ae (aL (cq (cG dq fD af (pv 2) (ay av rfl B.Ev boot_len (@aa _ _ _ _ _ (cH (pv 0) rfl) ac rfl)))) (aj (au aZ)) aw) (ae (aL (PW.pt (dZ (ao eT (ay av rfl B.Ev boot_len (@aa _ _ _ _ _ (aA a9 (cH (pv 0) rfl) (pv 2) (fun _ _=>rfl)) ac rfl)) af (aD _)) (dD (ao fg (aA a9 (aA aK (pv 1) af (fun _ _=>rfl)) (pv 2) (fun _ _=>rfl)) aZ (aD _))))) (aj (au aZ)) aw) (aj (au (@aU _ _ _ _ (@aa _ _ _ _ _ (bL DZ34 hr (@aa _ _ _ _ _ (pv 1) (@aa _ _ _ _ _ (pv 2) (@aa _ _ _ _ _ af ac rfl) rfl) rfl)) (@aa _ _ _ _ _ (bL DZ34 hr (@aa _ _ _ _ _ (pv 1) (@aa _ _ _ _ _ (pv 2) (@aa _ _ _ _ _ af ac rfl) rfl) rfl)) ac rfl) rfl)))))),?_⟩
 try dsimp only[cxK]
 refine fK NC.net.ex fun dx td tl al pl fs _hi=>?_
 refine ph _hi fun e0 l1 l2 l3 l4 l5 ed _r1 _hj=>?_
 refine cZ _hj fun hA hB=>?_
 obtain ⟨vs,etl,rT⟩:=_r1;obtain ⟨kl,ol,ec,ek,ho⟩:=id NC.case_;have t24:=NC.ok.t24;have no:fq T P i=false->Q .non H:=fun h=>q _ _ (.refl _) (.inl ⟨h,rfl⟩)
 have wF:fq T P i=((decide (0<=i)&&decide (i<(T.length:Int)))&&(decide ((T.getD i.toNat []).length=2)&&decide (P.getD i.toNat none=none))):=rfl;refine ⟨_,rfl,aq _ _ ⟨rfl,rfl,_,rfl,d2 (fun c1=>⟨_,rfl,aN x _ dx _ ⟨_,⟨rfl,e0,B.Fb,B.Fa,l2,aq tl _ ⟨rfl,.inl (aC.of etl),aq _ _ ⟨rfl,rfl,_,rfl,n2 (fun c2=>?_) (fun c2=>?_)⟩⟩⟩⟩⟩) (fun c1=>⟨_,rfl,cL (no (by rw[wF,decide_eq_false c1];rfl))⟩)⟩⟩
 ·rw[rT.1] at c2;exact no (by rw[wF,decide_eq_false c2,EO];rfl)
 rw[rT.1] at c2;obtain ⟨k,rfl⟩:∃k:Nat,i=(k:Int):=⟨i.toNat,by omega⟩
 have kl':k<T.length:=by omega
 have hT:=D4 kl';obtain ⟨y,hy,wl,rfl,_,lw⟩:=rT.get hT;obtain ⟨us,eu,ru⟩:=id lw;have hP:=D4 (show k<P.length by rw[NC.pk.len];exact kl')
 rw[DQ,aX hT,aX hP,decide_eq_true c1,decide_eq_true c2,EC,EC] at wF;refine ⟨_,rfl,aN x _ dx _ ⟨_,⟨rfl,e0,B.Fb,B.Fa,l2,_,rfl,aN tl _ _ _ ⟨rfl,rfl,aC.of etl,(a4 hy),aq wl _ ⟨rfl,.inl (aC.of eu),rfl,_,rfl,xp (fun c3=>?_) (fun c3=>?_)⟩⟩⟩⟩⟩
 ·rw[ru.1] at c3;exact no (by rw[wF,decide_eq_false (by omega)];rfl)
 rw[ru.1] at c3;rw[decide_eq_true (show (T[k]).length=2 by omega),EC] at wF
 refine ⟨_,rfl,aN t _ _ _ ⟨rfl,rfl,bx.of ec,rfl,_,rfl,aN kl _ _ _ ⟨rfl,rfl,aC.of ek,(a4 (dO hP)),rfl,_,rfl,?_⟩⟩⟩;cases hp:P[k]'(by rw[NC.pk.len];exact kl') with
 |some j=>exact nT nofun (no (by rw[wF,hp];rfl))
 |none=>
  rw[hp] at wF;refine nF rfl ⟨_,rfl,_,rfl,aN t k 0 P ⟨O,⟨rfl,NC.case_,by rw[NC.pk.len];exact kl',by rw[NC.pk.len];exact t24,po,fun t1 p1 o1 H1 g1 np1 no1 po1 et1 ep1 eo1=>⟨_,rfl,_,rfl,aN t k 1 P ⟨O,⟨rfl,NC.case_.same g1,by rw[NC.pk.len];exact kl',by rw[NC.pk.len];exact t24,po,fun t2 p2 o2 H2 g2 np2 no2 po2 et2 ep2 eo2=>⟨by show 2<=sizeLine;decide,fun lc nlc=>?_⟩⟩⟩⟩⟩⟩⟩
  exact q _ _ ((g1.trans g2).trans (ag nlc _)) (.inr ⟨by rw[wF];rfl,aq lc _ ⟨rfl,rfl,oM.two g1 g2 np1 no1 po1 et1 ep1 eo1 np2 no2 po2 et2 ep2 eo2 nlc⟩⟩)
theorem A3 {dV:Value} (F:bn K "parted" "parted" yT dV f fd) (DZ33:Dx P w K mg base a8 6 "cases_of_split" ["net","case","tasks"] [] (lK on)) (DZ35:Dx P w K mg base a8 2 "cases_of_ways" ["net","case","i"] [] (rD on)):bf P w K mg base a8 7 f fd ["net","case","row"] (oN on):=by
 have sc:aE ["net","case","row"] ["net","case","row"] (ar yT):=dn (by decide+kernel)
 refine F.ok sc (fun vs H Q E h=>?_) (fun cdv A outer s H vs Q E hr h=>?_)
 ·obtain ⟨_,_,_,_,rfl,_⟩:=h
  rfl
 refine fZ h fun x t r w _hi=>?_
 refine eC _hi fun _r1 hrw ok _hj=>?_
 refine fK _hj fun D T A B2 n P _hk=>?_
 refine eA _hk fun O _hl=>?_
 refine ij _hl fun NC po q=>?_
 clear h _hi _hj _hk _hl;subst _r1;refine ⟨_,(ae (aL (ao b8 (aA aK (pv 2) af (fun _ _=>rfl)) dh (aD _)) (aj (au (bL DZ33 hr (@aa _ _ _ _ _ (pv 0) (@aa _ _ _ _ _ (pv 1) (@aa _ _ _ _ _ (aA aK (pv 2) af (fun _ _=>rfl)) ac rfl) rfl) rfl)))) aw) (ae (aL (ao b8 (aA aK (pv 2) af (fun _ _=>rfl)) dh (aD _)) (aj (au (bL DZ35 hr (@aa _ _ _ _ _ (pv 0) (@aa _ _ _ _ _ (pv 1) (@aa _ _ _ _ _ (aA aK (pv 2) af (fun _ _=>rfl)) ac rfl) rfl) rfl)))) aw) (aj (au aZ)))),?_⟩
 try dsimp only[cxK]
 cases w with
 |split S2=>
  obtain ⟨c,e,ec⟩:=hrw;exact ⟨_,rfl,aN r _ _ _ ⟨rfl,rfl,bx.of e,rfl,rfl,_,rfl,dT rfl ⟨_,rfl,_,rfl,_,rfl,aN r _ _ _ ⟨rfl,rfl,bx.of e,rfl,aN x t c S2 ⟨rfl,ec,ok,eN D T A B2 n P ⟨O,⟨NC,po,q⟩⟩⟩⟩⟩⟩⟩
 |ways i=>
  have e:H r=some (.tup [.str "ways",.int i]):=hrw;exact ⟨_,rfl,aN r _ _ _ ⟨rfl,rfl,bx.of e,rfl,rfl,_,rfl,dF (by decide) ⟨_,rfl,aN r _ _ _ ⟨rfl,rfl,bx.of e,rfl,rfl,_,rfl,dT rfl ⟨_,rfl,_,rfl,_,rfl,aN r _ _ _ ⟨rfl,rfl,bx.of e,rfl,bH x t i ⟨rfl,eN D T A B2 n P ⟨O,⟨NC,po,q⟩⟩⟩⟩⟩⟩⟩⟩⟩
theorem A4 {dV:Value} (F:bn K "bound_of" "bound_of" yU dV f fd) (DZ10:Dx P w K mg base a8 2 "are_points" ["net","some"] [] (fk on)) (DZ18:Dx P w K mg base a8 3 "arcs_of" ["net","case"] [] (iJ on)) (DZ21:Dx P w K mg base a8 2 "chain_total" ["arcs","chain"] [] og) (DZ31:Dx P w K mg base a8 5 "stretch_total" ["net","case","tool","fronts","backs"] [] (oA on)):bf P w K mg base a8 6 f fd ["net","case","row"] (lH on):=by
 have sc:aE ["net","case","row"] ["net","case","row"] (ar yU):=dn (by decide+kernel)
 refine F.ok sc (fun vs H Q E h=>?_) (fun cdv A outer s H vs Q E hr h=>?_)
 ·obtain ⟨_,_,_,_,rfl,_⟩:=h
  rfl
 refine fZ h fun x t row r _hi=>?_
 refine eC _hi fun _r1 hr' ok _hj=>?_
 refine fK _hj fun D T A B2 n P _hk=>?_
 refine eA _hk fun O _hl=>?_
 refine eC _hl fun NC po l7 q=>?_
 clear h _hi _hj _hk _hl;subst _r1;refine ⟨_,(ae (aL (ao b8 (aA aK (pv 2) af (fun _ _=>rfl)) dh (aD _)) (aj (au (bL DZ31 hr (@aa _ _ _ _ _ (pv 0) (@aa _ _ _ _ _ (pv 1) (@aa _ _ _ _ _ (aA aK (pv 2) af (fun _ _=>rfl)) (@aa _ _ _ _ _ (aA aK (pv 2) af (fun _ _=>rfl)) (@aa _ _ _ _ _ (aA aK (pv 2) af (fun _ _=>rfl)) ac rfl) rfl) rfl) rfl) rfl)))) aw) (ae (aL (PW.pt (cF (ao b8 (aA aK (pv 2) af (fun _ _=>rfl)) dh (aD _)) (bW (dj (bL DZ10 hr (@aa _ _ _ _ _ (pv 0) (@aa _ _ _ _ _ (aA aK (pv 2) af (fun _ _=>rfl)) ac rfl) rfl)))))) (aj (au (bL DZ21 hr (@aa _ _ _ _ _ (bL DZ18 hr (@aa _ _ _ _ _ (pv 0) (@aa _ _ _ _ _ (pv 1) ac rfl) rfl)) (@aa _ _ _ _ _ (aA aK (pv 2) af (fun _ _=>rfl)) ac rfl) rfl)))) aw) (aj (au aZ)))),?_⟩
 try dsimp only[cxK]
 have no:db D T P ((bR A T P O).map cw) (2*(T.length:Int)+n) r=none->Q .non H:=fun h=>by
  have:=q H (.refl _);rw[h] at this;exact this
 cases r with
 |full z F2 G=>
  obtain ⟨lf,lb,e,hF,hG⟩:=hr';obtain ⟨o1,o2,o3,o4⟩:=ok;exact ⟨_,rfl,aN row _ _ _ ⟨rfl,rfl,bx.of e,rfl,rfl,_,rfl,dT rfl ⟨_,rfl,_,rfl,_,rfl,aN row _ _ _ ⟨rfl,rfl,bx.of e,rfl,_,rfl,aN row _ _ _ ⟨rfl,rfl,bx.of e,rfl,_,rfl,aN row _ _ _ ⟨rfl,rfl,bx.of e,rfl,eN x t z lf lb F2 ⟨G,rfl,hF,hG,by omega,by omega,fun f hf=>by have:=o3 f hf;omega,fun f hf=>by have:=o4 f hf;omega,D,T,A,B2,n,P,O,NC,po,l7,q⟩⟩⟩⟩⟩⟩⟩
 |one w C=>
  obtain ⟨c,e,ec⟩:=hr';obtain ⟨hw,c30⟩:=ok;have wf:¬V.str w=V.str "full" :=fun z=>by
   injection z with z
   subst z;rcases hw with z|z|z<;>exact absurd z (by decide)
  by_cases hc:w= "chain"
  ·subst hc;refine ⟨_,rfl,aN row _ _ _ ⟨rfl,rfl,bx.of e,rfl,rfl,_,rfl,dF wf ⟨_,rfl,aN row _ _ _ ⟨rfl,rfl,bx.of e,rfl,rfl,_,rfl,dT rfl ⟨_,rfl,_,rfl,aN row _ _ _ ⟨rfl,rfl,bx.of e,rfl,kW x c false D T A B2 n C ⟨rfl,NC.net,ec,_,rfl,?_⟩⟩⟩⟩⟩⟩⟩;cases hp:da (2*(T.length:Int)+n) C with
   |false=>exact cP (no (by show (if ("chain" :Str)= "chain" then (if da (2*(T.length:Int)+n) C=true then bP ((bR A T P O).map cw) C else none) else none)=none;rw[if_pos rfl,hp];rfl))
   |true=>
    refine cL ⟨_,rfl,_,rfl,aq x t ⟨rfl,eN D T A B2 n P ⟨O,⟨NC.any,po,fun la H1 g1 nla hA=>⟨_,rfl,aN row _ _ _ ⟨rfl,rfl,bx.of (g1 _ _ e),rfl,aN la c _ C ⟨rfl,fP hA (fO NC.ok.trip),lJ l7,g1 _ _ ec,by omega,fun H2 g2=>?_⟩⟩⟩⟩⟩⟩⟩
    have:=q H2 (g1.trans g2);rw[show db D T P ((bR A T P O).map cw) (2*(T.length:Int)+n) (.one "chain" C)=bP ((bR A T P O).map cw) C by show (if ("chain" :Str)= "chain" then (if da (2*(T.length:Int)+n) C=true then bP ((bR A T P O).map cw) C else none) else none)=_;rw[if_pos rfl,hp];rfl] at this
    exact this
  ·have wc:¬V.str w=V.str "chain" :=fun z=>hc (by injection z)
   exact ⟨_,rfl,aN row _ _ _ ⟨rfl,rfl,bx.of e,rfl,rfl,_,rfl,dF wf ⟨_,rfl,aN row _ _ _ ⟨rfl,rfl,bx.of e,rfl,rfl,_,rfl,dF wc (cP (no (if_neg hc)))⟩⟩⟩⟩
 |ways i=>
  have e:H row=some (.tup [.str "ways",.int i]):=hr';exact ⟨_,rfl,aN row _ _ _ ⟨rfl,rfl,bx.of e,rfl,rfl,_,rfl,dF (by decide) ⟨_,rfl,aN row _ _ _ ⟨rfl,rfl,bx.of e,rfl,rfl,_,rfl,dF (by decide) (cP (no rfl))⟩⟩⟩⟩
theorem A5 {dV:Value} (F:bn K "shuts_by_ring" "shuts_by_ring" yV dV f fd) (DZ10:Dx P w K mg base a8 2 "are_points" ["net","some"] [] (fk on)) (DZ18:Dx P w K mg base a8 3 "arcs_of" ["net","case"] [] (iJ on)) (DZ22:Dx P w K mg base a8 3 "ring_total" ["arcs","ring"] [] qR):bf P w K mg base a8 4 f fd ["net","case","ring"] (ka on):=by
 have sc:aE ["net","case","ring","total"] ["net","case","ring"] (ar yV):=dn (by decide+kernel)
 refine F.ok sc (fun vs H Q E h=>?_) (fun cdv A outer s H vs Q E hr h=>?_)
 ·obtain ⟨_,_,_,_,rfl,_⟩:=h
  rfl
 refine fZ h fun x t c R2 _hi=>?_
 refine eC _hi fun _r1 ec r30 _hj=>?_
 refine fK _hj fun D T A B2 n P _hk=>?_
 refine eA _hk fun O _hl=>?_
 refine eC _hl fun NC po l7 q=>?_
 clear h _hi _hj _hk _hl;subst _r1;refine ⟨_,(ae (aL (cq (dj (bL DZ10 hr (@aa _ _ _ _ _ (pv 0) (@aa _ _ _ _ _ (pv 2) ac rfl) rfl)))) (aj (au bE)) aw) (ae (cJ 3 sc (bL DZ22 hr (@aa _ _ _ _ _ (bL DZ18 hr (@aa _ _ _ _ _ (pv 0) (@aa _ _ _ _ _ (pv 1) ac rfl) rfl)) (@aa _ _ _ _ _ (pv 2) ac rfl) rfl))) (aj (au (tQ (eJ fg (pv 3) aZ (aD _)) (lW (eJ fR (pv 3) af (aD _)))))))),?_⟩;try dsimp only[cxK]
 refine ⟨_,rfl,_,rfl,kW x c false D T A B2 n R2 ⟨rfl,NC.net,ec,_,rfl,?_⟩⟩;cases hp:da (2*(T.length:Int)+n) R2 with
 |false=>
  have:=q H (.refl _);rw[hp] at this;exact cL this
 |true=>
  rw[hp] at q;refine cP ⟨_,rfl,_,rfl,aq x t ⟨rfl,eN D T A B2 n P ⟨O,⟨NC.any,po,fun la H1 g1 nla hA=>⟨_,rfl,aN la c _ R2 ⟨rfl,fP hA (fO NC.ok.trip),lJ l7,g1 _ _ ec,by omega,fun H2 g2=>?_⟩⟩⟩⟩⟩⟩
  have:=q H2 (g1.trans g2);rw[EC] at this;cases ho:eY ((bR A T P O).map cw) R2 with
  |none=>
   rw[ho] at this;exact ⟨_,rfl,rfl,_,rfl,nF rfl this⟩
  |some v=>
   rw[ho] at this;exact ⟨_,rfl,rfl,_,rfl,nT nofun ⟨_,rfl,aq _ _ ⟨rfl,rfl,this⟩⟩⟩
theorem A6 {dV:Value} (F:bn K "shuts" "shuts" yW dV f fd) (DZ37:Dx P w K mg base a8 6 "bound_of" ["net","case","row"] [] (lH on)) (DZ38:Dx P w K mg base a8 4 "shuts_by_ring" ["net","case","ring"] [] (ka on)):bf P w K mg base a8 7 f fd ["net","case","low","row"] (rC on):=by
 have sc:aE ["net","case","low","row","bound"] ["net","case","low","row"] (ar yW):=dn (by decide+kernel)
 refine F.ok sc (fun vs H Q E h=>?_) (fun cdv A outer s H vs Q E hr h=>?_)
 ·obtain ⟨_,_,_,_,_,rfl,_⟩:=h
  rfl
 refine fZ h fun x t row low _hi=>?_
 refine eA _hi fun r _hj=>?_
 refine eC _hj fun _r1 hr' ok _hk=>?_
 refine fK _hk fun D T A B2 n P _hl=>?_
 refine eA _hl fun O _hm=>?_
 refine eC _hm fun NC po l7 q=>?_
 clear h _hi _hj _hk _hl _hm;subst _r1;refine ⟨_,(ae (aL (ao b8 (aA aK (pv 3) af (fun _ _=>rfl)) dh (aD _)) (aj (au (bL DZ38 hr (@aa _ _ _ _ _ (pv 0) (@aa _ _ _ _ _ (pv 1) (@aa _ _ _ _ _ (aA aK (pv 3) af (fun _ _=>rfl)) ac rfl) rfl) rfl)))) aw) (ae (aL (ao fu (pv 2) aZ (aD _)) (aj (au bE)) aw) (ae (cJ 4 sc (bL DZ37 hr (@aa _ _ _ _ _ (pv 0) (@aa _ _ _ _ _ (pv 1) (@aa _ _ _ _ _ (pv 3) ac rfl) rfl) rfl))) (aj (au (tQ (eJ fg (pv 4) aZ (aD _)) (lW (eJ xk (pv 4) (pv 2) (aD _))))))))),?_⟩
 try dsimp only[cxK]
 have rest:iL r->∀N:L2.St->Hp->Prop,True:=fun _ _=>trivial
 have e0:∃w ys,H row=some (.tup (.str w::ys))/\(w= "ring" ↔∃C,r= .one "ring" C):=by
  cases r with
  |full z F2 G=>
   obtain ⟨lf,lb,e,_,_⟩:=hr';exact (aq _ _ ⟨e,⟨fun z=>absurd z (by decide),fun ⟨C,z⟩=>by cases z⟩⟩)
  |one w C=>
   obtain ⟨c,e,ec⟩:=hr';exact (aq _ _ ⟨e,⟨fun z=>⟨C,by rw[z]⟩,fun ⟨C,z⟩=>by injection z⟩⟩)
  |ways i=>exact (aq _ _ ⟨hr',⟨fun z=>absurd z (by decide),fun ⟨C,z⟩=>by cases z⟩⟩)
 obtain ⟨w,ys,e,iw⟩:=e0
 by_cases hw:w= "ring"
 ·obtain ⟨C,rfl⟩:=iw.mp hw;subst hw;obtain ⟨c,e',ec⟩:=hr';refine ⟨_,rfl,aN row _ _ _ ⟨rfl,rfl,bx.of e',rfl,rfl,_,rfl,dT rfl ⟨_,rfl,_,rfl,_,rfl,aN row _ _ _ ⟨rfl,rfl,bx.of e',rfl,aN x t c C ⟨rfl,ec,ok.2,eN D T A B2 n P ⟨O,⟨NC,po,l7,fun H' g=>?_⟩⟩⟩⟩⟩⟩⟩
  have:=q H' g;rw[ii] at this;exact this
 have nr:iL r:=by
  cases r with
  |full _ _ _=>trivial
  |one w' C=>exact fun z=>hw (iw.mpr ⟨C,by rw[z]⟩)
  |ways _=>trivial
 refine ⟨_,rfl,aN row _ _ _ ⟨rfl,rfl,bx.of e,a4 (j:=0) rfl,rfl,_,rfl,dF (fun z=>hw (by injection z)) ?_⟩⟩
 have q':∀H',aB H H'->Q (.bl (As (db D T P ((bR A T P O).map cw) (2*(T.length:Int)+n) r) low)) H':=fun H' g=>by
  have:=q H' g;rw[jd nr] at this;exact this
 cases low with
 |none=>exact ⟨_,rfl,rfl,_,rfl,dT rfl (q' H (.refl _))⟩
 |some l=>
  refine ⟨_,rfl,rfl,_,rfl,dF nofun ⟨_,rfl,_,rfl,_,rfl,aN x t row r ⟨rfl,hr',ok,eN D T A B2 n P ⟨O,⟨NC,po,l7,fun H' g=>?_⟩⟩⟩⟩⟩
  have:=q' H' g;cases ho:db D T P ((bR A T P O).map cw) (2*(T.length:Int)+n) r with
  |none=>
   rw[ho] at this;exact ⟨_,rfl,rfl,_,rfl,nF rfl this⟩
  |some v=>
   rw[ho] at this;exact ⟨_,rfl,rfl,_,rfl,nT nofun ⟨_,rfl,_,rfl,aq _ _ ⟨rfl,rfl,this⟩⟩⟩
theorem A7 {dV:Value} (F:bn K "lets_by" "lets_by" yX dV f fd) (DZ11:Dx P w K mg base a8 1 "start_case" ["net"] [] (qW on)) (DZ36:Dx P w K mg base a8 7 "parted" ["net","case","row"] [] (oN on)) (DZ39:Dx P w K mg base a8 7 "shuts" ["net","case","low","row"] [] (rC on)):bf P w K mg base a8 8 f fd ["net","low","paper"] (vd on):=by
 have sc:aE ["net","low","paper","pile","row","case","cases"] ["net","low","paper"] (ar yX):=dn (by decide+kernel)
 refine F.ok sc (fun vs H Q E h=>?_) (fun cdv A outer s H vs Q E hr h=>?_)
 ·obtain ⟨_,_,_,_,_,_,_,_,_,rfl,_⟩:=h
  rfl
 refine qc h fun x l low D T A B2 n rs _hi=>?_
 refine f9 _hi fun _r1 N nok hl ok _hj=>?_
 refine cZ _hj fun l7 q=>?_
 clear h _hi _hj;subst _r1;refine ⟨_,(ae (cJ 3 sc (@aU _ _ _ _ (@aa _ _ _ _ _ (bL DZ11 hr (@aa _ _ _ _ _ (pv 0) ac rfl)) ac rfl))) (ae (aQ PassesOwn.never rfl (aF (pv 2)) (cM 4 sc) (ae (aL (ao b8 (ay av rfl B.Ev boot_len (@aa _ _ _ _ _ (pv 3) ac rfl)) af (aD _)) (aj (au bE)) aw) (ae (cJ 5 sc (jG DK PySem.F.slot_list_pop PySem.F.type_list_pop pJ (pv 3))) (aj (aL (ao cS (aA aK (pv 4) af (fun _ _=>rfl)) (jv (v:=V.ref Ff) rfl B.Fz rfl) (by with_unfolding_all rfl)) (ae (cJ 6 sc (bL DZ36 hr (@aa _ _ _ _ _ (pv 0) (@aa _ _ _ _ _ (pv 5) (@aa _ _ _ _ _ (pv 4) ac rfl) rfl) rfl))) (ae (aL (ao fu (pv 6) aZ (aD _)) (aj (au bE)) aw) (aj (bC (dt DK PySem.F.slot_list_extend PySem.F.type_list_extend iP (pv 3) (@aa _ _ _ _ _ (hV rfl rfl B.Fe rfl B.Fl boot_list PyProof.Rows.Boot.«reversed» (pv 6)) ac rfl)))))) (aj (aL (cq (dj (bL DZ39 hr (@aa _ _ _ _ _ (pv 0) (@aa _ _ _ _ _ (pv 5) (@aa _ _ _ _ _ (pv 1) (@aa _ _ _ _ _ (pv 4) ac rfl) rfl) rfl) rfl)))) (aj (au bE)) aw))))))) (aj (au (eJ b8 (ay av rfl B.Ev boot_len (@aa _ _ _ _ _ (pv 3) ac rfl)) af (aD _)))))),?_⟩
 try dsimp only[cxK]
 have sl:sizeLine=16777216:=sizeLine_eq;obtain ⟨vs,el,rl⟩:=id hl;refine ⟨_,rfl,eN x false D T A B2 ⟨n,⟨rfl,N,nok.t24,fun t H1 g1 hc=>⟨by show 1<=sizeLine;decide,fun lp nlp=>?_⟩⟩⟩⟩
 have tl1:cR (fun a=>a≠lp) H1 (.ref t) ((Dh T.length).map fun _=>none,[]):=iW (wB hc.r) fun a h e=>h.2 (by rw[e];exact nlp)
 have g2:=ag nlp (.lst [.ref t]);have hp0:bU cR (fun a=>a≠lp) (aG H1 lp (.lst [.ref t])) lp (cI T).reverse:=⟨_,ah,A2.one (dA tl1 g2)⟩
 refine ⟨_,rfl,l,rfl,⟨_,aC.of ((g1.trans g2) _ _ el)⟩,aR (xs:=vs) (fun k σ H'=>(∃o4 o5 o6:Option V,σ= [FV x,some (oV low),FV l,FV lp,o4,o5,o6])/\aB H1 H'/\∃p,gi D T A B2 n low (cI T) (rs.take k)=some p/\bU cR (fun a=>a≠lp) H' lp p.reverse) ⟨(bH none none none rfl),g2,_,rfl,hp0⟩ (fun k σ H' _ h=>aC.of (h.2.1 _ _ (g1 _ _ el))) ?_ ?_⟩
 ·rintro k y σ H2 hy ⟨⟨o4,o5,o6,rfl⟩,g3,p,hp,us,elp,rlp⟩;obtain ⟨r,hr',rr⟩:=rl.at_ hy;obtain ⟨t',rfl,ra⟩:=rr.row;have g13:=g1.trans g3;replace ra:=ra.same g13;obtain ⟨okr,okp⟩:=ok r (D6 hr');have kl:=(D5.mp hr').1;have lt:=List.length_take_le k rs;have cok:=qj hp je;have p64:=qk hp fun r hr=>ok r (Es hr)
  have s1:(cI T).length=1:=rfl;have lu:=rlp.1;rw[Dv] at lu;have hs:=rE hr' hp;have bad:dv D T A B2 n low p r=none->∀H',aB H H'->Q (.bl false) H':=fun h H' g=>by
   have:=q H' g;rw[wX (k:=k+1) (by rw[hs,h])] at this
   exact this
  refine ⟨_,rfl,aq lp _ ⟨rfl,.inl (aC.of elp),rfl,_,rfl,Cf (fun c0=>?_) (fun c0=>?_)⟩⟩
  ·have pe:p= []:=Dg (by omega)
   exact bad (by rw[pe];rfl) _ g13
  match p,hp,rlp,lu,cok,p64,hs,bad with
  | [],_,_,lu,_,_,_,_=>exact absurd lu (by simp at lu c0⊢;omega)
  |c::p0,hp,rlp,lu,cok,p64,hs,bad=>
  rw[List.reverse_cons] at rlp;obtain ⟨us0,u,rfl,ru,rl0⟩:=rlp.unsnoc;refine ⟨_,rfl,.inl ⟨rfl,_,aC.of elp⟩,bH lp _ u ⟨rfl,rfl,elp,by simp,?_⟩⟩
  rw[List.dropLast_concat];have g4:=du g3 nlp (.lst us0);have ru4:=jt ru (l:=lp) (fun z=>z rfl) (.lst us0)
  have rl4:=rl0.imp fun v x q=>jt q (l:=lp) (fun z=>z rfl) (.lst us0)
  have e4:aG H2 lp (.lst us0) lp=some (.lst us0):=ah;generalize aG H2 lp (.lst us0)=H4 at g4 ru4 rl4 e4⊢;have g14:=g1.trans g4;have ra4:mS H4 t' r:=by
   obtain ⟨_,e,h⟩:=rr.row;cases e;exact h.same g14
  obtain ⟨w,ys,ew,iw⟩:=kh ra4 okr;obtain ⟨tc,rfl,hcs⟩:=cR.case ru4;have ck:=cok c Dk;have k1:k<=700:=by omega
  have cl:=ck.len;have NC:j3 on false H4 x tc D T A B2 n c.1 c.2:=⟨N.same g14,hcs,nok,ck.pk⟩;have po:=ck.pairs (by omega)
  rw[DL] at p64;refine ⟨_,rfl,aN t' _ _ _ ⟨rfl,rfl,bx.of ew,a4 (j:=0) rfl,aq Ff _ ⟨rfl,.inr (B.Fu.sq _),rfl,xt _,_,rfl,C7 (gs:= ["split","ways"]) (fun m=>?_) (fun m=>?_)⟩⟩⟩
  ·have ib:eD r=true:=iw.mp (by simpa using m)
   unfold eD at ib;obtain ⟨w',hw'⟩:=Do.mp ib;have okw:=okp w' hw';have st:dv D T A B2 n low (c::p0) r=if cB D T B2 c.1 c.2 w'=true then some (ce c.1 c.2 w'++p0) else none:=by
    show dU D T A B2 n low c p0 r=_;unfold dU;rw[hw']
   refine ⟨_,rfl,_,rfl,_,rfl,aN x tc t' w' ⟨rfl,oP ra4 hw',okw,eN D T A B2 n c.1 ⟨c.2,⟨NC,po,fun v H5 g5 tv=>?_⟩⟩⟩⟩
   rcases tv with ⟨rf,rfl⟩|⟨rt,lc,zs,rfl,ez,cn⟩
   ·exact ⟨_,rfl,rfl,_,rfl,dT rfl (bad (by rw[st,rf];rfl) _ (g14.trans g5))⟩
   rw[st,if_pos rt] at hs;refine ⟨_,rfl,rfl,_,rfl,dF nofun ⟨_,rfl,.inl ⟨rfl,_,aC.of (g5 _ _ e4)⟩,_,rfl,aq lc _ ⟨rfl,aC.of cn.e,fun lr nlr=>?_⟩⟩⟩
   have g6:=ag nlr (.lst (zs.map fun z=>V.ref z.1.1).reverse)
   have e6:=(g5.trans g6) _ _ e4;have rlz:lr≠lp:=fun z=>by rw[z,g5 _ _ e4] at nlr;cases nlr
   have lz:=eR (P:=c.1) (O:=c.2) okw;rw[<-ez,D3] at lz;have lus:us0.length=p0.length:=by rw[rl0.1,Dv]
   refine (aN lp lr _ _ ⟨rfl,rfl,e6,ah,by rw[Dv,D3];omega,?_⟩)
   have rz:A2 (cR (fun a=>a≠lp) (aG H5 lr (.lst (zs.map fun z=>V.ref z.1.1).reverse))) (zs.map fun z=>V.ref z.1.1) (ce c.1 c.2 w'):=by
    rw[<-ez];exact (cn.rn e4 (g5 _ _ e4)).imp fun _ _ q=>dA q g6
   refine ⟨(bH _ _ _ rfl),du (g4.trans (g5.trans g6)) nlp _,_,hs,?_⟩;rw[List.reverse_append];exact bU.ext (fun z=>z rfl) (rl4.imp fun _ _ q=>dA q (g5.trans g6)) rz.rev
  ·have ib:cg r=none:=by
    cases hi:cg r with
    |none=>rfl
    |some w'=>exact absurd (iw.mpr (by unfold eD;rw[hi];rfl)) (by simpa using m)
   have st:dv D T A B2 n low (c::p0) r=if eE D T A n low c r=true then some p0 else none:=by
    show dU D T A B2 n low c p0 r=_;unfold dU;rw[ib]
   refine ⟨_,rfl,_,rfl,_,rfl,_,rfl,aN x tc t' low ⟨r,⟨rfl,ra4,okr,eN D T A B2 n c.1 ⟨c.2,⟨NC,po,by omega,fun H5 g5=>⟨_,rfl,?_⟩⟩⟩⟩⟩⟩
   cases hsh:eE D T A n low c r with
   |false=>
    have e:gC D T c.1 ((bR A T c.1 c.2).map cw) (2*(T.length:Int)+n) low r=false:=hsh;rw[e];exact cL (bad (by rw[st,hsh];rfl) _ (g14.trans g5))
   |true=>
    have e:gC D T c.1 ((bR A T c.1 c.2).map cw) (2*(T.length:Int)+n) low r=true:=hsh;rw[e];exact cP ⟨(bH _ _ _ rfl),g4.trans g5,p0,by rw[hs,st,if_pos hsh],us0,g5 _ _ e4,rl4.imp fun _ _ q=>dA q g5⟩
 ·rintro σ H2 ⟨⟨o4,o5,o6,rfl⟩,g3,p,hp,us,elp,rlp⟩;rw[rl.1,DV] at hp;have:=q _ (g1.trans g3);rw[oO hp] at this;have lu:=rlp.1;rw[Dv] at lu;refine ⟨_,rfl,aq lp _ ⟨rfl,.inl (aC.of elp),rfl,?_⟩⟩;show Q (.bl (decide (V.int ((us.length:Nat):Int)=V.int 0))) H2;have e:decide (V.int ((us.length:Nat):Int)=V.int 0)=decide (p= []):=by
   rw[lu];cases p with
   |nil=>rfl
   |cons c p0=>
    rw[decide_eq_false (show ¬(c::p0)= [] from nofun),decide_eq_false (fun z=>by injection z with z;rw[DL] at z;omega)]
  rw[e];exact this
theorem A8 {dV:Value} (F:bn K "inner_rows" "inner_rows" yY dV f fd):bf P w K mg base a8 1 f fd ["paper"] kg:=by
 have sc:aE ["paper"] ["paper"] (ar yY):=dn (by decide+kernel)
 refine F.ok sc (fun vs H Q E h=>?_) (fun cdv A outer s H vs Q E hr h=>?_)
 ·obtain ⟨_,_,rfl,_⟩:=h
  rfl
 obtain ⟨l,rs,rfl,hl,ok,l1,q⟩:=h;refine ⟨_,(aj (au (ay av rfl B.Ev boot_len (@aa _ _ _ _ _ (sE (own:= "row") (ys:= []) (js:= []) rfl (cok fT .nil (by decide) rfl rfl rfl rfl rfl rfl rfl rfl) (aF (pv 0)) (fun C fp s H=>(ao (wY (K:=K) rfl) (aA (bu (K:=K) rfl) (pv 0) af (fun _ _=>rfl)) (jv (v:=V.ref Ff) rfl B.Fz rfl) (by with_unfolding_all rfl))) (fun C fp s H=>(pv 0))) ac rfl)))),?_⟩
 try dsimp only[cxK]
 have sl:sizeLine=16777216:=sizeLine_eq;obtain ⟨vs,el,rl⟩:=id hl;have lv:=rl.1;refine ⟨_,rfl,l,rfl,⟨_,aC.of el⟩,gE Aw (fun _=>False) (fun i=>eD (rs.getD i (.ways 0))) (fun _=>()) (aC.of el) (by omega) (fun a h=>h.elim) (fun i y hy H2 g2 S' hS'=>?_) (fun i y hy _ H2 g2 Q' hQ=>?_) fun lc H2 nlc g2 hc=>?_⟩
 ·obtain ⟨r,hr',rr⟩:=rl.at_ hy;obtain ⟨t',rfl,ra⟩:=rr.row;obtain ⟨w,ys,ew,iw⟩:=kh (ra.same g2) (ok r (D6 hr'));rw[aX hr',<-Ax iw] at hS';exact ⟨_,rfl,aN t' _ _ _ ⟨rfl,rfl,bx.of ew,a4 (j:=0) rfl,aq Ff _ ⟨rfl,.inr (B.Fu.sq _),rfl,xt _,_,rfl,hS' _ (.refl _)⟩⟩⟩
 ·exact ⟨_,rfl,hQ _ _ (.refl _) trivial⟩
 ·obtain ⟨us,eu,ru⟩:=hc;have lu:=ru.1;rw[lv,ve] at lu;have:=q _ g2;rw[<-lu] at this;exact (aq lc _ ⟨rfl,.inl (aC.of eu),this⟩)
theorem A9 {dV:Value} (F:bn K "_law_cell_at" "_law_cell_at" yZ dV f fd):bf P w K mg base a8 1 f fd ["_law_script","_law_k"] (pL K):=by
 have sc:aE ["_law_script","_law_k"] ["_law_script","_law_k"] (ar yZ):=dn (by decide+kernel)
 refine F.ok sc (fun vs H Q E h=>?_) (fun cdv A outer s H vs Q E hr h=>?_)
 ·obtain ⟨_,_,_,rfl,_⟩:=h
  rfl
 obtain ⟨a,ns,k,rfl,hS,h0,q⟩:=h;refine ⟨_,(ae (aL (ao fD (pv 1) (ay av rfl B.Ev boot_len (@aa _ _ _ _ _ (pv 0) ac rfl)) (aD _)) (aj (au (aA a9 (pv 0) (pv 1) (fun _ _=>rfl)))) aw) (aj (au af))),?_⟩
 try dsimp only[cxK]
 refine ⟨_,rfl,_,rfl,aq a _ ⟨rfl,.inl hS,aq _ _ ⟨rfl,rfl,_,rfl,d2 (fun c=>?_) (fun c=>?_)⟩⟩⟩
 ·obtain ⟨v,hv⟩:=wa h0 c;exact ⟨_,rfl,_,rfl,aN a _ _ _ ⟨rfl,rfl,hS,hv,q v⟩⟩
 ·exact q 0
theorem Ba {dV:Value} (F:bn K "_law_mixed" "_law_mixed" y3 dV f fd):bf P w K mg base a8 1 f fd ["_law_cell","_law_k"] gJ:=by
 have sc:aE ["_law_cell","_law_k"] ["_law_cell","_law_k"] (ar y3):=dn (by decide+kernel)
 refine F.ok sc (fun vs H Q E h=>?_) (fun cdv A outer s H vs Q E hr h=>?_)
 ·obtain ⟨_,_,rfl,_⟩:=h
  rfl
 obtain ⟨c,k,rfl,q⟩:=h;refine ⟨_,(aj (au (am aT (am aS (am aY (am a7 (am aS (pv 0) af) af) (am a7 af (am aY af (pv 1)))) af) af))),?_⟩;try dsimp only[cxK]
 have m1:=fm (a:=c) (n:=999983) (by decide)
 have m2:=fm (a:=(c.fmod 999983+17)*(48271+7919*k)) (n:=999979) (by decide)
 refine ⟨_,rfl,aq _ _ ⟨rfl,rfl,(by show (999983:Int)≠0;decide),aq _ _ ⟨rfl,rfl,_,rfl,aq _ _ ⟨rfl,rfl,IntMulOk.of_left (by decide),aq _ _ ⟨rfl,rfl,aq _ _ ⟨rfl,rfl,IntMulOk.of_left (intBits_le_64 (by omega) (by omega)),aq _ _ ⟨rfl,rfl,(by show (999979:Int)≠0;decide),aq _ _ ⟨rfl,rfl,⟨by decide,DC (by decide)⟩,q _ ?_⟩⟩⟩⟩⟩⟩⟩⟩
 exact Int.fdiv_nonneg m2.1 (by decide)
theorem Bb {dV:Value} (F:bn K "_law_names" "_law_names" y4 dV f fd) (DZ43:Dx P w K mg base a8 1 "_law_mixed" ["_law_cell","_law_k"] [] gJ):bf P w K mg base a8 2 f fd ["_law_cell"] oq:=by
 have sc:aE ["_law_cell","_law_letters","_law_size","_law_at","_law_word","_law_first","_law_second"] ["_law_cell"] (ar y4):=dn (by decide+kernel)
 refine F.ok sc (fun vs H Q E h=>?_) (fun cdv A outer s H vs Q E hr h=>?_)
 ·obtain ⟨_,rfl,_⟩:=h
  rfl
 obtain ⟨c,rfl,q⟩:=h;refine ⟨_,(ae (fr (i:=1) sc.nd rfl (Or.inr rfl) dh) (ae (cJ 2 sc (am a7 af (am aS (pv 0) af))) (ae (cJ 3 sc (am aS (am aT (pv 0) af) (pv 2))) (ae (cJ 4 sc (dt PySem.F.plainAttrs_str PySem.F.slot_str_join PySem.F.type_str_join wu dh (@aa _ _ _ _ _ (nH (hd:=none) (own:= "_law_k") (ys:= ["_law_letters","_law_cell"]) (js:= [1,0]) hr.hd (cok (fU (fU fT)) (.cons rfl (.cons rfl .nil)) (by decide) rfl rfl rfl rfl rfl rfl rfl rfl) (kK rfl B.Fc (@aa _ _ _ _ _ (pv 2) ac rfl)) (fun C fp s H=>(aA lZ (pv 1) (am aS (bL DZ43 hr (@aa _ _ _ _ _ (pv 2) (@aa _ _ _ _ _ (pv 0) ac rfl) rfl)) af) (fun _ _=>rfl)))) ac rfl))) (ae (cJ 5 sc (am aS (am aT (pv 0) af) af)) (ae (aL (PW.pt (cF (ao b8 (am aS (am aT (pv 0) af) af) af (aD _)) (bW (ao fD (pv 2) af (aD _))))) (aj (au (@aU _ _ _ _ (@aa _ _ _ _ _ (pv 4) (@aa _ _ _ _ _ (am eU (pv 4) (aA lZ (pv 1) (pv 5) (fun _ _=>rfl))) ac rfl) rfl)))) aw) (ae (cJ 6 sc (am aS (am a7 (am a7 (pv 5) af) (am aS (am aT (pv 0) af) af)) af)) (aj (au (@aU _ _ _ _ (@aa _ _ _ _ _ (am eU (am eU (bO mr (pv 4) cK (bY (pv 3))) (aA lZ (pv 1) (pv 5) (fun _ _=>rfl))) (bO mr (pv 4) (bY (am a7 (pv 3) af)) cK)) (@aa _ _ _ _ _ (am eU (am eU (bO mr (pv 4) cK (bY (pv 3))) (aA lZ (pv 1) (pv 6) (fun _ _=>rfl))) (bO mr (pv 4) (bY (am a7 (pv 3) af)) cK)) ac rfl) rfl))))))))))),?_⟩
 try dsimp only[cxK]
 have sl:sizeLine=16777216:=sizeLine_eq;have one:∀c,(⟨#[c]⟩:Str).length=1:=fun _=>rfl
 have s:=fm (a:=c) (n:=12) (by decide)
 have ma:=fm (a:=c.fdiv 12) (n:=1+c.fmod 12) (by omega)
 have mf:=fm (a:=c.fdiv 144) (n:=26) (by decide)
 have ms:=fm (a:=c.fdiv 3744) (n:=25) (by decide)
 have mt:=fm (a:=(c.fdiv 144).fmod 26+1+(c.fdiv 3744).fmod 25) (n:=26) (by decide)
 refine ⟨_,rfl,aq _ _ ⟨rfl,rfl,(by show (12:Int)≠0;decide),aq _ _ ⟨rfl,rfl,_,rfl,aq _ _ ⟨rfl,rfl,⟨by decide,DC (by decide)⟩,_,rfl,aq _ _ ⟨rfl,rfl,by omega,?_⟩⟩⟩⟩⟩
 refine ⟨rfl,_,rfl,1+c.fmod 12,rfl,by omega,by omega,n4 (uT (fun c:Nat=>97<=c/\c<=122) fun c=>V.str ⟨#[c]⟩) (fun _=>False) (fun _=>()) nD.no (by omega) (fun a h=>h.elim) (fun i hi H2 g2 Q' hQ=>?_) fun lw H1 nlw g1 hw=>?_⟩
 ·refine ⟨_,rfl,_,rfl,_,rfl,aq _ _ ⟨rfl,fun v v0=>?_⟩⟩
  have mv:=fm (a:=v) (n:=26) (by decide)
  exact (aq _ _ ⟨rfl,rfl,(by show (26:Int)≠0;decide),bH _ _ _ ⟨rfl,rfl,by decide,mQ mv.1 mv.2,hQ _ _ (.refl _) ⟨_,by omega,rfl⟩⟩⟩)
 obtain ⟨vs,ev,rv⟩:=hw;obtain ⟨cs,rfl,lc,okc⟩:=rv.some_of;rw[D3,E8] at lc;have l1:∀w∈cs.map (fun c=>(⟨#[c]⟩:Str)),w.length=1:=fun w hw=>by
  obtain ⟨x,_,rfl⟩:=DP.mp hw
  rfl
 have lL:∀w∈cs.map (fun c=>(⟨#[c]⟩:Str)),Lt w:=fun w hw=>by
  obtain ⟨x,hx,rfl⟩:=DP.mp hw;exact Lt.one (okc x hx)
 have ev':H1 lw=some (.lst ((cs.map (fun c=>(⟨#[c]⟩:Str))).map V.str)):=by rw[ev,DJ];rfl
 have lw1:(cs.map (fun c=>(⟨#[c]⟩:Str))).length=cs.length:=D3 _
 refine (bH _ lw _ ⟨rfl,rfl,aC.of ev',by decide,by rw[oo l1,lw1];omega,?_⟩)
 have wl:=sY l1;have wL:=Lt.tjoin lL;rw[lw1,lc] at wl;generalize Txt.join "" (cs.map (fun c=>(⟨#[c]⟩:Str)))=wd at wl wL⊢
 clear ev ev' rv okc l1 lL lw1 lc;have wz:wd.length<=sizeLine:=by omega
 have wi:(wd.length:Int)=1+c.fmod 12:=by omega
 have w1:1<=wd.length:=by omega
 have w12:wd.length<=12:=by omega
 have hf:=mQ mf.1 mf.2;have ht:=mQ mt.1 mt.2;have f1:97<=97+((c.fdiv 144).fmod 26).toNat/\97+((c.fdiv 144).fmod 26).toNat<=122:=by omega
 have t1:97<=97+(((c.fdiv 144).fmod 26+1+(c.fdiv 3744).fmod 25).fmod 26).toNat/\97+(((c.fdiv 144).fmod 26+1+(c.fdiv 3744).fmod 25).fmod 26).toNat<=122:=by omega
 refine ⟨_,rfl,aq _ _ ⟨rfl,rfl,⟨by decide,DC (by decide)⟩,aq _ _ ⟨rfl,rfl,(by show (26:Int)≠0;decide),?_⟩⟩⟩
 have nmA:∀{d:Nat},97<=d/\d<=122->wd.length<12->Nm (wd++(⟨#[d]⟩:Str)):=fun hd h12=>(wL.app (Lt.one hd)).nm (by rw[Str.length_append,one];omega) (by rw[Str.length_append,one];omega)
 have cm:=uU (x:=wd) (i:=(c.fdiv 12).fmod (1+c.fmod 12)) ma.1 (by omega)
 have c1':=jg wd none (some ((c.fdiv 12).fmod (1+c.fmod 12)));have nmB:∀{d:Nat},97<=d/\d<=122->Nm (hU wd none (some ((c.fdiv 12).fmod (1+c.fmod 12)))++(⟨#[d]⟩:Str)++hU wd (some ((c.fdiv 12).fmod (1+c.fmod 12)+1)) none):=fun hd=>(((wL.cut _ _).app (Lt.one hd)).app (wL.cut _ _)).nm (by rw[Str.length_append,Str.length_append,one];omega) (by rw[Str.length_append,Str.length_append,one];omega)
 refine ⟨_,rfl,aq _ _ ⟨rfl,rfl,⟨by decide,DC (by decide)⟩,aq _ _ ⟨rfl,rfl,(by show (3:Int)≠0;decide),rfl,_,rfl,Cf (fun c1=>⟨_,rfl,aq _ _ ⟨rfl,rfl,_,rfl,d2 (fun c2=>?_) (fun c2=>?_)⟩⟩) (fun c1=>?_)⟩⟩⟩
 ·refine ⟨_,rfl,_,rfl,_,rfl,_,rfl,bH _ _ _ ⟨rfl,rfl,by decide,hf,aq _ _ ⟨rfl,rfl,(by rw[one];omega),by show 2<=sizeLine;decide,fun l nl=>?_⟩⟩⟩
  exact q l _ _ _ (g1.trans (ag nl _)) ah (wL.nm w1 w12) (nmA f1 (by omega)) ye
 ·refine ⟨_,rfl,aq _ _ ⟨rfl,rfl,_,rfl,aq _ _ ⟨rfl,rfl,⟨by decide,DC (by decide)⟩,aq _ _ ⟨rfl,rfl,(by show (25:Int)≠0;decide),aq _ _ ⟨rfl,rfl,aq _ _ ⟨rfl,rfl,(by show (26:Int)≠0;decide),?_⟩⟩⟩⟩⟩⟩
  refine ⟨_,rfl,_,rfl,_,rfl,_,rfl,wz,_,rfl,_,rfl,bH _ _ _ ⟨rfl,rfl,by decide,hf,aq _ _ ⟨rfl,rfl,(by rw[one];omega),_,rfl,_,rfl,aq _ _ ⟨rfl,rfl,_,rfl,_,rfl,wz,aq _ _ ⟨rfl,rfl,(by rw[Str.length_append,one];omega),_,rfl,_,rfl,_,rfl,_,rfl,wz,_,rfl,_,rfl,_,_,_,rfl,rfl,by decide,ht,_,_,rfl,rfl,(by rw[one];omega),_,rfl,_,rfl,_,_,rfl,rfl,_,rfl,_,rfl,wz,_,_,rfl,rfl,(by rw[Str.length_append,one];omega),by show 2<=sizeLine;decide,fun l nl=>?_⟩⟩⟩⟩⟩
  exact q l _ _ _ (g1.trans (ag nl _)) ah (nmB f1) (nmB t1) (uS fun e=>kY mf.1 mf.2 ms.1 ms.2 (by omega))
 ·refine ⟨_,rfl,aq _ _ ⟨rfl,rfl,_,rfl,aq _ _ ⟨rfl,rfl,⟨by decide,DC (by decide)⟩,aq _ _ ⟨rfl,rfl,(by show (25:Int)≠0;decide),aq _ _ ⟨rfl,rfl,aq _ _ ⟨rfl,rfl,(by show (26:Int)≠0;decide),?_⟩⟩⟩⟩⟩⟩
  refine ⟨_,rfl,_,rfl,_,rfl,_,rfl,wz,_,rfl,_,rfl,bH _ _ _ ⟨rfl,rfl,by decide,hf,aq _ _ ⟨rfl,rfl,(by rw[one];omega),_,rfl,_,rfl,aq _ _ ⟨rfl,rfl,_,rfl,_,rfl,wz,aq _ _ ⟨rfl,rfl,(by rw[Str.length_append,one];omega),_,rfl,_,rfl,_,rfl,_,rfl,wz,_,rfl,_,rfl,_,_,_,rfl,rfl,by decide,ht,_,_,rfl,rfl,(by rw[one];omega),_,rfl,_,rfl,_,_,rfl,rfl,_,rfl,_,rfl,wz,_,_,rfl,rfl,(by rw[Str.length_append,one];omega),by show 2<=sizeLine;decide,fun l nl=>?_⟩⟩⟩⟩⟩
  exact q l _ _ _ (g1.trans (ag nl _)) ah (nmB f1) (nmB t1) (uS fun e=>kY mf.1 mf.2 ms.1 ms.2 (by omega))
theorem Bc {dV:Value} (F:bn K "_law_way" "_law_way" y6 dV f fd):bf P w K mg base a8 1 f fd ["_law_cell","_law_names_here","_law_far"] rG:=by
 have sc:aE ["_law_cell","_law_names_here","_law_far","_law_least","_law_uses","_law_k","_law_many_here"] ["_law_cell","_law_names_here","_law_far"] (ar y6):=dn (by decide+kernel)
 refine F.ok sc (fun vs H Q E h=>?_) (fun cdv A outer s H vs Q E hr h=>?_)
 ·obtain ⟨_,_,_,_,_,rfl,_⟩:=h
  rfl
 refine fZ h fun c f ln n0 _hi=>?_
 refine eA _hi fun n1 _hj=>?_
 refine f9 _hj fun _r1 en ne f1 f2 q=>?_
 clear h _hi _hj;subst _r1;refine ⟨_,(ae (cJ 3 sc (am aY (am a7 af (am aS (pv 0) af)) (pv 2))) (ae (cJ 4 sc (@aU _ _ _ _ ac)) (ae (aQ PassesOwn.never rfl (b9 rfl B.Fc (@aa _ _ _ _ _ af ac rfl)) (cM 5 sc) (ae (cJ 6 sc (am aS (am aT (pv 0) (aA a9 (@aU _ _ _ _ (@aa _ _ _ _ _ af (@aa _ _ _ _ _ af ac rfl) rfl)) (pv 5) (fun _ _=>rfl))) af)) (aj (aL (ao fR (pv 6) af (aD _)) (aj (bC (dt DK DU DT a6 (pv 4) (@aa _ _ _ _ _ (@bj _ _ _ _ _ (@aa _ _ _ _ _ (aA a9 (pv 1) (pv 5) (fun _ _=>rfl)) (@aa _ _ _ _ _ (pv 6) (@aa _ _ _ _ _ (am aY (am aS (am aT (pv 0) (aA a9 (@aU _ _ _ _ (@aa _ _ _ _ _ af (@aa _ _ _ _ _ af ac rfl) rfl)) (pv 5) (fun _ _=>rfl))) af) af) ac rfl) rfl) rfl)) ac rfl)))) aw)))) (aj (au (@bj _ _ _ _ _ (@aa _ _ _ _ _ (pv 3) (@aa _ _ _ _ _ (am a7 (pv 3) (am aY (am aS (am aT (pv 0) af) af) (pv 2))) (@aa _ _ _ _ _ (pv 4) ac rfl) rfl) rfl))))))),?_⟩
 try dsimp only[cxK]
 have sl:sizeLine=16777216:=sizeLine_eq;have m5:=fm (a:=c) (n:=5) (by decide)
 have m4:=fm (a:=c.fdiv 5) (n:=4) (by decide)
 have l1:1<=(1+c.fmod 5)*f:=by
  have:=EM (show 1<=1+c.fmod 5 by omega) (show 0<=f by omega)
  omega
 have l2:(1+c.fmod 5)*f<=5*10000019:=Int.le_trans (EM (show 1+c.fmod 5<=5 by omega) (by omega)) (Int.mul_le_mul_of_nonneg_left f2 (by decide))
 have y0:0<=(c.fdiv 5).fmod 4*f:=Int.mul_nonneg m4.1 (by omega)
 have y1:(c.fdiv 5).fmod 4*f<=3*10000019:=Int.le_trans (EM (show (c.fdiv 5).fmod 4<=3 by omega) (by omega)) (Int.mul_le_mul_of_nonneg_left f2 (by decide))
 refine ⟨_,rfl,aq _ _ ⟨rfl,rfl,(by show (5:Int)≠0;decide),aq _ _ ⟨rfl,rfl,_,rfl,aq _ _ ⟨rfl,rfl,IntMulOk.of_left (intBits_le_64 (by omega) (by omega)),?_⟩⟩⟩⟩
 dsimp only;generalize hle:(1+c.fmod 5)*f=le at l1 l2⊢;refine ⟨by show 0<=sizeLine;decide,fun u nu=>?_⟩
 have g0:=ag nu (.lst []);have hu0:bU p8 (fun a=>a≠u/\H a=none) (aG H u (.lst [])) u []:=bU.new
 generalize aG H u (.lst [])=H0 at g0 hu0⊢;refine ⟨_,rfl,by decide,by decide,ca (fun i σ H'=>∃(o5 o6:Option V) (us:List Us),σ= [some (.int c),FV ln,some (.int f),some (.int le),FV u,o5,o6]/\aB H H'/\bU p8 (fun a=>a≠u/\H a=none) H' u us/\BL n0 n1 us/\us.length<=i/\(i<=1->∀x∈us,x.1=n0)) (bH none none [] ⟨rfl,g0,hu0,⟨by simp,by simp,fun u hu=>by cases hu⟩,D9 _,fun _ x hx=>by cases hx⟩) ?_ ?_⟩
 ·intro i σ H1 hi h_;refine ko h_ fun o5 o6 us _hi=>?_
  refine f9 _hi fun _r1 g1 hu ub ul ua=>?_
  clear h_ _hi;subst _r1;replace hi:i<2:=hi;have hb_:∃(a1 a2:Int) (nm:Str),gZ [V.int 20,V.int 60] (0+(i:Int))=some (.int a1)/\gZ [V.int 180,V.int 540] (0+(i:Int))=some (.int a2)/\gZ [V.str n0,V.str n1] (0+(i:Int))=some (.str nm)/\(a1=20∨a1=60)/\(a2=180∨a2=540)/\∀x ht:Int,0<x->x<=2->0<=ht->ht<=180->BL n0 n1 (us++ [(nm,x,ht)])/\(i+1<=1->nm=n0):=by
   have ap:∀(nm:Str) (x ht:Int),(nm=n0∨nm=n1)->(∀z∈us,z.1≠nm)->us.length<=1->0<x->x<=2->0<=ht->ht<=180->BL n0 n1 (us++ [(nm,x,ht)]):=fun nm x ht e nd l1 x0 x2 h0 h2=>by
    refine ⟨by rw[D8];simp;omega,?_,fun z hz=>?_⟩
    ·rw[DS];refine El.mpr ⟨ub.nd,by simp,fun a ha b hb=>?_⟩
     obtain ⟨z,hz,rfl⟩:=DP.mp ha;simp at hb;rw[hb];exact nd z hz
    ·rcases DM.mp hz with w|w
     ·exact ub.use z w
     ·rw[DI.mp w];exact ⟨e,by show 1<=x;omega,x2,h0,h2⟩
   obtain rfl|rfl:i=0∨i=1:=by omega
   ·refine (bH 20 180 n0 ⟨rfl,rfl,rfl,.inl rfl,.inl rfl,fun x ht x0 x2 h0 h2=>⟨ap n0 x ht (.inl rfl) (fun z hz=>?_) (by omega) x0 x2 h0 h2,fun _=>rfl⟩⟩)
    rw[List.length_eq_zero_iff.mp (by omega:us.length=0)] at hz
    cases hz
   ·exact (bH 60 540 n1 ⟨rfl,rfl,rfl,.inr rfl,.inr rfl,fun x ht x0 x2 h0 h2=>⟨ap n1 x ht (.inr rfl) (fun z hz=>by rw[ua (by omega) z hz];exact ne) (by omega) x0 x2 h0 h2,fun h=>absurd h (by omega)⟩⟩)
  refine ko hb_ fun a1 a2 nm _hi=>?_
  refine f9 _hi fun hx1 hx2 hn p1 p2 use1=>?_
  obtain ⟨vs,eu,ru⟩:=id hu;have sz:vs.length<sizeLine:=by have:=ub.len;rw[ru.1];omega
  have d1:(0:Int)<a1/\a1<1000:=by rcases p1 with rfl|rfl<;>decide
  have d2':(0:Int)<a2/\a2<1000:=by rcases p2 with rfl|rfl<;>decide
  have x3:=fm (a:=c.fdiv a1) (n:=3) (by decide)
  have h3:=fm (a:=c.fdiv a2) (n:=3) (by decide)
  refine ⟨_,rfl,by show 2<=sizeLine;decide,fun p np=>⟨_,rfl,aN p _ _ _ ⟨rfl,rfl,aC.of ah,hx1,aq _ _ ⟨rfl,rfl,⟨by omega,DC (by omega)⟩,aq _ _ ⟨rfl,rfl,(by show (3:Int)≠0;decide),?_⟩⟩⟩⟩⟩
  have gp:=ag np (.lst [.int 20,.int 60]);generalize aG H1 p (.lst [.int 20,.int 60])=H2 at gp⊢;refine ⟨_,rfl,aq _ _ ⟨rfl,rfl,_,rfl,d2 (fun c0=>?_) (fun c0=>(bH _ _ us ⟨rfl,g1.trans gp,hu.same gp,ub,by omega,fun h=>ua (by omega)⟩))⟩⟩
  have g2:=g1.trans gp;refine ⟨_,rfl,.inl ⟨rfl,_,aC.of (gp _ _ eu)⟩,_,rfl,_,rfl,aN ln _ _ _ ⟨rfl,rfl,aC.of (g2 _ _ en),hn,_,rfl,_,rfl,by show 2<=sizeLine;decide,fun p' np'=>⟨_,rfl,aN p' _ _ _ ⟨rfl,rfl,aC.of ah,hx2,aq _ _ ⟨rfl,rfl,⟨by omega,DC (by omega)⟩,aq _ _ ⟨rfl,rfl,(by show (3:Int)≠0;decide),aq _ _ ⟨rfl,rfl,IntMulOk.of_left (intBits_le_64 (by omega) (by omega)),by show 3<=sizeLine;decide,fun a na=>(bH u _ _ ⟨rfl,rfl,ag na _ _ _ (ag np' _ _ _ (gp _ _ eu)),sz,?_⟩)⟩⟩⟩⟩⟩⟩⟩
  have gp':=ag np' (.lst [.int 180,.int 540]);have ga:=ag na (.tup [.str nm,.int ((c.fdiv a1).fmod 3),.int ((c.fdiv a2).fmod 3*90)]);obtain ⟨u1,u2⟩:=use1 ((c.fdiv a1).fmod 3) ((c.fdiv a2).fmod 3*90) c0 (by omega) (by omega) (by omega)
  refine (bH _ _ (us++ [(nm,(c.fdiv a1).fmod 3,(c.fdiv a2).fmod 3*90)]) ⟨rfl,du ((g2.trans gp').trans ga) nu _,?_,u1,by rw[D8];simp;omega,fun h z hz=>?_⟩)
  ·refine bU.put (fun z=>z.1 rfl) (ru.imp fun _ _ q=>dA q ((gp.trans gp').trans ga)) ⟨a,rfl,⟨(fun z=>by have:=(gp.trans gp') _ _ eu;rw[z,this] at na;cases na),(g2.trans gp').free na⟩,?_⟩
   rw[ah]
   rfl
  ·rcases DM.mp hz with w|w
   ·exact ua (by omega) z w
   ·rw[DI.mp w];exact u2 h
 ·intro σ H1 h_;refine ko h_ fun o5 o6 us _hi=>?_
  refine f9 _hi fun _r1 g1 hu ub ul ua=>?_
  clear h_ _hi;subst _r1;refine ⟨_,rfl,_,rfl,_,rfl,aq _ _ ⟨rfl,rfl,⟨by decide,DC (by decide)⟩,aq _ _ ⟨rfl,rfl,(by show (4:Int)≠0;decide),_,rfl,aq _ _ ⟨rfl,rfl,IntMulOk.of_left (intBits_le_64 (by omega) (by omega)),aq _ _ ⟨rfl,rfl,_,rfl,by show 3<=sizeLine;decide,fun t nt=>?_⟩⟩⟩⟩⟩
  have gt:=ag nt (.tup [.int le,.int (le+(c.fdiv 5).fmod 4*f),.ref u]);exact q _ (le,le+(c.fdiv 5).fmod 4*f,us) _ (g1.trans gt) (aq t u ⟨rfl,g1.free nt,nu,ah,(hu.same gt).mono fun a h=>h.2⟩) ⟨l1,by show le<=le+_;omega,by show le+_<=_;omega,ub⟩
theorem Bd {dV:Value} (F:bn K "_law_any_net" "_law_any_net" y8 dV f fd) (DZ42:Dx P w K mg base a8 1 "_law_cell_at" ["_law_script","_law_k"] [] (pL K)) (DZ43:Dx P w K mg base a8 1 "_law_mixed" ["_law_cell","_law_k"] [] gJ) (DZ44:Dx P w K mg base a8 2 "_law_names" ["_law_cell"] [] oq) (DZ45:Dx P w K mg base a8 1 "_law_way" ["_law_cell","_law_names_here","_law_far"] [] rG):bf P w K mg base a8 3 f fd ["_law_script"] (oQ K):=by
 have sc:aE ["_law_script","_law_cell","_law_far","_law_names_here","_law_tools","_law_tasks","_law_i","_law_ways","_law_more","_law_points","_law_arcs","_law_one","_law_lag_here","_law_pairs","_law_j"] ["_law_script"] (ar y8):=dn (by decide+kernel)
 refine F.ok sc (fun vs H Q E h=>?_) (fun cdv A outer s H vs Q E hr h=>?_)
 ·obtain ⟨_,_,rfl,_⟩:=h
  rfl
 obtain ⟨a,ns,rfl,hS,n63,q⟩:=h;refine ⟨_,(ae (cJ 1 sc (bL DZ42 hr (@aa _ _ _ _ _ (pv 0) (@aa _ _ _ _ _ af ac rfl) rfl))) (@ae _ _ _ _ _ (@fr _ _ 2 _ _ _ _ sc.nd rfl (Or.inl rfl) (@aA _ _ _ _ _ _ _ a9 (@aU _ _ _ _ (@aa _ _ _ _ _ af (@aa _ _ _ _ _ af (@aa _ _ _ _ _ (am a7 (am v9 af af) af) ac rfl) rfl) rfl)) (am aS (am aT (pv 1) af) af) (fun _ _=>rfl)) rfl (Or.inr rfl)) (ae (cJ 3 sc (bL DZ44 hr (@aa _ _ _ _ _ (bL DZ42 hr (@aa _ _ _ _ _ (pv 0) (@aa _ _ _ _ _ af ac rfl) rfl)) ac rfl))) (ae (cJ 4 sc (v7 (nB (aA a9 (pv 3) af (fun _ _=>rfl)) (am a7 af (am aS (pv 1) af)) (nB (aA a9 (pv 3) af (fun _ _=>rfl)) (am a7 af (am aS (am aT (pv 1) af) af)) v6)) rfl rfl (by simp) (by decide))) (ae (cJ 5 sc (@aU _ _ _ _ ac)) (ae (aQ PassesOwn.never rfl (b9 rfl B.Fc (@aa _ _ _ _ _ (am a7 af (am aS (bL DZ42 hr (@aa _ _ _ _ _ (pv 0) (@aa _ _ _ _ _ af ac rfl) rfl)) af)) ac rfl)) (cM 6 sc) (ae (cJ 7 sc (@aU _ _ _ _ (@aa _ _ _ _ _ (bL DZ45 hr (@aa _ _ _ _ _ (bL DZ42 hr (@aa _ _ _ _ _ (pv 0) (@aa _ _ _ _ _ (am a7 af (am aY af (pv 6))) ac rfl) rfl)) (@aa _ _ _ _ _ (pv 3) (@aa _ _ _ _ _ (pv 2) ac rfl) rfl) rfl)) ac rfl))) (ae (cJ 8 sc (bL DZ42 hr (@aa _ _ _ _ _ (pv 0) (@aa _ _ _ _ _ (am a7 af (am aY af (pv 6))) ac rfl) rfl))) (ae (aL (ao b8 (am aS (pv 8) af) af (aD _)) (aj (bC (dt DK DU DT a6 (pv 7) (@aa _ _ _ _ _ (bL DZ45 hr (@aa _ _ _ _ _ (am aT (pv 8) af) (@aa _ _ _ _ _ (pv 3) (@aa _ _ _ _ _ (pv 2) ac rfl) rfl) rfl)) ac rfl)))) aw) (aj (bC (dt DK DU DT a6 (pv 5) (@aa _ _ _ _ _ (pv 7) ac rfl)))))))) (ae (cJ 9 sc (am a7 (am aY af (ay av rfl B.Ev boot_len (@aa _ _ _ _ _ (pv 5) ac rfl))) (am aS (bL DZ42 hr (@aa _ _ _ _ _ (pv 0) (@aa _ _ _ _ _ af ac rfl) rfl)) af))) (ae (cJ 10 sc (@aU _ _ _ _ ac)) (ae (aQ PassesOwn.never rfl (aF (bO dy (pv 0) (bY af) (bY af))) (cM 11 sc) (ae (cJ 12 sc (am aY (am gX (am aS (am aT (pv 11) (am aY (pv 9) (pv 9))) af) af) (pv 2))) (aj (bC (dt DK DU DT a6 (pv 10) (@aa _ _ _ _ _ (@bj _ _ _ _ _ (@aa _ _ _ _ _ (am aS (pv 11) (pv 9)) (@aa _ _ _ _ _ (am aS (am aT (pv 11) (pv 9)) (pv 9)) (@aa _ _ _ _ _ (pv 12) ac rfl) rfl) rfl)) ac rfl)))))) (ae (cJ 13 sc (@aU _ _ _ _ ac)) (ae (aQ PassesOwn.never rfl (b9 rfl B.Fc (@aa _ _ _ _ _ (ay av rfl B.Ev boot_len (@aa _ _ _ _ _ (pv 5) ac rfl)) ac rfl)) (cM 6 sc) (aj (aQ PassesOwn.never rfl (b9 rfl B.Fc (@aa _ _ _ _ _ (ay av rfl B.Ev boot_len (@aa _ _ _ _ _ (pv 5) ac rfl)) ac rfl)) (cM 14 sc) (aj (aL (PW.pt (cF (ao eT (pv 6) (pv 14) (aD _)) (bW (ao b8 (am aS (bL DZ43 hr (@aa _ _ _ _ _ (bL DZ42 hr (@aa _ _ _ _ _ (pv 0) (@aa _ _ _ _ _ af ac rfl) rfl)) (@aa _ _ _ _ _ (am a7 (am aY af (pv 6)) (pv 14)) ac rfl) rfl)) af) af (aD _))))) (aj (bC (dt DK DU DT a6 (pv 13) (@aa _ _ _ _ _ (@bj _ _ _ _ _ (@aa _ _ _ _ _ (pv 6) (@aa _ _ _ _ _ (pv 14) ac rfl) rfl)) ac rfl)))) aw))))) (aj (au (@bj _ _ _ _ _ (@aa _ _ _ _ _ (pv 4) (@aa _ _ _ _ _ (pv 5) (@aa _ _ _ _ _ (pv 10) (@aa _ _ _ _ _ (pv 13) (@aa _ _ _ _ _ (am gX (pv 9) (am aY af (ay av rfl B.Ev boot_len (@aa _ _ _ _ _ (pv 5) ac rfl)))) ac rfl) rfl) rfl) rfl) rfl))))))))))))))),?_⟩
 try dsimp only[cxK]
 have sl:sizeLine=16777216:=sizeLine_eq;refine ⟨_,rfl,bH a ns 3 ⟨rfl,hS,by decide,fun c=>?_⟩⟩
 refine (aq _ _ ⟨rfl,rfl,⟨by decide,by decide⟩,aq _ _ ⟨rfl,rfl,by show 3<=sizeLine;decide,fun lf nlf=>?_⟩⟩)
 have g0:=ag nlf (.lst [.int 1,.int 1,.int ((10:Int)^(7:Int).toNat+19)]);have m3:=fm (a:=c.fdiv 16) (n:=3) (by decide)
 obtain ⟨f,hf,far⟩:=yf m3.1 m3.2;refine ⟨_,rfl,aq _ _ ⟨rfl,rfl,⟨by decide,DC (by decide)⟩,aq _ _ ⟨rfl,rfl,(by show (3:Int)≠0;decide),aN lf _ _ _ ⟨rfl,rfl,aC.of ah,hf,?_⟩⟩⟩⟩
 generalize aG H lf (.lst [.int 1,.int 1,.int ((10:Int)^(7:Int).toNat+19)])=H0 at g0⊢;clear hf nlf m3;refine ⟨_,rfl,bH a ns 1 ⟨rfl,(g0.seq hS),by decide,fun c1=>⟨c1,rfl,fun ln n0 n1 H1 g1 en nm0 nm1 ne=>?_⟩⟩⟩
 have k1:=g0.trans g1;have at0:gZ [V.str n0,V.str n1] 0=some (.str n0):=rfl;have at1:gZ [V.str n0,V.str n1] 1=some (.str n1):=rfl;have ma:=fm (a:=c) (n:=2) (by decide)
 have mb:=fm (a:=c.fdiv 2) (n:=4) (by decide)
 refine fun td ntd=>?_
 have gd:=ag ntd (.dK []);refine ⟨_,rfl,aN ln _ _ _ ⟨rfl,rfl,aC.of (gd _ _ en),at0,_,rfl,aq _ _ ⟨rfl,rfl,(by show (2:Int)≠0;decide),aq _ _ ⟨rfl,rfl,_,rfl,aN ln _ _ _ ⟨rfl,rfl,aC.of (gd _ _ en),at1,_,rfl,aq _ _ ⟨rfl,rfl,⟨by decide,DC (by decide)⟩,aq _ _ ⟨rfl,rfl,(by show (4:Int)≠0;decide),_,_,rfl,rfl,ah,[(.inr n0,.int (2+c.fmod 2)),(.inr n1,.int (2+(c.fdiv 2).fmod 4))],rfl,by show 2<=15;decide,?_⟩⟩⟩⟩⟩⟩⟩
 have ed0:hE [] [(.inr n0,.int (2+c.fmod 2)),(.inr n1,.int (2+(c.fdiv 2).fmod 4))]=bq [(n0,2+c.fmod 2),(n1,2+(c.fdiv 2).fmod 4)]:=by
  unfold hE;simp[putK,bq,ne]
 rw[ed0];have g2:=du gd ntd (.dK (bq [(n0,2+c.fmod 2),(n1,2+(c.fdiv 2).fmod 4)]));have etd:aG (aG H1 td (.dK [])) td (.dK (bq [(n0,2+c.fmod 2),(n1,2+(c.fdiv 2).fmod 4)])) td=some (.dK (bq [(n0,2+c.fmod 2),(n1,2+(c.fdiv 2).fmod 4)])):=ah;generalize aG (aG H1 td (.dK [])) td (.dK (bq [(n0,2+c.fmod 2),(n1,2+(c.fdiv 2).fmod 4)]))=H2 at g2 etd⊢;have k2:=k1.trans g2;have en2:=g2 _ _ en;obtain ⟨m0,hm0⟩:∃m0,m0=2+c.fmod 2:=⟨_,rfl⟩;obtain ⟨m1,hm1⟩:∃m1,m1=2+(c.fdiv 2).fmod 4:=⟨_,rfl⟩;rw[<-hm0,<-hm1] at etd;have f12:1<=f/\f<=10000019:=by rcases far with rfl|rfl<;>decide
 clear ed0 gd ntd g2 en g1 k1 g0;refine ⟨by show 0<=sizeLine;decide,fun tl ntl=>?_⟩
 have gt:=ag ntl (.lst []);have hT0:bU fj (fun a=>a≠tl/\H2 a=none) (aG H2 tl (.lst [])) tl []:=bU.new
 generalize aG H2 tl (.lst [])=H3 at gt hT0⊢;refine ⟨_,rfl,bH a ns 0 ⟨rfl,((k2.trans gt).seq hS),by decide,fun c0=>?_⟩⟩
 have m4:=fm (a:=c0) (n:=4) (by decide)
 refine (aq _ _ ⟨rfl,rfl,(by show (4:Int)≠0;decide),aq _ _ ⟨rfl,rfl,_,rfl,by omega,by omega,ca (fun i σ H'=>∃(o6 o7 o8:Option V) (T:Tk),σ= [FV a,some (.int c),some (.int f),FV ln,FV td,FV tl,o6,o7,o8,none,none,none,none,none,none]/\aB H2 H'/\bU fj (fun a=>a≠tl/\H2 a=none) H' tl T/\T.length=i/\∀ws∈T,1<=ws.length/\ws.length<=2/\∀w∈ws,BM n0 n1 w) (aN none none none [] ⟨rfl,gt,hT0,rfl,fun ws h=>by cases h⟩) ?_ ?_⟩⟩)
 ·intro i σ H4 hi h_;refine fZ h_ fun o6 o7 o8 T _hi=>?_
  refine eC _hi fun _r1 g4 _r2 _hj=>?_
  refine cZ _hj fun lT okT=>?_
  clear h_ _hi _hj;subst _r1;obtain ⟨vs,et,rT⟩:=_r2;replace hi:i<4:=by omega
  have k4:=k2.trans g4;refine ⟨_,rfl,_,rfl,aq _ _ ⟨rfl,rfl,IntMulOk.of_left (by decide),aq _ _ ⟨rfl,rfl,bH a ns _ ⟨rfl,k4.seq hS,by omega,fun c4=>⟨_,rfl,_,rfl,aN c4 f ln n0 ⟨n1,⟨rfl,g4 _ _ en2,ne,f12.1,f12.2,fun v w H5 g5 rw1 wk=>⟨by show 1<=sizeLine;decide,fun lw nlw=>?_⟩⟩⟩⟩⟩⟩⟩⟩
  have g6:=ag nlw (.lst [v]);have et6:=(g5.trans g6) _ _ et;have nP:∀(G:Hp) (b:Addr),aB H4 G->G b=none->b≠tl/\H2 b=none:=fun _ _ g h=>⟨fun z=>(by rw[z,g _ _ et] at h;cases h),g4.free (g.free h)⟩
  have hw6:bU gN (fun b=>b≠lw/\b≠tl/\H2 b=none) (aG H5 lw (.lst [v])) lw [w]:=⟨_,ah,A2.one (dA (iW (wB rw1) fun b h=>⟨fun z=>h.2 (by rw[z];exact nlw),nP _ _ (.refl _) h.1⟩) g6)⟩
  have lwP:=nP _ _ g5 nlw;have rT6:A2 (fj (fun b=>(b≠tl/\H2 b=none)/\b≠lw) (aG H5 lw (.lst [v]))) vs T:=rT.imp fun _ _ q=>iW (dA (wB q) (g5.trans g6)) fun b h=>⟨h.1,fun z=>h.2 (by rw[z];exact g5.free nlw)⟩
  have g26:=g4.trans (g5.trans g6);generalize aG H5 lw (.lst [v])=H6 at g6 et6 hw6 rT6 g26⊢;have k6:=k2.trans g26;refine ⟨_,rfl,_,rfl,aq _ _ ⟨rfl,rfl,IntMulOk.of_left (by decide),aq _ _ ⟨rfl,rfl,bH a ns _ ⟨rfl,k6.seq hS,by omega,fun c5=>?_⟩⟩⟩⟩
  try dsimp only[cu,df]
  refine cut (fun σ H'=>∃ws:List Wy,σ= [FV a,some (.int c),some (.int f),FV ln,FV td,FV tl,some (.int (0+(i:Int))),FV lw,some (.int c5),none,none,none,none,none,none]/\aB H2 H'/\H' tl=some (.lst vs)/\A2 (fj (fun b=>(b≠tl/\H2 b=none)/\b≠lw) H') vs T/\bU gN (fun b=>b≠lw/\b≠tl/\H2 b=none) H' lw ws/\1<=ws.length/\ws.length<=2/\∀w∈ws,BM n0 n1 w) (fun N hN=>?_) ?_
  ·refine ⟨_,rfl,aq _ _ ⟨rfl,rfl,(by show (2:Int)≠0;decide),rfl,_,rfl,d2 (fun _=>?_) (fun _=>hN _ _ ⟨[w],rfl,g26,et6,rT6,hw6,by simp,by simp,fun x hx=>by rw[DI.mp hx];exact wk⟩)⟩⟩
   obtain ⟨us,eu,ru⟩:=id hw6;refine ⟨_,rfl,.inl ⟨rfl,_,aC.of eu⟩,_,rfl,aq _ _ ⟨rfl,rfl,⟨by decide,DC (by decide)⟩,_,rfl,_,rfl,aN _ f ln n0 ⟨n1,⟨rfl,g26 _ _ en2,ne,f12.1,f12.2,fun v' w' H7 g7 rw2 wk2=>(bH lw _ _ ⟨rfl,rfl,g7 _ _ eu,by rw[ru.1];show 1<sizeLine;omega,?_⟩)⟩⟩⟩⟩
   have g27:=g26.trans g7;have lwz:∀b,H6 b=none->b≠lw/\b≠tl/\H2 b=none:=fun b hb=>⟨fun z=>(by rw[z,eu] at hb;cases hb),fun z=>(by rw[z,et6] at hb;cases hb),g26.free hb⟩
   refine hN _ _ ⟨[w]++ [w'],rfl,du g27 lwP.2 _,by rw[aH (fun z=>lwP.1 z.symm)];exact g7 _ _ et6,rT6.imp fun _ _ q=>jt (dA q g7) (fun z=>z.2 rfl) _,bU.put (fun z=>z.1 rfl) (ru.imp fun _ _ q=>dA q g7) (iW rw2 lwz),by simp,by simp,fun x hx=>?_⟩
   ·rcases DM.mp hx with h|h
    ·rw[DI.mp h];exact wk
    ·rw[DI.mp h];exact wk2
  intro σ H7 h_;refine eA h_ fun ws _hi=>?_
  refine f9 _hi fun _r1 g7 et7 rT7 _r2 _hj=>?_
  refine ij _hj fun w1 w2 okw=>?_
  clear h_ _hi _hj;subst _r1;obtain ⟨us,eu,ru⟩:=_r2;refine ⟨_,rfl,.inl ⟨rfl,_,aC.of et7⟩,_,rfl,bH tl _ _ ⟨rfl,rfl,et7,by rw[rT7.1];omega,?_⟩⟩
  refine (aN _ _ _ (T++ [ws]) ⟨rfl,du g7 ntl _,?_,by rw[D8,lT];rfl,fun x hx=>?_⟩)
  ·exact bU.put (fun z=>z.1 rfl) (rT7.imp fun _ _ q=>iW q fun b h=>h.1) ⟨lw,rfl,lwP,us,eu,ru.imp fun _ _ q=>iW q fun b h=>h.2⟩
  ·rcases DM.mp hx with h|h
   ·exact okT x h
   ·rw[DI.mp h];exact ⟨w1,w2,okw⟩
 intro σ H4 h_;refine fZ h_ fun o6 o7 o8 T _hi=>?_
 refine eC _hi fun _r1 g4 hT _hj=>?_
 refine cZ _hj fun lT okT=>?_
 clear h_ _hi _hj;subst _r1;have T1:1<=T.length:=by omega
 have T4:T.length<=4:=by omega
 obtain ⟨vs,et,rT⟩:=id hT.any;have k4:=k2.trans g4;have lv:=rT.1;refine ⟨_,rfl,aq tl _ ⟨rfl,.inl (aC.of et),?_⟩⟩;rw[lv];refine (aq _ _ ⟨rfl,rfl,IntMulOk.of_left (by decide),_,rfl,bH a ns 2 ⟨rfl,(k4.seq hS),by decide,fun c2=>?_⟩⟩)
 have mm:=fm (a:=c2) (n:=3) (by decide)
 refine (aq _ _ ⟨rfl,rfl,(by show (3:Int)≠0;decide),aq _ _ ⟨rfl,rfl,?_⟩⟩)
 dsimp only;generalize hp:2*((T.length:Nat):Int)+c2.fmod 3=pts;have p1:2<=pts:=by omega
 have p2:pts<=10:=by omega
 have sq1:1<=pts*pts:=Int.mul_pos (by omega) (by omega)
 have sq2:pts*pts<=10*10:=Int.mul_le_mul p2 p2 (by omega) (by decide)
 have etd4:=g4 _ _ etd;have hT4:=hT.any;have f0:1<=f/\f<=10000019:=f12;refine ⟨by show 0<=sizeLine;decide,fun la nla=>?_⟩
 have ga:=ag nla (.lst []);have ea0:aG H4 la (.lst []) la=some (.lst []):=ah;generalize aG H4 la (.lst [])=H5 at ga ea0⊢;obtain ⟨cs,ecs,lcs⟩:=kM ns (some 20) (some 32);refine ⟨_,rfl,_,rfl,_,rfl,aq a _ ⟨rfl,(k4.trans ga).seq hS,fun lc nlc=>?_⟩⟩
 rw[ecs];have gc:=ag nlc (.lst (cs.map V.int));have ec:aG H5 lc (.lst (cs.map V.int)) lc=some (.lst (cs.map V.int)):=ah;generalize aG H5 lc (.lst (cs.map V.int))=H6 at gc ec⊢;have nla':H4 la=none:=nla;have lcn:H4 lc=none:=ga.free nlc;have lla:lc≠la:=fun z=>by rw[z,ea0] at nlc;cases nlc
 refine ⟨lc,rfl,⟨_,aC.of ec⟩,aR (xs:=cs.map V.int) (fun i σ H'=>∃(o6 o7 o8 o11 o12:Option V) (A:List Ky),σ= [FV a,some (.int c),some (.int f),FV ln,FV td,FV tl,o6,o7,o8,some (.int pts),FV la,o11,o12,none,none]/\aB H4 H'/\H' lc=some (.lst (cs.map V.int))/\aW H' la A/\A.length=i/\∀k∈A,∃p q g:Int,k= [p,q,g]/\0<=p/\p<pts/\0<=q/\q<pts/\ -1000000000<=g/\g<=1000000000) (eN o6 o7 o8 none none [] ⟨rfl,ga.trans gc,ec,⟨[],gc _ _ ea0,dR.nil⟩,rfl,fun k hk=>by cases hk⟩) (fun i σ H' _ ⟨_,_,_,_,_,_,_,_,e,_⟩=>aC.of e) ?_ ?_⟩
 ·intro i y σ H7 hy h_;refine fK h_ fun o6 o7 o8 o11 o12 A _hi=>?_
  refine f9 _hi fun _r1 g7 e7 _r2 lA okA=>?_
  clear h_ _hi;subst _r1;obtain ⟨bs,eb,rb⟩:=_r2;have il:i<cs.length:=by have:=(D5.mp hy).1;rw[D3] at this;exact this
  rw[DE] at hy;obtain ⟨x,hx,rfl⟩:=DB.mp hy;have mp:=fm (a:=x) (n:=pts) (by omega)
  have mq:=fm (a:=x.fdiv pts) (n:=pts) (by omega)
  have mk:=fm (a:=x.fdiv (pts*pts)) (n:=11) (by decide)
  have sz:(bs.map V.ref).length<sizeLine:=by rw[D3,rb.1];omega
  refine ⟨_,rfl,_,rfl,_,rfl,aq _ _ ⟨rfl,rfl,IntMulOk.of_left (intBits_le_64 (by omega) (by omega)),aq _ _ ⟨rfl,rfl,⟨by omega,DC (by omega)⟩,aq _ _ ⟨rfl,rfl,(by show (11:Int)≠0;decide),aq _ _ ⟨rfl,rfl,_,rfl,aq _ _ ⟨rfl,rfl,IntMulOk.of_left (intBits_le_64 (by omega) (by omega)),?_⟩⟩⟩⟩⟩⟩
  refine ⟨_,rfl,.inl ⟨rfl,_,aC.of eb⟩,_,rfl,_,rfl,aq _ _ ⟨rfl,rfl,by omega,_,rfl,_,rfl,aq _ _ ⟨rfl,rfl,⟨by omega,DC (by omega)⟩,_,rfl,aq _ _ ⟨rfl,rfl,by omega,_,rfl,by show 3<=sizeLine;decide,fun t nt=>(bH la _ _ ⟨rfl,rfl,ag nt _ _ _ eb,sz,?_⟩)⟩⟩⟩⟩
  have gt:=ag nt (.tup [.int (x.fmod pts),.int ((x.fdiv pts).fmod pts),.int (((x.fdiv (pts*pts)).fmod 11-7)*f)]);have la7:lc≠la:=lla;refine (eN _ _ _ _ _ (A++ [[x.fmod pts,(x.fdiv pts).fmod pts,((x.fdiv (pts*pts)).fmod 11-7)*f]]) ⟨rfl,du (g7.trans gt) nla' _,by rw[aH la7];exact gt _ _ e7,gv (gt _ _ eb) (rb.imp fun a k q=>gt _ _ q) ah,by rw[D8];simp;omega,fun k hk=>?_⟩)
  rcases DM.mp hk with h|h
  ·exact okA k h
  ·rw[DI.mp h];have b1: -7*10000019<=((x.fdiv (pts*pts)).fmod 11-7)*f:=by
    have:=EM (show-7<=(x.fdiv (pts*pts)).fmod 11-7 by omega) (show 0<=f by omega)
    omega
   have b2:((x.fdiv (pts*pts)).fmod 11-7)*f<=3*10000019:=by
    have:=EM (show (x.fdiv (pts*pts)).fmod 11-7<=3 by omega) (show 0<=f by omega)
    omega
   exact (bH _ _ _ ⟨rfl,mp.1,mp.2,mq.1,mq.2,by omega,by omega⟩)
 intro σ H7 h_;refine fK h_ fun o6 o7 o8 o11 o12 A _hi=>?_
 refine f9 _hi fun _r1 g7 e7 hA lA okA=>?_
 clear h_ _hi;subst _r1;rw[D3] at lA;have lr':(vs.length:Int)=(T.length:Int):=by omega
 refine ⟨by show 0<=sizeLine;decide,fun lp nlp=>?_⟩
 have gp:=ag nlp (.lst []);have ep0:aG H7 lp (.lst []) lp=some (.lst []):=ah;generalize aG H7 lp (.lst [])=H8 at gp ep0⊢;have et7:=g7 _ _ et;have PQ:True:=trivial;refine ⟨_,rfl,aq tl _ ⟨rfl,.inl (aC.of (gp _ _ et7)),_,rfl,by omega,by omega,ca (fun i σ H'=>∃(o6 o14:Option V) (ps:List (Int×Int)),σ= [FV a,some (.int c),some (.int f),FV ln,FV td,FV tl,o6,o7,o8,some (.int pts),FV la,o11,o12,FV lp,o14]/\aB H7 H'/\aW H' lp (bt ps)/\ps.length<=T.length*i/\∀p∈ps,0<=p.1/\p.1<(T.length:Int)/\0<=p.2/\p.2<(T.length:Int)/\p.1≠p.2) (bH o6 none [] ⟨rfl,gp,⟨[],ep0,dR.nil⟩,Dn _,fun p hp=>by cases hp⟩) ?_ ?_⟩⟩
 ·intro i σ H9 hi h_;refine ko h_ fun o6 o14 ps _hi=>?_
  refine eC _hi fun _r1 g9 hP _hj=>?_
  refine cZ _hj fun pl pok=>?_
  clear h_ _hi _hj;subst _r1;rw[DQ,lv] at hi;refine ⟨_,rfl,aq tl _ ⟨rfl,.inl (aC.of (g9 _ _ et7)),_,rfl,by omega,by omega,ca (fun j σ H'=>∃(o14:Option V) (ps:List (Int×Int)),σ= [FV a,some (.int c),some (.int f),FV ln,FV td,FV tl,some (.int (0+(i:Int))),o7,o8,some (.int pts),FV la,o11,o12,FV lp,o14]/\aB H7 H'/\aW H' lp (bt ps)/\ps.length<=T.length*i+j/\∀p∈ps,0<=p.1/\p.1<(T.length:Int)/\0<=p.2/\p.2<(T.length:Int)/\p.1≠p.2) (aq o14 ps ⟨rfl,g9,hP,by omega,pok⟩) ?_ ?_⟩⟩
  ·rintro j σ H10 hj ⟨o14,ps,rfl,g10,⟨as,ea,ra⟩,pl,pok⟩;rw[DQ,lv] at hj;have skip:∃(o14:Option V) (ps:List (Int×Int)),[some (V.ref a),some (.int c),some (.int f),some (.ref ln),some (.ref td),some (.ref tl),some (.int (0+(i:Int))),o7,o8,some (.int pts),some (.ref la),o11,o12,some (.ref lp),some (V.int (0+(j:Int)))]= [some (.ref a),some (.int c),some (.int f),some (.ref ln),some (.ref td),some (.ref tl),some (.int (0+(i:Int))),o7,o8,some (.int pts),some (.ref la),o11,o12,some (.ref lp),o14]/\aB H7 H10/\aW H10 lp (bt ps)/\ps.length<=T.length*i+(j+1)/\∀p∈ps,0<=p.1/\p.1<(T.length:Int)/\0<=p.2/\p.2<(T.length:Int)/\p.1≠p.2:=(aq _ ps ⟨rfl,g10,⟨as,ea,ra⟩,by omega,pok⟩)
   have k10:=(k4.trans g7).trans g10;refine ⟨_,rfl,_,rfl,rfl,_,rfl,xp (fun c1=>?_) (fun c1=>skip)⟩
   refine ⟨_,rfl,bH a ns 12 ⟨rfl,(k10.seq hS),by decide,fun c12=>⟨_,rfl,aq _ _ ⟨rfl,rfl,IntMulOk.of_left (by decide),_,rfl,aq _ _ ⟨rfl,rfl,aq _ _ ⟨rfl,fun v v0=>(aq _ _ ⟨rfl,rfl,(by show (6:Int)≠0;decide),rfl,_,rfl,d2 (fun c2=>?_) (fun c2=>skip)⟩)⟩⟩⟩⟩⟩⟩
   have sz:(as.map V.ref).length<sizeLine:=by
    have:T.length*i<=4*4:=Nat.mul_le_mul T4 (by omega)
    rw[D3,ra.1];unfold bt;rw[D3];omega
   refine ⟨_,rfl,.inl ⟨rfl,_,aC.of ea⟩,_,rfl,_,rfl,by show 2<=sizeLine;decide,fun t nt=>(bH lp _ _ ⟨rfl,rfl,ag nt _ _ _ ea,sz,?_⟩)⟩
   have gt:=ag nt (.tup [.int (0+(i:Int)),.int (0+(j:Int))]);refine (aq _ (ps++ [(0+(i:Int),0+(j:Int))]) ⟨rfl,du (g10.trans gt) nlp _,?_,by rw[D8];simp;omega,fun p hp=>?_⟩)
   ·unfold bt;rw[DS];exact gv (gt _ _ ea) (ra.imp fun a k q=>gt _ _ q) ah
   ·rcases DM.mp hp with h|h
    ·exact pok p h
    ·rw[DI.mp h];exact ⟨by show 0<=0+(i:Int);omega,by show 0+(i:Int)<_;omega,by show 0<=0+(j:Int);omega,by show 0+(j:Int)<_;omega,c1⟩
  ·rintro σ H10 ⟨o14,ps,rfl,g10,hP,pl,pok⟩;rw[DQ,lv] at pl;exact (bH _ _ ps ⟨rfl,g10,hP,by rw[Nat.mul_succ];exact pl,pok⟩)
 ·intro σ H9 h_;refine ko h_ fun o6 o14 ps _hi=>?_
  refine eC _hi fun _r1 g9 hP _hj=>?_
  refine cZ _hj fun pl pok=>?_
  clear h_ _hi _hj;subst _r1;rw[DQ,lv] at pl;refine ⟨_,rfl,_,rfl,_,rfl,_,rfl,_,rfl,_,rfl,aq tl _ ⟨rfl,.inl (aC.of (g9 _ _ et7)),?_⟩⟩;rw[lv];refine (aq _ _ ⟨rfl,rfl,IntMulOk.of_left (by decide),aq _ _ ⟨rfl,rfl,by show 5<=sizeLine;decide,fun tp ntp=>?_⟩⟩)
  have e10:=ag ntp (.tup [.ref td,.ref tl,.ref la,.ref lp,.int (pts-2*((T.length:Nat):Int))]);have k10:=g7.trans (g9.trans e10);refine q tp td tl la lp n0 n1 m0 m1 _ T A ps _ (k4.trans k10) ah (k10 _ _ etd4) (hT4.same k10) (hA.same (g9.trans e10)) (hP.same e10) ne T1 T4 (by omega) (fun p hp=>(pok p hp).2.2.2.2) ?_
  have l16:T.length*T.length<=4*4:=Nat.mul_le_mul T4 T4;refine ⟨by simp,by simpa using ne,fun p hp=>?_,by omega,fun ws hw=>?_,by omega,by omega,by omega,fun k hk=>?_,by unfold bt;rw[D3];omega,fun k hk=>?_⟩
  ·simp only[DG,DZ,or_false] at hp;rcases hp with rfl|rfl
   ·exact ⟨nm0,by show 1<=m0;omega,by show m0<=8;omega⟩
   ·exact ⟨nm1,by show 1<=m1;omega,by show m1<=8;omega⟩
  ·obtain ⟨w1,w2,w3⟩:=okT ws hw;exact ⟨w1,w2,fun w h=>vh ne (by omega) (by omega) (w3 w h)⟩
  ·refine ko (okA k hk) fun p q' g _hi=>?_
   refine f9 _hi fun e b1 b2 b3 b4 _hj=>?_
   refine cZ _hj fun b5 b6=>?_
   exact (bH p q' g ⟨e,b1,by omega,b3,by omega,b5,b6⟩)
  ·obtain ⟨p,hp',rfl⟩:=DP.mp hk;obtain ⟨b1,b2,b3,b4,b5⟩:=pok p hp';exact (aq p.1 p.2 ⟨rfl,b1,b2,b3,b4,b5⟩)
theorem Be {dV:Value} (F:bn K "_law_lag" "_law_lag" y9 dV f fd):bf P w K mg base a8 1 f fd ["_law_arcs","_law_p","_law_q"] xu:=by
 have sc:aE ["_law_arcs","_law_p","_law_q","_law_lags"] ["_law_arcs","_law_p","_law_q"] (ar y9):=dn (by decide+kernel)
 refine F.ok sc (fun vs H Q E h=>?_) (fun cdv A outer s H vs Q E hr h=>?_)
 ·obtain ⟨_,_,_,_,rfl,_⟩:=h
  rfl
 refine fZ h fun l A p q _hi=>?_
 refine eC _hi fun _r1 _r2 l7 k=>?_
 clear h _hi;subst _r1;obtain ⟨as,el,rA⟩:=_r2;refine ⟨_,(ae (fF sc.nd (i:=3) rfl rfl (own:= "_law_row") (ys:= ["_law_p","_law_q"]) (js:= [1,2]) rfl (cok (fU (fU fT)) (.cons rfl (.cons rfl .nil)) (by decide) rfl rfl rfl rfl rfl rfl rfl rfl) (aF (pv 0)) (fun C fp s H=>(PW.pt (cF (ao b8 (aA (bu (K:=K) rfl) (pv 0) af (fun _ _=>rfl)) (pv 1) (aD _)) (bW (ao b8 (aA (bu (K:=K) rfl) (pv 0) af (fun _ _=>rfl)) (pv 2) (aD _)))))) (fun C fp s H=>(aA (bu (K:=K) rfl) (pv 0) af (fun _ _=>rfl)))) (ae (aL (ao (jN hr.units0) (pv 3) (@aU _ _ _ _ ac) (aD _)) (aj (au aZ)) aw) (aj (au (ay (iS rfl) rfl B.FB boot_max (@aa _ _ _ _ _ (pv 3) ac rfl)))))),?_⟩
 try dsimp only[cxK]
 have sl:sizeLine=16777216:=sizeLine_eq;have la:(as.map V.ref).length=A.length:=by rw[D3,rA.1,D3]
 refine ⟨_,rfl,l,rfl,⟨_,aC.of el⟩,sK (fun i=>uJ A p q i) (fun i=> .int (uK A i)) (aC.of el) (by omega) (fun i y hy H2 g2 R' hR=>?_) (fun i y hy H2 g2 Q' hQ=>?_) fun p1 H1 n1 g1 e1=>?_⟩
 ·obtain ⟨b,hb,rfl⟩:=cC hy;obtain ⟨r,hr',eb⟩:=pX rA hb;rw[mH hr'] at hR;have eb2:=g2 _ _ eb;refine ⟨_,rfl,aN b _ _ _ ⟨rfl,rfl,bx.of eb2,rfl,_,rfl,rfl,_,rfl,d2 (fun c=>?_) (fun c=>?_)⟩⟩
  ·injection c with c
   refine ⟨_,rfl,aN b _ _ _ ⟨rfl,rfl,bx.of eb2,rfl,_,rfl,rfl,_,rfl,?_⟩⟩;have e:decide (V.int r.2.1=V.int q)=decide (r.1=p/\r.2.1=q):=by
    by_cases h:r.2.1=q
    ·rw[decide_eq_true (by rw[h]),decide_eq_true ⟨c,h⟩]
    ·rw[decide_eq_false (fun z=>h (by injection z)),decide_eq_false (fun z=>h z.2)]
   rw[e];exact hR
  ·rw[decide_eq_false (fun z=>c (by rw[z.1]))] at hR
   exact hR
 ·obtain ⟨b,hb,rfl⟩:=cC hy;obtain ⟨r,hr',eb⟩:=pX rA hb;rw[mI hr'] at hQ;exact ⟨_,rfl,aN b _ _ _ ⟨rfl,rfl,bx.of (g2 _ _ eb),rfl,hQ⟩⟩
 have e2:gR (as.map V.ref).length (fun i=>uJ A p q i) (fun i=> .int (uK A i))=(wI A p q).map V.int:=by
  rw[la];unfold gR wI;rw[DJ]
  rfl
 rw[e2] at e1;refine ⟨_,rfl,by show 0<=sizeLine;decide,fun l3 nl3=>(bH p1 l3 _ ⟨rfl,rfl,aC.of (ag nl3 _ _ _ e1),aC.of ah,?_⟩)⟩
 have g3:=g1.trans (ag nl3 (.lst []));cases hm:wI A p q with
 |nil=>
  refine ⟨_,rfl,cL ?_⟩;have:=k _ g3;rw[uL hm] at this;exact this
 |cons z zs=>
  refine ⟨_,rfl,cP ⟨_,rfl,aq p1 (wI A p q) ⟨rfl,aC.of (ag nl3 _ _ _ e1),by rw[hm];exact nofun,fun M h1 h2=>?_⟩⟩⟩
  have:=k _ g3;rw[uM h1 h2] at this;exact this
theorem Bf {dV:Value} (F:bn K "_law_total" "_law_total" za dV f fd) (DZ47:Dx P w K mg base a8 1 "_law_lag" ["_law_arcs","_law_p","_law_q"] [] xu):bf P w K mg base a8 2 f fd ["_law_arcs","_law_chain"] og:=by
 have sc:aE ["_law_arcs","_law_chain","_law_total_here","_law_k","_law_lag_here"] ["_law_arcs","_law_chain"] (ar za):=dn (by decide+kernel)
 refine F.ok sc (fun vs H Q E h=>?_) (fun cdv A outer s H vs Q E hr h=>?_)
 ·obtain ⟨_,_,_,_,rfl,_⟩:=h
  rfl
 refine fZ h fun l c A C _hi=>?_
 refine f9 _hi fun _r1 hA l7 ec c7 k=>?_
 clear h _hi;subst _r1;refine ⟨_,(ae (cJ 2 sc af) (ae (aQ PassesOwn.never rfl (rY rfl B.Fc (@aa _ _ _ _ _ af (@aa _ _ _ _ _ (ay av rfl B.Ev boot_len (@aa _ _ _ _ _ (pv 1) ac rfl)) ac rfl) rfl)) (cM 3 sc) (ae (cJ 4 sc (bL DZ47 hr (@aa _ _ _ _ _ (pv 0) (@aa _ _ _ _ _ (aA a9 (pv 1) (am gX (pv 3) af) (fun _ _=>rfl)) (@aa _ _ _ _ _ (aA a9 (pv 1) (pv 3) (fun _ _=>rfl)) ac rfl) rfl) rfl))) (ae (aL (ao fu (pv 4) aZ (aD _)) (aj (au aZ)) aw) (aj (cJ 2 sc (am a7 (pv 2) (pv 4))))))) (aj (au (pv 2))))),?_⟩
 try dsimp only[cxK]
 have sl:sizeLine=16777216:=sizeLine_eq;have lc:(C.map V.int).length=C.length:=D3 _;refine ⟨_,rfl,aq c _ ⟨rfl,.inl (aC.of ec),aq _ _ ⟨rfl,⟨by decide,by decide,by omega,by omega⟩,ca (fun i σ H'=>∃(o3 o4:Option V) (t:Int),σ= [FV l,FV c,some (.int t),o3,o4]/\aB H H'/\fw A C i=some t) (bH none none 0 ⟨rfl,.refl _,rfl⟩) ?_ ?_⟩⟩⟩
 ·rintro i σ H1 hi ⟨o3,o4,t,rfl,g1,ht⟩;have hx:=D4 (show i<C.length by omega)
  have hy:=D4 (show i+1<C.length by omega)
  generalize C[i]=x at hx;generalize C[i+1]=y at hy;have st:=kS ht hx hy;have ec1:=g1 _ _ ec;refine ⟨_,rfl,_,rfl,_,rfl,aq _ _ ⟨rfl,rfl,aN c _ _ _ ⟨rfl,rfl,aC.of ec1,(by rw[show 1+(i:Int)-1=(i:Int) by omega];exact a4 (dO hx)),_,rfl,_,rfl,aN c _ _ _ ⟨rfl,rfl,aC.of ec1,(by rw[show 1+(i:Int)=((i+1:Nat):Int) by omega];exact a4 (dO hy)),aN l A x y ⟨rfl,hA.same g1,l7,fun H2 g2=>?_⟩⟩⟩⟩⟩
  cases hl:c8 A x y with
  |none=>
   rw[hl] at st;have e:bP A C=none:=i9 (i:=i+1) st (by omega)
   have:=k _ (g1.trans g2);rw[e] at this;exact ⟨_,rfl,rfl,_,rfl,dT rfl this⟩
  |some gg=>
   rw[hl] at st;exact ⟨_,rfl,rfl,_,rfl,dF nofun ⟨_,rfl,_,rfl,aq _ _ ⟨rfl,rfl,bH _ _ _ ⟨rfl,g1.trans g2,st⟩⟩⟩⟩
 ·rintro σ H1 ⟨o3,o4,t,rfl,g1,ht⟩;have:=k _ g1;rw[show bP A C=some t by rw[<-ht];unfold bP;congr 1;omega] at this
  exact ⟨_,rfl,this⟩
theorem Bg {dV:Value} (F:bn K "_law_open" "_law_open" zb dV f fd):bf P w K mg base a8 1 f fd ["_law_tasks","_law_case","_law_i"] iI:=by
 have sc:aE ["_law_tasks","_law_case","_law_i"] ["_law_tasks","_law_case","_law_i"] (ar zb):=dn (by decide+kernel)
 refine F.ok sc (fun vs H Q E h=>?_) (fun cdv A outer s H vs Q E hr h=>?_)
 ·obtain ⟨_,_,_,_,_,_,rfl,_⟩:=h
  rfl
 refine fK h fun tl t i D T P _hi=>?_
 refine eC _hi fun _r1 TC il q=>?_
 clear h _hi;subst _r1;refine ⟨_,(ae (aL (ao fu (aA a9 (aA aK (pv 1) af (fun _ _=>rfl)) (pv 2) (fun _ _=>rfl)) aZ (aD _)) (aj (au (aA a9 (pv 0) (pv 2) (fun _ _=>rfl)))) aw) (aj (au (@aU _ _ _ _ (@aa _ _ _ _ _ (aA a9 (aA a9 (pv 0) (pv 2) (fun _ _=>rfl)) (aA a9 (aA aK (pv 1) af (fun _ _=>rfl)) (pv 2) (fun _ _=>rfl)) (fun _ _=>rfl)) ac rfl))))),?_⟩
 try dsimp only[cxK]
 obtain ⟨vs,el,rT⟩:=id TC.tasks;obtain ⟨O,kl,ol,ec,ek,ho⟩:=TC.cs;have hT:=D4 il;obtain ⟨y,hy,wl,rfl,_,lw⟩:=rT.get hT;have hP:=D4 (show i<P.length by rw[TC.pk.len];exact il)
 have oF:aO T P i=match P[i]'(by rw[TC.pk.len];exact il) with|none=>T[i]|some j=> [(T[i]).getD j (0,0,[])]:=by
  unfold aO;rw[aX hT,aX hP];try rfl
 cases hp:P[i]'(by rw[TC.pk.len];exact il) with
 |none=>
  rw[hp] at oF hP;refine ⟨_,rfl,aN t _ _ _ ⟨rfl,rfl,bx.of ec,rfl,_,rfl,aN kl _ _ _ ⟨rfl,rfl,aC.of ek,(a4 (dO hP)),rfl,_,rfl,dT rfl ⟨_,rfl,_,rfl,aN tl _ _ _ ⟨rfl,rfl,aC.of el,(a4 hy),?_⟩⟩⟩⟩⟩;exact q wl H (.refl _) (by rw[oF];exact lw)
 |some j=>
  rw[hp] at oF hP;have jl:=TC.pk.pick i j _ hP hT;have hw:=D4 jl;replace oF:aO T P i= [(T[i]).getD j (0,0,[])]:=oF;rw[aX hw] at oF;obtain ⟨ys,ey,ry⟩:=id lw;obtain ⟨v,hv,rv⟩:=ry.get hw;refine ⟨_,rfl,aN t _ _ _ ⟨rfl,rfl,bx.of ec,rfl,_,rfl,aN kl _ _ _ ⟨rfl,rfl,aC.of ek,(a4 (dO hP)),rfl,_,rfl,dF nofun ⟨_,rfl,_,rfl,aN tl _ _ _ ⟨rfl,rfl,aC.of el,(a4 hy),_,rfl,aN t _ _ _ ⟨rfl,rfl,bx.of ec,rfl,_,rfl,aN kl _ _ _ ⟨rfl,rfl,aC.of ek,(a4 (dO hP)),aN wl _ _ _ ⟨rfl,rfl,aC.of ey,(a4 hv),by show 1<=sizeLine;decide,fun p2 np2=>?_⟩⟩⟩⟩⟩⟩⟩⟩
  rw[oF] at q;exact q p2 _ (ag np2 _) ⟨_,ah,A2.one (dA rv (ag np2 _))⟩
theorem Bh {dV:Value} (F:bn K "_law_due" "_law_due" zc dV f fd) (DZ49:Dx P w K mg base a8 1 "_law_open" ["_law_tasks","_law_case","_law_i"] [] iI):bf P w K mg base a8 2 f fd ["_law_arcs","_law_tasks","_law_case"] uW:=by
 have sc:aE ["_law_arcs","_law_tasks","_law_case","_law_due_here","_law_i","_law_ways"] ["_law_arcs","_law_tasks","_law_case"] (ar zc):=dn (by decide+kernel)
 refine F.ok sc (fun vs H Q E h=>?_) (fun cdv A outer s H vs Q E hr h=>?_)
 ·obtain ⟨_,_,_,_,_,_,_,_,rfl,_⟩:=h
  rfl
 refine fK h fun al tl t A D T _hi=>?_
 refine pd _hi fun P O _hj=>?_
 refine ph _hj fun _r1 _r2 a1000 hT t24 hC pk ok _hk=>?_
 refine cZ _hk fun po q=>?_
 clear h _hi _hj _hk;subst _r1;obtain ⟨ba,ea,ra⟩:=_r2;refine ⟨_,(ae (cJ 3 sc (bJ bD rfl B.Fe boot_list (@aa _ _ _ _ _ (pv 0) ac rfl))) (ae (aQ PassesOwn.never rfl (b9 rfl B.Fc (@aa _ _ _ _ _ (ay av rfl B.Ev boot_len (@aa _ _ _ _ _ (pv 1) ac rfl)) ac rfl)) (cM 4 sc) (ae (cJ 5 sc (bL DZ49 hr (@aa _ _ _ _ _ (pv 1) (@aa _ _ _ _ _ (pv 2) (@aa _ _ _ _ _ (pv 4) ac rfl) rfl) rfl))) (ae (cJ 3 sc (am cW (pv 3) (@aU _ _ _ _ (@aa _ _ _ _ _ (@bj _ _ _ _ _ (@aa _ _ _ _ _ (am aY af (pv 4)) (@aa _ _ _ _ _ (am a7 (am aY af (pv 4)) af) (@aa _ _ _ _ _ (ay (cT rfl) rfl B.Fj boot_min (@aa _ _ _ _ _ (bG (own:= "_law_way_here") (ys:= []) (js:= []) rfl (cok fT .nil (by decide) rfl rfl rfl rfl rfl rfl rfl rfl) (aF (pv 5)) (fun C fp s H=>(aA (bu (K:=K) rfl) (pv 0) af (fun _ _=>rfl)))) ac rfl)) ac rfl) rfl) rfl)) ac rfl)))) (aj (cJ 3 sc (am cW (pv 3) (@aU _ _ _ _ (@aa _ _ _ _ _ (@bj _ _ _ _ _ (@aa _ _ _ _ _ (am a7 (am aY af (pv 4)) af) (@aa _ _ _ _ _ (am aY af (pv 4)) (@aa _ _ _ _ _ (am gX af (ay (iS rfl) rfl B.FB boot_max (@aa _ _ _ _ _ (bG (own:= "_law_way_here") (ys:= []) (js:= []) rfl (cok fT .nil (by decide) rfl rfl rfl rfl rfl rfl rfl rfl) (aF (pv 5)) (fun C fp s H=>(aA (bu (K:=K) rfl) (pv 0) af (fun _ _=>rfl)))) ac rfl))) ac rfl) rfl) rfl)) ac rfl)))))))) (aj (au (am cW (pv 3) (bG (own:= "_law_pair") (ys:= []) (js:= []) rfl (cok fT .nil (by decide) rfl rfl rfl rfl rfl rfl rfl rfl) (aF (aA aK (pv 2) af (fun _ _=>rfl))) (fun C fp s H=>(@bj _ _ _ _ _ (@aa _ _ _ _ _ (am a7 (am aY af (aA (bu (K:=K) rfl) (pv 0) af (fun _ _=>rfl))) af) (@aa _ _ _ _ _ (am aY af (aA (bu (K:=K) rfl) (pv 0) af (fun _ _=>rfl))) (@aa _ _ _ _ _ af ac rfl) rfl) rfl))))))))),?_⟩
 try dsimp only[cxK]
 have sl:sizeLine=16777216:=sizeLine_eq;obtain ⟨vt,et,rT⟩:=id hT;have TC:fc D H tl t T P:=⟨hT,⟨O,hC⟩,pk,ok⟩;obtain ⟨kl,ol,ec,ek,⟨bo,eo,ro⟩⟩:=id hC;have lv:vt.length=T.length:=rT.1;refine ⟨_,rfl,aq al _ ⟨rfl,.inl (aC.of ea),fun l0 nl0=>?_⟩⟩
 have g0:=ag nl0 (.lst (ba.map V.ref));have hA0:aW (aG H l0 (.lst (ba.map V.ref))) l0 (A++bI T P 0):=⟨ba,ah,by rw[show A++bI T P 0=A from EQ A];exact ra.imp fun a k q=>g0 _ _ q⟩
 generalize aG H l0 (.lst (ba.map V.ref))=H0 at g0 hA0⊢;try dsimp only[cu,df]
 refine cut (fun σ H'=>∃(l:Addr) (o4 o5:Option V),σ= [FV al,FV tl,FV t,FV l,o4,o5]/\aB H H'/\aW H' l (A++bI T P T.length)) (fun N hN=>?_) ?_
 ·refine ⟨_,rfl,aq tl _ ⟨rfl,.inl (aC.of (g0 _ _ et)),_,rfl,by omega,by omega,ca (fun i σ H'=>∃(l:Addr) (o4 o5:Option V),σ= [FV al,FV tl,FV t,FV l,o4,o5]/\aB H H'/\aW H' l (A++bI T P i)) (bH l0 none none ⟨rfl,g0,hA0⟩) ?_ ?_⟩⟩
  ·rintro i σ H1 hi ⟨l,o4,o5,rfl,g1,⟨bs,eb,rb⟩⟩;rw[DQ,lv] at hi;have zi:(0+(i:Int))=(i:Int):=Ef _;have ne:=gH (P:=P) ok hi;have ln:=fb (P:=P) ok hi;have lb:bs.length=A.length+2*i:=by rw[rb.1,D8,cU]
   refine ⟨_,rfl,_,rfl,_,rfl,eN tl t i D T P ⟨by rw[zi];rfl,TC.same g1,hi,fun p H2 g2 ⟨vs,ev,rv⟩=>?_⟩⟩
   refine ⟨_,rfl,_,rfl,aq _ _ ⟨rfl,rfl,IntMulOk.of_left (by decide),_,rfl,aq _ _ ⟨rfl,rfl,IntMulOk.of_left (by decide),aq _ _ ⟨rfl,rfl,_,rfl,p,rfl,⟨_,aC.of ev⟩,bv (dL V.int) (fun _=>False) (fun k=>(fun w:Wy=>w.1) ((aO T P i).getD k (0,0,[]))) (aC.of ev) (by rw[rv.1];omega) (fun a h=>h.elim) (fun k y hy Hk gk Q' hQ=>?_) fun p2 H3 np2 g3 hp2=>?_⟩⟩⟩⟩
   ·refine eA (rv.at_ hy) fun w _hi=>?_
    refine cZ _hi fun hw _hj=>?_
    refine pd _hj fun tw uw _hk=>?_
    refine eC _hk fun _r1 _ _ _hl=>?_
    refine cZ _hl fun etw _=>?_
    clear _hi _hj _hk _hl;subst _r1;rw[aX hw] at hQ;exact ⟨_,rfl,aN tw _ _ _ ⟨rfl,rfl,bx.of (gk _ _ etw),rfl,hQ _ _ (.refl _) rfl⟩⟩
   obtain ⟨us,eu,ru⟩:=hp2;have eus:us=((aO T P i).map fun w:Wy=>w.1).map V.int:=by
    rw[ru.val,rv.1]
    conv=>rhs;rw[<-br (aO T P i) (0,0,[])]
    rw[DJ,DJ,DJ]
    rfl
   rw[eus] at eu;refine (aq p2 _ ⟨rfl,aC.of eu,by simpa using ne,fun M hM hle=>⟨by show 3<=sizeLine;decide,fun t1 nt1=>⟨by show 1<=sizeLine;decide,fun l1 nl1=>?_⟩⟩⟩)
   rw[zi,dP hM hle] at nl1⊢;obtain ⟨m1,hm1⟩:∃m1,m1=eZ ((aO T P i).map fun w:Wy=>w.1):=⟨_,rfl⟩
   rw[<-hm1] at nl1⊢;have gt1:=ag nt1 (.tup [.int (2*(i:Int)),.int (2*(i:Int)+1),.int m1]);have gl1:=ag nl1 (.lst [.ref t1]);have q4:=((g2.trans g3).trans gt1).trans gl1;refine (aN l l1 _ _ ⟨rfl,rfl,q4 _ _ eb,ah,by rw[D3];simp;omega,fun l2 nl2=>?_⟩)
   have hA4:aW (aG (aG (aG H3 t1 (.tup [.int (2*(i:Int)),.int (2*(i:Int)+1),.int m1])) l1 (.lst [.ref t1])) l2 (.lst (bs.map V.ref++ [.ref t1]))) l2 (A++bI T P i++ [[2*(i:Int),2*(i:Int)+1,m1]]):=gA (rb.imp fun a k q=>q4 _ _ q) (dR.one (k:= [2*(i:Int),2*(i:Int)+1,m1]) (a:=t1) (gl1 _ _ ah)) nl2
   have k5:=(g1.trans q4).trans (ag nl2 (.lst (bs.map V.ref++ [.ref t1])));have g25:=((g3.trans gt1).trans gl1).trans (ag nl2 (.lst (bs.map V.ref++ [.ref t1])));generalize aG (aG (aG H3 t1 (.tup [.int (2*(i:Int)),.int (2*(i:Int)+1),.int m1])) l1 (.lst [.ref t1])) l2 (.lst (bs.map V.ref++ [.ref t1]))=H5 at hA4 k5 g25⊢;clear eu eus ru us gt1 q4 nt1 g3 np2 nl1 nl2 gl1;obtain ⟨cs,ecs,rcs⟩:=hA4;have lc:cs.length=A.length+2*i+1:=by rw[rcs.1,D8,D8,cU];rfl
   have ev5:=g25 _ _ ev;refine ⟨_,rfl,_,rfl,aq _ _ ⟨rfl,rfl,IntMulOk.of_left (by decide),aq _ _ ⟨rfl,rfl,_,rfl,aq _ _ ⟨rfl,rfl,IntMulOk.of_left (by decide),_,rfl,p,rfl,⟨_,aC.of ev5⟩,bv (dL V.int) (fun _=>False) (fun k=>(fun w:Wy=>w.2.1) ((aO T P i).getD k (0,0,[]))) (aC.of ev5) (by rw[rv.1];omega) (fun a h=>h.elim) (fun k y hy Hk gk Q' hQ=>?_) fun p3 H6 np3 g6 hp3=>?_⟩⟩⟩⟩
   ·refine eA (rv.at_ hy) fun w _hi=>?_
    refine cZ _hi fun hw _hj=>?_
    refine pd _hj fun tw uw _hk=>?_
    refine eC _hk fun _r1 _ _ _hl=>?_
    refine cZ _hl fun etw _=>?_
    clear _hi _hj _hk _hl;subst _r1;rw[aX hw] at hQ;exact ⟨_,rfl,aN tw _ _ _ ⟨rfl,rfl,bx.of ((g25.trans gk) _ _ etw),rfl,hQ _ _ (.refl _) rfl⟩⟩
   obtain ⟨us,eu,ru⟩:=hp3;have eus:us=((aO T P i).map fun w:Wy=>w.2.1).map V.int:=by
    rw[ru.val,rv.1]
    conv=>rhs;rw[<-br (aO T P i) (0,0,[])]
    rw[DJ,DJ,DJ]
    rfl
   rw[eus] at eu;refine (aq p3 _ ⟨rfl,aC.of eu,by simpa using ne,fun M2 hM2 hle2=>(aq _ _ ⟨rfl,rfl,by show 3<=sizeLine;decide,fun t2 nt2=>⟨by show 1<=sizeLine;decide,fun l3 nl3=>?_⟩⟩)⟩)
   rw[qX hM2 hle2] at nl3⊢;have gt2:=ag nt2 (.tup [.int (2*(i:Int)+1),.int (2*(i:Int)),.int (0-ie ((aO T P i).map fun w:Wy=>w.2.1))])
   have gl3:=ag nl3 (.lst [.ref t2]);have q7:=(g6.trans gt2).trans gl3;refine (aN l2 l3 _ _ ⟨rfl,rfl,q7 _ _ ecs,ah,by rw[D3];simp;omega,fun l4 nl4=>?_⟩)
   have hA7:=gA (rcs.imp fun a k q=>q7 _ _ q) (dR.one (k:= [2*(i:Int)+1,2*(i:Int),0-ie ((aO T P i).map fun w:Wy=>w.2.1)]) (a:=t2) (gl3 _ _ ah)) nl4
   refine (bH l4 _ _ ⟨rfl,(k5.trans q7).trans (ag nl4 _),?_⟩);have e:A++bI T P (i+1)=A++bI T P i++ [[2*(i:Int),2*(i:Int)+1,m1]]++ [[2*(i:Int)+1,2*(i:Int),0-ie ((aO T P i).map fun w:Wy=>w.2.1)]]:=by
    rw[hm1,Int.zero_sub];show A++(bI T P i++_)=_;rw[Dz,Dz]
    rfl
   rw[e];exact hA7
  ·rintro σ H1 ⟨l,o4,o5,rfl,g1,hA⟩;rw[DQ,lv] at hA;exact hN _ _ (bH _ _ _ ⟨rfl,g1,hA⟩)
 clear hA0 g0;rintro σ H1 ⟨l,o4,o5,rfl,g1,⟨bs,eb,rb⟩⟩;have lo:(bo.map V.ref).length=O.length:=by rw[D3,ro.1]
 have lb:bs.length=A.length+2*T.length:=by rw[rb.1,D8,cU]
 have o1000:=po.1;refine ⟨_,rfl,_,rfl,aN t _ _ _ ⟨rfl,rfl,bx.of (g1 _ _ ec),rfl,ol,rfl,⟨_,aC.of (g1 _ _ eo)⟩,bv (sR fun k:Ky=>k.map V.int) (fun _=>False) (fun k=>(fun k:Ky=> [2*k.getD 0 0+1,2*k.getD 1 0,0]) (O.getD k [])) (aC.of (g1 _ _ eo)) (by omega) (fun a h=>h.elim) (fun k y hy H2 g2 Q' hQ=>?_) fun lc H2 nlc g2 hc=>?_⟩⟩
 ·obtain ⟨b,hb,rfl⟩:=cC hy;have kl:k<O.length:=by rw[<-ro.1];exact (D5.mp hb).1
  have hk:=D4 kl;have eb':=ro.2 k b _ hb hk;obtain ⟨p,q',ek'⟩:=po.2 _ (DO kl);rw[ek'] at eb' hk;rw[aX hk] at hQ;have ebk:=(g1.trans g2) _ _ eb';exact ⟨_,rfl,aN b _ _ _ ⟨rfl,rfl,bx.of ebk,rfl,aq _ _ ⟨rfl,rfl,IntMulOk.of_left (by decide),aq _ _ ⟨rfl,rfl,_,rfl,aN b _ _ _ ⟨rfl,rfl,bx.of ebk,rfl,aq _ _ ⟨rfl,rfl,IntMulOk.of_left (by decide),by show 3<=sizeLine;decide,fun tt ntt=>hQ _ _ (ag ntt _) ⟨tt,rfl,.inl ntt,ah⟩⟩⟩⟩⟩⟩⟩
 have hc':=uX hc;rw[lo] at hc';have eO:(Dh O.length).map (fun k=>(fun k:Ky=> [2*k.getD 0 0+1,2*k.getD 1 0,0]) (O.getD k []))=gb O:=by
  unfold gb
  conv=>rhs;rw[<-br O []]
  rw[DJ]
  rfl
 rw[eO] at hc';obtain ⟨cs,ecs,rcs⟩:=hc';have lcs:cs.length=O.length:=by rw[rcs.1];unfold gb;rw[D3]
 refine (aN l lc _ _ ⟨rfl,rfl,g2 _ _ eb,ecs,by rw[D3,D3];omega,fun lz nlz=>?_⟩)
 exact q lz _ ((g1.trans g2).trans (ag nlz _)) (gA (rb.imp fun a k q=>g2 _ _ q) rcs nlz)
theorem Bi {dV:Value} (F:bn K "_law_many" "_law_many" zd dV f fd):bf P w K mg base a8 1 f fd ["_law_way_here","_law_name"] fJ:=by
 have sc:aE ["_law_way_here","_law_name","_law_tool","_law_many_here","_law_heat"] ["_law_way_here","_law_name"] (ar zd):=dn (by decide+kernel)
 refine F.ok sc (fun vs H Q E h=>?_) (fun cdv A outer s H vs Q E hr h=>?_)
 ·obtain ⟨_,_,_,rfl,_⟩:=h
  rfl
 obtain ⟨v,z,w,rfl,⟨t,u,rfl,_,_,et,us,eu,ru⟩,q⟩:=h;refine ⟨_,(ae (aQ PassesOwn.never rfl (aF (aA aK (pv 0) af (fun _ _=>rfl))) (cV rfl (aI (cM 2 sc) (aI (cM 3 sc) (aI (cM 4 sc) bX)))) (aj (aL (ao b8 (pv 2) (pv 1) (aD _)) (aj (au (pv 3))) aw))) (aj (au af))),?_⟩
 try dsimp only[cxK]
 refine ⟨_,rfl,aN t _ _ _ ⟨rfl,rfl,bx.of et,rfl,u,rfl,⟨_,aC.of eu⟩,aR (xs:=us) (fun i σ H'=>H=H'/\(∃o2 o3 o4:Option V,σ= [FV t,some (.str z),o2,o3,o4])/\∀(j:Nat) (x:Us),j<i->w.2.2[j]?=some x->x.1≠z) ⟨rfl,(bH none none none rfl),fun j x hj=>absurd hj (Nat.not_lt_zero _)⟩ (fun i σ H' _ h=>by rw[<-h.1];exact aC.of eu) ?_ ?_⟩⟩
 ·rintro i y σ H1 hy ⟨rfl,⟨o2,o3,o4,rfl⟩,hn⟩;obtain ⟨e,he,a,rfl,_,ea⟩:=ru.at_ hy;refine (aq a _ ⟨rfl,bx.of ea,rfl,aq _ _ ⟨rfl,aq _ _ ⟨rfl,aq _ _ ⟨rfl,rfl,_,rfl,_,rfl,rfl,_,rfl,d2 (fun c=>?_) (fun c=>⟨rfl,(bH _ _ _ rfl),fun j x hj hx=>?_⟩)⟩⟩⟩⟩)
  ·have c':e.1=z:=by injection c
   have:qa w z=some e:=mF (us:=w.2.2) he c' hn;rw[oe this] at q;exact ⟨_,rfl,q⟩
  ·by_cases ji:j=i
   ·rw[ji,he] at hx;cases hx;exact fun z=>c (by rw[z])
   ·exact hn j x (by omega) hx
 ·rintro σ H1 ⟨rfl,⟨o2,o3,o4,rfl⟩,hn⟩;rw[ru.1] at hn;have:qa w z=none:=by
   unfold qa;rw[List.find?_eq_none];intro x hx;obtain ⟨j,hj⟩:=DR.mp hx;have:=hn j x (D5.mp hj).1 hj;simp[this]
  rw[oa this] at q;exact q
theorem Bj {dV:Value} (F:bn K "_law_work" "_law_work" ze dV f fd) (DZ49:Dx P w K mg base a8 1 "_law_open" ["_law_tasks","_law_case","_law_i"] [] iI) (DZ51:Dx P w K mg base a8 1 "_law_many" ["_law_way_here","_law_name"] [] fJ):bf P w K mg base a8 2 f fd ["_law_tasks","_law_case","_law_i","_law_name"] q8:=by
 have sc:aE ["_law_tasks","_law_case","_law_i","_law_name"] ["_law_tasks","_law_case","_law_i","_law_name"] (ar ze):=dn (by decide+kernel)
 refine F.ok sc (fun vs H Q E h=>?_) (fun cdv A outer s H vs Q E hr h=>?_)
 ·obtain ⟨_,_,_,_,_,_,_,rfl,_⟩:=h
  rfl
 refine fK h fun tl t i z D T _hi=>?_
 refine eA _hi fun P _hj=>?_
 refine eC _hj fun _r1 TC il q=>?_
 clear h _hi _hj;subst _r1;refine ⟨_,(aj (au (ay (cT rfl) rfl B.Fj boot_min (@aa _ _ _ _ _ (bG (own:= "_law_way_here") (ys:= ["_law_name"]) (js:= [3]) rfl (cok (fU fT) (.cons rfl .nil) (by decide) rfl rfl rfl rfl rfl rfl rfl rfl) (aF (bL DZ49 hr (@aa _ _ _ _ _ (pv 0) (@aa _ _ _ _ _ (pv 1) (@aa _ _ _ _ _ (pv 2) ac rfl) rfl) rfl))) (fun C fp s H=>(am aY (bL DZ51 hr (@aa _ _ _ _ _ (pv 0) (@aa _ _ _ _ _ (pv 1) ac rfl) rfl)) (aA (bu (K:=K) rfl) (pv 0) af (fun _ _=>rfl))))) ac rfl)))),?_⟩
 try dsimp only[cxK]
 have sl:sizeLine=16777216:=sizeLine_eq;have ne:=gH (P:=P) TC.ok il;have ln:=fb (P:=P) TC.ok il;refine ⟨_,rfl,_,rfl,_,rfl,eN tl t i D T P ⟨rfl,TC,il,fun p H1 g1 ⟨vs,ev,rv⟩=>?_⟩⟩
 refine ⟨p,rfl,⟨_,aC.of ev⟩,bv (dL V.int) (fun _=>False) (fun k=>(fun w:Wy=>dk w z*w.1) ((aO T P i).getD k (0,0,[]))) (aC.of ev) (by rw[rv.1];omega) (fun a h=>h.elim) (fun k y hy Hk gk Q' hQ=>?_) fun p2 H2 np2 g2 hp2=>?_⟩
 ·obtain ⟨w,hw,rw'⟩:=rv.at_ hy;rw[aX hw] at hQ;have rwk:=dA rw' gk;obtain ⟨tw,uw,rfl,pa,pb,etw,lw⟩:=id rwk;have w1:1<=w.1/\w.1<=1000000000:=by
   obtain ⟨ws',hws,hww⟩:=jy TC.ok TC.pk il w (D6 hw);obtain ⟨a1,a2,a3,_⟩:=(TC.ok ws' hws).2.2 w hww;omega
  exact ⟨_,rfl,_,rfl,bH (.ref tw) z w ⟨rfl,rwk,_,rfl,aN tw _ _ _ ⟨rfl,rfl,bx.of etw,rfl,aq _ _ ⟨rfl,rfl,IntMulOk.of_right (intBits_le_64 (by omega) (by omega)),hQ _ _ (.refl _) rfl⟩⟩⟩⟩
 obtain ⟨us,eu,ru⟩:=hp2;have eus:us=((aO T P i).map fun w:Wy=>dk w z*w.1).map V.int:=by
  rw[ru.val,rv.1]
  conv=>rhs;rw[<-br (aO T P i) (0,0,[])]
  rw[DJ,DJ,DJ]
  rfl
 rw[eus] at eu;refine (aq p2 _ ⟨rfl,aC.of eu,by simpa using ne,fun M hM hle=>?_⟩)
 rw[dP hM hle,sZ];exact q H2 (g1.trans g2)
theorem Bk {dV:Value} (F:bn K "_law_front" "_law_front" zf dV f fd) (DZ43:Dx P w K mg base a8 1 "_law_mixed" ["_law_cell","_law_k"] [] gJ):bf P w K mg base a8 2 f fd ["_law_due_here","_law_cell","_law_i"] oG:=by
 have sc:aE ["_law_due_here","_law_cell","_law_i","_law_chain","_law_k","_law_ahead"] ["_law_due_here","_law_cell","_law_i"] (ar zf):=dn (by decide+kernel)
 refine F.ok sc (fun vs H Q E h=>?_) (fun cdv A outer s H vs Q E hr h=>?_)
 ·obtain ⟨_,_,_,_,_,rfl,_⟩:=h
  rfl
 refine fZ h fun dl c i due _hi=>?_
 refine eA _hi fun n _hj=>?_
 refine eC _hj fun _r1 _r2 _r3 _hk=>?_
 refine cZ _hk fun i2 q=>?_
 clear h _hi _hj _hk;subst _r1;obtain ⟨ba,ea,ra⟩:=_r2;obtain ⟨d2000,tr⟩:=_r3;refine ⟨_,(ae (fr (i:=3) sc.nd rfl (Or.inr rfl) (@aU _ _ _ _ (@aa _ _ _ _ _ (am aY af (pv 2)) ac rfl))) (ae (aQ PassesOwn.never rfl (b9 rfl B.Fc (@aa _ _ _ _ _ (am aS (pv 1) af) ac rfl)) (cM 4 sc) (ae (fF sc.nd (i:=5) rfl rfl (own:= "_law_row") (ys:= ["_law_chain"]) (js:= [3]) rfl (cok (fU fT) (.cons rfl .nil) (by decide) rfl rfl rfl rfl rfl rfl rfl rfl) (aF (pv 0)) (fun C fp s H=>(ao b8 (aA (bu (K:=K) rfl) (pv 0) af (fun _ _=>rfl)) (aA (iF (K:=K) rfl) (pv 1) af (fun _ _=>rfl)) (aD _))) (fun C fp s H=>(aA (bu (K:=K) rfl) (pv 0) af (fun _ _=>rfl)))) (aj (aL (ao (iE hr.units0) (pv 5) (@aU _ _ _ _ ac) (aD _)) (aj (fr (i:=3) sc.nd rfl (Or.inr rfl) (am cW (@aU _ _ _ _ (@aa _ _ _ _ _ (aA a9 (pv 5) (am aS (bL DZ43 hr (@aa _ _ _ _ _ (pv 1) (@aa _ _ _ _ _ (pv 4) ac rfl) rfl)) (ay av rfl B.Ev boot_len (@aa _ _ _ _ _ (pv 5) ac rfl))) (fun _ _=>rfl)) ac rfl)) (pv 3)))) aw)))) (aj (au (pv 3))))),?_⟩
 try dsimp only[cxK]
 have sl:sizeLine=16777216:=sizeLine_eq;have lba:(ba.map V.ref).length=due.length:=by rw[D3,ra.1]
 refine ⟨_,rfl,aq _ _ ⟨rfl,rfl,IntMulOk.of_left (by decide),by show 1<=sizeLine;decide,fun l0 nl0=>?_⟩⟩
 have g0:=ag nl0 (.lst [.int (2*(i:Int))]);have e0:aG H l0 (.lst [.int (2*(i:Int))]) l0=some (.lst (([2*(i:Int)]:List Int).map V.int)):=ah;generalize aG H l0 (.lst [.int (2*(i:Int))])=H0 at g0 e0⊢;have m4:=fm (a:=c) (n:=4) (by decide)
 refine ⟨_,rfl,aq _ _ ⟨rfl,rfl,(by show (4:Int)≠0;decide),_,rfl,by omega,by omega,ca (fun j σ H'=>∃(l:Addr) (o4 o5:Option V) (C:List Int),σ= [FV dl,some (.int c),some (.int (i:Int)),FV l,o4,o5]/\H l=none/\aB H H'/\H' l=some (.lst (C.map V.int))/\C.length<=j+1/\((∃D,C=D++ [2*(i:Int)])/\∃x D,C=x::D)/\(∀p∈C,0<=p/\p<n)/\c9 due C) (aN l0 none none [2*(i:Int)] ⟨rfl,nl0,g0,e0,D9 _,⟨⟨[],rfl⟩,aq _ [] rfl⟩,fun p hp=>by rw[DI.mp hp];omega,trivial⟩) ?_ ?_⟩⟩
 ·intro j σ H1 hj h_;refine fZ h_ fun l o4 o5 C _hi=>?_
  refine f9 _hi fun _r1 nl g1 el lC _hj=>?_
  refine ij _hj fun sh okC ai=>?_
  clear h_ _hi _hj;subst _r1;obtain ⟨⟨D0,hD0⟩,x,D1,hx⟩:=sh;have atx:gZ (C.map V.int) 0=some (.int x):=by rw[hx];exact a4 (j:=0) rfl
  refine ⟨_,rfl,dl,rfl,⟨_,aC.of (g1 _ _ ea)⟩,gE (dL V.int) (fun _=>False) (fun k=>decide (V.int ((due.getD k []).getD 1 0)=V.int x)) (fun k=>(due.getD k []).getD 0 0) (aC.of (g1 _ _ ea)) (by omega) (fun a h=>h.elim) (fun k y hy H2 g2 S' hS=>?_) (fun k y hy _ H2 g2 Q' hQ=>?_) fun lh H2 nlh g2 hh=>?_⟩
  ·obtain ⟨b,hb,rfl⟩:=cC hy;have kl:k<due.length:=by rw[<-ra.1];exact (D5.mp hb).1
   have hk:=D4 kl;have eb:=ra.2 k b _ hb hk;obtain ⟨p,q',g,ek,_⟩:=tr _ (DO kl);rw[ek] at eb hk;rw[aX hk] at hS;exact ⟨_,rfl,aN b _ _ _ ⟨rfl,rfl,bx.of ((g1.trans g2) _ _ eb),rfl,_,rfl,aN l _ _ _ ⟨rfl,rfl,aC.of (g2 _ _ el),atx,rfl,_,rfl,hS _ (.refl _)⟩⟩⟩
  ·obtain ⟨b,hb,rfl⟩:=cC hy;have kl:k<due.length:=by rw[<-ra.1];exact (D5.mp hb).1
   have hk:=D4 kl;have eb:=ra.2 k b _ hb hk;obtain ⟨p,q',g,ek,_⟩:=tr _ (DO kl);rw[ek] at eb hk;rw[aX hk] at hQ;exact ⟨_,rfl,aN b _ _ _ ⟨rfl,rfl,bx.of ((g1.trans g2) _ _ eb),rfl,hQ _ _ (.refl _) rfl⟩⟩
  obtain ⟨us,eu,ru⟩:=hh;rw[ru.val,lba] at eu;have mem:∀z∈cQ due.length (fun k=>decide (V.int ((due.getD k []).getD 1 0)=V.int x)) (fun k=>(due.getD k []).getD 0 0),∃g,[z,x,g]∈due:=fun z hz=>by
   unfold cQ at hz;obtain ⟨k,hk,rfl⟩:=DP.mp hz;obtain ⟨h1,h2⟩:=Ea.mp hk;have kl:=Dy.mp h1;have hk:=D4 kl;obtain ⟨p,q',g,ek,_⟩:=tr _ (DO kl);have m:=DO kl;rw[aX hk,ek] at h2⊢;rw[ek] at m;have e:=vj (of_decide_eq_true h2);replace e:q'=x:=e;rw[e] at m;exact ⟨g,m⟩
  generalize cQ due.length (fun k=>decide (V.int ((due.getD k []).getD 1 0)=V.int x)) (fun k=>(due.getD k []).getD 0 0)=W at eu mem
  have k2:=g1.trans g2;refine ⟨_,rfl,by show 0<=sizeLine;decide,fun le nle=>?_⟩
  have ge:=ag nle (.lst []);refine (bH lh le _ ⟨rfl,rfl,aC.of (ge _ _ eu),aC.of ah,_,rfl,?_⟩);generalize aG H2 le (.lst [])=H3 at ge⊢;have k3:=k2.trans ge;have el3:=(g2.trans ge) _ _ el;cases W with
  |nil=>exact cP (aN l _ _ C ⟨rfl,nl,k3,el3,by omega,⟨⟨D0,hD0⟩,aq x D1 hx⟩,okC,ai⟩)
  |cons w W2=>
   refine cL ⟨_,rfl,_,rfl,_,rfl,aq _ _ ⟨rfl,fun v v0=>⟨_,rfl,aq lh _ ⟨rfl,.inl (aC.of (ge _ _ eu)),?_⟩⟩⟩⟩
   have lw:((w::W2).map V.int).length=W2.length+1:=by rw[D3];rfl
   rw[lw];have mv:=fm (a:=v) (n:=((W2.length+1:Nat):Int)) (by omega)
   have hz:=D4 (show (v.fmod ((W2.length+1:Nat):Int)).toNat<(w::W2).length by rw[DL];omega)
   have az:gZ ((w::W2).map V.int) (v.fmod ((W2.length+1:Nat):Int))=some (.int ((w::W2)[(v.fmod ((W2.length+1:Nat):Int)).toNat]'(by rw[DL];omega))):=by
    have:=a4 (dO (f:=V.int) hz);rw[E7 mv.1] at this;exact this
   have mz:=mem _ (D6 hz);generalize (w::W2)[(v.fmod ((W2.length+1:Nat):Int)).toNat]'_=z at az mz;obtain ⟨g',mz⟩:=mz;refine ko (tr _ mz) fun p' q'' g'' _hi=>?_
   refine eC _hi fun ek b1 b2 _hj=>?_
   refine cZ _hj fun b3 b4=>?_
   refine (aq _ _ ⟨rfl,rfl,by omega,aN lh _ _ _ ⟨rfl,rfl,aC.of (ge _ _ eu),az,by show 1<=sizeLine;decide,fun l1 nl1=>⟨_,rfl,aN l1 l _ _ ⟨rfl,rfl,ah,ag nl1 _ _ _ el3,by rw[D3];simp;omega,fun l2 nl2=>?_⟩⟩⟩⟩)
   have gz:=(ag nl1 (.lst [.int z])).trans (ag nl2 (.lst ([.int z]++C.map V.int)));refine (aN l2 _ _ (z::C) ⟨rfl,(k3.trans (ag nl1 _)).free nl2,k3.trans gz,by rw[ah];rfl,by rw[DL];omega,⟨⟨z::D0,by rw[hD0];rfl⟩,aq z C rfl⟩,fun y hy=>?_,?_⟩)
   ·rcases DG.mp hy with e|e
    ·rw[e];have:z=p':=by injection ek
     rw[this];exact ⟨b1,b2⟩
    ·exact okC y e
   ·rw[hx] at ai⊢;exact ⟨⟨g',mz⟩,ai⟩
 ·intro σ H1 h_;refine fZ h_ fun l o4 o5 C _hi=>?_
  refine f9 _hi fun _r1 nl g1 el lC _hj=>?_
  refine ij _hj fun sh okC ai=>?_
  clear h_ _hi _hj;subst _r1;exact ⟨_,rfl,q l C H1 nl g1 el (by omega) sh.1 okC ai⟩
theorem Bl {dV:Value} (F:bn K "_law_back" "_law_back" zg dV f fd) (DZ43:Dx P w K mg base a8 1 "_law_mixed" ["_law_cell","_law_k"] [] gJ):bf P w K mg base a8 2 f fd ["_law_due_here","_law_cell","_law_i"] rj:=by
 have sc:aE ["_law_due_here","_law_cell","_law_i","_law_chain","_law_k","_law_ahead"] ["_law_due_here","_law_cell","_law_i"] (ar zg):=dn (by decide+kernel)
 refine F.ok sc (fun vs H Q E h=>?_) (fun cdv A outer s H vs Q E hr h=>?_)
 ·obtain ⟨_,_,_,_,_,rfl,_⟩:=h
  rfl
 refine fZ h fun dl c i due _hi=>?_
 refine eA _hi fun n _hj=>?_
 refine eC _hj fun _r1 _r2 _r3 _hk=>?_
 refine cZ _hk fun i2 q=>?_
 clear h _hi _hj _hk;subst _r1;obtain ⟨ba,ea,ra⟩:=_r2;obtain ⟨d2000,tr⟩:=_r3;refine ⟨_,(ae (fr (i:=3) sc.nd rfl (Or.inr rfl) (@aU _ _ _ _ (@aa _ _ _ _ _ (am a7 (am aY af (pv 2)) af) ac rfl))) (ae (aQ PassesOwn.never rfl (b9 rfl B.Fc (@aa _ _ _ _ _ (am aS (pv 1) af) ac rfl)) (cM 4 sc) (ae (fF sc.nd (i:=5) rfl rfl (own:= "_law_row") (ys:= ["_law_chain"]) (js:= [3]) rfl (cok (fU fT) (.cons rfl .nil) (by decide) rfl rfl rfl rfl rfl rfl rfl rfl) (aF (pv 0)) (fun C fp s H=>(ao b8 (aA (bu (K:=K) rfl) (pv 0) af (fun _ _=>rfl)) (aA (iF (K:=K) rfl) (pv 1) (jD gY af) (fun _ _=>rfl)) (aD _))) (fun C fp s H=>(aA (bu (K:=K) rfl) (pv 0) af (fun _ _=>rfl)))) (aj (aL (ao (iE hr.units0) (pv 5) (@aU _ _ _ _ ac) (aD _)) (aj (fr (i:=3) sc.nd rfl (Or.inr rfl) (am cW (pv 3) (@aU _ _ _ _ (@aa _ _ _ _ _ (aA a9 (pv 5) (am aS (bL DZ43 hr (@aa _ _ _ _ _ (pv 1) (@aa _ _ _ _ _ (am a7 af (pv 4)) ac rfl) rfl)) (ay av rfl B.Ev boot_len (@aa _ _ _ _ _ (pv 5) ac rfl))) (fun _ _=>rfl)) ac rfl))))) aw)))) (aj (au (pv 3))))),?_⟩
 try dsimp only[cxK]
 have sl:sizeLine=16777216:=sizeLine_eq;have lba:(ba.map V.ref).length=due.length:=by rw[D3,ra.1]
 refine ⟨_,rfl,aq _ _ ⟨rfl,rfl,IntMulOk.of_left (by decide),aq _ _ ⟨rfl,rfl,by show 1<=sizeLine;decide,fun l0 nl0=>?_⟩⟩⟩
 have g0:=ag nl0 (.lst [.int (2*(i:Int)+1)]);have e0:aG H l0 (.lst [.int (2*(i:Int)+1)]) l0=some (.lst (([2*(i:Int)+1]:List Int).map V.int)):=ah;generalize aG H l0 (.lst [.int (2*(i:Int)+1)])=H0 at g0 e0⊢;have m4:=fm (a:=c) (n:=4) (by decide)
 refine ⟨_,rfl,aq _ _ ⟨rfl,rfl,(by show (4:Int)≠0;decide),_,rfl,by omega,by omega,ca (fun j σ H'=>∃(l:Addr) (o4 o5:Option V) (C:List Int),σ= [FV dl,some (.int c),some (.int (i:Int)),FV l,o4,o5]/\H l=none/\aB H H'/\H' l=some (.lst (C.map V.int))/\C.length<=j+1/\((∃D,C=(2*(i:Int)+1)::D)/\∃x D,C=D++ [x])/\(∀p∈C,0<=p/\p<n)/\c9 due C) (aN l0 none none [2*(i:Int)+1] ⟨rfl,nl0,g0,e0,D9 _,⟨⟨[],rfl⟩,aq _ [] rfl⟩,fun p hp=>by rw[DI.mp hp];omega,trivial⟩) ?_ ?_⟩⟩
 ·intro j σ H1 hj h_;refine fZ h_ fun l o4 o5 C _hi=>?_
  refine f9 _hi fun _r1 nl g1 el lC _hj=>?_
  refine ij _hj fun sh okC ai=>?_
  clear h_ _hi _hj;subst _r1;obtain ⟨⟨D0,hD0⟩,x,D1,hx⟩:=sh;have atx:gZ (C.map V.int) (-1)=some (.int x):=by rw[hx,DS];exact nq _ _
  refine ⟨_,rfl,dl,rfl,⟨_,aC.of (g1 _ _ ea)⟩,gE (dL V.int) (fun _=>False) (fun k=>decide (V.int ((due.getD k []).getD 0 0)=V.int x)) (fun k=>(due.getD k []).getD 1 0) (aC.of (g1 _ _ ea)) (by omega) (fun a h=>h.elim) (fun k y hy H2 g2 S' hS=>?_) (fun k y hy _ H2 g2 Q' hQ=>?_) fun lh H2 nlh g2 hh=>?_⟩
  ·obtain ⟨b,hb,rfl⟩:=cC hy;have kl:k<due.length:=by rw[<-ra.1];exact (D5.mp hb).1
   have hk:=D4 kl;have eb:=ra.2 k b _ hb hk;obtain ⟨p,q',g,ek,_⟩:=tr _ (DO kl);rw[ek] at eb hk;rw[aX hk] at hS;exact ⟨_,rfl,aN b _ _ _ ⟨rfl,rfl,bx.of ((g1.trans g2) _ _ eb),rfl,_,rfl,_,rfl,aN l _ _ _ ⟨rfl,rfl,aC.of (g2 _ _ el),atx,rfl,_,rfl,hS _ (.refl _)⟩⟩⟩
  ·obtain ⟨b,hb,rfl⟩:=cC hy;have kl:k<due.length:=by rw[<-ra.1];exact (D5.mp hb).1
   have hk:=D4 kl;have eb:=ra.2 k b _ hb hk;obtain ⟨p,q',g,ek,_⟩:=tr _ (DO kl);rw[ek] at eb hk;rw[aX hk] at hQ;exact ⟨_,rfl,aN b _ _ _ ⟨rfl,rfl,bx.of ((g1.trans g2) _ _ eb),rfl,hQ _ _ (.refl _) rfl⟩⟩
  obtain ⟨us,eu,ru⟩:=hh;rw[ru.val,lba] at eu;have mem:∀z∈cQ due.length (fun k=>decide (V.int ((due.getD k []).getD 0 0)=V.int x)) (fun k=>(due.getD k []).getD 1 0),∃g,[x,z,g]∈due:=fun z hz=>by
   unfold cQ at hz;obtain ⟨k,hk,rfl⟩:=DP.mp hz;obtain ⟨h1,h2⟩:=Ea.mp hk;have kl:=Dy.mp h1;have hk:=D4 kl;obtain ⟨p,q',g,ek,_⟩:=tr _ (DO kl);have m:=DO kl;rw[aX hk,ek] at h2⊢;rw[ek] at m;have e:=vj (of_decide_eq_true h2);replace e:p=x:=e;rw[e] at m;exact ⟨g,m⟩
  generalize cQ due.length (fun k=>decide (V.int ((due.getD k []).getD 0 0)=V.int x)) (fun k=>(due.getD k []).getD 1 0)=W at eu mem
  have k2:=g1.trans g2;refine ⟨_,rfl,by show 0<=sizeLine;decide,fun le nle=>?_⟩
  have ge:=ag nle (.lst []);refine (bH lh le _ ⟨rfl,rfl,aC.of (ge _ _ eu),aC.of ah,_,rfl,?_⟩);generalize aG H2 le (.lst [])=H3 at ge⊢;have k3:=k2.trans ge;have el3:=(g2.trans ge) _ _ el;cases W with
  |nil=>exact cP (aN l _ _ C ⟨rfl,nl,k3,el3,by omega,⟨⟨D0,hD0⟩,aq x D1 hx⟩,okC,ai⟩)
  |cons w W2=>
   refine cL ⟨_,rfl,_,rfl,_,rfl,_,rfl,aq _ _ ⟨rfl,rfl,aq _ _ ⟨rfl,fun v v0=>⟨_,rfl,aq lh _ ⟨rfl,.inl (aC.of (ge _ _ eu)),?_⟩⟩⟩⟩⟩
   have lw:((w::W2).map V.int).length=W2.length+1:=by rw[D3];rfl
   rw[lw];have mv:=fm (a:=v) (n:=((W2.length+1:Nat):Int)) (by omega)
   have hz:=D4 (show (v.fmod ((W2.length+1:Nat):Int)).toNat<(w::W2).length by rw[DL];omega)
   have az:gZ ((w::W2).map V.int) (v.fmod ((W2.length+1:Nat):Int))=some (.int ((w::W2)[(v.fmod ((W2.length+1:Nat):Int)).toNat]'(by rw[DL];omega))):=by
    have:=a4 (dO (f:=V.int) hz);rw[E7 mv.1] at this;exact this
   have mz:=mem _ (D6 hz);generalize (w::W2)[(v.fmod ((W2.length+1:Nat):Int)).toNat]'_=z at az mz;obtain ⟨g',mz⟩:=mz;refine ko (tr _ mz) fun p' q'' g'' _hi=>?_
   refine eC _hi fun ek b1 b2 _hj=>?_
   refine cZ _hj fun b3 b4=>?_
   refine (aq _ _ ⟨rfl,rfl,by omega,aN lh _ _ _ ⟨rfl,rfl,aC.of (ge _ _ eu),az,by show 1<=sizeLine;decide,fun l1 nl1=>(aN l l1 _ _ ⟨rfl,rfl,ag nl1 _ _ _ el3,ah,by rw[D3];simp;omega,fun l2 nl2=>?_⟩)⟩⟩)
   have gz:=(ag nl1 (.lst [.int z])).trans (ag nl2 (.lst (C.map V.int++ [.int z])));refine (aN l2 _ _ (C++ [z]) ⟨rfl,(k3.trans (ag nl1 _)).free nl2,k3.trans gz,by rw[ah,DS];rfl,by rw[D8];simp;omega,⟨⟨D0++ [z],by rw[hD0];rfl⟩,aq z C rfl⟩,fun y hy=>?_,?_⟩)
   ·rcases DM.mp hy with e|e
    ·exact okC y e
    ·rw[DI.mp e];have:z=q'':=by injection ek with _ ek;injection ek
     rw[this];exact ⟨b3,b4⟩
   ·rw[hx] at ai⊢;exact c9.snoc mz ai
 ·intro σ H1 h_;refine fZ h_ fun l o4 o5 C _hi=>?_
  refine f9 _hi fun _r1 nl g1 el lC _hj=>?_
  refine ij _hj fun sh okC ai=>?_
  clear h_ _hi _hj;subst _r1;exact ⟨_,rfl,q l C H1 nl g1 el (by omega) sh.1 okC ai⟩
theorem Bm {dV:Value} (F:bn K "_law_order" "_law_order" zh dV f fd):bf P w K mg base a8 1 f fd ["_law_many_here","_law_cell"] oJ:=by
 have sc:aE ["_law_many_here","_law_cell","_law_some","_law_k","_law_i"] ["_law_many_here","_law_cell"] (ar zh):=dn (by decide+kernel)
 refine F.ok sc (fun vs H Q E h=>?_) (fun cdv A outer s H vs Q E hr h=>?_)
 ·obtain ⟨_,_,rfl,_⟩:=h
  rfl
 obtain ⟨m,c,rfl,m1,m4,q⟩:=h;refine ⟨_,(ae (cJ 2 sc (@aU _ _ _ _ ac)) (ae (aQ PassesOwn.never rfl (b9 rfl B.Fc (@aa _ _ _ _ _ (pv 0) ac rfl)) (cM 3 sc) (ae (cJ 4 sc (am aS (am a7 (pv 1) (am aY (pv 3) (am a7 af (am aS (am aT (pv 1) af) af)))) (pv 0))) (aj (aL (PW.pt (cF (ao iq (pv 4) (pv 2) (by with_unfolding_all rfl)) (bW (ao eT (am aS (am aT (am aT (pv 1) af) (am a7 (pv 3) af)) af) af (aD _))))) (aj (bC (dt DK DU DT a6 (pv 2) (@aa _ _ _ _ _ (pv 4) ac rfl)))) aw)))) (aj (au (pv 2))))),?_⟩
 try dsimp only[cxK]
 have sl:sizeLine=16777216:=sizeLine_eq;refine ⟨by show 0<=sizeLine;decide,fun l nl=>?_⟩
 have g0:=ag nl (.lst []);have e0:aG H l (.lst []) l=some (.lst []):=ah;generalize aG H l (.lst [])=H0 at g0 e0⊢;refine ⟨_,rfl,m,rfl,by omega,by omega,ca (fun i σ H'=>∃(o3 o4:Option V) (S2:List Int),σ= [some (.int m),some (.int c),FV l,o3,o4]/\aB H H'/\H' l=some (.lst (S2.map V.int))/\S2.length<=i/\(∀j∈S2,0<=j/\j<m)/\S2.Nodup) (bH none none [] ⟨rfl,g0,e0,D9 _,(fun j hj=>by cases hj),List.nodup_nil⟩) ?_ ?_⟩
 ·intro i σ H1 hi h_;refine ko h_ fun o3 o4 S2 _hi=>?_
  refine f9 _hi fun _r1 g1 e1 l1 rg nd=>?_
  clear h_ _hi;subst _r1;have mm:=fm (a:=(c+(0+(i:Int))*(1+(c.fdiv 4).fmod 3))) (n:=m) (by omega)
  have m3:=fm (a:=c.fdiv 4) (n:=3) (by decide)
  refine ⟨_,rfl,_,rfl,_,rfl,aq _ _ ⟨rfl,rfl,⟨by decide,DC (by decide)⟩,aq _ _ ⟨rfl,rfl,(by show (3:Int)≠0;decide),aq _ _ ⟨rfl,rfl,aq _ _ ⟨rfl,rfl,IntMulOk.of_left (intBits_le_64 (by omega) (by omega)),aq _ _ ⟨rfl,rfl,_,rfl,aq _ _ ⟨rfl,rfl,by omega,?_⟩⟩⟩⟩⟩⟩⟩
  refine ⟨_,rfl,_,rfl,aq l _ ⟨rfl,.inl (aC.of e1),rfl,jk S2,_,rfl,?_⟩⟩;rw[if_pos rfl,jx];refine n2 (fun c1=>?_) (fun c1=>(bH _ _ S2 ⟨rfl,g1,e1,by omega,rg,nd⟩))
  refine ⟨_,rfl,aq _ _ ⟨rfl,rfl,⟨by decide,DC (by decide)⟩,_,rfl,aq _ _ ⟨rfl,rfl,aq _ _ ⟨rfl,rfl,⟨by omega,DC (by omega)⟩,aq _ _ ⟨rfl,rfl,(by show (4:Int)≠0;decide),rfl,_,rfl,n2 (fun c2=>?_) (fun c2=>(bH _ _ S2 ⟨rfl,g1,e1,by omega,rg,nd⟩))⟩⟩⟩⟩⟩
  refine ⟨_,rfl,.inl ⟨rfl,_,aC.of e1⟩,_,rfl,l,_,_,rfl,rfl,e1,by rw[D3];omega,_,_,S2++ [(c+(0+(i:Int))*(1+(c.fdiv 4).fmod 3)).fmod m],rfl,du g1 nl _,?_,by rw[D8];simp;omega,fun j hj=>by
   rcases DM.mp hj with z|z
   ·exact rg j z
   ·rw[DI.mp z];exact mm,El.mpr ⟨nd,by simp,fun a ha b hb=>by
    rw[DI.mp hb];exact fun z=>c1 (by rw[<-z];exact ha)⟩⟩
  rw[ah,DS]
  rfl
 ·intro σ H1 h_;refine ko h_ fun o3 o4 S2 _hi=>?_
  refine f9 _hi fun _r1 g1 e1 l1 rg nd=>?_
  clear h_ _hi;subst _r1;exact ⟨_,rfl,q l S2 H1 g1 e1 (by omega) rg nd⟩
theorem Bo {dV:Value} (F:bn K "_law_differ" "_law_differ" zj dV f fd):bf P w K mg base a8 1 f fd ["_law_one","_law_other"] kZ:=by
 have sc:aE ["_law_one","_law_other","_law_tool","_law_many_here","_law_heat","_law_name","_law_number","_law_beside"] ["_law_one","_law_other"] (ar zj):=dn (by decide+kernel)
 refine F.ok sc (fun vs H Q E h=>?_) (fun cdv A outer s H vs Q E hr h=>?_)
 ·obtain ⟨_,_,_,_,rfl,_⟩:=h
  rfl
 refine fZ h fun v v' w w' _hi=>?_
 refine eC _hi fun _r1 _r2 _r3 _hj=>?_
 refine cZ _hj fun nd q=>?_
 clear h _hi _hj;subst _r1;obtain ⟨t,u,rfl,_,_,et,us,eu,ru⟩:=_r2;obtain ⟨t',u',rfl,_,_,et',us',eu',ru'⟩:=_r3;refine ⟨_,(ae (aQ PassesOwn.never rfl (aF (aA aK (pv 0) af (fun _ _=>rfl))) (cV rfl (aI (cM 2 sc) (aI (cM 3 sc) (aI (cM 4 sc) bX)))) (aj (aQ PassesOwn.never rfl (aF (aA aK (pv 1) af (fun _ _=>rfl))) (cV rfl (aI (cM 5 sc) (aI (cM 6 sc) (aI (cM 7 sc) bX)))) (aj (aL (PW.pt (cF (ao b8 (pv 2) (pv 5) (aD _)) (bW (ao eT (pv 4) (pv 7) (aD _))))) (aj (au bE)) aw))))) (aj (au bE))),?_⟩
 try dsimp only[cxK]
 refine ⟨_,rfl,aN t _ _ _ ⟨rfl,rfl,bx.of et,rfl,u,rfl,⟨_,aC.of eu⟩,aR (xs:=us) (fun i σ H'=>H=H'/\(∃o2 o3 o4 o5 o6 o7:Option V,σ= [FV t,FV t',o2,o3,o4,o5,o6,o7])/\∀x∈w.2.2.take i,∀y∈w'.2.2,x.1=y.1->x.2.2=y.2.2) ⟨rfl,(eN none none none none none none rfl),fun x hx=>by simp at hx⟩ (fun i σ H' _ h=>by rw[<-h.1];exact aC.of eu) ?_ ?_⟩⟩
 ·rintro i y σ H1 hy ⟨rfl,⟨o2,o3,o4,o5,o6,o7,rfl⟩,hn⟩;obtain ⟨e,he,a,rfl,_,ea⟩:=ru.at_ hy;refine (aq a _ ⟨rfl,bx.of ea,rfl,aq _ _ ⟨rfl,aq _ _ ⟨rfl,aq _ _ ⟨rfl,rfl,?_⟩⟩⟩⟩);refine ⟨_,rfl,aN t' _ _ _ ⟨rfl,rfl,bx.of et',rfl,u',rfl,⟨_,aC.of eu'⟩,aR (xs:=us') (fun i σ H'=>H=H'/\(∃o5 o6 o7:Option V,σ= [FV t,FV t',some (.str e.1),some (.int e.2.1),some (.int e.2.2),o5,o6,o7])/\∀y∈w'.2.2.take i,e.1=y.1->e.2.2=y.2.2) ⟨rfl,(bH _ _ _ rfl),fun x hx=>by simp at hx⟩ (fun i σ H' _ h=>by rw[<-h.1];exact aC.of eu') ?_ ?_⟩⟩
  ·rintro k y σ H1 hy' ⟨rfl,⟨o5,o6,o7,rfl⟩,hn'⟩;obtain ⟨x,hx,b,rfl,_,eb⟩:=ru'.at_ hy';have next:(e.1=x.1->e.2.2=x.2.2)->∀y∈w'.2.2.take (k+1),e.1=y.1->e.2.2=y.2.2:=fun h y hy=>by
    rw[aV hx] at hy;rcases DM.mp hy with z|z
    ·exact hn' y z
    ·rw[DI.mp z];exact h
   refine (aq b _ ⟨rfl,bx.of eb,rfl,aq _ _ ⟨rfl,aq _ _ ⟨rfl,aq _ _ ⟨rfl,rfl,_,rfl,_,rfl,rfl,_,rfl,d2 (fun c1=>⟨_,rfl,_,rfl,rfl,_,rfl,xp (fun c2=>?_) (fun c2=>⟨rfl,(bH _ _ _ rfl),next fun _=>c2⟩)⟩) (fun c1=>⟨rfl,(bH _ _ _ rfl),next fun z=>absurd (by rw[z]) c1⟩)⟩⟩⟩⟩)
   have:bZ w w'=true:=(fN nd).mpr ⟨e,D6 he,x,D6 hx,by injection c1,c2⟩
   rw[this] at q;exact q
  ·rintro σ H1 ⟨rfl,⟨o5,o6,o7,rfl⟩,hn'⟩;rw[ru'.1,DV] at hn';refine ⟨rfl,(eN _ _ _ _ _ _ rfl),fun x hx=>?_⟩
   rw[aV he] at hx;rcases DM.mp hx with z|z
   ·exact hn x z
   ·rw[DI.mp z];exact hn'
 ·rintro σ H1 ⟨rfl,⟨o2,o3,o4,o5,o6,o7,rfl⟩,hn⟩;rw[ru.1,DV] at hn;have:bZ w w'=false:=by
   cases h:bZ w w' with
   |false=>rfl
   |true=>
    obtain ⟨a,ha,b,hb,e,ne⟩:=(fN nd).mp h;exact absurd (hn a ha b hb e) ne
  rw[this] at q;exact q
theorem Bp {dV:Value} (F:bn K "_law_unlike" "_law_unlike" zm dV f fd) (DZ49:Dx P w K mg base a8 1 "_law_open" ["_law_tasks","_law_case","_law_i"] [] iI) (DZ56:Dx P w K mg base a8 1 "_law_differ" ["_law_one","_law_other"] [] kZ):bf P w K mg base a8 2 f fd ["_law_tasks","_law_case","_law_i","_law_j"] k8:=by
 have sc:aE ["_law_tasks","_law_case","_law_i","_law_j","_law_one","_law_other"] ["_law_tasks","_law_case","_law_i","_law_j"] (ar zm):=dn (by decide+kernel)
 refine F.ok sc (fun vs H Q E h=>?_) (fun cdv A outer s H vs Q E hr h=>?_)
 ·obtain ⟨_,_,_,_,_,_,_,rfl,_⟩:=h
  rfl
 refine fK h fun tl t i j D T _hi=>?_
 refine eA _hi fun P _hj=>?_
 refine eC _hj fun _r1 TC il _hk=>?_
 refine cZ _hk fun jl q=>?_
 clear h _hi _hj _hk;subst _r1;refine ⟨_,(ae (aQ PassesOwn.never rfl (aF (bL DZ49 hr (@aa _ _ _ _ _ (pv 0) (@aa _ _ _ _ _ (pv 1) (@aa _ _ _ _ _ (pv 2) ac rfl) rfl) rfl))) (cM 4 sc) (aj (aQ PassesOwn.never rfl (aF (bL DZ49 hr (@aa _ _ _ _ _ (pv 0) (@aa _ _ _ _ _ (pv 1) (@aa _ _ _ _ _ (pv 3) ac rfl) rfl) rfl))) (cM 5 sc) (aj (aL (cq (dj (bL DZ56 hr (@aa _ _ _ _ _ (pv 4) (@aa _ _ _ _ _ (pv 5) ac rfl) rfl)))) (aj (au bE)) aw))))) (aj (au bE))),?_⟩;try dsimp only[cxK]
 refine ⟨_,rfl,_,rfl,_,rfl,eN tl t i D T P ⟨rfl,TC,il,fun p H1 g1 ⟨vs,ev,rv⟩=>?_⟩⟩
 refine ⟨p,rfl,⟨_,aC.of ev⟩,aR (xs:=vs) (fun k σ H'=>aB H1 H'/\(∃o4 o5:Option V,σ= [FV tl,FV t,some (.int (i:Int)),some (.int (j:Int)),o4,o5])/\((aO T P i).take k).all (fun v=>(aO T P j).all fun w=>bZ v w)=true) ⟨.refl _,(aq none none rfl),rfl⟩ (fun k σ H' _ h=>aC.of (h.1 _ _ ev)) ?_ ?_⟩
 ·rintro k y σ H2 hy ⟨g2,⟨o4,o5,rfl⟩,hall⟩;obtain ⟨v,hv,rv'⟩:=rv.at_ hy;have kk:=g1.trans g2;refine ⟨_,rfl,_,rfl,_,rfl,eN tl t j D T P ⟨rfl,TC.same kk,jl,fun p3 H3 g3 ⟨us,eu,ru⟩=>?_⟩⟩
  refine ⟨p3,rfl,⟨_,aC.of eu⟩,aR (xs:=us) (fun m σ H'=>H3=H'/\(∃o5:Option V,σ= [FV tl,FV t,some (.int (i:Int)),some (.int (j:Int)),some y,o5])/\((aO T P j).take m).all (fun w=>bZ v w)=true) ⟨rfl,⟨_,rfl⟩,rfl⟩ (fun m σ H' _ h=>by rw[<-h.1];exact aC.of eu) ?_ ?_⟩
  ·rintro m y2 σ H4 hy2 ⟨rfl,⟨o5,rfl⟩,hm⟩;obtain ⟨w,hw,rw'⟩:=ru.at_ hy2;refine ⟨_,rfl,_,rfl,aN y y2 v w ⟨rfl,dA rv' (g2.trans g3),rw',TC.nd jl w (D6 hw),_,rfl,?_⟩⟩;cases hd:bZ v w with
   |true=>
    refine cP ⟨rfl,⟨_,rfl⟩,?_⟩;rw[aV hw,F5,hm,EC,Eh,List.all_nil,F3];exact hd
   |false=>
    have:bQ T P i j=false:=by
     unfold bQ;rw[<-EX,DD];intro h;have h2:=h v (D6 hv);rw[DD] at h2;have:=h2 w (D6 hw);rw[hd] at this;cases this
    rw[this] at q;exact cL (q _ (kk.trans g3))
  ·rintro σ H4 ⟨rfl,⟨o5,rfl⟩,hm⟩;rw[ru.1,DV] at hm;refine ⟨g2.trans g3,(aq _ _ rfl),?_⟩;rw[aV hv,F5,hall,EC,Eh,List.all_nil,F3];exact hm
 ·rintro σ H2 ⟨g2,⟨o4,o5,rfl⟩,hall⟩;rw[rv.1,DV] at hall;have:bQ T P i j=true:=hall;rw[this] at q;exact q _ (g1.trans g2)
theorem Bq {dV:Value} (F:bn K "_law_clash" "_law_clash" zp dV f fd) (DZ49:Dx P w K mg base a8 1 "_law_open" ["_law_tasks","_law_case","_law_i"] [] iI) (DZ51:Dx P w K mg base a8 1 "_law_many" ["_law_way_here","_law_name"] [] fJ) (DZ57:Dx P w K mg base a8 2 "_law_unlike" ["_law_tasks","_law_case","_law_i","_law_j"] [] k8):bf P w K mg base a8 3 f fd ["_law_parts","_law_case","_law_some"] oy:=by
 have sc:aE ["_law_parts","_law_case","_law_some","_law_tools","_law_tasks","_law_arcs","_law_pairs","_law_k","_law_i","_law_j","_law_name","_law_wants"] ["_law_parts","_law_case","_law_some"] (ar zp):=dn (by decide+kernel)
 refine F.ok sc (fun vs H Q E h=>?_) (fun cdv A outer s H vs Q E hr h=>?_)
 ·obtain ⟨_,_,_,_,_,_,_,_,_,_,_,_,rfl,_⟩:=h
  rfl
 refine qc h fun tp t l td tl pl v S2 D _hi=>?_
 refine ko _hi fun T P ps _hj=>?_
 refine ph _hj fun _r1 etp ed dnd TC t24 hp pne _hk=>?_
 refine ij _hk fun es s1000 q=>?_
 clear h _hi _hj _hk;subst _r1;refine ⟨_,(ae (jC (pv 0) (cV rfl (aI (cM 3 sc) (aI (dw (i:=4) sc.nd rfl (Or.inr rfl)) (aI (cM 5 sc) (aI (cM 6 sc) bX)))))) (ae (aQ PassesOwn.never rfl (b9 rfl B.Fc (@aa _ _ _ _ _ (ay av rfl B.Ev boot_len (@aa _ _ _ _ _ (pv 2) ac rfl)) ac rfl)) (cM 7 sc) (aj (aL (PW.pt (dZ (cq (cG dq fD af (aA a9 (pv 2) (pv 7) (fun _ _=>rfl)) (ay av rfl B.Ev boot_len (@aa _ _ _ _ _ (pv 4) ac rfl)))) (dD (ao cS (aA a9 (pv 2) (pv 7) (fun _ _=>rfl)) (bO dy (pv 2) cK (bY (pv 7))) (by with_unfolding_all rfl))))) (aj (au bE)) aw))) (ae (aL (ao fD (ay av rfl B.Ev boot_len (@aa _ _ _ _ _ (pv 2) ac rfl)) af (aD _)) (aj (au bE)) aw) (ae (aQ PassesOwn.never rfl (aF (pv 2)) (cM 8 sc) (aj (aQ PassesOwn.never rfl (aF (pv 2)) (cM 9 sc) (aj (aL (PW.pt (cF (ao eT (pv 8) (pv 9) (aD _)) (bW (PW.pt (dZ (ao (wK (gn hr)) (@bj _ _ _ _ _ (@aa _ _ _ _ _ (pv 8) (@aa _ _ _ _ _ (pv 9) ac rfl) rfl)) (pv 6) (by with_unfolding_all rfl)) (dD (dj (bL DZ57 hr (@aa _ _ _ _ _ (pv 4) (@aa _ _ _ _ _ (pv 1) (@aa _ _ _ _ _ (pv 8) (@aa _ _ _ _ _ (pv 9) ac rfl) rfl) rfl) rfl))))))))) (aj (au bE)) aw))))) (ae (pP (aQ PassesOwn.never rfl (wm (pv 3)) (dw (i:=10) sc.nd rfl (Or.inr rfl)) (ae (fG (own:= "_law_i") (ys:= ["_law_name","_law_tasks","_law_case"]) (js:= [10,4,1]) sc.nd (i:=11) rfl rfl rfl (cok (fU (fU (fU fT))) (.cons rfl (.cons rfl (.cons rfl .nil))) (by decide) rfl rfl rfl rfl rfl rfl rfl rfl) (aF (pv 2)) (fun C fp s H=>(ay (qe (K:=K) rfl rfl) rfl B.Fj boot_min (@aa _ _ _ _ _ (bG (own:= "_law_way_here") (ys:= ["_law_name"]) (js:= [1]) rfl (cok (fU fT) (.cons rfl .nil) (by decide) rfl rfl rfl rfl rfl rfl rfl rfl) (uV (K:=K) rfl (bL DZ49 hr (@aa _ _ _ _ _ (pv 2) (@aa _ _ _ _ _ (pv 3) (@aa _ _ _ _ _ (pv 0) ac rfl) rfl) rfl))) (fun C fp s H=>(bL DZ51 hr (@aa _ _ _ _ _ (pv 0) (@aa _ _ _ _ _ (pv 1) ac rfl) rfl)))) ac rfl)))) (aj (aL (ao fR (ay (gG rfl) rfl B.FA PyProof.Rows.Boot.«sum» (@aa _ _ _ _ _ (pv 11) ac rfl)) (iz (gn hr) (pv 3) (pv 10) (fun _ _=>rfl)) (aD _)) (aj (au bE)) aw))))) (aj (au bE))))))),?_⟩
 try dsimp only[cxK]
 have sl:sizeLine=16777216:=sizeLine_eq;refine ⟨_,rfl,aq tp _ ⟨rfl,bx.of etp,rfl,aq _ _ ⟨rfl,aq _ _ ⟨rfl,aq _ _ ⟨rfl,aq _ _ ⟨rfl,rfl,?_⟩⟩⟩⟩⟩⟩;obtain ⟨vt,et,rT⟩:=id TC.tasks;have no1:a5 T S2=false->bT D T (bt ps) P S2=false:=fun h=>by unfold bT;rw[h];rfl
 try dsimp only[cu,df]
 refine cut (fun σ H'=>∃o7:Option V,σ= [FV tp,FV t,FV l,FV td,FV tl,some v,FV pl,o7,none,none,none,none]/\aB H H'/\a5 T S2=true) (fun N hN=>?_) ?_
 ·refine ⟨_,rfl,aq l _ ⟨rfl,.inl (aC.of es),_,rfl,by rw[D3];omega,by rw[D3];omega,ca (fun k σ H'=>aB H H'/\(∃o7:Option V,σ= [FV tp,FV t,FV l,FV td,FV tl,some v,FV pl,o7,none,none,none,none])/\(∀i∈S2.take k,0<=i/\i<(T.length:Int))/\(S2.take k).Nodup) ⟨.refl _,⟨none,rfl⟩,fun i hi=>by simp at hi,by simp⟩ ?_ ?_⟩⟩
  ·rintro k σ H1 hk ⟨g1,⟨o7,rfl⟩,hr1,hnd⟩;rw[DQ,D3] at hk;have hx:=D4 hk;generalize S2[k]=x at hx;have memx:=D6 hx;have es1:=g1 _ _ es;have atx:gZ (S2.map V.int) (0+(k:Int))=some (.int x):=wy (dO hx);have bad:¬(0<=x/\x<(T.length:Int))->a5 T S2=false:=fun h=>by
    cases hu:a5 T S2 with
    |false=>rfl
    |true=>exact absurd ((eQ hu).1 x memx) h
   refine ⟨_,rfl,_,rfl,aN l _ _ _ ⟨rfl,rfl,aC.of es1,atx,aq _ _ ⟨rfl,rfl,_,rfl,d2 (fun c1=>⟨_,rfl,aq tl _ ⟨rfl,.inl (aC.of (g1 _ _ et)),?_⟩⟩) (fun c1=>⟨_,rfl,cL ?_⟩)⟩⟩⟩
   ·rw[rT.1];refine (aq _ _ ⟨rfl,rfl,_,rfl,n2 (fun c2=>?_) (fun c2=>?_)⟩)
    ·rw[no1 (bad fun h=>c2 h.2)] at q
     exact q _ g1
    ·refine ⟨_,rfl,_,rfl,aN l _ _ _ ⟨rfl,rfl,aC.of es1,atx,_,rfl,_,rfl,_,rfl,aq l _ ⟨rfl,aC.of es1,fun p np=>?_⟩⟩⟩
     have ct:fY (S2.map V.int) none (some (0+(k:Int)))=(S2.take k).map V.int:=by
      rw[Ef,gq (by rw[D3];omega),List.map_take]
     rw[ct];have g2:=g1.trans (ag np (.lst ((S2.take k).map V.int)));refine (aq p _ ⟨rfl,.inl (aC.of ah),rfl,jk _,_,rfl,uQ (fun c3=>?_) (fun c3=>?_)⟩)
     ·have:a5 T S2=false:=by
       cases hu:a5 T S2 with
       |false=>rfl
       |true=>
        have nd:=(eQ hu).2;obtain ⟨a,ha⟩:=DR.mp c3;rw[List.getElem?_take] at ha
        split at ha
        ·rename_i ak;have h1:=D5.mp ha;have h2:=D5.mp hx;have:=(List.getElem_inj nd).mp (h1.2.trans h2.2.symm);omega
        ·cases ha
      rw[no1 this] at q;exact q _ g2
     ·refine ⟨g2,⟨_,rfl⟩,fun i hi=>?_,?_⟩
      ·rw[aV hx] at hi;rcases DM.mp hi with z|z
       ·exact hr1 i z
       ·rw[DI.mp z];exact ⟨c1,c2⟩
      ·rw[aV hx];refine El.mpr ⟨hnd,by simp,fun a ha b hb=>?_⟩
       rw[DI.mp hb];exact fun z=>c3 (by rw[<-z];exact ha)
   ·rw[no1 (bad fun h=>c1 h.1)] at q
    exact q _ g1
  ·rintro σ H1 ⟨g1,⟨o7,rfl⟩,hr1,hnd⟩;rw[DQ,D3,DV] at hr1 hnd;refine hN _ _ ⟨_,rfl,g1,?_⟩;unfold a5;rw[decide_eq_true hnd,F3,DD];intro i hi;have:=hr1 i hi;rw[decide_eq_true this.1,decide_eq_true this.2]
   rfl
 rintro σ H1 ⟨o7,rfl,g1,hu⟩;obtain ⟨rg,nd⟩:=eQ hu;have es1:=g1 _ _ es;have ed1:=g1 _ _ ed;have TC1:=TC.same g1;have hp1:=hp.same g1;refine ⟨_,rfl,aq l _ ⟨rfl,.inl (aC.of es1),?_⟩⟩;rw[D3];refine (aq _ _ ⟨rfl,rfl,_,rfl,d2 (fun c=>?_) (fun c=>?_)⟩)
 ·have:bT D T (bt ps) P S2=false:=by
   unfold bT;rw[decide_eq_false (by omega:¬2<=S2.length),EO,EN]
  rw[this] at q;exact q _ g1
 have cf:bT D T (bt ps) P S2=((S2.any fun i=>S2.any fun j=>bK T ps P i j)||gy D T P S2):=by
  rw[<-ic TC.ok TC.pk pne rg nd];unfold bT;rw[hu,decide_eq_true (by omega:2<=S2.length),Bool.or_assoc]
  rfl
 try dsimp only[cu,df]
 refine cut (fun σ H'=>∃o8 o9:Option V,σ= [FV tp,FV t,FV l,FV td,FV tl,some v,FV pl,o7,o8,o9,none,none]/\aB H1 H'/\(S2.any fun i=>S2.any fun j=>bK T ps P i j)=false) (fun N hN=>?_) ?_
 ·refine ⟨_,rfl,l,rfl,⟨_,aC.of es1⟩,aR (xs:=S2.map V.int) (fun k σ H'=>aB H1 H'/\(∃o8 o9:Option V,σ= [FV tp,FV t,FV l,FV td,FV tl,some v,FV pl,o7,o8,o9,none,none])/\((S2.take k).any fun i=>S2.any fun j=>bK T ps P i j)=false) ⟨.refl _,(aq _ _ rfl),rfl⟩ (fun k σ H' _ h=>aC.of (h.1 _ _ es1)) ?_ ?_⟩
  ·rintro k y σ H2 hy ⟨g2,⟨o8,o9,rfl⟩,hn⟩;rw[DE] at hy;obtain ⟨i,hi,rfl⟩:=DB.mp hy;have iT:=rg i (D6 hi);obtain ⟨ni,hni⟩:∃ni:Nat,i=(ni:Int):=⟨i.toNat,by omega⟩
   refine ⟨_,rfl,l,rfl,⟨_,aC.of (g2 _ _ es1)⟩,aR (xs:=S2.map V.int) (fun m σ H'=>aB H1 H'/\(∃o9:Option V,σ= [FV tp,FV t,FV l,FV td,FV tl,some v,FV pl,o7,some (.int i),o9,none,none])/\((S2.take m).any fun j=>bK T ps P i j)=false) ⟨g2,⟨_,rfl⟩,rfl⟩ (fun k σ H' _ h=>aC.of (h.1 _ _ es1)) ?_ ?_⟩
   ·rintro m y σ H3 hy ⟨g3,⟨o9,rfl⟩,hm⟩;rw[DE] at hy;obtain ⟨j,hj,rfl⟩:=DB.mp hy;have jT:=rg j (D6 hj);obtain ⟨nj,hnj⟩:∃nj:Nat,j=(nj:Int):=⟨j.toNat,by omega⟩
    have yes:bK T ps P i j=true->bT D T (bt ps) P S2=true:=fun h=>by
     rw[cf];have:(S2.any fun i=>S2.any fun j=>bK T ps P i j)=true:=by
      rw[Di];refine ⟨i,D6 hi,?_⟩;rw[Di];exact ⟨j,D6 hj,h⟩
     rw[this]
     rfl
    have no:bK T ps P i j=false->((S2.take (m+1)).any fun j=>bK T ps P i j)=false:=fun h=>by
     rw[aV hj,ER,hm,Du,EB,Ew,Eb];exact h
    refine ⟨_,rfl,_,rfl,rfl,_,rfl,n2 (fun c1=>?_) (fun c1=>⟨g3,⟨_,rfl⟩,no (by unfold bK;rw[decide_eq_true c1];rfl)⟩)⟩
    have pc:bK T ps P i j=(decide ((i,j)∈ps)||bQ T P i.toNat j.toNat):=by
     unfold bK;rw[decide_eq_false c1]
     rfl
    refine ⟨_,rfl,_,rfl,by show 2<=sizeLine;decide,fun t1 n1=>?_⟩
    have g4:=g3.trans (ag n1 (.tup [.int i,.int j]));refine ⟨_,rfl,aN t1 pl i j ⟨ps,⟨rfl,rfl,ah,BJ.of (hp1.same g4),_,rfl,d2 (fun c2=>?_) (fun c2=>?_)⟩⟩⟩
    ·rw[yes (by rw[pc,decide_eq_true c2];rfl)] at q
     exact q _ (g1.trans g4)
    ·refine ⟨_,rfl,_,rfl,_,rfl,_,rfl,eN tl t ni nj D T ⟨P,⟨by rw[hni,hnj];rfl,TC1.same g4,by omega,by omega,fun H5 g5=>⟨_,rfl,?_⟩⟩⟩⟩
     rw[decide_eq_false c2,Du,show i.toNat=ni by omega,show j.toNat=nj by omega] at pc
     cases huu:bQ T P ni nj with
     |true=>
      rw[yes (by rw[pc,huu])] at q
      exact cL (q _ ((g1.trans g4).trans g5))
     |false=>exact cP ⟨g4.trans g5,⟨_,rfl⟩,no (by rw[pc,huu])⟩
   ·rintro σ H3 ⟨g3,⟨o9,rfl⟩,hm⟩;rw[D3,DV] at hm;refine ⟨g3,(aq _ _ rfl),?_⟩;rw[aV hi,ER,hn,Du,EB,Ew,Eb];exact hm
  ·rintro σ H2 ⟨g2,⟨o8,o9,rfl⟩,hn⟩;rw[D3,DV] at hn;exact hN _ _ (aq _ _ ⟨rfl,g2,hn⟩)
 rintro σ H2 ⟨o8,o9,rfl,g2,hn⟩;rw[hn,Du] at cf;rw[cf] at q;have es2:=g2 _ _ es1;have ed2:=g2 _ _ ed1;have TC2:=TC1.same g2;have k2:=g1.trans g2;clear es1 ed1 TC1 hp1 hn;refine ⟨_,rfl,aq td _ ⟨rfl,ed2,fun o nf=>?_⟩⟩
 have ef:aG H2 td (.frz o (.dK (bq D))) td=some (.frz o (.dK (bq D))):=ah;have sq:=i5 (o:=o) ed2;obtain ⟨O,cl,co,ec,ek,eo⟩:=TC2.cs;have TCf:fc D (aG H2 td (.frz o (.dK (bq D)))) tl t T P:=⟨TC2.tasks.sq sq,(bH O cl co ⟨sq _ _ rfl ec,sq _ _ rfl ek,eo.sq sq⟩),TC2.pk,TC2.ok⟩;have esf:=sq _ _ rfl es2;have thaw:∀{H':Hp},aB (aG H2 td (.frz o (.dK (bq D)))) H'->aB H2 (aG H' td (.dK (bq D))):=fun g=>i6 ed2 g
 generalize aG H2 td (.frz o (.dK (bq D)))=Hf at ef TCf esf thaw⊢;refine uy (fun k σ H'=>aB Hf H'/\(∃o10 o11:Option V,σ= [FV tp,FV t,FV l,FV td,FV tl,some v,FV pl,o7,o8,o9,o10,o11])/\(D.take k).any (fun p=>decide (p.2<(S2.map fun i=>gx T P i.toNat p.1).sum))=false) ⟨.refl _,(aq none none rfl),rfl⟩ (fun i σ H' _ h=>h.1 _ _ ef) ?_ ?_
 ·rintro k ky y σ H3 hk ⟨g3,⟨o10,o11,rfl⟩,hn⟩;obtain ⟨p,hpp,rfl,rfl⟩:=jX hk;have hm:=kN dnd (show (p.1,p.2)∈D from D6 hpp)
  refine ⟨_,rfl,l,rfl,⟨_,aC.of (g3 _ _ esf)⟩,bv (dL V.int) (fun _=>False) (fun i=>gx T P (S2.getD i 0).toNat p.1) (aC.of (g3 _ _ esf)) (by rw[D3];omega) (fun a h=>h.elim) (fun m y hy H4 g4 Q' hQ=>?_) fun p2 H4 np2 g4 hp2=>?_⟩
  ·rw[DE] at hy;obtain ⟨i,hi,rfl⟩:=DB.mp hy;have iT:=rg i (D6 hi);obtain ⟨ni,hni⟩:∃ni:Nat,i=(ni:Int):=⟨i.toNat,by omega⟩
   have il:ni<T.length:=by omega
   rw[aX hi,show i.toNat=ni by omega] at hQ
   have ne:=gH (P:=P) TC.ok il;have ln:=fb (P:=P) TC.ok il;refine ⟨_,rfl,_,rfl,_,rfl,eN tl t ni D T P ⟨by rw[hni];rfl,TCf.same (g3.trans g4),il,fun q2 H5 g5 ⟨vs,ev,rv⟩=>?_⟩⟩
   refine ⟨q2,rfl,⟨_,aC.of ev⟩,bv (dL V.int) (fun _=>False) (fun k=>dk ((aO T P ni).getD k (0,0,[])) p.1) (aC.of ev) (by rw[rv.1];omega) (fun a h=>h.elim) (fun k y hy H6 g6 Q2 hQ2=>?_) fun p3 H6 np3 g6 hp3=>?_⟩
   ·obtain ⟨w,hw,rw'⟩:=rv.at_ hy;rw[aX hw] at hQ2;exact ⟨_,rfl,_,rfl,bH y p.1 w ⟨rfl,dA rw' g6,hQ2 _ _ (.refl _) rfl⟩⟩
   ·obtain ⟨us,eu,ru⟩:=hp3;have eus:us=((aO T P ni).map fun w:Wy=>dk w p.1).map V.int:=by
     rw[ru.val,rv.1]
     conv=>rhs;rw[<-br (aO T P ni) (0,0,[])]
     rw[DJ,DJ,DJ]
     rfl
    rw[eus] at eu;refine (aq p3 _ ⟨rfl,aC.of eu,by simpa using ne,fun M hM hle=>?_⟩)
    rw[dP hM hle];exact hQ _ _ (g5.trans g6) rfl
  ·obtain ⟨us,eu,ru⟩:=hp2;have eus:us=(S2.map fun i=>gx T P i.toNat p.1).map V.int:=by
    rw[ru.val,D3]
    conv=>rhs;rw[<-br S2 0]
    rw[DJ,DJ,DJ]
    rfl
   rw[eus] at eu;have dg:=jY (.inr ⟨o,(g3.trans g4) _ _ ef⟩) hm;refine ⟨_,rfl,aq p2 _ ⟨rfl,aC.of eu,_,rfl,_,rfl,aq td _ ⟨rfl,dg,aq _ _ ⟨rfl,rfl,_,rfl,d2 (fun c=>?_) (fun c=>?_)⟩⟩⟩⟩
   ·have:gy D T P S2=true:=by
     unfold gy;rw[Di];exact ⟨p,D6 hpp,decide_eq_true c⟩
    rw[this] at q;exact (bH td o _ ⟨(g3.trans g4) _ _ ef,nf,q _ (k2.trans (thaw (g3.trans g4)))⟩)
   ·refine ⟨g3.trans g4,(aq _ _ rfl),?_⟩;rw[aV hpp,ER,hn,Du,EB,Ew,Eb];exact decide_eq_false c
 ·rintro σ H3 ⟨g3,⟨o10,o11,rfl⟩,hn⟩;rw[iY,DV] at hn;have:gy D T P S2=false:=hn;rw[this] at q;exact (bH td o _ ⟨g3 _ _ ef,nf,q _ (k2.trans (thaw g3))⟩)
theorem Br {dV:Value} (F:bn K "_law_splits" "_law_splits" zq dV f fd) (DZ58:Dx P w K mg base a8 3 "_law_clash" ["_law_parts","_law_case","_law_some"] [] oy):bf P w K mg base a8 4 f fd ["_law_parts","_law_case"] oS:=by
 have sc:aE ["_law_parts","_law_case","_law_some","_law_i","_law_found","_law_one","_law_free"] ["_law_parts","_law_case"] (ar zq):=dn (by decide+kernel)
 refine F.ok sc (fun vs H Q E h=>?_) (fun cdv A outer s H vs Q E hr h=>?_)
 ·obtain ⟨_,_,_,_,_,_,_,_,rfl,_⟩:=h
  rfl
 refine fK h fun tp t D T A ps _hi=>?_
 refine pd _hi fun n c _hj=>?_
 refine ij _hj fun _r1 pc q=>?_
 clear h _hi _hj;subst _r1;refine ⟨_,(ae (cJ 2 sc (@aU _ _ _ _ (@aa _ _ _ _ _ (@aU _ _ _ _ ac) ac rfl))) (ae (aQ PassesOwn.never rfl (b9 rfl B.Fc (@aa _ _ _ _ _ (ay av rfl B.Ev boot_len (@aa _ _ _ _ _ (aA aK (pv 0) af (fun _ _=>rfl)) ac rfl)) ac rfl)) (dw (i:=3) sc.nd rfl (Or.inr rfl)) (aj (cJ 2 sc (am cW (pv 2) (bG (own:= "_law_one") (ys:= ["_law_i"]) (js:= [3]) rfl (cok (fU fT) (.cons rfl .nil) (by decide) rfl rfl rfl rfl rfl rfl rfl rfl) (aF (pv 2)) (fun C fp s H=>(am cW (pv 0) (@aU _ _ _ _ (@aa _ _ _ _ _ (pv 1) ac rfl))))))))) (ae (cJ 4 sc (@aU _ _ _ _ ac)) (ae (aQ PassesOwn.never rfl (aF (pv 2)) (dw (i:=5) sc.nd rfl (Or.inr rfl)) (ae (cJ 6 sc (ay (s0 rfl) rfl B.FL PyProof.Rows.Boot.«all» (@aa _ _ _ _ _ (uD (os:= ["_law_i","_law_j"]) (ys:= ["_law_one"]) (js:= [5]) rfl (Aj (fU fT) (.cons rfl .nil) rfl rfl rfl rfl rfl rfl rfl) (aF (aA aK (pv 1) af (fun _ _=>rfl))) (fun C fp s H=>qL (K:=K) (n:=2) rfl rfl (aI (iH (os:= ["_law_i","_law_j"]) (ys:= ["_law_one"]) (i:=0) (by decide) rfl rfl) (aI (iH (os:= ["_law_i","_law_j"]) (ys:= ["_law_one"]) (i:=1) (by decide) rfl rfl) bX))) (fun C fp s H=>(tR (eJ (li (K:=K) rfl) (pv 0) (pv 2) (by with_unfolding_all rfl)) (lW (eJ (li (K:=K) rfl) (pv 1) (pv 2) (by with_unfolding_all rfl)))))) ac rfl))) (aj (aL (PW.pt (cF (dj (pv 6)) (bW (dj (bL DZ58 hr (@aa _ _ _ _ _ (pv 0) (@aa _ _ _ _ _ (pv 1) (@aa _ _ _ _ _ (pv 5) ac rfl) rfl) rfl)))))) (aj (bC (dt DK DU DT a6 (pv 4) (@aa _ _ _ _ _ (pv 5) ac rfl)))) aw)))) (aj (au (pv 4))))))),?_⟩
 try dsimp only[cxK]
 have sl:sizeLine=16777216:=sizeLine_eq;refine fZ pc.part.ex fun td tl la pl _hi=>?_
 refine eC _hi fun etp etd hT _hj=>?_
 refine cZ _hj fun hA hP=>?_
 obtain ⟨vt,et,rT⟩:=id hT;have t4:=pc.t4;have lv:=rT.1;refine ⟨by show 0<=sizeLine;decide,fun l0 nl0=>⟨by show 1<=sizeLine;decide,fun ls nls=>?_⟩⟩
 have g0:=ag nl0 (.lst []);have g1:=ag nls (.lst [.ref l0]);have e0:aG (aG H l0 (.lst [])) ls (.lst [.ref l0]) l0=some (.lst (([]:List Int).map V.int)):=g1 _ _ ah;have hs0:wP (aG (aG H l0 (.lst [])) ls (.lst [.ref l0])) ls [[]]:=⟨_,ah,A2.one (oz trivial e0)⟩;have k1:=g0.trans g1;generalize aG (aG H l0 (.lst [])) ls (.lst [.ref l0])=H1 at k1 hs0⊢;refine ⟨_,rfl,aN tp _ _ _ ⟨rfl,rfl,bx.of (k1 _ _ etp),rfl,aq tl _ ⟨rfl,.inl (aC.of (k1 _ _ et)),_,rfl,by omega,by omega,ca (fun i σ H'=>∃(o3:Option V) (ls:Addr) (SS:List (List Int)),σ= [FV tp,FV t,FV ls,o3,none,none,none]/\aB H H'/\wP H' ls SS/\SS.length<=2^i/\∀S∈SS,S.length<=i) (bH none ls [[]] ⟨rfl,k1,hs0,D9 _,fun S hS=>by rw[DI.mp hS];exact D9 _⟩) ?_ ?_⟩⟩⟩
 ·intro i σ H2 hi h_;refine ko h_ fun o3 ls SS _hi=>?_
  refine eC _hi fun _r1 g2 hs _hj=>?_
  refine cZ _hj fun l2 s4=>?_
  clear h_ _hi _hj;subst _r1;rw[DQ,lv] at hi;have p16:2^i<=2^4:=Nat.pow_le_pow_right (by decide) (by omega)
  obtain ⟨vs,es,rs⟩:=id hs;have ll:=rs.1;refine ⟨_,rfl,_,rfl,ls,rfl,⟨_,aC.of es⟩,bv tf (fun _=>False) (fun k=>SS.getD k []++ [0+(i:Int)]) (aC.of es) (by omega) (fun a h=>h.elim) (fun k y hy H3 g3 Q' hQ=>?_) fun lc H3 nlc g3 hc=>?_⟩
  ·obtain ⟨S2,hS2,hc⟩:=rs.at_ hy;obtain ⟨cc,rfl,_,ecc⟩:=iK hc;rw[aX hS2] at hQ;have:=s4 S2 (D6 hS2);refine ⟨_,rfl,_,rfl,by show 1<=sizeLine;decide,fun p np=>?_⟩
   have e3:=g3.trans (ag np (.lst [.int (0+(i:Int))]));refine (aN cc p _ _ ⟨rfl,rfl,e3 _ _ ecc,ah,by rw[D3];simp;omega,fun p2 np2=>hQ _ _ ((ag np _).trans (ag np2 _)) (oz (.inl ((ag np _).free np2)) ?_)⟩)
   rw[ah,DS]
   rfl
  obtain ⟨us,eu,ru⟩:=hc;have lu:=ru.1;rw[D3,E8] at lu;refine (aN ls lc _ _ ⟨rfl,rfl,g3 _ _ es,eu,by omega,fun lz nlz=>?_⟩)
  have ge:=ag nlz (.lst (vs++us));refine (bH _ lz _ ⟨rfl,g2.trans (g3.trans ge),⟨_,ah,((rs.imp fun _ _ q=>dA q (g3.trans ge)).append (ru.imp fun _ _ q=>CP (dA q ge)))⟩,?_,fun S hS=>?_⟩)
  ·rw[D8,D3,E8,Nat.pow_succ];omega
  ·rcases DM.mp hS with h|h
   ·have:=s4 S h;omega
   ·obtain ⟨k,hk,rfl⟩:=DP.mp h;have kl:k<SS.length:=by rw[<-ll];exact Dy.mp hk
    have:=s4 _ (DO kl);rw[aX (D4 kl),D8];show _+1<=_;omega
 intro σ H2 h_;refine ko h_ fun o3 ls SS _hi=>?_
 refine eC _hi fun _r1 g2 hs _hj=>?_
 refine cZ _hj fun l2 s4=>?_
 clear h_ _hi _hj;subst _r1;rw[DQ,lv] at l2 s4;have p16:2^T.length<=2^4:=Nat.pow_le_pow_right (by decide) t4
 obtain ⟨vs,es,rs⟩:=id hs;have ll:=rs.1;refine ⟨by show 0<=sizeLine;decide,fun lf nlf=>?_⟩
 have gf:=ag nlf (.lst []);have hf0:bU tf (fun a=>a≠lf) (aG H2 lf (.lst [])) lf []:=bU.new
 generalize aG H2 lf (.lst [])=H3 at gf hf0⊢;have ot:=pc.cok.pairs (by decide)
 refine ⟨_,rfl,ls,rfl,⟨_,aC.of (gf _ _ es)⟩,aR (xs:=vs) (fun k σ H'=>(∃o3 o5 o6:Option V,σ= [FV tp,FV t,FV ls,o3,FV lf,o5,o6])/\aB H2 H'/\∃FF:List (List Int),bU tf (fun a=>a≠lf) H' lf FF/\FF.length<=k/\∀S∈FF,S.length<=4/\cB D T (bt ps) c.1 c.2 (.split S)=true) ⟨(bH o3 none none rfl),gf,[],hf0,D9 _,fun S hS=>by cases hS⟩ (fun k σ H' _ h=>aC.of (h.2.1 _ _ es)) ?_ ?_⟩
 ·rintro k y σ H4 hy ⟨⟨o3,o5,o6,rfl⟩,g4,FF,⟨fs,ef,rf⟩,lF,okF⟩;obtain ⟨S2,hS2,hc⟩:=rs.at_ hy;obtain ⟨cc,rfl,_,ecc⟩:=iK hc;have kl:=(D5.mp hy).1;have g24:=g2.trans g4;have pc4:=pc.same g24;obtain ⟨kl',ol,ec,ek,bo,eo,ro⟩:=id pc4.cs;have S4:=s4 S2 (D6 hS2);have lbo:bo.length<=1000:=by rw[ro.1];exact ot.1
  refine ⟨_,rfl,aN t _ _ _ ⟨rfl,rfl,bx.of ec,rfl,ol,rfl,⟨_,aC.of eo⟩,wZ (dL V.bl) (fun _=>False) (fun i=> !decide ((c.2.getD i []).getD 0 0∈S2)|| !decide ((c.2.getD i []).getD 1 0∈S2)) (aC.of eo) (by rw[D3];omega) (fun a h=>h.elim) (fun i y hy H5 g5 o ho Q' hQ=>?_) fun lc H5 nlc g5 hc=>?_⟩⟩
  ·obtain ⟨o1,o2,rfl⟩:=uZ ho;obtain ⟨b,hb,rfl⟩:=cC hy;have il:i<c.2.length:=by rw[<-ro.1];exact (D5.mp hb).1
   have hk:=D4 il;have eb:=g5 _ _ (ro.2 i b _ hb hk);obtain ⟨p,q',e2⟩:=ot.2 _ (DO il);rw[aX hk,e2] at hQ;rw[e2] at eb;have ecc5:=(g4.trans g5) _ _ ecc;refine (aq b _ ⟨rfl,bx.of eb,rfl,aq _ _ ⟨rfl,aq _ _ ⟨rfl,rfl,⟨[some (.int p),some (.int q')],rfl,rfl⟩,_,rfl,_,rfl,aq cc _ ⟨rfl,.inl (aC.of ecc5),rfl,jk S2,_,rfl,?_⟩⟩⟩⟩);rw[if_pos (show (true=true) from rfl),jx]
   refine n2 (fun m1=>hQ _ _ (.refl _) ?_) (fun m1=>⟨_,rfl,_,rfl,aq cc _ ⟨rfl,.inl (aC.of ecc5),rfl,jk S2,hQ _ _ (.refl _) ?_⟩⟩)
   ·show V.bl true=V.bl (!decide (p∈S2)||_);rw[decide_eq_false m1]
    rfl
   ·show V.bl (if true=true then !oZ (V.int q') (S2.map V.int) else _)=V.bl (!decide (p∈S2)|| !decide (q'∈S2))
    rw[if_pos (show (true=true) from rfl),jx,decide_eq_true m1]
    rfl
  obtain ⟨us,eu,ru⟩:=hc;rw[ru.val,D3,ro.1] at eu;refine (aq lc _ ⟨rfl,aC.of eu,?_⟩);rw[tD];have g25:=g24.trans g5;have skip:(∃o3' o5' o6':Option V,[some (.ref tp),some (.ref t),some (.ref ls),o3,some (.ref lf),some (.ref cc),some (.bl (!bF c.2 S2))]= [some (.ref tp),some (.ref t),some (.ref ls),o3',some (.ref lf),o5',o6']):=(bH _ _ _ rfl);cases ha:bF c.2 S2 with
  |true=>exact ⟨_,rfl,_,rfl,cP ⟨(bH _ _ _ rfl),g4.trans g5,FF,⟨fs,g5 _ _ ef,rf.imp fun _ _ q=>dA q g5⟩,by omega,okF⟩⟩
  |false=>
   have pc5:=pc.same g25;have cl:jz T 400 c:=pc.cok;refine ⟨_,rfl,_,rfl,cL ⟨_,rfl,_,rfl,_,rfl,kW tp t cc td tl pl (.ref la) S2 D (bH T c.1 ps ⟨rfl,g25 _ _ etp,g25 _ _ etd,pc.ok.dnd,⟨hT.same g25,⟨_,pc5.cs⟩,cl.pk,pc.ok.ways⟩,pc.ok.t24,hP.same g25,pc.ne,(g4.trans g5) _ _ ecc,by omega,fun H6 g6=>⟨_,rfl,?_⟩⟩)⟩⟩
   have g56:=g5.trans g6;cases hcl:bT D T (bt ps) c.1 S2 with
   |false=>exact cP ⟨(bH _ _ _ rfl),g4.trans g56,FF,⟨fs,g56 _ _ ef,rf.imp fun _ _ q=>dA q g56⟩,by omega,okF⟩
   |true=>
    have lf1:=rf.1;refine cL ⟨_,rfl,.inl ⟨rfl,_,aC.of (g56 _ _ ef)⟩,_,rfl,bH lf _ _ ⟨rfl,rfl,g56 _ _ ef,by omega,⟨(bH _ _ _ rfl),du (g4.trans g56) nlf _,FF++ [S2],bU.put (fun z=>z rfl) (rf.imp fun _ _ q=>dA q g56) (oz (fun z=>?_) ((g4.trans g56) _ _ ecc)),by rw[D8];show _+1<=_;omega,fun S hS=>?_⟩⟩⟩
    ·rw[z,nlf] at ecc;cases ecc
    ·rcases DM.mp hS with h|h
     ·exact okF S h
     ·rw[DI.mp h];refine ⟨by omega,?_⟩
      show (!bF c.2 S2&&bT D T (bt ps) c.1 S2)=true;rw[ha,hcl]
      rfl
 ·rintro σ H4 ⟨⟨o3,o5,o6,rfl⟩,g4,FF,hF,lF,okF⟩;exact ⟨_,rfl,q lf FF H4 (g2.trans g4) hF.any (by omega) okF⟩
theorem Bs {dV:Value} (F:bn K "_law_inner" "_law_inner" zr dV f fd) (DZ59:Dx P w K mg base a8 4 "_law_splits" ["_law_parts","_law_case"] [] oS):bf P w K mg base a8 5 f fd ["_law_parts","_law_case","_law_cell"] mW:=by
 have sc:aE ["_law_parts","_law_case","_law_cell","_law_free","_law_found","_law_some","_law_turn"] ["_law_parts","_law_case","_law_cell"] (ar zr):=dn (by decide+kernel)
 refine F.ok sc (fun vs H Q E h=>?_) (fun cdv A outer s H vs Q E hr h=>?_)
 ·obtain ⟨_,_,_,_,_,_,_,_,_,rfl,_⟩:=h
  rfl
 refine qc h fun tp t x D T A ps n c _hi=>?_
 refine ij _hi fun _r1 pc q=>?_
 clear h _hi;subst _r1;refine ⟨_,(ae (fF sc.nd (i:=3) rfl rfl (own:= "_law_i") (ys:= ["_law_case"]) (js:= [1]) rfl (cok (fU fT) (.cons rfl .nil) (by decide) rfl rfl rfl rfl rfl rfl rfl rfl) (b9 rfl B.Fc (@aa _ _ _ _ _ (ay av rfl B.Ev boot_len (@aa _ _ _ _ _ (aA aK (pv 1) af (fun _ _=>rfl)) ac rfl)) ac rfl)) (fun C fp s H=>(ao fu (aA (iF (K:=K) rfl) (aA (bu (K:=K) rfl) (pv 1) af (fun _ _=>rfl)) (pv 0) (fun _ _=>rfl)) aZ (aD _))) (fun C fp s H=>(pv 0))) (ae (fF sc.nd (i:=3) rfl rfl (own:= "_law_i") (ys:= ["_law_parts"]) (js:= [0]) rfl (cok (fU fT) (.cons rfl .nil) (by decide) rfl rfl rfl rfl rfl rfl rfl rfl) (aF (pv 3)) (fun C fp s H=>(ao b8 (ay tm rfl B.Ev boot_len (@aa _ _ _ _ _ (aA (iF (K:=K) rfl) (aA (bu (K:=K) rfl) (pv 1) af (fun _ _=>rfl)) (pv 0) (fun _ _=>rfl)) ac rfl)) af (aD _))) (fun C fp s H=>(pv 0))) (ae (aL (PW.pt (cF (ao b8 (am aS (pv 2) af) af (aD _)) (bW (ao (iE hr.units0) (pv 3) (@aU _ _ _ _ ac) (aD _))))) (aj (au (@bj _ _ _ _ _ (@aa _ _ _ _ _ dh (@aa _ _ _ _ _ (aA a9 (pv 3) (am aS (am aT (pv 2) af) (ay av rfl B.Ev boot_len (@aa _ _ _ _ _ (pv 3) ac rfl))) (fun _ _=>rfl)) ac rfl) rfl)))) aw) (ae (cJ 4 sc (bL DZ59 hr (@aa _ _ _ _ _ (pv 0) (@aa _ _ _ _ _ (pv 1) ac rfl) rfl))) (ae (aL (ao (jN hr.units0) (pv 4) (@aU _ _ _ _ ac) (aD _)) (aj (au aZ)) aw) (ae (cJ 5 sc (aA a9 (pv 4) (am aS (am aT (pv 2) af) (ay av rfl B.Ev boot_len (@aa _ _ _ _ _ (pv 4) ac rfl))) (fun _ _=>rfl))) (ae (cJ 6 sc (am aS (am aT (pv 2) af) (ay av rfl B.Ev boot_len (@aa _ _ _ _ _ (pv 5) ac rfl)))) (aj (au (@bj _ _ _ _ _ (@aa _ _ _ _ _ dh (@aa _ _ _ _ _ (am cW (bO dy (pv 5) (bY (pv 6)) cK) (bO dy (pv 5) cK (bY (pv 6)))) ac rfl) rfl))))))))))),?_⟩
 try dsimp only[cxK]
 have sl:sizeLine=16777216:=sizeLine_eq;refine fZ pc.part.ex fun td tl la pl _hi=>?_
 refine eC _hi fun etp etd hT _hj=>?_
 refine cZ _hj fun hA hP=>?_
 obtain ⟨vt,et,rT⟩:=id hT;have t4:=pc.t4;have lv:=rT.1;obtain ⟨kl,ol,ec,ek,hO⟩:=id pc.cs;have lP:c.1.length=T.length:=pc.cok.pk.len;refine ⟨_,rfl,aN t _ _ _ ⟨rfl,rfl,bx.of ec,rfl,aq kl _ ⟨rfl,.inl (aC.of ek),_,rfl,by rw[D3];omega,by rw[D3];omega,sS (dL V.int) (fun _=>False) (fun i=>decide (fM (c.1.getD i none)=V.non)) (fun i=>0+(i:Int)) (by rw[DQ,D3];omega) (fun a h=>h.elim) (fun i hi H2 g2 S' hS'=>?_) (fun i hi _ H2 g2 Q' hQ=>⟨_,rfl,hQ _ _ (.refl _) rfl⟩) fun lf H1 nlf g1 hf=>?_⟩⟩⟩
 ·rw[DQ,D3] at hi;have hk:=D4 hi;rw[aX hk] at hS';have at1:gZ (c.1.map fM) (0+(i:Int))=some (fM c.1[i]):=by
   rw[Ef];exact a4 (dO hk)
  exact ⟨_,rfl,aN t _ _ _ ⟨rfl,rfl,bx.of (g2 _ _ ec),rfl,_,rfl,aN kl _ _ _ ⟨rfl,rfl,aC.of (g2 _ _ ek),at1,rfl,_,rfl,hS' _ (.refl _)⟩⟩⟩
 obtain ⟨us,eu,ru⟩:=hf;rw[ru.val] at eu;have okf:∀z∈cQ (((c.1.map fM).length:Nat):Int).toNat (fun i=>decide (fM (c.1.getD i none)=V.non)) (fun i=>0+(i:Int)),∃k:Nat,z=(k:Int)/\k<T.length/\c.1.getD k none=none:=fun z hz=>by
  unfold cQ at hz;obtain ⟨k,hk,rfl⟩:=DP.mp hz;obtain ⟨h1,h2⟩:=Ea.mp hk;rw[DQ,D3] at h1;refine ⟨k,Ef _,by rw[<-lP];exact Dy.mp h1,?_⟩
  rw[decide_eq_true_eq] at h2;cases hh:c.1.getD k none with
  |none=>rfl
  |some j=>rw[hh] at h2;cases h2
 have lf4:(cQ (((c.1.map fM).length:Nat):Int).toNat (fun i=>decide (fM (c.1.getD i none)=V.non)) (fun i=>0+(i:Int))).length<=4:=by
  have:=iX (((c.1.map fM).length:Nat):Int).toNat (fun i=>decide (fM (c.1.getD i none)=V.non)) (fun i=>0+(i:Int))
  rw[DQ,D3] at this;rw[DQ,D3];omega
 generalize cQ (((c.1.map fM).length:Nat):Int).toNat (fun i=>decide (fM (c.1.getD i none)=V.non)) (fun i=>0+(i:Int))=F1 at eu okf lf4
 refine ⟨_,rfl,lf,rfl,⟨_,aC.of eu⟩,gE (dL V.int) (fun _=>False) (fun i=>decide (V.int (((T.getD (F1.getD i 0).toNat []).length:Nat):Int)=V.int 2)) (fun i=>F1.getD i 0) (aC.of eu) (by rw[D3];omega) (fun a h=>h.elim) (fun i y hy H2 g2 S' hS'=>?_) (fun i y hy _ H2 g2 Q' hQ=>?_) fun lf2 H2 nlf2 g2 hf2=>?_⟩
 ·rw[DE] at hy;obtain ⟨z,hz,rfl⟩:=DB.mp hy;obtain ⟨k,rfl,kT,_⟩:=okf z (D6 hz);have hk:=D4 kT;rw[aX hz,DQ,aX hk] at hS';refine eA (rT.get hk) fun y _hi=>?_
  refine cZ _hi fun hy _hj=>?_
  refine eA _hj fun wl _hk=>?_
  refine ij _hk fun _r1 _ _hl=>?_
  refine eA _hl fun wv _hm=>?_
  refine cZ _hm fun ew rw'=>?_
  clear _hi _hj _hk _hl _hm;subst _r1;have g12:=g1.trans g2;refine ⟨_,rfl,aN tp _ _ _ ⟨rfl,rfl,bx.of (g12 _ _ etp),rfl,_,rfl,aN tl _ _ _ ⟨rfl,rfl,aC.of (g12 _ _ et),(a4 hy),aq wl _ ⟨rfl,g12 _ _ ew,rfl,?_⟩⟩⟩⟩;have:=hS' _ (.refl _);rw[<-rw'.1] at this;exact ⟨_,rfl,this⟩
 ·rw[DE] at hy;obtain ⟨z,hz,rfl⟩:=DB.mp hy;rw[aX hz] at hQ;exact ⟨_,rfl,hQ _ _ (.refl _) rfl⟩
 obtain ⟨us,eu2,ru2⟩:=hf2;rw[ru2.val] at eu2;have okf2:∀z∈cQ (F1.map V.int).length (fun i=>decide (V.int (((T.getD (F1.getD i 0).toNat []).length:Nat):Int)=V.int 2)) (fun i=>F1.getD i 0),fq T c.1 z=true:=fun z hz=>by
  unfold cQ at hz;obtain ⟨k,hk,rfl⟩:=DP.mp hz;obtain ⟨h1,h2⟩:=Ea.mp hk;rw[D3] at h1;have hk:=D4 (Dy.mp h1);rw[aX hk] at h2⊢;obtain ⟨m,e,mT,mP⟩:=okf _ (DO (Dy.mp h1));rw[e] at h2⊢;rw[decide_eq_true_eq] at h2;injection h2 with h2
  unfold fq;rw[DQ] at h2⊢;rw[decide_eq_true (show (0:Int)<=(m:Int) by omega),decide_eq_true (show (m:Int)<(T.length:Int) by omega),decide_eq_true (show (T.getD m []).length=2 by omega),decide_eq_true mP]
  rfl
 have lf24:(cQ (F1.map V.int).length (fun i=>decide (V.int (((T.getD (F1.getD i 0).toNat []).length:Nat):Int)=V.int 2)) (fun i=>F1.getD i 0)).length<=4:=by
  have:=iX (F1.map V.int).length (fun i=>decide (V.int (((T.getD (F1.getD i 0).toNat []).length:Nat):Int)=V.int 2)) (fun i=>F1.getD i 0)
  rw[D3] at this;rw[D3];omega
 generalize cQ (F1.map V.int).length (fun i=>decide (V.int (((T.getD (F1.getD i 0).toNat []).length:Nat):Int)=V.int 2)) (fun i=>F1.getD i 0)=F2 at eu2 okf2 lf24
 have g02:=g1.trans g2;clear eu okf lf4 ru ru2;try dsimp only[cu,df]
 refine cut (fun σ H'=>σ= [FV tp,FV t,some (.int x),FV lf2,none,none,none]/\aB H H') (fun N hN=>?_) ?_
 ·have miss:=hN _ _ ⟨rfl,g02⟩;refine ⟨_,rfl,aq _ _ ⟨rfl,rfl,(by show (2:Int)≠0;decide),rfl,_,rfl,d2 (fun _=>?_) (fun _=>cP miss)⟩⟩
  refine ⟨_,rfl,by show 0<=sizeLine;decide,fun le nle=>?_⟩
  have ge:=ag nle (.lst []);refine (bH lf2 le _ ⟨rfl,rfl,aC.of (ge _ _ eu2),aC.of ah,_,rfl,?_⟩);generalize aG H2 le (.lst [])=H3 at ge⊢;have g03:=g02.trans ge
  by_cases fe:F2= []
  ·rw[fe];exact cP (hN _ _ ⟨rfl,g03⟩)
  have re:(F2.map V.int).isEmpty=false:=by cases F2 with|nil=>exact absurd rfl fe|cons _ _=>rfl
  have fl:1<=F2.length:=F0.mpr fe;rw[re];refine cL ⟨_,rfl,_,rfl,aq _ _ ⟨rfl,rfl,⟨by decide,DC (by decide)⟩,_,rfl,aq lf2 _ ⟨rfl,.inl (aC.of (ge _ _ eu2)),?_⟩⟩⟩
  rw[D3];have mz:=fm (a:=x.fdiv 2) (n:=(F2.length:Int)) (by omega)
  have hz:=D4 (show ((x.fdiv 2).fmod (F2.length:Int)).toNat<F2.length by omega)
  have az:gZ (F2.map V.int) ((x.fdiv 2).fmod (F2.length:Int))=some (.int (F2[((x.fdiv 2).fmod (F2.length:Int)).toNat]'(by omega))):=by
   have:=a4 (dO (f:=V.int) hz)
   rwa [E7 mz.1] at this
  refine (aq _ _ ⟨rfl,rfl,by omega,aN lf2 _ _ _ ⟨rfl,rfl,aC.of (ge _ _ eu2),az,by show 2<=sizeLine;decide,fun tr ntr=>?_⟩⟩)
  have okz:=okf2 _ (D6 hz);generalize F2[((x.fdiv 2).fmod (F2.length:Int)).toNat]'(by omega)=z at okz
  have gr:=ag ntr (.tup [.str "ways",.int z]);exact q _ _ (g03.trans gr) (.inr ⟨.ways z,⟨tr,rfl,g03.free ntr,ah⟩,⟨trivial,fun w hw=>by cases hw;trivial⟩,.ways z,rfl,okz⟩)
 rintro σ H3 ⟨rfl,g3⟩;refine ⟨_,rfl,_,rfl,eN tp t D T A ps (aq n c ⟨rfl,pc.same g3,fun ls Ss H4 g4 hs l16 okS=>?_⟩)⟩
 have g34:=g3.trans g4;obtain ⟨vs,es,rs⟩:=id hs;have lvs:=rs.1;refine ⟨_,rfl,by show 0<=sizeLine;decide,fun le nle=>?_⟩
 have ge:=ag nle (.lst []);refine (bH ls le _ ⟨rfl,rfl,aC.of (ge _ _ es),aC.of ah,_,rfl,?_⟩);generalize aG H4 le (.lst [])=H5 at ge⊢;have g35:=g34.trans ge
 by_cases se:Ss= []
 ·have:vs= []:=Dg (by rw[lvs,se];rfl)
  rw[this];exact cL (q _ _ g35 (.inl rfl))
 have slp:1<=Ss.length:=F0.mpr se;have re:vs.isEmpty=false:=by cases vs with|nil=>rw[<-lvs] at slp;cases slp|cons _ _=>rfl
 rw[re];refine cP ⟨_,rfl,_,rfl,aq _ _ ⟨rfl,rfl,⟨by decide,DC (by decide)⟩,_,rfl,aq ls _ ⟨rfl,.inl (aC.of (ge _ _ es)),?_⟩⟩⟩
 rw[lvs];have mz:=fm (a:=x.fdiv 2) (n:=(Ss.length:Int)) (by omega)
 have hz:=D4 (show ((x.fdiv 2).fmod (Ss.length:Int)).toNat<Ss.length by omega)
 obtain ⟨v,hv,hc⟩:=rs.get hz;obtain ⟨cc,rfl,_,ecc⟩:=iK hc;have az:gZ vs ((x.fdiv 2).fmod (Ss.length:Int))=some (.ref cc):=by
  have:=a4 hv
  rwa [E7 mz.1] at this
 obtain ⟨S4,rS⟩:=okS _ (D6 hz);generalize Ss[((x.fdiv 2).fmod (Ss.length:Int)).toNat]'(by omega)=S2 at ecc S4 rS
 have S2l:=tE rS;have ecc5:=ge _ _ ecc;refine (aq _ _ ⟨rfl,rfl,by omega,aN ls _ _ _ ⟨rfl,rfl,aC.of (ge _ _ es),az,?_⟩⟩)
 refine ⟨_,rfl,aq _ _ ⟨rfl,rfl,⟨by decide,DC (by decide)⟩,_,rfl,aq cc _ ⟨rfl,.inl (aC.of ecc5),?_⟩⟩⟩
 rw[D3];have mt:=fm (a:=x.fdiv 64) (n:=(S2.length:Int)) (by omega)
 refine (aq _ _ ⟨rfl,rfl,by omega,?_⟩)
 dsimp only;obtain ⟨k,hk⟩:∃k:Nat,(x.fdiv 64).fmod (S2.length:Int)=(k:Int):=⟨((x.fdiv 64).fmod (S2.length:Int)).toNat,by omega⟩
 rw[hk] at mt⊢;refine ⟨_,rfl,_,rfl,_,rfl,aq cc _ ⟨rfl,aC.of ecc5,fun p1 np1=>?_⟩⟩
 rw[gu (by rw[D3];omega)]
 have e1:=ag np1 (.lst ((S2.map V.int).drop k));refine ⟨_,rfl,_,rfl,_,rfl,aq cc _ ⟨rfl,aC.of (e1 _ _ ecc5),fun p2 np2=>?_⟩⟩
 rw[gq (by rw[D3];omega)]
 have e2:=ag np2 (.lst ((S2.map V.int).take k));refine (aN p1 p2 _ _ ⟨rfl,rfl,e2 _ _ ah,ah,by rw[E6,Ds,D3];omega,fun p3 np3=>⟨by show 2<=sizeLine;decide,fun tr ntr=>?_⟩⟩)
 have e3:=ag np3 (.lst ((S2.map V.int).drop k++(S2.map V.int).take k));have gr:=ag ntr (.tup [.str "split",.ref p3]);have g45:=g35.trans ((e1.trans e2).trans e3);have pm:=tF S2 k;refine q _ _ (g45.trans gr) (.inr ⟨.one "split" (S2.drop k++S2.take k),⟨tr,rfl,g45.free ntr,p3,(g35.trans (e1.trans e2)).free np3,ah,?_⟩,⟨⟨.inr (.inr rfl),by rw[pm.length_eq];omega⟩,fun w hw=>?_⟩,.split (S2.drop k++S2.take k),rfl,qo pc.ok.ways pc.cok.pk pc.ne pm rS⟩)
 ·rw[gr _ _ ah,DS,List.map_drop,List.map_take]
 ·cases hw;show (S2.drop k++S2.take k).length<=8;rw[pm.length_eq];omega
theorem Bt {dV:Value} (F:bn K "_law_cases" "_law_cases" zu dV f fd):bf P w K mg base a8 1 f fd ["_law_case","_law_row"] kn:=by
 have sc:aE ["_law_case","_law_row","_law_found","_law_i","_law_j"] ["_law_case","_law_row"] (ar zu):=dn (by decide+kernel)
 refine F.ok sc (fun vs H Q E h=>?_) (fun cdv A outer s H vs Q E hr h=>?_)
 ·obtain ⟨_,_,_,_,_,_,rfl,_⟩:=h
  rfl
 refine fK h fun t r w P O Z0 _hi=>?_
 refine f9 _hi fun _r1 hC0 po p24 hrw _hj=>?_
 refine ij _hj fun ok rg q0=>?_
 clear h _hi _hj;subst _r1;refine ⟨_,(ae (aL (ao b8 (aA aK (pv 1) af (fun _ _=>rfl)) dh (aD _)) (aj (au (nH (hd:=none) (own:= "_law_way_here") (ys:= ["_law_case","_law_row"]) (js:= [0,1]) hr.hd (cok (fU (fU fT)) (.cons rfl (.cons rfl .nil)) (by decide) rfl rfl rfl rfl rfl rfl rfl rfl) (kK rfl B.Fc (@aa _ _ _ _ _ af ac rfl)) (fun C fp s H=>(@bj _ _ _ _ _ (@aa _ _ _ _ _ (am cW (am cW (bO (oE (K:=K) rfl) (aA (bu (K:=K) rfl) (pv 1) af (fun _ _=>rfl)) cK (bY (aA (bu (K:=K) rfl) (pv 2) af (fun _ _=>rfl)))) (@aU _ _ _ _ (@aa _ _ _ _ _ (pv 0) ac rfl))) (bO (oE (K:=K) rfl) (aA (bu (K:=K) rfl) (pv 1) af (fun _ _=>rfl)) (bY (am a7 (aA (bu (K:=K) rfl) (pv 2) af (fun _ _=>rfl)) af)) cK)) (@aa _ _ _ _ _ (aA (bu (K:=K) rfl) (pv 1) af (fun _ _=>rfl)) ac rfl) rfl)))))) aw) (ae (cJ 2 sc (@aU _ _ _ _ ac)) (ae (aQ PassesOwn.never rfl (aF (aA aK (pv 1) af (fun _ _=>rfl))) (cM 3 sc) (aj (aQ PassesOwn.never rfl (aF (aA aK (pv 1) af (fun _ _=>rfl))) (cM 4 sc) (aj (aL (ao eT (pv 3) (pv 4) (aD _)) (aj (bC (dt DK DU DT a6 (pv 2) (@aa _ _ _ _ _ (@bj _ _ _ _ _ (@aa _ _ _ _ _ (aA aK (pv 0) af (fun _ _=>rfl)) (@aa _ _ _ _ _ (am cW (aA aK (pv 0) af (fun _ _=>rfl)) (@aU _ _ _ _ (@aa _ _ _ _ _ (@bj _ _ _ _ _ (@aa _ _ _ _ _ (pv 3) (@aa _ _ _ _ _ (pv 4) ac rfl) rfl)) ac rfl))) ac rfl) rfl)) ac rfl)))) aw))))) (aj (au (pv 2)))))),?_⟩
 try dsimp only[cxK]
 have sl:sizeLine=16777216:=sizeLine_eq;have hC1:=wB hC0;obtain ⟨Z,hZd⟩:∃Z:Addr->Prop,Z=fun a=>Z0 a/\H a≠none:=⟨_,rfl⟩
 have hZ:∀a,Z a->H a≠none:=fun a h=>by rw[hZd] at h;exact h.2
 rw[<-hZd] at hC1;have q:∀(l:Addr) (H':Hp),aB H H'->H l=none->bU cR (fun a=>a≠l/\(H a=none∨Z a)) H' l (ce P O w)->Q (.ref l) H':=fun l H' g nl h=>q0 l H' g nl (h.mono fun a k=>⟨k.1,k.2.imp id fun z=>by rw[hZd] at z;exact z.1⟩)
 clear hZd q0 hC0;refine ko hC1 fun t' kl ol _hi=>?_
 refine f9 _hi fun e0 zt zk zo ec _hj=>?_
 refine cZ _hj fun ek hOz=>?_
 cases e0;replace ek:H kl=some (.lst (P.map fM)):=ek;have hO:aW H ol O:=uX hOz;obtain ⟨bo,eo,ro⟩:=id hO;obtain ⟨vz,ez,rz⟩:=hOz;rw[eo] at ez;injection ez with ez
 injection ez with ez
 subst ez;have lbo:bo.length<=1000:=by rw[ro.1];exact po.1
 cases w with
 |ways i=>
  have er:H r=some (.tup [.str "ways",.int i]):=hrw;obtain ⟨i0,i1⟩:=rg i rfl;obtain ⟨k,rfl⟩:∃k:Nat,i=(k:Int):=⟨i.toNat,by omega⟩
  have kl':k<P.length:=by omega
  refine ⟨_,rfl,aN r _ _ _ ⟨rfl,rfl,bx.of er,rfl,rfl,_,rfl,dT rfl ⟨_,rfl,by decide,by decide,n4 cR Z (fun j=>(P.set k (some j),O)) nD.no (by omega) hZ (fun j hj H2 g2 Q' hQ=>?_) fun lc H2 nlc g2 hc=>?_⟩⟩⟩
  ·refine ⟨_,rfl,aN t _ _ _ ⟨rfl,rfl,bx.of (g2 _ _ ec),rfl,_,rfl,aN r _ _ _ ⟨rfl,rfl,bx.of (g2 _ _ er),rfl,_,rfl,aq kl _ ⟨rfl,aC.of (g2 _ _ ek),fun p1 np1=>?_⟩⟩⟩⟩
   rw[gq (by rw[D3];omega)]
   have e1:=ag np1 (.lst ((P.map fM).take k));refine ⟨_,rfl,by show 1<=sizeLine;decide,fun p2 np2=>?_⟩
   have e2:=ag np2 (.lst [.int (0+(j:Int))]);refine (aN p1 p2 _ _ ⟨rfl,rfl,e2 _ _ ah,ah,by rw[Ds,D3];simp;omega,fun p3 np3=>?_⟩)
   have e3:=ag np3 (.lst ((P.map fM).take k++ [.int (0+(j:Int))]));have g5:=g2.trans ((e1.trans e2).trans e3);refine ⟨_,rfl,aN t _ _ _ ⟨rfl,rfl,bx.of (g5 _ _ ec),rfl,_,rfl,aN r _ _ _ ⟨rfl,rfl,bx.of (g5 _ _ er),rfl,aq _ _ ⟨rfl,rfl,_,rfl,aq kl _ ⟨rfl,aC.of (g5 _ _ ek),fun p4 np4=>?_⟩⟩⟩⟩⟩
   rw[show ((k:Int)+1)=((k+1:Nat):Int) from rfl,gu (by rw[D3];omega)]
   have e4:=ag np4 (.lst ((P.map fM).drop (k+1)));refine (aN p3 p4 _ _ ⟨rfl,rfl,e4 _ _ ah,ah,by rw[D8,Ds,E6,D3];simp;omega,fun p5 np5=>?_⟩)
   have e5:=ag np5 (.lst ((P.map fM).take k++ [.int (0+(j:Int))]++(P.map fM).drop (k+1)));have g7:=g5.trans (e4.trans e5);refine ⟨_,rfl,aN t _ _ _ ⟨rfl,rfl,bx.of (g7 _ _ ec),rfl,by show 2<=sizeLine;decide,fun t5 nt5=>?_⟩⟩
   have e6:=ag nt5 (.tup [.ref p5,.ref ol]);have ge:=(((((e1.trans e2).trans e3).trans e4).trans e5).trans e6);have set5:(P.map fM).take k++ [.int (0+(j:Int))]++(P.map fM).drop (k+1)=(P.set k (some j)).map fM:=by
    rw[List.map_set,List.set_eq_take_append_cons_drop,if_pos (by rw[D3];exact kl'),Dz,Ef]
    rfl
   refine hQ _ _ ge (bH t5 p5 ol ⟨rfl,.inl (((((e1.trans e2).trans e3).trans e4).trans e5).free nt5),.inl ((((e1.trans e2).trans e3).trans e4).free np5),.inr zo,ah,by rw[e6 _ _ ah,set5],?_⟩)
   exact ⟨_,(g7.trans e6) _ _ eo,rz.imp fun _ _ q=>iW (dA q (g7.trans e6)) fun a h=> .inr h⟩
  ·exact q lc H2 g2 nlc hc
 |split S2=>
  obtain ⟨c,er,es⟩:=hrw;have s8:S2.length<=8:=ok;refine ⟨_,rfl,aN r _ _ _ ⟨rfl,rfl,bx.of er,rfl,rfl,_,rfl,dF (by decide) ⟨by show 0<=sizeLine;decide,fun lc nlc=>?_⟩⟩⟩
  have g0:=ag nlc (.lst []);refine ⟨_,rfl,aN r _ _ _ ⟨rfl,rfl,bx.of (g0 _ _ er),rfl,c,rfl,⟨_,aC.of (g0 _ _ es)⟩,aR (xs:=S2.map V.int) (fun k σ H'=>(∃o4 o5:Option V,σ= [FV t,FV r,FV lc,o4,o5])/\aB H H'/\bU cR (fun a=>a≠lc/\(H a=none∨Z a)) H' lc (cX P O S2 (S2.take k))) ⟨(aq none none rfl),g0,bU.new⟩ (fun k σ H' _ h=>aC.of (h.2.1 _ _ es)) ?_ ?_⟩⟩
  ·rintro k y σ H2 hy ⟨⟨o4,o5,rfl⟩,g2,cn⟩;rw[DE] at hy;obtain ⟨i,hi,rfl⟩:=DB.mp hy;refine ⟨_,rfl,aN r _ _ _ ⟨rfl,rfl,bx.of (g2 _ _ er),rfl,c,rfl,⟨_,aC.of (g2 _ _ es)⟩,aR (xs:=S2.map V.int) (fun m σ H'=>(∃o5:Option V,σ= [FV t,FV r,FV lc,some (.int i),o5])/\aB H H'/\bU cR (fun a=>a≠lc/\(H a=none∨Z a)) H' lc (cX P O S2 (S2.take k)++((S2.take m).filter fun j=> !decide (V.int i=V.int j)).map (fun j=>(P,O++ [[i,j]])))) ⟨⟨_,rfl⟩,g2,by simpa using cn⟩ (fun k σ H' _ h=>aC.of (h.2.1 _ _ es)) ?_ ?_⟩⟩
   ·rintro m y σ H3 hy ⟨⟨o5,rfl⟩,g3,vs,ev,rv⟩;rw[DE] at hy;obtain ⟨j,hj,rfl⟩:=DB.mp hy;refine ⟨_,rfl,_,rfl,rfl,_,rfl,n2 (fun c1=>?_) (fun c1=>⟨⟨_,rfl⟩,g3,vs,ev,by rw[aV hj,gL,if_pos c1,EQ];exact rv⟩)⟩
    have lz:vs.length<=1000:=by
     have h1:=rv.1;rw[D8,D3] at h1;have h2:=fQ (P:=P) (O:=O) (S:=S2) (S1:=S2.take k);have h3:(S2.take k).length*S2.length<=8*8:=Nat.mul_le_mul (by rw[Ds];omega) s8
     have h4:=Ek (fun j=> !decide (V.int i=V.int j)) (S2.take m)
     rw[Ds] at h4;omega
    refine ⟨_,rfl,.inl ⟨rfl,_,aC.of ev⟩,_,rfl,aN t _ _ _ ⟨rfl,rfl,bx.of (g3 _ _ ec),rfl,_,rfl,aN t _ _ _ ⟨rfl,rfl,bx.of (g3 _ _ ec),rfl,_,rfl,_,rfl,by show 2<=sizeLine;decide,fun t1 nt1=>⟨by show 1<=sizeLine;decide,fun l1 nl1=>?_⟩⟩⟩⟩
    have e2:=ag nt1 (.tup [.int i,.int j]);have e3:=ag nl1 (.lst [.ref t1]);have k3:=g3.trans (e2.trans e3);refine (aN ol l1 _ _ ⟨rfl,rfl,k3 _ _ eo,ah,by rw[D3];simp;omega,fun o no=>?_⟩)
    have hO':=gA (ro.imp fun a k q=>k3 _ _ q) (dR.one (k:= [i,j]) (a:=t1) (e3 _ _ ah)) no
    have e4:=ag no (.lst (bo.map V.ref++ [.ref t1]));refine ⟨by show 2<=sizeLine;decide,fun t2 nt2=>?_⟩
    have e5:=ag nt2 (.tup [.ref kl,.ref o]);have ge:=((e2.trans e3).trans e4).trans e5;refine (bH lc _ _ ⟨rfl,rfl,ge _ _ ev,by omega,⟨_,rfl⟩,du (g3.trans ge) nlc _,?_⟩)
    rw[aV hj,gL,if_neg c1,<-Dz];have ne:∀{a:Addr} {ob:HO},H a=some ob->a≠lc:=fun h z=>by rw[z,nlc] at h;cases h
    have nn:∀{Hx:Hp} {a:Addr},aB H3 Hx->Hx a=none->a≠lc:=fun g h z=>by rw[z,g _ _ ev] at h;cases h
    have zn:∀a,Z a->a≠lc/\(H a=none∨Z a):=fun a h=>⟨fun z=>hZ a h (by rw[z];exact nlc),.inr h⟩
    have t1P:t1≠lc/\(H t1=none∨Z t1):=⟨fun z=>(by rw[z,ev] at nt1;cases nt1),.inl (g3.free nt1)⟩
    refine bU.put (fun h=>h.1 rfl) (rv.imp fun _ _ q=>dA q ge) (bH t2 kl o ⟨rfl,⟨fun z=>(by rw[z,((e2.trans e3).trans e4) _ _ ev] at nt2;cases nt2),.inl ((g3.trans ((e2.trans e3).trans e4)).free nt2)⟩,zn _ zk,⟨fun z=>(by rw[z,(e2.trans e3) _ _ ev] at no;cases no),.inl ((g3.trans (e2.trans e3)).free no)⟩,ah,(g3.trans ge) _ _ ek,_,e5 _ _ ah,?_⟩)
    exact (rz.imp fun _ _ q=>iW (dA q (g3.trans ge)) zn).append (.one ⟨t1,rfl,t1P,((e3.trans e4).trans e5) _ _ ah⟩)
   ·rintro σ H3 ⟨⟨o5,rfl⟩,g3,cn⟩;rw[D3,DV] at cn;exact ⟨(aq _ _ rfl),g3,by rw[aV hi,jq];exact cn⟩
  ·rintro σ H2 ⟨⟨o4,o5,rfl⟩,g2,cn⟩;rw[D3,DV] at cn;exact ⟨_,rfl,q _ _ g2 nlc cn⟩
theorem Bu {dV:Value} (F:bn K "_law_leaf" "_law_leaf" zw dV f fd) (DZ48:Dx P w K mg base a8 2 "_law_total" ["_law_arcs","_law_chain"] [] og) (DZ52:Dx P w K mg base a8 2 "_law_work" ["_law_tasks","_law_case","_law_i","_law_name"] [] q8) (DZ53:Dx P w K mg base a8 2 "_law_front" ["_law_due_here","_law_cell","_law_i"] [] oG) (DZ54:Dx P w K mg base a8 2 "_law_back" ["_law_due_here","_law_cell","_law_i"] [] rj) (DZ55:Dx P w K mg base a8 1 "_law_order" ["_law_many_here","_law_cell"] [] oJ):bf P w K mg base a8 6 f fd ["_law_parts","_law_case","_law_due_here","_law_cell"] vm:=by
 have sc:aE ["_law_parts","_law_case","_law_due_here","_law_cell","_law_i","_law_j","_law_ring","_law_total_here","_law_some","_law_name","_law_work_here","_law_fronts","_law_backs","_law_head","_law_tail","_law_chain"] ["_law_parts","_law_case","_law_due_here","_law_cell"] (ar zw):=dn (by decide+kernel)
 refine F.ok sc (fun vs H Q E h=>?_) (fun cdv A outer s H vs Q E hr h=>?_)
 ·obtain ⟨_,_,_,_,_,_,_,_,_,_,rfl,_⟩:=h
  rfl
 refine qc h fun tp t dl x D T A ps n _hi=>?_
 refine eA _hi fun c _hj=>?_
 refine eC _hj fun _r1 pc hD q=>?_
 clear h _hi _hj;subst _r1;refine ⟨_,(ae (aQ PassesOwn.never rfl (aF (aA aK (pv 1) af (fun _ _=>rfl))) (cV rfl (aI (cM 4 sc) (aI (cM 5 sc) bX))) (ae (cJ 6 sc (@aU _ _ _ _ (@aa _ _ _ _ _ (am aY af (pv 4)) (@aa _ _ _ _ _ (am a7 (am aY af (pv 4)) af) (@aa _ _ _ _ _ (am aY af (pv 5)) (@aa _ _ _ _ _ (am a7 (am aY af (pv 5)) af) ac rfl) rfl) rfl) rfl))) (ae (cJ 7 sc (bL DZ48 hr (@aa _ _ _ _ _ (pv 2) (@aa _ _ _ _ _ (am cW (pv 6) (bO dy (pv 6) cK (bY af))) ac rfl) rfl))) (aj (aL (PW.pt (cF (ao b8 (am aS (pv 3) af) af (aD _)) (cF (ao fg (pv 7) aZ (aD _)) (bW (ao fR (pv 7) af (aD _)))))) (aj (au (@bj _ _ _ _ _ (@aa _ _ _ _ _ (@bj _ _ _ _ _ (@aa _ _ _ _ _ dh (@aa _ _ _ _ _ (pv 6) ac rfl) rfl)) (@aa _ _ _ _ _ aZ ac rfl) rfl)))) aw))))) (ae (cJ 8 sc (bL DZ55 hr (@aa _ _ _ _ _ (ay av rfl B.Ev boot_len (@aa _ _ _ _ _ (aA aK (pv 0) af (fun _ _=>rfl)) ac rfl)) (@aa _ _ _ _ _ (am aT (pv 3) af) ac rfl) rfl))) (ae (aL (PW.pt (cF (ao b8 (am aS (pv 3) af) af (aD _)) (bW (ao (iE hr.units0) (pv 8) (@aU _ _ _ _ ac) (aD _))))) (ae (fr (i:=9) sc.nd rfl (Or.inr rfl) (aA a9 (ay (nX rfl) rfl B.FD PyProof.Rows.Boot.«sorted» (@aa _ _ _ _ _ (aA aK (pv 0) af (fun _ _=>rfl)) ac rfl)) (am aS (am aT (pv 3) af) af) (fun _ _=>rfl))) (ae (cJ 10 sc (ay (gG rfl) rfl B.FA PyProof.Rows.Boot.«sum» (@aa _ _ _ _ _ (bG (own:= "_law_i") (ys:= ["_law_case","_law_name","_law_parts"]) (js:= [1,9,0]) rfl (cok (fU (fU (fU fT))) (.cons rfl (.cons rfl (.cons rfl .nil))) (by decide) rfl rfl rfl rfl rfl rfl rfl rfl) (aF (pv 8)) (fun C fp s H=>(bL DZ52 hr (@aa _ _ _ _ _ (aA (bu (K:=K) rfl) (pv 3) af (fun _ _=>rfl)) (@aa _ _ _ _ _ (pv 1) (@aa _ _ _ _ _ (pv 0) (@aa _ _ _ _ _ (pv 2) ac rfl) rfl) rfl) rfl)))) ac rfl))) (ae (fG (own:= "_law_i") (ys:= ["_law_due_here","_law_cell"]) (js:= [2,3]) sc.nd (i:=11) rfl rfl rfl (cok (fU (fU fT)) (.cons rfl (.cons rfl .nil)) (by decide) rfl rfl rfl rfl rfl rfl rfl rfl) (aF (pv 8)) (fun C fp s H=>(bL DZ53 hr (@aa _ _ _ _ _ (pv 1) (@aa _ _ _ _ _ (am aT (am aT (pv 2) af) (am a7 (pv 0) af)) (@aa _ _ _ _ _ (pv 0) ac rfl) rfl) rfl)))) (ae (fG (own:= "_law_i") (ys:= ["_law_due_here","_law_cell"]) (js:= [2,3]) sc.nd (i:=12) rfl rfl rfl (cok (fU (fU fT)) (.cons rfl (.cons rfl .nil)) (by decide) rfl rfl rfl rfl rfl rfl rfl rfl) (aF (pv 8)) (fun C fp s H=>(bL DZ54 hr (@aa _ _ _ _ _ (pv 1) (@aa _ _ _ _ _ (am aT (am aT (pv 2) af) (am a7 (pv 0) af)) (@aa _ _ _ _ _ (pv 0) ac rfl) rfl) rfl)))) (ae (cJ 13 sc (ay (cT rfl) rfl B.Fj boot_min (@aa _ _ _ _ _ (bG (own:= "_law_front_here") (ys:= ["_law_due_here"]) (js:= [2]) rfl (cok (fU fT) (.cons rfl .nil) (by decide) rfl rfl rfl rfl rfl rfl rfl rfl) (aF (pv 11)) (fun C fp s H=>(bL DZ48 hr (@aa _ _ _ _ _ (pv 1) (@aa _ _ _ _ _ (pv 0) ac rfl) rfl)))) ac rfl))) (ae (cJ 14 sc (ay (cT rfl) rfl B.Fj boot_min (@aa _ _ _ _ _ (bG (own:= "_law_back_here") (ys:= ["_law_due_here"]) (js:= [2]) rfl (cok (fU fT) (.cons rfl .nil) (by decide) rfl rfl rfl rfl rfl rfl rfl rfl) (aF (pv 12)) (fun C fp s H=>(bL DZ48 hr (@aa _ _ _ _ _ (pv 1) (@aa _ _ _ _ _ (pv 0) ac rfl) rfl)))) ac rfl))) (aj (au (@bj _ _ _ _ _ (@aa _ _ _ _ _ (@bj _ _ _ _ _ (@aa _ _ _ _ _ dh (@aa _ _ _ _ _ (pv 9) (@aa _ _ _ _ _ (pv 11) (@aa _ _ _ _ _ (pv 12) ac rfl) rfl) rfl) rfl)) (@aa _ _ _ _ _ (am gX (am a7 (pv 13) (pv 14)) (am aT (jD gY (pv 10)) (iz (gn hr) (aA aK (pv 0) af (fun _ _=>rfl)) (pv 9) (fun _ _=>rfl)))) ac rfl) rfl)))))))))) aw) (ae (cJ 4 sc (am aS (am aT (pv 3) af) (ay av rfl B.Ev boot_len (@aa _ _ _ _ _ (aA aK (pv 0) af (fun _ _=>rfl)) ac rfl)))) (ae (cJ 15 sc (bL DZ53 hr (@aa _ _ _ _ _ (pv 2) (@aa _ _ _ _ _ (am aT (pv 3) af) (@aa _ _ _ _ _ (pv 4) ac rfl) rfl) rfl))) (ae (cJ 15 sc (am cW (pv 15) (bL DZ54 hr (@aa _ _ _ _ _ (pv 2) (@aa _ _ _ _ _ (am aT (pv 3) af) (@aa _ _ _ _ _ (pv 4) ac rfl) rfl) rfl)))) (ae (aL (PW.pt (cF (ao b8 (am aS (pv 3) af) af (aD _)) (bW (ao b8 (am aS (am aT (pv 3) af) af) af (aD _))))) (aj (cJ 15 sc (@aU _ _ _ _ ac))) aw) (aj (au (@bj _ _ _ _ _ (@aa _ _ _ _ _ (@bj _ _ _ _ _ (@aa _ _ _ _ _ dh (@aa _ _ _ _ _ (pv 15) ac rfl) rfl)) (@aa _ _ _ _ _ (bL DZ48 hr (@aa _ _ _ _ _ (pv 2) (@aa _ _ _ _ _ (pv 15) ac rfl) rfl)) ac rfl) rfl))))))))))),?_⟩
 try dsimp only[cxK]
 have sl:sizeLine=16777216:=sizeLine_eq;refine fZ pc.part.ex fun td tl la pl _hi=>?_
 refine eC _hi fun etp etd hT _hj=>?_
 refine cZ _hj fun hA hP=>?_
 obtain ⟨vt,et,rT⟩:=id hT;have t4:=pc.t4;have t1:=pc.t1;have lv:=rT.1;have trF:=pc.trF;have l7:=pc.l7;have trK:=pc.trip;have n0:=pc.ok.n0;obtain ⟨kl,ol,ec,ek,bo,eo,ro⟩:=id pc.cs;have ot:=pc.cok.ord;have lbo:bo.length<=400:=by rw[ro.1];exact pc.cok.len
 try dsimp only[cu,df]
 refine cut (fun σ H'=>∃o4 o5 o6 o7:Option V,σ= [FV tp,FV t,FV dl,some (.int x),o4,o5,o6,o7,none,none,none,none,none,none,none,none]/\aB H H') (fun N hN=>?_) ?_
 ·refine ⟨_,rfl,aN t _ _ _ ⟨rfl,rfl,bx.of ec,rfl,ol,rfl,⟨_,aC.of eo⟩,aR (xs:=bo.map V.ref) (fun k σ H'=>∃o4 o5 o6 o7:Option V,σ= [FV tp,FV t,FV dl,some (.int x),o4,o5,o6,o7,none,none,none,none,none,none,none,none]/\aB H H') (aN none none none none ⟨rfl,.refl _⟩) (fun k σ H' _ ⟨_,_,_,_,_,g⟩=>aC.of (g _ _ eo)) ?_ (fun σ H' h=>hN _ _ h)⟩⟩
  rintro k y σ H1 hy ⟨o4,o5,o6,o7,rfl,g1⟩;obtain ⟨b,hb,rfl⟩:=cC hy;have il:k<c.2.length:=by rw[<-ro.1];exact (D5.mp hb).1
  have hk:=D4 il;have eb:=g1 _ _ (ro.2 k b _ hb hk);obtain ⟨i,j,e2,i0,i1,j0,j1⟩:=ot _ (DO il);rw[e2] at eb;refine (aq b _ ⟨rfl,bx.of eb,rfl,aq _ _ ⟨rfl,aq _ _ ⟨rfl,rfl,?_⟩⟩⟩);refine ⟨_,rfl,aq _ _ ⟨rfl,rfl,IntMulOk.of_left (by decide),_,rfl,aq _ _ ⟨rfl,rfl,IntMulOk.of_left (by decide),aq _ _ ⟨rfl,rfl,_,rfl,aq _ _ ⟨rfl,rfl,IntMulOk.of_left (by decide),_,rfl,aq _ _ ⟨rfl,rfl,IntMulOk.of_left (by decide),aq _ _ ⟨rfl,rfl,by show 4<=sizeLine;decide,fun lr nlr=>?_⟩⟩⟩⟩⟩⟩⟩
  have gr:=ag nlr (.lst [.int (2*i),.int (2*i+1),.int (2*j),.int (2*j+1)]);have er:aG H1 lr (.lst [.int (2*i),.int (2*i+1),.int (2*j),.int (2*j+1)]) lr=some (.lst ([2*i,2*i+1,2*j,2*j+1].map V.int)):=ah;generalize aG H1 lr (.lst [.int (2*i),.int (2*i+1),.int (2*j),.int (2*j+1)])=H2 at gr er⊢;have g2:=g1.trans gr;have lrn:=g1.free nlr;refine ⟨_,rfl,_,rfl,_,rfl,_,rfl,aq lr _ ⟨rfl,aC.of er,fun p1 np1=>?_⟩⟩
  have ct:fY ([2*i,2*i+1,2*j,2*j+1].map V.int) none (some 1)= [2*i].map V.int:=by
   rw[show (1:Int)=((1:Nat):Int) from rfl,gq (by simp)]
   rfl
  rw[ct];have e1:=ag np1 (.lst ([2*i].map V.int));refine (aN lr p1 _ _ ⟨rfl,rfl,e1 _ _ er,ah,(by show 4+1<=sizeLine;omega),fun p2 np2=>?_⟩)
  have e2':=ag np2 (.lst ([2*i,2*i+1,2*j,2*j+1].map V.int++ [2*i].map V.int));have g4:=g2.trans (e1.trans e2');refine (aN dl p2 ((bV T A c).map cw) ([2*i,2*i+1,2*j,2*j+1]++ [2*i]) ⟨rfl,fP (hD.same g4) trF,lJ l7,by rw[ah,DS],(by show 5<=700;decide),fun H5 g5=>?_⟩)
  have g05:=g4.trans g5;have ring:eY ((bV T A c).map cw) [2*i,2*i+1,2*j,2*j+1]=bP ((bV T A c).map cw) ([2*i,2*i+1,2*j,2*j+1]++ [2*i]):=if_neg nofun;have er5:=((e1.trans e2').trans g5) _ _ er;have skip:∃o4 o5 o6 o7:Option V,[some (.ref tp),some (.ref t),some (.ref dl),some (.int x),some (V.int i),some (V.int j),some (.ref lr),some (oV (bP ((bV T A c).map cw) ([2*i,2*i+1,2*j,2*j+1]++ [2*i]))),none,none,none,none,none,none,none,none]= [some (.ref tp),some (.ref t),some (.ref dl),some (.int x),o4,o5,o6,o7,none,none,none,none,none,none,none,none]/\aB H H5:=(aN _ _ _ _ ⟨rfl,g05⟩);refine ⟨_,rfl,aq _ _ ⟨rfl,rfl,(by show (4:Int)≠0;decide),rfl,_,rfl,d2 (fun _=>?_) (fun _=>skip)⟩⟩
  cases ho:bP ((bV T A c).map cw) ([2*i,2*i+1,2*j,2*j+1]++ [2*i]) with
  |none=>
   rw[ho] at skip;exact ⟨_,rfl,rfl,_,rfl,nF rfl skip⟩
  |some v=>
   rw[ho] at skip;refine ⟨_,rfl,rfl,_,rfl,nT nofun ⟨_,rfl,aq _ _ ⟨rfl,rfl,_,rfl,d2 (fun vp=>?_) (fun _=>skip)⟩⟩⟩
   refine ⟨_,rfl,by show 2<=sizeLine;decide,fun tr ntr=>⟨by show 2<=sizeLine;decide,fun tq ntq=>?_⟩⟩
   have e6:=ag ntr (.tup [.str "ring",.ref lr]);have e7:=ag ntq (.tup [.ref tr,.non]);refine q tq (.ref tr) none (.one "ring" [2*i,2*i+1,2*j,2*j+1]) _ (g05.trans (e6.trans e7)) ah ⟨tr,rfl,g05.free ntr,lr,lrn,e7 _ _ ah,(e6.trans e7) _ _ er5⟩ ⟨⟨⟨.inr (.inl rfl),by simp⟩,fun w hw=>by cases hw⟩,rfl,.inl ⟨rfl,_,rfl,?_⟩⟩
   have pt:da (2*(T.length:Int)+n) [2*i,2*i+1,2*j,2*j+1]=true:=qi fun p hp=>by
    simp only[DG,DZ,or_false] at hp;rcases hp with rfl|rfl|rfl|rfl<;>omega
   rw[pt,ring,ho,EC];exact decide_eq_true vp
 rintro σ H1 ⟨o4,o5,o6,o7,rfl,g1⟩;refine ⟨_,rfl,aN tp _ _ _ ⟨rfl,rfl,bx.of (g1 _ _ etp),rfl,aq tl _ ⟨rfl,.inl (aC.of (g1 _ _ et)),_,rfl,aq _ _ ⟨rfl,rfl,⟨by decide,DC (by decide)⟩,aq _ _ ⟨rfl,by omega,by omega,fun ls S3 H2 g2 els s4 rg nd=>?_⟩⟩⟩⟩⟩
 rw[lv] at rg;have k2:=g1.trans g2;have hD2:=hD.same k2;try dsimp only[cu,df]
 refine cut (fun σ H'=>σ= [FV tp,FV t,FV dl,some (.int x),o4,o5,o6,o7,FV ls,none,none,none,none,none,none,none]/\aB H H') (fun N hN=>?_) ?_
 ·refine ⟨_,rfl,aq _ _ ⟨rfl,rfl,(by show (4:Int)≠0;decide),rfl,_,rfl,d2 (fun _=>?_) (fun _=>cP (hN _ _ ⟨rfl,k2⟩))⟩⟩
  refine ⟨_,rfl,by show 0<=sizeLine;decide,fun le nle=>?_⟩
  have ge:=ag nle (.lst []);refine (bH ls le _ ⟨rfl,rfl,aC.of (ge _ _ els),aC.of ah,_,rfl,?_⟩);generalize aG H2 le (.lst [])=H3 at ge⊢;have k3:=k2.trans ge
  by_cases se:S3= []
  ·rw[se];exact cP (hN _ _ ⟨rfl,k3⟩)
  have re:(S3.map V.int).isEmpty=false:=by cases S3 with|nil=>exact absurd rfl se|cons _ _=>rfl
  have s1:1<=S3.length:=F0.mpr se;rw[re];clear hN;have els3:=ge _ _ els;have hD3:=hD2.same ge;refine cL ⟨_,rfl,aN tp _ _ _ ⟨rfl,rfl,bx.of (k3 _ _ etp),rfl,bH td (D.map (·.1)) _ ⟨rfl,k3 _ _ etd,vv,pc.ok.dnd,by rw[D3,pc.d2];decide,fun ln ys nln perm _=>?_⟩⟩⟩
  have gl:=ag nln (.lst (ys.map V.str));have eln:aG H3 ln (.lst (ys.map V.str)) ln=some (.lst (ys.map V.str)):=ah;generalize aG H3 ln (.lst (ys.map V.str))=H4 at gl eln⊢;have ly:ys.length=2:=by rw[perm.length_eq,D3,pc.d2]
  have m2:=fm (a:=x.fdiv 7) (n:=2) (by decide)
  have hz:=D4 (show ((x.fdiv 7).fmod 2).toNat<ys.length by omega)
  have az:gZ (ys.map V.str) ((x.fdiv 7).fmod 2)=some (.str (ys[((x.fdiv 7).fmod 2).toNat]'(by omega))):=by
   have:=a4 (dO (f:=V.str) hz)
   rwa [E7 m2.1] at this
  obtain ⟨pz,pm,_,mz⟩:=vw pc.ok.dnd (perm.mem_iff.mp (D6 hz));obtain ⟨_,pz1,pz2⟩:=pc.ok.tool pz pm;refine ⟨_,rfl,aq _ _ ⟨rfl,rfl,⟨by decide,DC (by decide)⟩,aq _ _ ⟨rfl,rfl,(by show (2:Int)≠0;decide),aN ln _ _ _ ⟨rfl,rfl,aC.of eln,az,?_⟩⟩⟩⟩
  generalize ys[((x.fdiv 7).fmod 2).toNat]'(by omega)=z0 at mz
  have k4:=k3.trans gl;have els4:=gl _ _ els3;have hD4:=hD3.same gl;have pc4:=pc.same k4;clear hz az perm nln eln;refine ⟨_,rfl,ls,rfl,⟨_,aC.of els4⟩,bv (dL V.int) (fun _=>False) (fun k=>dI T c.1 (S3.getD k 0).toNat z0) (aC.of els4) (by rw[D3];omega) (fun a h=>h.elim) (fun k y hy H5 g5 Q' hQ=>?_) fun lw H5 nlw g5 hw=>?_⟩
  ·rw[DE] at hy;obtain ⟨i,hi,rfl⟩:=DB.mp hy;obtain ⟨i0,i1⟩:=rg i (D6 hi);rw[aX hi] at hQ;have k5:=k4.trans g5;exact ⟨_,rfl,aN tp _ _ _ ⟨rfl,rfl,bx.of (k5 _ _ etp),rfl,_,rfl,_,rfl,_,rfl,eN tl t i.toNat z0 D T ⟨c.1,⟨by rw[E7 i0];rfl,⟨hT.same k5,⟨_,pc.cs.same k5⟩,pc.cok.pk,pc.ok.ways⟩,by omega,fun H6 g6=>hQ _ _ g6 rfl⟩⟩⟩⟩
  obtain ⟨us,eu,ru⟩:=hw;rw[ru.val,D3] at eu;have ews:(Dh S3.length).map (fun k=>dI T c.1 (S3.getD k 0).toNat z0)=S3.map fun i=>dI T c.1 i.toNat z0:=by
   conv=>rhs;rw[<-br S3 0]
   rw[DJ]
   rfl
  rw[ews] at eu;refine (aq lw _ ⟨rfl,aC.of eu,?_⟩);have k5:=k4.trans g5;have els5:=g5 _ _ els4;have hD5:=hD4.same g5;generalize hws:(S3.map fun i=>dI T c.1 i.toNat z0).sum=ws
  try dsimp only[cu,df]
  refine cut (fun σ H'=>∃lf F2,σ= [FV tp,FV t,FV dl,some (.int x),o4,o5,o6,o7,FV ls,some (.str z0),some (.int ws),FV lf,none,none,none,none]/\aB H5 H'/\H lf=none/\bU tf (fun a=>H a=none) H' lf F2/\F2.length=S3.length/\∀(k:Nat) (f:List Int) (i:Int),F2[k]?=some f->S3[k]?=some i->yk (bV T A c) (2*(T.length:Int)+n) i f) (fun N hN=>?_) ?_
  ·refine ⟨_,rfl,ls,rfl,⟨_,aC.of els5⟩,bv (BK (yk (bV T A c) (2*(T.length:Int)+n))) (fun _=>False) (fun k=>S3.getD k 0) (aC.of els5) (by rw[D3];omega) (fun a h=>h.elim) (fun j y hy H2 g2 Q' hQ=>?_) fun lf H3 nlf glf hlf=>?_⟩
   ·rw[DE] at hy;obtain ⟨i,hi,rfl⟩:=DB.mp hy;obtain ⟨i0,i1⟩:=rg i (D6 hi);rw[aX hi] at hQ;exact ⟨_,rfl,_,rfl,aq _ _ ⟨rfl,rfl,⟨by decide,DC (by decide)⟩,_,rfl,aq _ _ ⟨rfl,rfl,aq _ _ ⟨rfl,rfl,⟨by omega,DC (by omega)⟩,_,rfl,aN dl _ i.toNat _ ⟨_,⟨by rw[E7 i0];rfl,hD5.same g2,trK,by omega,fun l C H' nl g' el l4 sh pr ai=>hQ _ _ g' ⟨C,⟨l4,by rw[E7 i0] at sh;exact sh,pr,ai⟩,oz (.inl nl) el⟩⟩⟩⟩⟩⟩⟩
   obtain ⟨vf,ef,rf0⟩:=hlf;rw[D3,br] at rf0;obtain ⟨F2,rf,lF,fok⟩:=rf0.si;exact hN _ _ (aq lf F2 ⟨rfl,glf,k5.free nlf,⟨vf,ef,rf.imp fun _ _ q=>iW q fun a h=>k5.free (h.2.elim id False.elim)⟩,lF,fok⟩)
  intro σ H6 h_;refine pd h_ fun lf F2 _hi=>?_
  refine f9 _hi fun _r1 g6 lfn hF lF fok=>?_
  clear h_ _hi;subst _r1;have k6:=k5.trans g6;have els6:=g6 _ _ els5;have hD6:=hD5.same g6;try dsimp only[cu,df]
  refine cut (fun σ H'=>∃lb G,σ= [FV tp,FV t,FV dl,some (.int x),o4,o5,o6,o7,FV ls,some (.str z0),some (.int ws),FV lf,FV lb,none,none,none]/\aB H6 H'/\H lb=none/\bU tf (fun a=>H a=none) H' lb G/\G.length=S3.length/\∀(k:Nat) (f:List Int) (i:Int),G[k]?=some f->S3[k]?=some i->yl (bV T A c) (2*(T.length:Int)+n) i f) (fun N hN=>?_) ?_
  ·refine ⟨_,rfl,ls,rfl,⟨_,aC.of els6⟩,bv (BK (yl (bV T A c) (2*(T.length:Int)+n))) (fun _=>False) (fun k=>S3.getD k 0) (aC.of els6) (by rw[D3];omega) (fun a h=>h.elim) (fun j y hy H2 g2 Q' hQ=>?_) fun lb H3 nlb glb hlb=>?_⟩
   ·rw[DE] at hy;obtain ⟨i,hi,rfl⟩:=DB.mp hy;obtain ⟨i0,i1⟩:=rg i (D6 hi);rw[aX hi] at hQ;exact ⟨_,rfl,_,rfl,aq _ _ ⟨rfl,rfl,⟨by decide,DC (by decide)⟩,_,rfl,aq _ _ ⟨rfl,rfl,aq _ _ ⟨rfl,rfl,⟨by omega,DC (by omega)⟩,_,rfl,aN dl _ i.toNat _ ⟨_,⟨by rw[E7 i0];rfl,hD6.same g2,trK,by omega,fun l C H' nl g' el l4 sh pr ai=>hQ _ _ g' ⟨C,⟨l4,by rw[E7 i0] at sh;exact sh,pr,ai⟩,oz (.inl nl) el⟩⟩⟩⟩⟩⟩⟩
   obtain ⟨vf,ef,rf0⟩:=hlb;rw[D3,br] at rf0;obtain ⟨G,rf,lG,gok⟩:=rf0.si;exact hN _ _ (aq lb G ⟨rfl,glb,k6.free nlb,⟨vf,ef,rf.imp fun _ _ q=>iW q fun a h=>k6.free (h.2.elim id False.elim)⟩,lG,gok⟩)
  intro σ H7 h_;refine pd h_ fun lb G _hi=>?_
  refine f9 _hi fun _r1 g7 lbn hG lG gok=>?_
  clear h_ _hi;subst _r1;have k7:=k6.trans g7;have hD7:=hD6.same g7;have hF7:=hF.same g7;have fl:∀f∈F2,f.length<=4/\∃t,bP ((bV T A c).map cw) f=some t:=fun f hf=>by
   obtain ⟨k,hk⟩:=DR.mp hf;have kl:=(D5.mp hk).1;have:=fok k f _ hk (D4 (show k<S3.length by omega))
   exact ⟨this.1,gB this.2.2.2⟩
  have gl':∀f∈G,f.length<=4/\∃t,bP ((bV T A c).map cw) f=some t:=fun f hf=>by
   obtain ⟨k,hk⟩:=DR.mp hf;have kl:=(D5.mp hk).1;have:=gok k f _ hk (D4 (show k<S3.length by omega))
   exact ⟨this.1,gB this.2.2.2⟩
  try dsimp only[cu,df]
  refine cut (fun σ H'=>σ= [FV tp,FV t,FV dl,some (.int x),o4,o5,o6,o7,FV ls,some (.str z0),some (.int ws),FV lf,FV lb,some (.int (dH ((bV T A c).map cw) F2)),none,none]/\aB H7 H') (fun N hN=>?_) ?_
  ·obtain ⟨vf,ef,rf⟩:=id hF7;have lvf:=rf.1;refine ⟨_,rfl,lf,rfl,⟨_,aC.of ef⟩,bv (dL V.int) (fun _=>False) (fun k=>(bP ((bV T A c).map cw) (F2.getD k [])).getD 0) (aC.of ef) (by omega) (fun a h=>h.elim) (fun k y hy H8 g8 Q' hQ=>?_) fun lm H8 nlm g8 hm=>?_⟩
   ·obtain ⟨f,hf,hc⟩:=rf.at_ hy;obtain ⟨cf,rfl,_,ecf⟩:=iK hc;obtain ⟨f4,tt,ett⟩:=fl f (D6 hf);rw[aX hf,ett] at hQ;refine ⟨_,rfl,_,rfl,aN dl cf ((bV T A c).map cw) f ⟨rfl,fP ((hD7.same g8)) trF,lJ l7,g8 _ _ ecf,by omega,fun H9 g9=>?_⟩⟩
    rw[ett];exact hQ _ _ g9 rfl
   obtain ⟨us,eu,ru⟩:=hm;rw[ru.val,lvf] at eu;have eM:(Dh F2.length).map (fun k=>(bP ((bV T A c).map cw) (F2.getD k [])).getD 0)=F2.map fun f=>(bP ((bV T A c).map cw) f).getD 0:=by
    conv=>rhs;rw[<-br F2 []]
    rw[DJ]
    rfl
   rw[eM] at eu;refine (aq lm _ ⟨rfl,aC.of eu,fun e=>?_,fun M hM hle=>?_⟩)
   ·have:=congrArg List.length e;rw[D3,List.length_nil] at this;omega
   ·rw[dP hM hle];exact hN _ _ ⟨rfl,g8⟩
  rintro σ H8 ⟨rfl,g8⟩;have hD8:=hD7.same g8;have hG8:=hG.same g8;try dsimp only[cu,df]
  refine cut (fun σ H'=>σ= [FV tp,FV t,FV dl,some (.int x),o4,o5,o6,o7,FV ls,some (.str z0),some (.int ws),FV lf,FV lb,some (.int (dH ((bV T A c).map cw) F2)),some (.int (dH ((bV T A c).map cw) G)),none]/\aB H8 H') (fun N hN=>?_) ?_
  ·obtain ⟨vf,ef,rf⟩:=id hG8;have lvf:=rf.1;refine ⟨_,rfl,lb,rfl,⟨_,aC.of ef⟩,bv (dL V.int) (fun _=>False) (fun k=>(bP ((bV T A c).map cw) (G.getD k [])).getD 0) (aC.of ef) (by omega) (fun a h=>h.elim) (fun k y hy H8 g8 Q' hQ=>?_) fun lm H8 nlm g8 hm=>?_⟩
   ·obtain ⟨f,hf,hc⟩:=rf.at_ hy;obtain ⟨cf,rfl,_,ecf⟩:=iK hc;obtain ⟨f4,tt,ett⟩:=gl' f (D6 hf);rw[aX hf,ett] at hQ;refine ⟨_,rfl,_,rfl,aN dl cf ((bV T A c).map cw) f ⟨rfl,fP ((hD8.same g8)) trF,lJ l7,g8 _ _ ecf,by omega,fun H9 g9=>?_⟩⟩
    rw[ett];exact hQ _ _ g9 rfl
   obtain ⟨us,eu,ru⟩:=hm;rw[ru.val,lvf] at eu;have eM:(Dh G.length).map (fun k=>(bP ((bV T A c).map cw) (G.getD k [])).getD 0)=G.map fun f=>(bP ((bV T A c).map cw) f).getD 0:=by
    conv=>rhs;rw[<-br G []]
    rw[DJ]
    rfl
   rw[eM] at eu;refine (aq lm _ ⟨rfl,aC.of eu,fun e=>?_,fun M hM hle=>?_⟩)
   ·have:=congrArg List.length e;rw[D3,List.length_nil] at this;omega
   ·rw[dP hM hle];exact hN _ _ ⟨rfl,g8⟩
  rintro σ H9 ⟨rfl,g9⟩;have k9:=(k7.trans g8).trans g9;refine ⟨_,rfl,_,rfl,_,rfl,by show 4<=sizeLine;decide,fun tr ntr=>?_⟩
  have e10:=ag ntr (.tup [.str "full",.str z0,.ref lf,.ref lb]);have k10:=k9.trans e10;refine ⟨_,rfl,_,rfl,aq _ _ ⟨rfl,rfl,_,rfl,_,rfl,_,rfl,aN tp _ _ _ ⟨rfl,rfl,bx.of (k10 _ _ etp),rfl,_,rfl,aq td _ ⟨rfl,jY (.inl (k10 _ _ etd)) mz,aq _ _ ⟨rfl,rfl,⟨by omega,DC (by omega)⟩,aq _ _ ⟨rfl,rfl,by show 2<=sizeLine;decide,fun tq ntq=>?_⟩⟩⟩⟩⟩⟩
  have e11:=ag ntq (.tup [.ref tr,.int (dH ((bV T A c).map cw) F2+dH ((bV T A c).map cw) G-(-ws).fdiv pz.2)]);have kk:=(g8.trans g9).trans (e10.trans e11);refine q tq (.ref tr) (some (dH ((bV T A c).map cw) F2+dH ((bV T A c).map cw) G-(-ws).fdiv pz.2)) (.full z0 F2 G) _ (k10.trans e11) ah ⟨tr,rfl,k9.free ntr,aq lf lb ⟨lfn,lbn,e11 _ _ ah,hF7.same kk,hG.same kk⟩⟩ ⟨⟨⟨by omega,by omega,fun f hf=>by have:=(fl f hf).1;omega,fun f hf=>by have:=(gl' f hf).1;omega⟩,fun w hw=>by cases hw⟩,rfl,.inr ⟨_,rfl,trivial,?_⟩⟩
  show gh D T c.1 ((bV T A c).map cw) (2*(T.length:Int)+n) z0 F2 G=_;rw[w6 mz se nd rg lF lG fok gok,hws]
  congr 1
 rintro σ H3 ⟨rfl,k3⟩;have hD3:=hD.same k3;refine ⟨_,rfl,aq _ _ ⟨rfl,rfl,⟨by decide,DC (by decide)⟩,_,rfl,aN tp _ _ _ ⟨rfl,rfl,bx.of (k3 _ _ etp),rfl,aq tl _ ⟨rfl,.inl (aC.of (k3 _ _ et)),?_⟩⟩⟩⟩
 rw[lv];have mi:=fm (a:=x.fdiv 4) (n:=(T.length:Int)) (by omega)
 refine (aq _ _ ⟨rfl,rfl,by omega,?_⟩)
 dsimp only;obtain ⟨i,hi⟩:∃i:Nat,(x.fdiv 4).fmod (T.length:Int)=(i:Int):=⟨((x.fdiv 4).fmod (T.length:Int)).toNat,by omega⟩
 rw[hi] at mi⊢;refine ⟨_,rfl,_,rfl,aq _ _ ⟨rfl,rfl,⟨by decide,DC (by decide)⟩,_,rfl,aN dl _ i _ ⟨_,⟨rfl,hD3,trK,by omega,fun l1 C1 H4 nl1 g4 el1 c14 sh1 pt1 ai1=>?_⟩⟩⟩⟩
 have hD4:=hD3.same g4;refine ⟨_,rfl,_,rfl,_,rfl,aq _ _ ⟨rfl,rfl,⟨by decide,DC (by decide)⟩,_,rfl,aN dl _ i _ ⟨_,⟨rfl,hD4,trK,by omega,fun l2 C2 H5 nl2 g5 el2 c24 sh2 pt2 ai2=>(aN l1 l2 _ _ ⟨rfl,rfl,g5 _ _ el1,el2,by rw[D3,D3];omega,fun lc nlc=>?_⟩)⟩⟩⟩⟩
 have gc:=ag nlc (.lst (C1.map V.int++C2.map V.int));have elc:aG H5 lc (.lst (C1.map V.int++C2.map V.int)) lc=some (.lst ((C1++C2).map V.int)):=by rw[ah,DS]
 have lcn:H lc=none:=(k3.trans (g4.trans g5)).free nlc;generalize aG H5 lc (.lst (C1.map V.int++C2.map V.int))=H6 at gc elc⊢;have k6:=k3.trans ((g4.trans g5).trans gc);obtain ⟨tt,ett⟩:∃tt,bP ((bV T A c).map cw) (C1++C2)=some tt:=by
  obtain ⟨D1,rfl⟩:=sh1;obtain ⟨D2,rfl⟩:=sh2;exact gB (lO (vn (by omega)) ai2 ai1)
 have ptc:da (2*(T.length:Int)+n) (C1++C2)=true:=qi fun p hp=>by
  rcases DM.mp hp with h|h
  ·exact pt1 p h
  ·exact pt2 p h
 have lC:(C1++C2).length<=8:=by rw[D8];omega
 generalize C1++C2=C0 at elc ett ptc lC;try dsimp only[cu,df]
 refine cut (fun σ H'=>∃(lc:Addr) (C:List Int) (tt:Int),σ= [FV tp,FV t,FV dl,some (.int x),some (.int (i:Int)),o5,o6,o7,FV ls,none,none,none,none,none,none,FV lc]/\aB H H'/\H lc=none/\H' lc=some (.lst (C.map V.int))/\C.length<=8/\da (2*(T.length:Int)+n) C=true/\bP ((bV T A c).map cw) C=some tt) (fun N hN=>?_) ?_
 ·have keep:=hN _ _ (bH lc C0 tt ⟨rfl,k6,lcn,elc,lC,ptc,ett⟩);refine ⟨_,rfl,aq _ _ ⟨rfl,rfl,(by show (4:Int)≠0;decide),rfl,_,rfl,d2 (fun _=>⟨_,rfl,aq _ _ ⟨rfl,rfl,⟨by decide,DC (by decide)⟩,aq _ _ ⟨rfl,rfl,(by show (3:Int)≠0;decide),rfl,_,rfl,d2 (fun _=>?_) (fun _=>keep)⟩⟩⟩) (fun _=>cP keep)⟩⟩
  refine ⟨by show 0<=sizeLine;decide,fun le nle=>hN _ _ (bH le [] 0 ⟨rfl,k6.trans (ag nle _),k6.free nle,ah,by simp,rfl,rfl⟩)⟩
 intro σ H7 h_;refine ko h_ fun lc C tt _hi=>?_
 refine f9 _hi fun _r1 k7 lcn elc lC _hj=>?_
 refine cZ _hj fun ptc ett=>?_
 clear h_ _hi _hj;subst _r1;refine ⟨_,rfl,by show 2<=sizeLine;decide,fun tr ntr=>?_⟩
 have e8:=ag ntr (.tup [.str "chain",.ref lc]);refine ⟨_,rfl,_,rfl,aN dl lc ((bV T A c).map cw) C ⟨rfl,fP (hD.same (k7.trans e8)) trF,lJ l7,e8 _ _ elc,by omega,fun H9 g9=>?_⟩⟩
 rw[ett];refine ⟨by show 2<=sizeLine;decide,fun tq ntq=>?_⟩
 have e10:=ag ntq (.tup [.ref tr,.int tt]);refine q tq (.ref tr) (some tt) (.one "chain" C) _ (k7.trans (e8.trans (g9.trans e10))) ah ⟨tr,rfl,k7.free ntr,lc,lcn,(g9.trans e10) _ _ ah,(e8.trans (g9.trans e10)) _ _ elc⟩ ⟨⟨⟨.inl rfl,by omega⟩,fun w hw=>by cases hw⟩,rfl,.inr ⟨tt,rfl,(show ("chain" :Str)≠ "ring" by decide),?_⟩⟩
 rw[jp,if_pos ptc];exact ett
theorem Bv {dV:Value} (F:bn K "_law_paper" "_law_paper" zx dV f fd) (DZ50:Dx P w K mg base a8 2 "_law_due" ["_law_arcs","_law_tasks","_law_case"] [] uW) (DZ60:Dx P w K mg base a8 5 "_law_inner" ["_law_parts","_law_case","_law_cell"] [] mW) (DZ61:Dx P w K mg base a8 1 "_law_cases" ["_law_case","_law_row"] [] kn) (DZ62:Dx P w K mg base a8 6 "_law_leaf" ["_law_parts","_law_case","_law_due_here","_law_cell"] [] vm):bf P w K mg base a8 7 f fd ["_law_parts","_law_cells"] rK:=by
 have sc:aE ["_law_parts","_law_cells","_law_paper_here","_law_totals","_law_pile","_law_room","_law_cell","_law_case","_law_row","_law_due_here","_law_total_here"] ["_law_parts","_law_cells"] (ar zx):=dn (by decide+kernel)
 refine F.ok sc (fun vs H Q E h=>?_) (fun cdv A outer s H vs Q E hr h=>?_)
 ·obtain ⟨_,_,_,_,_,_,_,_,rfl,_⟩:=h
  rfl
 refine fK h fun tp lc cs D T A _hi=>?_
 refine pd _hi fun ps n _hj=>?_
 refine eC _hj fun _r1 st ec _hk=>?_
 refine cZ _hk fun c63 q=>?_
 clear h _hi _hj _hk;subst _r1;refine ⟨_,(ae (cJ 2 sc (@aU _ _ _ _ ac)) (ae (cJ 3 sc (@aU _ _ _ _ ac)) (ae (cJ 4 sc (@aU _ _ _ _ (@aa _ _ _ _ _ (@bj _ _ _ _ _ (@aa _ _ _ _ _ (bG (own:= "_law_task") (ys:= []) (js:= []) rfl (cok fT .nil (by decide) rfl rfl rfl rfl rfl rfl rfl rfl) (aF (aA aK (pv 0) af (fun _ _=>rfl))) (fun C fp s H=>aZ)) (@aa _ _ _ _ _ (@aU _ _ _ _ ac) ac rfl) rfl)) ac rfl))) (ae (cJ 5 sc af) (ae (aQ PassesOwn.never rfl (aF (pv 1)) (cM 6 sc) (ae (aL (ao (jN hr.units0) (pv 4) (@aU _ _ _ _ ac) (aD _)) (aj tT) aw) (ae (cJ 7 sc (jG DK PySem.F.slot_list_pop PySem.F.type_list_pop pJ (pv 4))) (ae (cJ 8 sc aZ) (ae (aL (PW.pt (cF (ao fR (pv 5) af (aD _)) (bW (ao eT (am aS (pv 6) af) af (aD _))))) (aj (cJ 8 sc (bL DZ60 hr (@aa _ _ _ _ _ (pv 0) (@aa _ _ _ _ _ (pv 7) (@aa _ _ _ _ _ (am aT (pv 6) af) ac rfl) rfl) rfl)))) aw) (ae (aL (ao fu (pv 8) aZ (aD _)) (ae (cJ 9 sc (bL DZ50 hr (@aa _ _ _ _ _ (aA aK (pv 0) af (fun _ _=>rfl)) (@aa _ _ _ _ _ (aA aK (pv 0) af (fun _ _=>rfl)) (@aa _ _ _ _ _ (pv 7) ac rfl) rfl) rfl))) (ae (jC (bL DZ62 hr (@aa _ _ _ _ _ (pv 0) (@aa _ _ _ _ _ (pv 7) (@aa _ _ _ _ _ (pv 9) (@aa _ _ _ _ _ (am aT (pv 6) af) ac rfl) rfl) rfl) rfl)) (cV rfl (aI (cM 8 sc) (aI (cM 10 sc) bX)))) (aj (aL (ao fg (pv 10) aZ (aD _)) (aj (bC (dt DK DU DT a6 (pv 3) (@aa _ _ _ _ _ (pv 10) ac rfl)))) aw)))) (ae (cJ 5 sc (am gX (pv 5) af)) (aj (bC (dt DK PySem.F.slot_list_extend PySem.F.type_list_extend iP (pv 4) (@aa _ _ _ _ _ (hV rfl rfl B.Fe rfl B.Fl boot_list PyProof.Rows.Boot.«reversed» (bL DZ61 hr (@aa _ _ _ _ _ (pv 7) (@aa _ _ _ _ _ (pv 8) ac rfl) rfl))) ac rfl)))))) (aj (bC (dt DK DU DT a6 (pv 2) (@aa _ _ _ _ _ (pv 8) ac rfl)))))))))) (ae (aQ PassesOwn.never rfl (aF (pv 4)) (cM 7 sc) (ae (bC (dt DK DU DT a6 (pv 2) (@aa _ _ _ _ _ (@bj _ _ _ _ _ (@aa _ _ _ _ _ dh (@aa _ _ _ _ _ (@aU _ _ _ _ ac) ac rfl) rfl)) ac rfl))) (aj (bC (dt DK DU DT a6 (pv 3) (@aa _ _ _ _ _ af ac rfl)))))) (aj (au (@bj _ _ _ _ _ (@aa _ _ _ _ _ (pv 2) (@aa _ _ _ _ _ (pv 3) ac rfl) rfl)))))))))),?_⟩
 try dsimp only[cxK]
 have sl:sizeLine=16777216:=sizeLine_eq;refine fZ st.part.ex fun td tl la pl _hi=>?_
 refine eC _hi fun etp etd hT _hj=>?_
 refine cZ _hj fun hA hP=>?_
 obtain ⟨vt,et,rT⟩:=id hT;have t4:=st.t4;have lv:=rT.1;refine ⟨by show 0<=sizeLine;decide,fun lp nlp=>?_⟩
 have g1:=ag nlp (.lst []);have ep1:aG H lp (.lst []) lp=some (.lst []):=ah;generalize aG H lp (.lst [])=H1 at g1 ep1⊢;refine ⟨by show 0<=sizeLine;decide,fun lt nlt=>?_⟩
 have g2:=ag nlt (.lst []);have et2:aG H1 lt (.lst []) lt=some (.lst []):=ah;generalize aG H1 lt (.lst [])=H2 at g2 et2⊢;have ep2:=g2 _ _ ep1;have k2:=g1.trans g2;refine ⟨_,rfl,aN tp _ _ _ ⟨rfl,rfl,bx.of (k2 _ _ etp),rfl,tl,rfl,⟨_,aC.of (k2 _ _ et)⟩,bv (dL fM) (fun _=>False) (fun _=>none) (aC.of (k2 _ _ et)) (by omega) (fun a h=>h.elim) (fun i y hy H3 g3 Q' hQ=>hQ _ _ (.refl _) rfl) fun kl H3 nkl g3 hk=>?_⟩⟩
 obtain ⟨us,ek,rk⟩:=hk;rw[rk.val,lv] at ek;refine ⟨by show 0<=sizeLine;decide,fun ol nol=>⟨by show 2<=sizeLine;decide,fun t0 nt0=>⟨by show 1<=sizeLine;decide,fun lq nlq=>?_⟩⟩⟩
 have e4:=ag nol (.lst []);have e5:=ag nt0 (.tup [.ref kl,.ref ol]);have e6:=ag nlq (.lst [.ref t0]);have k6:=k2.trans (g3.trans ((e4.trans e5).trans e6));have ep6:=(g3.trans ((e4.trans e5).trans e6)) _ _ ep2;have et6:=(g3.trans ((e4.trans e5).trans e6)) _ _ et2;have ek6:=((e4.trans e5).trans e6) _ _ ek;have eol6:aG (aG (aG H3 ol (.lst [])) t0 (.tup [.ref kl,.ref ol])) lq (.lst [.ref t0]) ol=some (.lst []):=(e5.trans e6) _ _ ah;have et06:aG (aG (aG H3 ol (.lst [])) t0 (.tup [.ref kl,.ref ol])) lq (.lst [.ref t0]) t0=some (.tup [.ref kl,.ref ol]):=e6 _ _ ah;have eq6:aG (aG (aG H3 ol (.lst [])) t0 (.tup [.ref kl,.ref ol])) lq (.lst [.ref t0]) lq=some (.lst [.ref t0]):=ah;have pt:lp≠lt:=fun z=>by rw[<-z,ep1] at nlt;cases nlt
 have qp:lq≠lp:=fun z=>by rw[z,(g3.trans (e4.trans e5)) _ _ ep2] at nlq;cases nlq
 have qt:lq≠lt:=fun z=>by rw[z,(g3.trans (e4.trans e5)) _ _ et2] at nlq;cases nlq
 have pn:H lp=none:=nlp;have tn:H lt=none:=g1.free nlt;have qn:H lq=none:=(k2.trans (g3.trans (e4.trans e5))).free nlq;have Pkl:kl≠lp/\kl≠lt/\kl≠lq:=⟨fun z=>(by rw[z,ep2] at nkl;cases nkl),fun z=>(by rw[z,et2] at nkl;cases nkl),fun z=>(by rw[<-z,(e4.trans e5) _ _ ek] at nlq;cases nlq)⟩
 have Pol:ol≠lp/\ol≠lt/\ol≠lq:=⟨fun z=>(by rw[z,g3 _ _ ep2] at nol;cases nol),fun z=>(by rw[z,g3 _ _ et2] at nol;cases nol),fun z=>(by rw[<-z,e5 _ _ ah] at nlq;cases nlq)⟩
 generalize aG (aG (aG H3 ol (.lst [])) t0 (.tup [.ref kl,.ref ol])) lq (.lst [.ref t0])=H6 at k6 ep6 et6 ek6 eol6 et06 eq6⊢;have Pt0:t0≠lp/\t0≠lt/\t0≠lq:=⟨fun z=>(by rw[z,ep6] at et06;cases et06),fun z=>(by rw[z,et6] at et06;cases et06),fun z=>(by rw[z,eq6] at et06;cases et06)⟩
 have hq0:bU cR (fun a=>a≠lp/\a≠lt/\a≠lq) H6 lq (cI T).reverse:=⟨_,eq6,A2.one (bH t0 kl ol ⟨rfl,Pt0,Pkl,Pol,et06,ek6,_,eol6,A2.nil⟩)⟩
 have hp0:bU ju (fun a=>a≠lp/\a≠lt/\a≠lq) H6 lp []:=⟨_,ep6,A2.nil⟩
 clear Pkl Pol Pt0 ek6 eol6 et06 eq6 ep6 nlp nlt nlq nol nt0 nkl e4 e5 e6 g3 g2 g1 k2 ep1 ep2 et2 ek rk;obtain ⟨P,hPd⟩:∃P:Addr->Prop,P=fun a=>a≠lp/\a≠lt/\a≠lq:=⟨_,rfl⟩
 have nPp:¬P lp:=fun z=>by rw[hPd] at z;exact z.1 rfl
 have nPt:¬P lt:=fun z=>by rw[hPd] at z;exact z.2.1 rfl
 have nPq:¬P lq:=fun z=>by rw[hPd] at z;exact z.2.2 rfl
 have newP:∀(G:Hp) (xs ys zs:List V),G lp=some (.lst xs)->G lt=some (.lst ys)->G lq=some (.lst zs)->∀a,G a=none->P a:=fun G xs ys zs h1 h2 h3 a ha=>by
  rw[hPd];exact ⟨fun z=>(by rw[z,h1] at ha;cases ha),fun z=>(by rw[z,h2] at ha;cases ha),fun z=>(by rw[z,h3] at ha;cases ha)⟩
 rw[<-hPd] at hq0 hp0;try dsimp only[cu,df]
 refine cut (fun σ H'=>σ= [FV tp,FV lc,FV lp,FV lt,FV lq,some (.int 4),none,none,none,none,none]/\H6=H') (fun N hN=>hN _ _ ⟨rfl,rfl⟩) ?_
 rintro σ _ ⟨rfl,rfl⟩;try dsimp only[cu,df]
 refine cut (fun σ H'=>∃(o5 o6 o7 o8 o9 o10:Option V) (m:Nat) (rs:List cY) (ts:List Int) (pq:Cs),σ= [FV tp,FV lc,FV lp,FV lt,FV lq,o5,o6,o7,o8,o9,o10]/\aB H H'/\bU ju P H' lp rs/\H' lt=some (.lst (ts.map V.int))/\bU cR P H' lq pq.reverse/\pi D T A (bt ps) n m rs ts pq/\rs.length<=63/\ts.length<=63/\m<=4) (fun N hN=>?_) ?_
 ·refine ⟨_,rfl,lc,rfl,⟨_,aC.of (k6 _ _ ec)⟩,aR (xs:=cs.map V.int) (fun k σ H'=>∃(o6 o7 o8 o9 o10:Option V) (m:Nat) (rs:List cY) (ts:List Int) (pq:Cs),σ= [FV tp,FV lc,FV lp,FV lt,FV lq,some (.int (4-(m:Int))),o6,o7,o8,o9,o10]/\aB H H'/\bU ju P H' lp rs/\H' lt=some (.lst (ts.map V.int))/\bU cR P H' lq pq.reverse/\pi D T A (bt ps) n m rs ts pq/\rs.length<=k/\ts.length<=k/\m<=4) (kW none none none none none 0 [] [] _ ⟨rfl,k6,hp0,et6,hq0,.nil,D9 _,D9 _,by decide⟩) (fun k σ H' _ ⟨_,_,_,_,_,_,_,_,_,_,g,_⟩=>aC.of (g _ _ ec)) ?_ ?_⟩
  ·intro k y σ H7 hy h_;refine qc h_ fun o6 o7 o8 o9 o10 m rs ts pq _hi=>?_
   refine ph _hi fun _r1 g7 _r2 elt _r3 pap rl tlm m4=>?_
   clear h_ _hi;subst _r1;obtain ⟨vp,ep,rp⟩:=_r2;obtain ⟨vq,eq',rq⟩:=_r3;have kl':k<cs.length:=by have:=(D5.mp hy).1;rw[D3] at this;exact this
   rw[DE] at hy;obtain ⟨x,hx,rfl⟩:=DB.mp hy;obtain ⟨okr,okm,okl,okc⟩:=qr pap;have lvq:=rq.1;rw[Dv] at lvq;refine ⟨_,rfl,by show 0<=sizeLine;decide,fun le nle=>?_⟩
   have ge:=ag nle (.lst []);refine (bH lq le _ ⟨rfl,rfl,aC.of (ge _ _ eq'),aC.of ah,_,rfl,?_⟩);generalize aG H7 le (.lst [])=H8 at ge⊢;replace ep:=ge _ _ ep;replace elt:=ge _ _ elt;replace eq':=ge _ _ eq';replace rp:=rp.imp fun _ _ q=>dA q ge
   replace rq:=rq.imp fun _ _ q=>dA q ge
   replace g7:=g7.trans ge;clear ge nle
   match pq,rq,lvq,pap,okl,okc with
   | [],rq,lvq,pap,okl,okc=>
    have:vq= []:=Dg lvq;subst this;exact cL (hN _ _ (kW _ _ _ _ _ _ m rs ts ⟨[],⟨rfl,g7,⟨vp,ep,rp⟩,elt,⟨_,eq',rq⟩,pap,by omega,by omega,m4⟩⟩))
   |c::p0,rq,lvq,pap,okl,okc=>
   rw[List.reverse_cons] at rq;obtain ⟨us0,u,rfl,ru,rl0⟩:=rq.unsnoc;have re:(us0++ [u]).isEmpty=false:=by cases us0<;>rfl
   rw[re];refine cP ⟨_,rfl,.inl ⟨rfl,_,aC.of eq'⟩,bH lq _ u ⟨rfl,rfl,eq',by simp,?_⟩⟩
   rw[List.dropLast_concat];have ep8:aG H8 lq (.lst us0) lp=some (.lst vp):=by rw[aH (fun z=>qp z.symm)];exact ep
   have et8:aG H8 lq (.lst us0) lt=some (.lst (ts.map V.int)):=by rw[aH (fun z=>qt z.symm)];exact elt
   have eq8:aG H8 lq (.lst us0) lq=some (.lst us0):=ah;have g8:=du g7 qn (.lst us0);have rp8:=rp.imp fun _ _ q=>jt q nPq (.lst us0)
   have ru8:=jt ru nPq (.lst us0);have rl8:=rl0.imp fun _ _ q=>jt q nPq (.lst us0)
   generalize aG H8 lq (.lst us0)=H9 at ep8 et8 eq8 g8 rp8 ru8 rl8⊢;clear ep elt eq' rp rq rl0 ru g7;obtain ⟨tc,rfl,hcs⟩:=cR.case ru8;have cok:jz T 400 c:=(okc c Dk).mono (by omega)
   rw[DL] at okl;have B0:True:=trivial;try dsimp only[cu,df]
   refine cut (fun σ H'=>σ= [FV tp,FV lc,FV lp,FV lt,FV lq,some (.int (4-(m:Int))),some (.int x),FV tc,some .non,o9,o10]/\H9=H') (fun N' hN'=>hN' _ _ ⟨rfl,rfl⟩) ?_
   rintro σ _ ⟨rfl,rfl⟩;try dsimp only[cu,df]
   refine cut (fun σ H'=>∃v:V,σ= [FV tp,FV lc,FV lp,FV lt,FV lq,some (.int (4-(m:Int))),some (.int x),FV tc,some v,o9,o10]/\aB H9 H'/\(v= .non∨∃r,m<4/\ju P H' v r/\Ay D T (bt ps) c r)) (fun N' hN'=>?_) ?_
   ·have miss:=hN' _ _ ⟨.non,rfl,.refl _,.inl rfl⟩;refine ⟨_,rfl,aq _ _ ⟨rfl,rfl,_,rfl,d2 (fun m0=>?_) (fun _=>cP miss)⟩⟩
    refine ⟨_,rfl,aq _ _ ⟨rfl,rfl,(by show (3:Int)≠0;decide),rfl,_,rfl,n2 (fun _=>?_) (fun _=>miss)⟩⟩
    refine ⟨_,rfl,_,rfl,_,rfl,aq _ _ ⟨rfl,rfl,⟨by decide,DC (by decide)⟩,kW tp tc _ D T A ps n c ⟨rfl,(st.same g8).pc hcs cok,fun v H10 g10 hv=>hN' _ _ ⟨v,rfl,g10,?_⟩⟩⟩⟩
    rcases hv with hv|⟨r,hr',inn⟩
    ·exact .inl hv
    ·exact .inr ⟨r,by omega,iW hr' (newP _ _ _ _ ep8 et8 eq8),inn⟩
   rintro σ H10 ⟨v,rfl,g10,hv⟩;have g010:=g8.trans g10;try dsimp only[cu,df]
   refine cut (fun σ H'=>∃(o9 o10:Option V) (v:V) (r:cY) (m':Nat) (ts':List Int) (pq':Cs),σ= [FV tp,FV lc,FV lp,FV lt,FV lq,some (.int (4-(m':Int))),some (.int x),FV tc,some v,o9,o10]/\aB H H'/\ju P H' v r/\H' lp=some (.lst vp)/\A2 (ju P H') vp rs/\H' lt=some (.lst (ts'.map V.int))/\bU cR P H' lq pq'.reverse/\pi D T A (bt ps) n m' (rs++ [r]) ts' pq'/\ts'.length<=k+1/\m'<=4) (fun N' hN'=>?_) ?_
   ·rcases hv with rfl|⟨r,m5,hr',⟨okr',w,hw,rt⟩⟩
    ·have st10:=st.same g010;have pc10:=st10.pc (hcs.same g10) cok;refine ⟨_,rfl,rfl,_,rfl,dT rfl ⟨_,rfl,aN tp _ _ _ ⟨rfl,rfl,bx.of (g010 _ _ etp),rfl,_,rfl,aN tp _ _ _ ⟨rfl,rfl,bx.of (g010 _ _ etp),rfl,_,rfl,eN la tl tc A D T (aq c.1 c.2 ⟨rfl,hA.same g010,by have:=st.a63;omega,hT.same g010,st.ok.t24,hcs.same g10,cok.pk,st.ok.ways,cok.pairs (by decide),fun dl H11 g11 hD=>?_⟩)⟩⟩⟩⟩
     have pc11:=pc10.same g11;refine ⟨_,rfl,_,rfl,_,rfl,_,rfl,aq _ _ ⟨rfl,rfl,⟨by decide,DC (by decide)⟩,kW tp tc dl _ D T A ps n ⟨c,⟨rfl,pc11,hD,fun tq v o r H12 g12 etq hr' lf=>(aq tq _ ⟨rfl,bx.of etq,rfl,aq _ _ ⟨rfl,aq _ _ ⟨rfl,rfl,?_⟩⟩⟩)⟩⟩⟩⟩
     have g912:=(g10.trans g11).trans g12;have hrP:ju P H12 v r:=iW hr' (newP _ _ _ _ ((g10.trans g11) _ _ ep8) ((g10.trans g11) _ _ et8) ((g10.trans g11) _ _ eq8));have pap':=pi.leaf pap lf;cases o with
     |none=>
      rw[show (none:Option Int).toList= [] from rfl,EQ] at pap'
      exact ⟨_,rfl,rfl,_,rfl,nF rfl (hN' _ _ (eN _ _ v r m ts ⟨p0,⟨rfl,g8.trans g912,hrP,g912 _ _ ep8,rp8.imp fun _ _ q=>dA q g912,g912 _ _ et8,⟨us0,g912 _ _ eq8,rl8.imp fun _ _ q=>dA q g912⟩,pap',by omega,m4⟩⟩))⟩
     |some tv=>
      have e12:=g912 _ _ et8;refine ⟨_,rfl,rfl,_,rfl,nT nofun ⟨_,rfl,.inl ⟨rfl,_,aC.of e12⟩,_,rfl,bH lt _ _ ⟨rfl,rfl,e12,by rw[D3];omega,hN' _ _ (eN _ _ v r m (ts++ [tv]) ⟨p0,⟨rfl,du (g8.trans g912) tn _,jt hrP nPt _,by rw[aH pt];exact g912 _ _ ep8,rp8.imp fun _ _ q=>jt (dA q g912) nPt _,by rw[ah,DS];rfl,⟨us0,by rw[aH qt];exact g912 _ _ eq8,rl8.imp fun _ _ q=>jt (dA q g912) nPt _⟩,pap',by rw[D8];show _+1<=_;omega,m4⟩⟩)⟩⟩⟩
    ·obtain ⟨tr,rfl,ra⟩:=hr'.row;refine ⟨_,rfl,rfl,_,rfl,dF nofun ⟨_,rfl,aq _ _ ⟨rfl,rfl,?_⟩⟩⟩;have okw:=okr'.2 w hw;have rgw:∀i,w= .ways i->0<=i/\i<(c.1.length:Int):=fun i hi=>by
      subst hi;exact mU cok.pk.len rt
     refine ⟨_,rfl,.inl ⟨rfl,_,aC.of (g10 _ _ eq8)⟩,_,rfl,_,rfl,eN tc tr w c.1 c.2 P ⟨rfl,dA ru8 g10,cok.pairs (by decide),by rw[cok.pk.len];exact st.ok.t24,oP ra hw,okw,rgw,fun l H11 g11 nl hl=>?_⟩⟩
     obtain ⟨vl,el,rl'⟩:=hl;refine (aq l _ ⟨rfl,aC.of el,fun lr nlr=>?_⟩)
     have g12:=ag nlr (.lst vl.reverse);have g912:=(g10.trans g11).trans g12;have lcs:=eR (P:=c.1) (O:=c.2) okw;have lvl:=rl'.1;have lus:=rl8.1;rw[Dv] at lus;refine (aN lq lr _ _ ⟨rfl,rfl,g912 _ _ eq8,ah,by rw[Dv];omega,?_⟩)
     have pap':=pi.inn pap okr' hw rt;have mm:(4:Int)-(m:Int)-1=4-((m+1:Nat):Int):=by omega
     refine hN' _ _ (eN _ _ (.ref tr) r (m+1) ts ⟨ce c.1 c.2 w++p0,⟨by rw[<-mm];rfl,du (g8.trans g912) qn _,jt (dA hr' (g11.trans g12)) nPq _,by rw[aH (fun z=>qp z.symm)];exact g912 _ _ ep8,rp8.imp fun _ _ q=>jt (dA q g912) nPq _,by rw[aH (fun z=>qt z.symm)];exact g912 _ _ et8,?_,pap',by omega,by omega⟩⟩)
     rw[List.reverse_append];refine bU.ext nPq (rl8.imp fun _ _ q=>dA q g912) ((rl'.imp fun _ _ q=>iW (dA q g12) fun a h=>?_).rev)
     rcases h.2 with h|h
     ·exact newP _ _ _ _ (g10 _ _ ep8) (g10 _ _ et8) (g10 _ _ eq8) a h
     ·exact h
   intro σ H11 h_;refine fK h_ fun o9 o10 v r m' ts' _hi=>?_
   refine eA _hi fun pq' _hj=>?_
   refine ph _hj fun _r1 g11 hr' ep11 rp11 et11 _r2 pap' _hk=>?_
   refine cZ _hk fun tl' m4'=>?_
   clear h_ _hi _hj _hk;subst _r1;obtain ⟨vq,eq11,rq11⟩:=_r2;have lvp:=rp11.1;refine ⟨_,rfl,.inl ⟨rfl,_,aC.of ep11⟩,_,rfl,bH lp _ _ ⟨rfl,rfl,ep11,by omega,?_⟩⟩
   exact (kW _ _ _ _ _ m' (rs++ [r]) ts' pq' ⟨rfl,du g11 pn _,bU.put nPp rp11 hr',by rw[aH (fun z=>pt z.symm)];exact et11,⟨vq,by rw[aH qp];exact eq11,rq11.imp fun _ _ q=>jt q nPp _⟩,pap',by rw[D8];show _+1<=_;omega,tl',m4'⟩)
  ·intro σ H7 h_;refine qc h_ fun o6 o7 o8 o9 o10 m rs ts pq _hi=>?_
   refine ph _hi fun _r1 g7 h1 h2 h3 pap rl tlm m4=>?_
   clear h_ _hi;subst _r1;rw[D3] at rl tlm;exact hN _ _ (kW _ _ _ _ _ _ m rs ts ⟨pq,⟨rfl,g7,h1,h2,h3,pap,by omega,by omega,m4⟩⟩)
 intro σ H7 h_;refine qc h_ fun o5 o6 o7 o8 o9 o10 m rs ts _hi=>?_
 refine eA _hi fun pq _hj=>?_
 refine ph _hj fun _r1 g7 h1 h2 _r2 pap rl tlm m4=>?_
 clear h_ _hi _hj;subst _r1;obtain ⟨vq,eq7,rq⟩:=_r2;obtain ⟨okr,okm,okl,okc⟩:=qr pap;have lvq:=rq.1;rw[Dv] at lvq;refine ⟨_,rfl,lq,rfl,⟨_,aC.of eq7⟩,aR (xs:=vq) (fun k σ H'=>∃o7:Option V,σ= [FV tp,FV lc,FV lp,FV lt,FV lq,o5,o6,o7,o8,o9,o10]/\aB H H'/\H' lq=some (.lst vq)/\bU ju P H' lp (rs++EA k (.one "chain" []))/\H' lt=some (.lst ((ts++EA k 0).map V.int))) ⟨o7,rfl,g7,eq7,by simpa using h1,by simpa using h2⟩ (fun k σ H' _ ⟨_,_,_,e,_⟩=>aC.of e) ?_ ?_⟩
 ·rintro k y σ H8 hy ⟨o7,rfl,g8,eq8,⟨vp,ep,rp⟩,elt⟩;have kq:=(D5.mp hy).1;have lvp:=rp.1;rw[D8,EK] at lvp;refine ⟨_,rfl,.inl ⟨rfl,_,aC.of ep⟩,by show 0<=sizeLine;decide,fun c0 nc0=>⟨by show 2<=sizeLine;decide,fun tr ntr=>?_⟩⟩
  have e9:=ag nc0 (.lst []);have e10:=ag ntr (.tup [.str "chain",.ref c0]);have ge:=e9.trans e10;have ec10:aG (aG H8 c0 (.lst [])) tr (.tup [.str "chain",.ref c0]) c0=some (.lst []):=e10 _ _ ah;have etr:aG (aG H8 c0 (.lst [])) tr (.tup [.str "chain",.ref c0]) tr=some (.tup [.str "chain",.ref c0]):=ah;have c0P:=newP _ _ _ _ ep elt eq8 c0 nc0;have trP:=newP _ _ _ _ ep elt eq8 tr (e9.free ntr);generalize aG (aG H8 c0 (.lst [])) tr (.tup [.str "chain",.ref c0])=H9 at ge ec10 etr⊢;refine (bH lp _ _ ⟨rfl,rfl,ge _ _ ep,by omega,?_⟩)
  have rw9:ju P H9 (.ref tr) (.one "chain" []):=⟨tr,rfl,trP,c0,c0P,etr,ec10⟩;have hp:=bU.put nPp (rp.imp fun _ _ q=>dA q ge) rw9
  have et10:aG H9 lp (.lst (vp++ [.ref tr])) lt=some (.lst ((ts++EA k 0).map V.int)):=by rw[aH (fun z=>pt z.symm)];exact ge _ _ elt
  have eq10:aG H9 lp (.lst (vp++ [.ref tr])) lq=some (.lst vq):=by rw[aH qp];exact ge _ _ eq8
  have g10:=du (g8.trans ge) pn (.lst (vp++ [.ref tr]));generalize aG H9 lp (.lst (vp++ [.ref tr]))=H10 at hp et10 eq10 g10⊢;refine ⟨_,rfl,.inl ⟨rfl,_,aC.of et10⟩,bH lt _ _ ⟨rfl,rfl,et10,by rw[D3,D8,EK];omega,⟨_,rfl,du g10 tn _,by rw[aH qt];exact eq10,?_,?_⟩⟩⟩
  ·rw[List.replicate_succ',<-Dz];exact hp.upd nPt pt _
  ·rw[ah,List.replicate_succ',<-Dz,DS (l₁:=ts++EA k 0)]
   rfl
 ·rintro σ H8 ⟨o7,rfl,g8,eq8,hp,elt⟩;refine ⟨_,rfl,_,rfl,by show 2<=sizeLine;decide,fun tq ntq=>?_⟩
  have e9:=ag ntq (.tup [.ref lp,.ref lt]);have pap':=oX pap vq.length (by omega)
  rw[List.drop_eq_nil_of_le (by omega)] at pap'
  exact q tq lp lt m _ _ _ (g8.trans e9) ah (hp.any.same e9) (e9 _ _ elt) (by rw[D8,EK];omega) (by rw[D8,EK];omega) m4 pap'
theorem Bw {dV:Value} (F:bn K "_law_finer" "_law_finer" zy dV f fd) (DZ43:Dx P w K mg base a8 1 "_law_mixed" ["_law_cell","_law_k"] [] gJ) (DZ60:Dx P w K mg base a8 5 "_law_inner" ["_law_parts","_law_case","_law_cell"] [] mW) (DZ61:Dx P w K mg base a8 1 "_law_cases" ["_law_case","_law_row"] [] kn):bf P w K mg base a8 6 f fd ["_law_parts","_law_paper_here","_law_cell"] rM:=by
 have sc:aE ["_law_parts","_law_paper_here","_law_cell","_law_found","_law_pile","_law_k","_law_case","_law_row","_law_inner_here","_law_leaves"] ["_law_parts","_law_paper_here","_law_cell"] (ar zy):=dn (by decide+kernel)
 refine F.ok sc (fun vs H Q E h=>?_) (fun cdv A outer s H vs Q E hr h=>?_)
 ·obtain ⟨_,_,_,_,_,_,_,_,_,_,rfl,_⟩:=h
  rfl
 refine qc h fun tp lp x D T A ps n rs _hi=>?_
 refine eA _hi fun low0 _hj=>?_
 refine f9 _hj fun _r1 st hp okr r3 _hk=>?_
 refine cZ _hk fun hgo q=>?_
 clear h _hi _hj _hk;subst _r1;refine ⟨_,(ae (cJ 3 sc (@aU _ _ _ _ ac)) (ae (cJ 4 sc (@aU _ _ _ _ (@aa _ _ _ _ _ (@bj _ _ _ _ _ (@aa _ _ _ _ _ (bG (own:= "_law_task") (ys:= []) (js:= []) rfl (cok fT .nil (by decide) rfl rfl rfl rfl rfl rfl rfl rfl) (aF (aA aK (pv 0) af (fun _ _=>rfl))) (fun C fp s H=>aZ)) (@aa _ _ _ _ _ (@aU _ _ _ _ ac) ac rfl) rfl)) ac rfl))) (ae (aQ PassesOwn.never rfl (b9 rfl B.Fc (@aa _ _ _ _ _ (ay av rfl B.Ev boot_len (@aa _ _ _ _ _ (pv 1) ac rfl)) ac rfl)) (cM 5 sc) (ae (cJ 6 sc (jG DK PySem.F.slot_list_pop PySem.F.type_list_pop pJ (pv 4))) (ae (fr (i:=7) sc.nd rfl (Or.inr rfl) (aA a9 (pv 1) (pv 5) (fun _ _=>rfl))) (aj (aL (PW.pt (dZ (ao b8 (aA aK (pv 7) af (fun _ _=>rfl)) dh (aD _)) (dD (ao b8 (aA aK (pv 7) af (fun _ _=>rfl)) dh (aD _))))) (aj (bC (dt DK PySem.F.slot_list_extend PySem.F.type_list_extend iP (pv 4) (@aa _ _ _ _ _ (hV rfl rfl B.Fe rfl B.Fl boot_list PyProof.Rows.Boot.«reversed» (bL DZ61 hr (@aa _ _ _ _ _ (pv 6) (@aa _ _ _ _ _ (pv 7) ac rfl) rfl))) ac rfl)))) (ae (cJ 8 sc (bL DZ60 hr (@aa _ _ _ _ _ (pv 0) (@aa _ _ _ _ _ (pv 6) (@aa _ _ _ _ _ (bL DZ43 hr (@aa _ _ _ _ _ (pv 2) (@aa _ _ _ _ _ (pv 5) ac rfl) rfl)) ac rfl) rfl) rfl))) (aj (aL (ao fg (pv 8) aZ (aD _)) (ae (fG (own:= "_law_one") (ys:= ["_law_row"]) (js:= [7]) sc.nd (i:=9) rfl rfl rfl (cok (fU fT) (.cons rfl .nil) (by decide) rfl rfl rfl rfl rfl rfl rfl rfl) (aF (bL DZ61 hr (@aa _ _ _ _ _ (pv 6) (@aa _ _ _ _ _ (pv 8) ac rfl) rfl))) (fun C fp s H=>(pv 1))) (ae (cJ 9 sc (am cW (@aU _ _ _ _ (@aa _ _ _ _ _ (pv 8) ac rfl)) (pv 9))) (aj (bC (dt DK DU DT a6 (pv 3) (@aa _ _ _ _ _ (am cW (am cW (bO dy (pv 1) cK (bY (pv 5))) (pv 9)) (bO dy (pv 1) (bY (am a7 (pv 5) af)) cK)) ac rfl)))))) aw)))))))) (aj (au (pv 3)))))),?_⟩
 try dsimp only[cxK]
 have sl:sizeLine=16777216:=sizeLine_eq;refine fZ st.part.ex fun td tl la pl _hi=>?_
 refine eC _hi fun etp etd hT _hj=>?_
 refine cZ _hj fun hA hP=>?_
 obtain ⟨vt,et,rT⟩:=id hT;obtain ⟨vp,ep,rp⟩:=id hp;have t4:=st.t4;have lv:=rT.1;have lvp:=rp.1;refine ⟨by show 0<=sizeLine;decide,fun lf nlf=>?_⟩
 have k2:=ag nlf (.lst []);have ef2:aG H lf (.lst []) lf=some (.lst []):=ah;generalize aG H lf (.lst [])=H2 at k2 ef2⊢;refine ⟨_,rfl,aN tp _ _ _ ⟨rfl,rfl,bx.of (k2 _ _ etp),rfl,tl,rfl,⟨_,aC.of (k2 _ _ et)⟩,bv (dL fM) (fun _=>False) (fun _=>none) (aC.of (k2 _ _ et)) (by omega) (fun a h=>h.elim) (fun i y hy H3 g3 Q' hQ=>hQ _ _ (.refl _) rfl) fun kl H3 nkl g3 hk=>?_⟩⟩
 obtain ⟨us,ek,rk⟩:=hk;rw[rk.val,lv] at ek;refine ⟨by show 0<=sizeLine;decide,fun ol nol=>⟨by show 2<=sizeLine;decide,fun t0 nt0=>⟨by show 1<=sizeLine;decide,fun lq nlq=>?_⟩⟩⟩
 have e4:=ag nol (.lst []);have e5:=ag nt0 (.tup [.ref kl,.ref ol]);have e6:=ag nlq (.lst [.ref t0]);have k6:=k2.trans (g3.trans ((e4.trans e5).trans e6));have ef6:=(g3.trans ((e4.trans e5).trans e6)) _ _ ef2;have ek6:=((e4.trans e5).trans e6) _ _ ek;have eol6:aG (aG (aG H3 ol (.lst [])) t0 (.tup [.ref kl,.ref ol])) lq (.lst [.ref t0]) ol=some (.lst []):=(e5.trans e6) _ _ ah;have et06:aG (aG (aG H3 ol (.lst [])) t0 (.tup [.ref kl,.ref ol])) lq (.lst [.ref t0]) t0=some (.tup [.ref kl,.ref ol]):=e6 _ _ ah;have eq6:aG (aG (aG H3 ol (.lst [])) t0 (.tup [.ref kl,.ref ol])) lq (.lst [.ref t0]) lq=some (.lst [.ref t0]):=ah;have qf:lq≠lf:=fun z=>by rw[z,(g3.trans (e4.trans e5)) _ _ ef2] at nlq;cases nlq
 have qn:H lq=none:=(k2.trans (g3.trans (e4.trans e5))).free nlq;have Pkl:kl≠lf/\kl≠lq:=⟨fun z=>(by rw[z,ef2] at nkl;cases nkl),fun z=>(by rw[<-z,(e4.trans e5) _ _ ek] at nlq;cases nlq)⟩
 have Pol:ol≠lf/\ol≠lq:=⟨fun z=>(by rw[z,g3 _ _ ef2] at nol;cases nol),fun z=>(by rw[<-z,e5 _ _ ah] at nlq;cases nlq)⟩
 generalize aG (aG (aG H3 ol (.lst [])) t0 (.tup [.ref kl,.ref ol])) lq (.lst [.ref t0])=H6 at k6 ef6 ek6 eol6 et06 eq6⊢;have Pt0:t0≠lf/\t0≠lq:=⟨fun z=>(by rw[z,ef6] at et06;cases et06),fun z=>(by rw[z,eq6] at et06;cases et06)⟩
 have hq0:bU cR (fun a=>a≠lf/\a≠lq) H6 lq (cI T).reverse:=⟨_,eq6,A2.one (bH t0 kl ol ⟨rfl,Pt0,Pkl,Pol,et06,ek6,_,eol6,A2.nil⟩)⟩
 have hf0:bU (nY ju) (fun a=>a≠lf/\a≠lq) H6 lf []:=⟨_,ef6,A2.nil⟩
 clear Pkl Pol Pt0 ek6 eol6 et06 eq6 ef6 nlq nol nt0 nkl e4 e5 e6 g3 k2 ef2 ek rk;obtain ⟨P,hPd⟩:∃P:Addr->Prop,P=fun a=>a≠lf/\a≠lq:=⟨_,rfl⟩
 have nPf:¬P lf:=fun z=>by rw[hPd] at z;exact z.1 rfl
 have nPq:¬P lq:=fun z=>by rw[hPd] at z;exact z.2 rfl
 have newP:∀(G:Hp) (xs zs:List V),G lf=some (.lst xs)->G lq=some (.lst zs)->∀a,G a=none->P a:=fun G xs zs h1 h3 a ha=>by
  rw[hPd];exact ⟨fun z=>(by rw[z,h1] at ha;cases ha),fun z=>(by rw[z,h3] at ha;cases ha)⟩
 have oldP:∀a,H a≠none->P a:=fun a ha=>by
  rw[hPd];exact ⟨fun z=>ha (by rw[z];exact nlf),fun z=>ha (by rw[z];exact qn)⟩
 rw[<-hPd] at hq0 hf0;have rpP:∀G,aB H G->A2 (ju P G) vp rs:=fun G g=>rp.imp fun _ _ q=>iW (dA (wB q) g) fun a h=>oldP a h.2
 refine ⟨_,rfl,aq lp _ ⟨rfl,.inl (aC.of (k6 _ _ ep)),_,rfl,by omega,by omega,ca (fun k σ H'=>∃(o5 o6 o7 o8 o9:Option V) (pq:Cs) (os:List (List cY)),σ= [FV tp,FV lp,some (.int x),FV lf,FV lq,o5,o6,o7,o8,o9]/\aB H H'/\bU (nY ju) P H' lf os/\bU cR P H' lq pq.reverse/\gi D T A (bt ps) n low0 (cI T) (rs.take k)=some pq/\os.length<=k/\∀o∈os,xy D T A (bt ps) n rs o) (eN none none none none none _ ⟨[],⟨rfl,k6,hf0,hq0,rfl,D9 _,fun o ho=>by cases ho⟩⟩) ?_ ?_⟩⟩
 ·intro k σ H7 hk h_;refine fK h_ fun o5 o6 o7 o8 o9 pq _hi=>?_
  refine eA _hi fun os _hj=>?_
  refine f9 _hj fun _r1 g7 _r2 _r3 hg _hk=>?_
  refine cZ _hk fun ol oko=>?_
  clear h_ _hi _hj _hk;subst _r1;obtain ⟨vf,ef,rf⟩:=_r2;obtain ⟨vq,eq',rq⟩:=_r3;rw[DQ,lvp] at hk;have hr':=D4 hk;obtain ⟨y,hy,rr⟩:=rp.get hr';obtain ⟨tr,rfl,ra⟩:=rr.row;have cok:=qj hg je;have p64:=qk hg fun r hr=>okr r (Es hr)
  have s1:(cI T).length=1:=rfl;have ltk:=List.length_take_le k rs;obtain ⟨c,p0,q1,rfl,hst,hg1,hrest⟩:=xx hgo hr' hg;generalize hr0:rs[k]=r at hr' rr ra hst;have okr0:=okr r (D6 hr');have ck:jz T 400 c:=(cok c Dk).mono (by omega)
  have lvq:=rq.1;rw[Dv] at lvq;rw[List.reverse_cons] at rq;obtain ⟨us0,u,rfl,ru,rl0⟩:=rq.unsnoc;refine ⟨_,rfl,.inl ⟨rfl,_,aC.of eq'⟩,bH lq _ u ⟨rfl,rfl,eq',by simp,?_⟩⟩
  rw[List.dropLast_concat];have ef8:aG H7 lq (.lst us0) lf=some (.lst vf):=by rw[aH (fun z=>qf z.symm)];exact ef
  have eq8:aG H7 lq (.lst us0) lq=some (.lst us0):=ah;have g8:=du g7 qn (.lst us0);have rf8:=rf.imp fun _ _ q=>jt q nPq (.lst us0)
  have ru8:=jt ru nPq (.lst us0);have rl8:=rl0.imp fun _ _ q=>jt q nPq (.lst us0)
  generalize aG H7 lq (.lst us0)=H8 at ef8 eq8 g8 rf8 ru8 rl8⊢;clear ef eq' rf rq rl0 ru g7;obtain ⟨tc,rfl,hcs⟩:=cR.case ru8;have atk:gZ vp (0+(k:Int))=some (.ref tr):=by rw[Ef];exact a4 hy
  refine ⟨_,rfl,_,rfl,aN lp _ _ _ ⟨rfl,rfl,aC.of (g8 _ _ ep),atk,?_⟩⟩;obtain ⟨w,ys,ew,iw⟩:=kh (ra.same g8) okr0.1;rcases rL hst with ⟨w',hw',rt,rfl⟩|⟨hi,sh,e1⟩
  ·have wv:w= "split" ∨w= "ways" :=iw.mpr (by unfold eD;rw[hw'];rfl)
   have okw:=okr0.2 w' hw';have rgw:∀i,w'= .ways i->0<=i/\i<(c.1.length:Int):=fun i hi=>by
    subst hi;exact mU ck.pk.len rt
   have lcs:=eR (P:=c.1) (O:=c.2) okw;have lus:=rl8.1;rw[Dv] at lus;rw[DL] at p64;rcases wv with rfl|rfl
   rotate_left
   ·refine ⟨_,rfl,aN tr _ _ _ ⟨rfl,rfl,bx.of ew,a4 (j:=0) rfl,rfl,_,rfl,dF (by decide) ⟨_,rfl,aN tr _ _ _ ⟨rfl,rfl,bx.of ew,a4 (j:=0) rfl,rfl,_,rfl,dT rfl ?_⟩⟩⟩⟩
    refine ⟨_,rfl,.inl ⟨rfl,_,aC.of eq8⟩,_,rfl,_,rfl,eN tc tr w' c.1 c.2 P ⟨rfl,ru8,ck.pairs (by decide),by rw[ck.pk.len];exact st.ok.t24,oP (ra.same g8) hw',okw,rgw,fun l H9 g9 nl hl=>?_⟩⟩
    obtain ⟨vl,el,rl'⟩:=hl;refine (aq l _ ⟨rfl,aC.of el,fun lr nlr=>?_⟩)
    have g10:=ag nlr (.lst vl.reverse);have g910:=g9.trans g10;have lvl:=rl'.1;refine (aN lq lr _ _ ⟨rfl,rfl,g910 _ _ eq8,ah,by rw[Dv];omega,?_⟩)
    refine (eN _ _ _ _ _ (ce c.1 c.2 w'++p0) ⟨os,⟨rfl,du (g8.trans g910) qn _,⟨vf,by rw[aH (fun z=>qf z.symm)];exact g910 _ _ ef8,rf8.imp fun _ _ q=>jt (dA q g910) nPq _⟩,?_,hg1,by omega,oko⟩⟩)
    rw[List.reverse_append];refine bU.ext nPq (rl8.imp fun _ _ q=>dA q g910) ((rl'.imp fun _ _ q=>iW (dA q g10) fun a h=>?_).rev)
    rcases h.2 with h|h
    ·exact newP _ _ _ ef8 eq8 a h
    ·exact h
   ·refine ⟨_,rfl,aN tr _ _ _ ⟨rfl,rfl,bx.of ew,a4 (j:=0) rfl,rfl,_,rfl,dT rfl ?_⟩⟩;refine ⟨_,rfl,.inl ⟨rfl,_,aC.of eq8⟩,_,rfl,_,rfl,eN tc tr w' c.1 c.2 P ⟨rfl,ru8,ck.pairs (by decide),by rw[ck.pk.len];exact st.ok.t24,oP (ra.same g8) hw',okw,rgw,fun l H9 g9 nl hl=>?_⟩⟩
    obtain ⟨vl,el,rl'⟩:=hl;refine (aq l _ ⟨rfl,aC.of el,fun lr nlr=>?_⟩)
    have g10:=ag nlr (.lst vl.reverse);have g910:=g9.trans g10;have lvl:=rl'.1;refine (aN lq lr _ _ ⟨rfl,rfl,g910 _ _ eq8,ah,by rw[Dv];omega,?_⟩)
    refine (eN _ _ _ _ _ (ce c.1 c.2 w'++p0) ⟨os,⟨rfl,du (g8.trans g910) qn _,⟨vf,by rw[aH (fun z=>qf z.symm)];exact g910 _ _ ef8,rf8.imp fun _ _ q=>jt (dA q g910) nPq _⟩,?_,hg1,by omega,oko⟩⟩)
    rw[List.reverse_append];refine bU.ext nPq (rl8.imp fun _ _ q=>dA q g910) ((rl'.imp fun _ _ q=>iW (dA q g10) fun a h=>?_).rev)
    rcases h.2 with h|h
    ·exact newP _ _ _ ef8 eq8 a h
    ·exact h
  ·rw[e1] at hg1;have wn:¬(w= "split" ∨w= "ways"):=fun z=>by
    have:=iw.mp z;unfold eD at this;rw[hi] at this;cases this
   have pc8:=(st.same g8).pc hcs ck;refine ⟨_,rfl,aN tr _ _ _ ⟨rfl,rfl,bx.of ew,a4 (j:=0) rfl,rfl,_,rfl,dF (fun z=>wn (.inl (by injection z))) ⟨_,rfl,aN tr _ _ _ ⟨rfl,rfl,bx.of ew,a4 (j:=0) rfl,rfl,_,rfl,dF (fun z=>wn (.inr (by injection z))) ?_⟩⟩⟩⟩
   refine ⟨_,rfl,_,rfl,_,rfl,_,rfl,aq _ _ ⟨rfl,fun mv mv0=>(kW tp tc mv D T A ps n c ⟨rfl,pc8,fun v H9 g9 hv=>?_⟩)⟩⟩
   have g89:=g8.trans g9;rcases hv with rfl|⟨r',hr1,⟨okr',w',hw',rt⟩⟩
   ·exact ⟨_,rfl,rfl,_,rfl,nF rfl (eN _ _ _ _ _ p0 ⟨os,⟨rfl,g89,⟨vf,g9 _ _ ef8,rf8.imp fun _ _ q=>dA q g9⟩,⟨us0,g9 _ _ eq8,rl8.imp fun _ _ q=>dA q g9⟩,hg1,by omega,oko⟩⟩)⟩
   obtain ⟨ti,rfl,ri⟩:=hr1.row;have hrP:=iW hr1 (newP _ _ _ ef8 eq8);have okw:=okr'.2 w' hw';have rgw:∀i,w'= .ways i->0<=i/\i<(c.1.length:Int):=fun i hi=>by
    subst hi;exact mU ck.pk.len rt
   have lcs:=eR (P:=c.1) (O:=c.2) okw;refine ⟨_,rfl,rfl,_,rfl,nT nofun ⟨_,rfl,_,rfl,eN tc ti w' c.1 c.2 P ⟨rfl,dA ru8 g9,ck.pairs (by decide),by rw[ck.pk.len];exact st.ok.t24,oP ri hw',okw,rgw,fun l H10 g10 nl hl=>?_⟩⟩⟩
   obtain ⟨vl,el,rl'⟩:=hl;have lvl:=rl'.1;have g810:=g89.trans g10;refine ⟨l,rfl,⟨_,aC.of el⟩,bv ju (fun a=>H a≠none) (fun _=>r) (aC.of el) (by omega) (fun a h z=>h (g810.free z)) (fun i y hy H11 g11 Q' hQ=>⟨_,rfl,hQ _ _ (.refl _) (iW (dA (wB rr) (g810.trans g11)) fun a h=> .inr h.2)⟩) fun l1 H11 nl1 g11 h1=>?_⟩
   obtain ⟨v1,e1,r1⟩:=h1;have g911:=(g9.trans g10).trans g11;have r1P:A2 (ju P H11) v1 (EA (ce c.1 c.2 w').length r):=by
    rw[lvl,List.map_const'] at r1;rw[E8] at r1;exact r1.imp fun _ _ q=>iW q fun a h=>h.2.elim (newP _ _ _ ((g9.trans g10) _ _ ef8) ((g9.trans g10) _ _ eq8) a) (oldP a)
   have l1v:=r1P.1;rw[EK] at l1v;refine ⟨_,rfl,by show 1<=sizeLine;decide,fun l2 nl2=>?_⟩
   have e12:=ag nl2 (.lst [.ref ti]);refine ⟨_,rfl,aN l2 l1 _ _ ⟨rfl,rfl,ah,e12 _ _ e1,(by show 1+_<=sizeLine;omega),fun l3 nl3=>?_⟩⟩
   have e13:=ag nl3 (.lst ([.ref ti]++v1));have g13:=g911.trans (e12.trans e13);have k13:=g8.trans g13;refine ⟨_,rfl,.inl ⟨rfl,_,aC.of (g13 _ _ ef8)⟩,_,rfl,_,rfl,_,rfl,aq lp _ ⟨rfl,aC.of (k13 _ _ ep),fun l4 nl4=>?_⟩⟩
   rw[Ef,gq (by omega)]
   have e14:=ag nl4 (.lst (vp.take k));refine ⟨_,rfl,aN l4 l3 _ _ ⟨rfl,rfl,ah,e14 _ _ ah,(by rw[Ds,D8,List.length_singleton];omega),fun l5 nl5=>?_⟩⟩
   have e15:=ag nl5 (.lst (vp.take k++([.ref ti]++v1)));have k15:=k13.trans (e14.trans e15);refine ⟨_,rfl,_,rfl,aq _ _ ⟨rfl,rfl,_,rfl,aq lp _ ⟨rfl,aC.of (k15 _ _ ep),fun l6 nl6=>?_⟩⟩⟩
   rw[show ((k:Int)+1)=((k+1:Nat):Int) from rfl,gu (by omega)]
   have e16:=ag nl6 (.lst (vp.drop (k+1)));refine (aN l5 l6 _ _ ⟨rfl,rfl,e16 _ _ ah,ah,(by rw[D8,D8,Ds,E6,List.length_singleton];omega),fun l7 nl7=>?_⟩)
   have e17:=ag nl7 (.lst (vp.take k++([.ref ti]++v1)++vp.drop (k+1)));have el7:aG (aG (aG (aG (aG (aG H11 l2 (.lst [.ref ti])) l3 (.lst ([.ref ti]++v1))) l4 (.lst (vp.take k))) l5 (.lst (vp.take k++([.ref ti]++v1)))) l6 (.lst (vp.drop (k+1)))) l7 (.lst (vp.take k++([.ref ti]++v1)++vp.drop (k+1))) l7=some (.lst (vp.take k++([.ref ti]++v1)++vp.drop (k+1))):=ah;have e1117:=((e12.trans e13).trans (e14.trans e15)).trans (e16.trans e17);have l7P:P l7:=newP _ _ _ ((g13.trans ((e14.trans e15).trans e16)) _ _ ef8) ((g13.trans ((e14.trans e15).trans e16)) _ _ eq8) l7 nl7;generalize aG (aG (aG (aG (aG (aG H11 l2 (.lst [.ref ti])) l3 (.lst ([.ref ti]++v1))) l4 (.lst (vp.take k))) l5 (.lst (vp.take k++([.ref ti]++v1)))) l6 (.lst (vp.drop (k+1)))) l7 (.lst (vp.take k++([.ref ti]++v1)++vp.drop (k+1)))=H17 at el7 e1117⊢;have g17:=g911.trans e1117;have k17:=g8.trans g17;have hall:=rpP _ k17;have ho:nY ju P H17 (.ref l7) (mX rs k (ce c.1 c.2 w').length r' r):=⟨l7,rfl,l7P,_,el7,((hall.take k).append ((A2.one (dA hrP ((g10.trans g11).trans e1117))).append (r1P.imp fun _ _ q=>dA q e1117))).append (hall.drop (k+1))⟩
   have lrf:=rf8.1;obtain ⟨fk1,fk2⟩:=yq (m:=(ce c.1 c.2 w').length) hr' okr okr';refine (bH lf _ _ ⟨rfl,rfl,g17 _ _ ef8,by omega,(eN _ _ _ _ _ p0 ⟨os++ [mX rs k (ce c.1 c.2 w').length r' r],⟨rfl,du k17 nlf _,bU.put nPf (rf8.imp fun _ _ q=>dA q g17) ho,⟨us0,by rw[aH qf];exact g17 _ _ eq8,rl8.imp fun _ _ q=>jt (dA q g17) nPf _⟩,hg1,by rw[D8];show _+1<=_;omega,fun o ho=>?_⟩⟩)⟩)
   rcases DM.mp ho with z|z
   ·exact oko o z
   ·rw[DI.mp z];exact ⟨fk1,by omega,xf hr' hi hw',fun low hlow=>yp (fun p hp=>(st.ok.tool p hp).2.1) ck hr' hi hg hw' rt hlow⟩
 ·intro σ H7 h_;refine fK h_ fun o5 o6 o7 o8 o9 pq _hi=>?_
  refine eA _hi fun os _hj=>?_
  refine f9 _hj fun _r1 g7 hf hq hg _hk=>?_
  refine cZ _hk fun ol oko=>?_
  clear h_ _hi _hj _hk;subst _r1;rw[DQ,lvp] at ol;exact ⟨_,rfl,q lf os H7 g7 hf.any (by omega) oko⟩
theorem By {dV:Value} (F:bn K "law" "law" mY dV f fd) (DZ8:Cg P w K mg base a8 3 Fp ["self","tools","tasks","arcs","apart","moments"] [.non,.int 0] (p9 on)) (DZ40:Dx P w K mg base a8 8 "lets_by" ["net","low","paper"] [] (vd on)) (DZ41:Dx P w K mg base a8 1 "inner_rows" ["paper"] [] kg) (DZ42:Dx P w K mg base a8 1 "_law_cell_at" ["_law_script","_law_k"] [] (pL K)) (DZ46:Dx P w K mg base a8 3 "_law_any_net" ["_law_script"] [] (oQ K)) (DZ63:Dx P w K mg base a8 7 "_law_paper" ["_law_parts","_law_cells"] [] rK) (DZ64:Dx P w K mg base a8 6 "_law_finer" ["_law_parts","_law_paper_here","_law_cell"] [] rM):bf P w K mg base a8 9 f fd ["_law_script"] (qE K):=by
 have sc:aE ["_law_script","_law_tools","_law_tasks","_law_arcs","_law_pairs","_law_moments","_law_net","_law_parts","_law_paper_here","_law_totals","_law_low","_law_others","_law_other"] ["_law_script"] (ar mY):=dn (by decide+kernel)
 refine F.ok sc (fun vs H Q E h=>?_) (fun cdv A outer s H vs Q E hr h=>?_)
 ·obtain ⟨_,_,rfl,_⟩:=h
  rfl
 obtain ⟨a,ns,rfl,hS,n63,q⟩:=h;refine ⟨_,(ae (jC (bL DZ46 hr (@aa _ _ _ _ _ (pv 0) ac rfl)) (cV rfl (aI (cM 1 sc) (aI (cM 2 sc) (aI (cM 3 sc) (aI (cM 4 sc) (aI (cM 5 sc) bX))))))) (ae (cJ 6 sc (xX B.FI DZ8 hr (by decide) rfl B.FJ (@aa _ _ _ _ _ (bJ jK rfl B.FG jP (@aa _ _ _ _ _ (pv 1) ac rfl)) (@aa _ _ _ _ _ (bG (own:= "_law_ways") (ys:= []) (js:= []) rfl (cok fT .nil (by decide) rfl rfl rfl rfl rfl rfl rfl rfl) (aF (pv 2)) (fun C fp s H=>(bJ (jO (K:=K) rfl) rfl B.Fe boot_list (@aa _ _ _ _ _ (pv 0) ac rfl)))) (@aa _ _ _ _ _ (bJ bD rfl B.Fe boot_list (@aa _ _ _ _ _ (pv 3) ac rfl)) (@aa _ _ _ _ _ (bJ bD rfl B.Fe boot_list (@aa _ _ _ _ _ (pv 4) ac rfl)) (@aa _ _ _ _ _ (pv 5) ac rfl) rfl) rfl) rfl) rfl))) (ae (cJ 7 sc (@bj _ _ _ _ _ (@aa _ _ _ _ _ (pv 1) (@aa _ _ _ _ _ (pv 2) (@aa _ _ _ _ _ (pv 3) (@aa _ _ _ _ _ (pv 4) ac rfl) rfl) rfl) rfl))) (ae (jC (bL DZ63 hr (@aa _ _ _ _ _ (pv 7) (@aa _ _ _ _ _ (bO dy (pv 0) (bY af) (bY af)) ac rfl) rfl)) (cV rfl (aI (cM 8 sc) (aI (cM 9 sc) bX)))) (ae (cJ 10 sc (wV rfl rfl B.Fj PyProof.Rows.Boot.«min» (pv 9))) (ae (aL (ao mj (bL DZ40 hr (@aa _ _ _ _ _ (pv 6) (@aa _ _ _ _ _ (pv 10) (@aa _ _ _ _ _ (bJ bD rfl B.Fe boot_list (@aa _ _ _ _ _ (pv 8) ac rfl)) ac rfl) rfl) rfl)) bE (aD _)) (aj (au bE)) aw) (ae (cJ 11 sc (bL DZ64 hr (@aa _ _ _ _ _ (pv 7) (@aa _ _ _ _ _ (pv 8) (@aa _ _ _ _ _ (bL DZ42 hr (@aa _ _ _ _ _ (pv 0) (@aa _ _ _ _ _ af ac rfl) rfl)) ac rfl) rfl) rfl))) (ae (aQ PassesOwn.never rfl (aF (bO dy (pv 11) cK (bY af))) (cM 12 sc) (ae (aL (PW.pt (dZ (ao mj (bL DZ40 hr (@aa _ _ _ _ _ (pv 6) (@aa _ _ _ _ _ (pv 10) (@aa _ _ _ _ _ (bJ bD rfl B.Fe boot_list (@aa _ _ _ _ _ (pv 12) ac rfl)) ac rfl) rfl) rfl)) bE (aD _)) (dD (ao eT (bL DZ41 hr (@aa _ _ _ _ _ (pv 12) ac rfl)) (am a7 (bL DZ41 hr (@aa _ _ _ _ _ (pv 8) ac rfl)) af) (aD _))))) (aj (au bE)) aw) (aj (aL (PW.pt (cF (ao fg (pv 10) aZ (aD _)) (bW (ao mj (bL DZ40 hr (@aa _ _ _ _ _ (pv 6) (@aa _ _ _ _ _ (am gX (pv 10) af) (@aa _ _ _ _ _ (pv 12) ac rfl) rfl) rfl)) bE (aD _))))) (aj (au bE)) aw)))) (aj (au (eJ xV (bL DZ40 hr (@aa _ _ _ _ _ (pv 6) (@aa _ _ _ _ _ (pv 10) (@aa _ _ _ _ _ (pv 8) ac rfl) rfl) rfl)) bE (aD _)))))))))))),?_⟩
 try dsimp only[cxK]
 have sl:sizeLine=16777216:=sizeLine_eq;refine ⟨_,rfl,aq a ns ⟨rfl,hS,n63,fun tb td tl la lp n0 n1 m0 m1 mo T A ps H4 k4 etb ed4 hT4 hA4 hP nne T1 T4 a63 pne nok=>?_⟩⟩
 refine (aq tb _ ⟨rfl,bx.of etb,rfl,aq _ _ ⟨rfl,aq _ _ ⟨rfl,aq _ _ ⟨rfl,aq _ _ ⟨rfl,aq _ _ ⟨rfl,rfl,?_⟩⟩⟩⟩⟩⟩);refine ⟨_,rfl,aq td _ ⟨rfl,ed4,fun td2 ntd2=>?_⟩⟩
 have h1:=ag ntd2 (.dK (bq [(n0,m0),(n1,m1)]));have ed2:aG H4 td2 (.dK (bq [(n0,m0),(n1,m1)])) td2=some (.dK (bq [(n0,m0),(n1,m1)])):=ah;generalize aG H4 td2 (.dK (bq [(n0,m0),(n1,m1)]))=H5 at h1 ed2⊢;obtain ⟨vt,et,rT⟩:=hT4.same h1;refine ⟨_,rfl,tl,rfl,⟨_,aC.of et⟩,bv (nY gN) (fun a=>An a/\H5 a≠none) (fun i=>T.getD i []) (aC.of et) (by rw[rT.1];omega) (fun a h=>h.2) (fun i y hy H6 g6 Q' hQ=>?_) fun tl2 H6 ntl2 g6 hT2=>?_⟩
 ·refine eA (rT.at_ hy) fun ws _hi=>?_
  refine cZ _hi fun hw _hj=>?_
  refine eA _hj fun l _hk=>?_
  refine ij _hk fun _r1 _ _hl=>?_
  refine eA _hl fun us _hm=>?_
  refine cZ _hm fun el rl'=>?_
  clear _hi _hj _hk _hl _hm;subst _r1;rw[aX hw] at hQ;have rl2:=rl'.imp fun _ _ q=>wB q
  refine ⟨_,rfl,aq l us ⟨rfl,.inl (aC.of (g6 _ _ el)),fun p np=>?_⟩⟩
  have gp:=ag np (.lst us);exact hQ _ _ gp ⟨p,rfl,.inl np,us,ah,rl2.imp fun v e q=>iW (dA q (g6.trans gp)) fun a h=> .inr h⟩
 rw[i8 T [] rT.1] at hT2;have hT2':=hT2.any;obtain ⟨ba,ea,ra⟩:=hA4.same (h1.trans g6);obtain ⟨bp,ep,rp⟩:=hP.same (h1.trans g6);refine ⟨_,rfl,aq la _ ⟨rfl,.inl (aC.of ea),fun la2 nla2=>?_⟩⟩
 have h3:=ag nla2 (.lst (ba.map V.ref));have ela2:aG H6 la2 (.lst (ba.map V.ref)) la2=some (.lst (ba.map V.ref)):=ah;generalize aG H6 la2 (.lst (ba.map V.ref))=H7 at h3 ela2⊢;refine ⟨_,rfl,aq lp _ ⟨rfl,.inl (aC.of (h3 _ _ ep)),fun lp2 nlp2=>?_⟩⟩
 have h4:=ag nlp2 (.lst (bp.map V.ref));have elp2:aG H7 lp2 (.lst (bp.map V.ref)) lp2=some (.lst (bp.map V.ref)):=ah;generalize aG H7 lp2 (.lst (bp.map V.ref))=H8 at h4 elp2⊢;have h34:=h3.trans h4;have h8:=(h1.trans g6).trans h34;refine ⟨_,rfl,?_⟩;refine fun x dx nx ndx dxx=>?_
 have sm:=jS (C:=on) nx ndx (H':=aG (aG H8 dx (.own x)) x (.ins on dx [])) (fun a o _ e=>e)
 refine (kW x dx td2 tl2 la2 (.ref lp2) _ [(n0,m0),(n1,m1)] T (aq A (bt ps) ⟨rfl,ah,sm _ _ ((g6.trans h34) _ _ ed2),(hT2'.same h34).same sm,⟨ba,sm _ _ (h4 _ _ ela2),ra.imp fun a k q=>sm _ _ (h34 _ _ q)⟩,.inr ⟨lp2,rfl,⟨bp,sm _ _ elp2,rp.imp fun a k q=>sm _ _ (h34 _ _ q)⟩⟩,nok,fun H9 fx N=>⟨rfl,?_⟩⟩))
 have h9:=h8.trans (jS nx ndx fx);have k9:=k4.trans h9;have ed9:=h9 _ _ ed4;have hT9:=hT4.same h9;have hA9:=hA4.same h9;have hP9:=hP.same h9;clear sm fx h8 h34 h4 h3 h1 ed2 hT2 hT2' ela2 elp2 ed4 hT4 hA4 ea ra ep rp et rT;refine ⟨_,rfl,_,rfl,_,rfl,_,rfl,by show 4<=sizeLine;decide,fun tp ntp=>?_⟩
 have g10:=ag ntp (.tup [.ref td,.ref tl,.ref la,.ref lp]);have etp:aG H9 tp (.tup [.ref td,.ref tl,.ref la,.ref lp]) tp=some (.tup [.ref td,.ref tl,.ref la,.ref lp]):=ah;generalize aG H9 tp (.tup [.ref td,.ref tl,.ref la,.ref lp])=H10 at g10 etp⊢;have st:oU H10 tp [(n0,m0),(n1,m1)] T A ps mo:=⟨⟨td,tl,la,lp,etp,g10 _ _ ed9,hT9.same g10,hA9.same g10,hP9.same g10⟩,nok,T1,T4,pne,a63,rfl⟩;have N10:=N.same g10;have k10:=k9.trans g10;clear ed9 hT9 hA9 hP9 etp g10 N h9 k9 hP;obtain ⟨cs,ecs,lcs⟩:=kM ns (some 32) (some 64);refine ⟨_,rfl,_,rfl,_,rfl,_,rfl,aq a _ ⟨rfl,k10.seq hS,fun lc nlc=>?_⟩⟩
 rw[ecs];have g11:=ag nlc (.lst (cs.map V.int));have st11:=st.same g11;refine (eN tp lc cs [(n0,m0),(n1,m1)] T A (aq ps mo ⟨rfl,st11,ah,by omega,fun tq lpp lt m rs ts H12 g12 etq hpp elt r3 t3 m4 pap=>(aq tq _ ⟨rfl,bx.of etq,rfl,aq _ _ ⟨rfl,aq _ _ ⟨rfl,rfl,?_⟩⟩⟩)⟩))
 have st12:=st11.same g12;have g1012:=g11.trans g12;have N12:=N10.same g1012;have k12:=k10.trans g1012;clear st11 N10 st k10 g11 g12 g1012 nlc etq;obtain ⟨okr,okm,_,_⟩:=qr pap;try dsimp only[cu,df]
 refine cut (fun σ H'=>∃low:Option Int,σ= [FV a,FV td,FV tl,FV la,FV lp,some (.int mo),FV x,FV tp,FV lpp,FV lt,some (oV low),none,none]/\H12=H'/\vB low ts/\∀l,low=some l->vB (some (l-1)) ts) (fun N' hN=>?_) ?_
 ·refine ⟨_,rfl,aq lt ts ⟨rfl,aC.of elt,?_⟩⟩
  by_cases te:ts= []
  ·exact .inl ⟨te,hN _ _ ⟨none,rfl,rfl,fun t ht=>(by rw[te] at ht;cases ht),fun l hl=>(by cases hl)⟩⟩
  ·exact .inr ⟨te,fun M hM hle=>hN _ _ ⟨some M,rfl,rfl,fun t ht=>⟨M,rfl,hle t ht⟩,fun l hl t ht=>(by cases hl;exact ⟨M-1,rfl,by have:=hle t ht;omega⟩)⟩⟩
 rintro σ _ ⟨low,rfl,rfl,lok,lok1⟩;have go0:=vC pap lok;have bnd:∀o:List cY,o.length<=400->A.length+2*T.length+o.length<=700:=fun o ho=>by omega
 obtain ⟨vp,ep,rp⟩:=id hpp;refine ⟨_,rfl,_,rfl,_,rfl,aq lpp _ ⟨rfl,.inl (aC.of ep),fun l2 nl2=>?_⟩⟩
 have g13:=ag nl2 (.lst vp);refine (kW x l2 low [(n0,m0),(n1,m1)] T A (bt ps) mo rs ⟨rfl,N12.same g13,nok,⟨_,ah,rp.imp fun _ _ q=>dA q g13⟩,okr,bnd rs (by omega),fun H13 g13'=>?_⟩)
 rw[gM go0];have g1213:=g13.trans g13';refine (aq _ _ ⟨rfl,rfl,_,rfl,cP ?_⟩);have k13:=k12.trans g1213;have hp13:=hpp.same g1213;have st13:=st12.same g1213;refine ⟨_,rfl,_,rfl,_,rfl,bH a ns 13 ⟨rfl,(k13.seq hS),by decide,fun c13=>(kW tp lpp c13 [(n0,m0),(n1,m1)] T A ps mo rs ⟨low,⟨rfl,st13,hp13,okr,r3,go0,fun lo os H14 g14 ho o3 oko=>?_⟩⟩)⟩⟩
 have N14:=(N12.same g1213).same g14;have hp14:=hp13.same g14;obtain ⟨vo,eo,ro⟩:=id ho;have lvo:=ro.1;refine ⟨_,rfl,_,rfl,aq lo _ ⟨rfl,aC.of eo,fun l3 nl3=>?_⟩⟩
 rw[show (3:Int)=((3:Nat):Int) from rfl,qu]
 have g15:=ag nl3 (.lst (vo.take 3));have e15:aG H14 l3 (.lst (vo.take 3)) l3=some (.lst (vo.take 3)):=ah;generalize aG H14 l3 (.lst (vo.take 3))=H15 at g15 e15⊢;refine ⟨l3,rfl,⟨_,aC.of e15⟩,aR (xs:=vo.take 3) (fun k σ H'=>∃o12:Option V,σ= [FV a,FV td,FV tl,FV la,FV lp,some (.int mo),FV x,FV tp,FV lpp,FV lt,some (oV low),FV lo,o12]/\aB H15 H') ⟨none,rfl,.refl _⟩ (fun k σ H' _ ⟨_,_,g⟩=>aC.of (g _ _ e15)) ?_ ?_⟩
 ·rintro k y σ H16 hy ⟨o12,rfl,g16⟩;have g1416:=g15.trans g16;obtain ⟨o,hob,lz,rfl,_,hlz⟩:=((ro.take 3).imp fun _ _ q=>dA q g1416).at_ hy
  have fo:=oko o (Es (D6 hob));have go1:=fo.go low go0;have N16:=N14.same g1416;obtain ⟨vz,ez,rz⟩:=id hlz;refine ⟨_,rfl,_,rfl,_,rfl,aq lz _ ⟨rfl,.inl (aC.of ez),fun l4 nl4=>?_⟩⟩
  have g17:=ag nl4 (.lst vz);refine (kW x l4 low [(n0,m0),(n1,m1)] T A (bt ps) mo o ⟨rfl,N16.same g17,nok,⟨_,ah,rz.imp fun _ _ q=>dA q g17⟩,fo.ok,bnd o fo.len,fun H17 g17'=>?_⟩)
  rw[gM go1];have g1617:=g17.trans g17';have g1417:=g1416.trans g1617;have flen:=fo.len;refine (aq _ _ ⟨rfl,rfl,_,rfl,cP ⟨_,rfl,aq lz o ⟨rfl,hlz.same g1617,fun r hr=>(fo.ok r hr).1,by omega,fun H18 g18=>⟨_,rfl,aq lpp rs ⟨rfl,(hp14.same g1417).same g18,fun r hr=>(okr r hr).1,by omega,fun H19 g19=>(aq _ _ ⟨rfl,rfl,?_⟩)⟩⟩⟩⟩⟩)
  have g1619:=(g1617.trans g18).trans g19;have eI:((o.filter eD).length:Int)=((rs.filter eD).length:Int)+1:=by have:=fo.inn;omega
  refine ⟨rfl,_,rfl,nF (by rw[eI]) ?_⟩
  cases low with
  |none=>exact ⟨_,rfl,rfl,_,rfl,nF rfl ⟨_,rfl,g16.trans g1619⟩⟩
  |some l=>
   refine ⟨_,rfl,rfl,_,rfl,nT nofun ⟨_,rfl,_,rfl,aq _ _ ⟨rfl,rfl,_,rfl,kW x lz (some (l-1)) [(n0,m0),(n1,m1)] T A (bt ps) mo o ⟨rfl,N16.same g1619,nok,hlz.same g1619,fo.ok,bnd o fo.len,fun H20 g20=>?_⟩⟩⟩⟩
   rw[gM (fo.go _ (vC pap (lok1 l rfl)))];exact (aq _ _ ⟨rfl,rfl,_,rfl,cP ⟨_,rfl,(g16.trans g1619).trans g20⟩⟩)
 ·rintro σ H16 ⟨o12,rfl,g16⟩;have g1416:=g15.trans g16;refine ⟨_,rfl,_,rfl,_,rfl,kW x lpp low [(n0,m0),(n1,m1)] T A (bt ps) mo rs ⟨rfl,N14.same g1416,nok,hp14.same g1416,okr,bnd rs (by omega),fun H17 g17=>?_⟩⟩
  rw[gM go0];exact (aq _ _ ⟨rfl,rfl,q _⟩)
end
theorem zz {l:PySem.W.OpenLaw} {w:World} {K:D7} {h:Heap} {mg:FO} {fa fM fR fS ga gc gd ge gf gg cj ck cl cm cn co cp cs ct c0 c1 c2 c3 c4 c5 c7 cD cI cK cR cS cW dc dd de df dg di dl dm dp dq dr dx dy d1 d3 d4 d5 d6 d7 d8 d9 dK dV ea eb ec ed ee ef eg eh ei ej b4 Ff on Fp:Addr} (X:K.In h) (G:h.Ns mainGlobals mg) (hfa:mg "law" =some (.ref fa))
  {cg bs:FT} {ch:Array FU} {ci b0 b1 b2 be b3:Value}
  {aT:Tok}
  {bm:Tok}
  {ad:Tok}
  {ai:Tok}
  {ab:Tok}
  {a0:Tok}
  {ia:Tok}
  {a1:Tok}
  {ak:Tok}
  {a9:Tok}
  {fI:Addr} {ek:Value} {el:FT} {en:Nat} {eo:Array FU} {b5:Tok}
  (gj:bB K fM "is_name" Cp .none)
  (gk:bB K fR "points_of" Cq .none)
  (gl:bB K fS "copy_of_task" Cr .none)
  (go:bB K ga "refuse_wrong_tools" Ct .none)
  (gp:bB K gc "refuse_wrong_uses" Cu .none)
  (gr:bB K gd "refuse_wrong_tasks" Cv .none)
  (gs:bB K ge "refuse_wrong_arcs" Cw .none)
  (gt:bB K gf "refuse_wrong_pairs" Cy .none)
  (gz:bB K gg "use_in" Cz .none)
  (ep:bB K cj "are_points" yr .none)
  (eq:bB K ck "start_case" yt .none)
  (er:bB K cl "many_in" yu .none)
  (es:bB K cm "open_ways" yw .none)
  (et:bB K cn "want_of" yx .none)
  (eu:bB K co "work_of" yy .none)
  (ev:bB K cp "heats_differ" yz .none)
  (ew:bB K cs "unlike_heats" yA .none)
  (ex:bB K ct "arcs_of" yB .none)
  (ey:bB K c0 "greatest_lags" yC .none)
  (ez:bB K c1 "total_by" yD .none)
  (e0:bB K c2 "chain_total" yE .none)
  (e1:bB K c3 "ring_total" yF .none)
  (e2:bB K c4 "are_unlike_tasks" yG .none)
  (e3:bB K c5 "two_apart" yH .none)
  (e4:bB K c7 "two_at_unlike_heats" yI .none)
  (e5:bB K cD "too_much_wanted" yJ .none)
  (e6:bB K cI "clashes" yK .none)
  (e7:bB K cK "turns_for" yL .none)
  (e8:bB K cR "task_between" yM .none)
  (e9:bB K cS "tasks_between" yN .none)
  (eF:bB K cW "stretch_total" yO .none)
  (eG:bB K dc "has_order_of" yP .none)
  (eH:bB K dd "cases_of_split" yQ .none)
  (eI:bB K de "with_pick" yR .none)
  (eL:bB K df "cases_of_ways" yS .none)
  (eM:bB K dg "parted" yT .none)
  (eO:bB K di "bound_of" yU .none)
  (eP:bB K dl "shuts_by_ring" yV .none)
  (eS:bB K dm "shuts" yW .none)
  (eT:bB K dp "lets_by" yX .none)
  (eU:bB K dq "inner_rows" yY .none)
  (eW:bB K dr "_law_cell_at" yZ .none)
  (eZ:bB K dx "_law_mixed" y3 .none)
  (fe:bB K dy "_law_names" y4 .none)
  (fg:bB K d1 "_law_way" y6 .none)
  (fi:bB K d3 "_law_any_net" y8 .none)
  (fj:bB K d4 "_law_lag" y9 .none)
  (fl:bB K d5 "_law_total" za .none)
  (fo:bB K d6 "_law_open" zb .none)
  (fp:bB K d7 "_law_due" zc .none)
  (fs:bB K d8 "_law_many" zd .none)
  (ft:bB K d9 "_law_work" ze .none)
  (fu:bB K dK "_law_front" zf .none)
  (fv:bB K dV "_law_back" zg .none)
  (fx:bB K ea "_law_order" zh .none)
  (fy:bB K eb "_law_differ" zj .none)
  (fz:bB K ec "_law_unlike" zm .none)
  (f0:bB K ed "_law_clash" zp .none)
  (f1:bB K ee "_law_splits" zq .none)
  (f2:bB K ef "_law_inner" zr .none)
  (f3:bB K eg "_law_cases" zu .none)
  (f4:bB K eh "_law_leaf" zw .none)
  (f5:bB K ei "_law_paper" zx .none)
  (f6:bB K ej "_law_finer" zy .none)
  (f7:Dj K mainGlobals "law" =some (some (.ref b4)))
  (f8:K.lookup b4=some ⟨ci,cg,.func (ES "law" "law" (eK mY) (dY mY) (ar mY) .none b0 b1 b2 bs be b3),ch⟩) (fC:PySem.W.codeIn K be "law" =true) (fD:Ed K (.ref b4)=true)
  (aY:Dj K mainGlobals "LETTERS" =some (some (.str "abcdefghijklmnopqrstuvwxyz" aT)))
  (kd:Dj K mainGlobals "MOST_LETTERS" =some (some (.int 12 bm)))
  (al:Dj K mainGlobals "MOST_TASKS" =some (some (.int 24 ad)))
  (an:Dj K mainGlobals "MOST_TOOLS" =some (some (.int 12 ai)))
  (ac:Dj K mainGlobals "MOST_PIECES" =some (some (.int 8 ab)))
  (a2:Dj K mainGlobals "MOST_WAYS" =some (some (.int 2 a0)))
  (nb:Dj K mainGlobals "MOST_MOMENTS" =some (some (.int 8 ia)))
  (a3:Dj K mainGlobals "MOST_ARCS" =some (some (.int 600 a1)))
  (ap:Dj K mainGlobals "MOST_APART" =some (some (.int 300 ak)))
  (aK:Dj K mainGlobals "GREATEST" =some (some (.int 1000000000 a9)))
  (b6:Dj K mainGlobals "abs" =some none)
  (b7:Dj K mainGlobals "all" =some none)
  (bk:Dj K mainGlobals "dict" =some none)
  (a6:Dj K mainGlobals "enumerate" =some none)
  (av:Dj K mainGlobals "isinstance" =some none)
  (b8:Dj K mainGlobals "len" =some none)
  (bl:Dj K mainGlobals "list" =some none)
  (bD:Dj K mainGlobals "max" =some none)
  (bN:Dj K mainGlobals "min" =some none)
  (bg:Dj K mainGlobals "range" =some none)
  (aS:Dj K mainGlobals "reversed" =some none)
  (bX:Dj K mainGlobals "set" =some none)
  (ba:Dj K mainGlobals "sorted" =some none)
  (cb:Dj K mainGlobals "str" =some none)
  (cc:Dj K mainGlobals "sum" =some none)
  (cd:Dj K mainGlobals "zip" =some none)
  (bh:Dj K mainGlobals "INNER" =some (some (.ref Ff)))
  (cf:Dj K mainGlobals "Net" =some (some (.ref on)))
  (atZ8:EV K (.ref on) "__init__" =some (some (.ref Fp)))
  (g0:FnAt K Fp "__init__" "Net.__init__" BN (.ref fI))
  (fJ:K.lookup fI=some ⟨ek,el,.seq #[.none,.int 0 b5] en,eo⟩)
  (bd:wW K Ff ["split","ways"])
  (bo:vR K on)
  (bp:Mk K on Fp)
  (aw:cx K on "tools")
  (ax:cx K on "tasks")
  (a7:cx K on "arcs")
  (az:cx K on "apart")
  (sn:cx K on "moments")
  :∃fd:FuncData,(∀(s:Shared) (v:Value),BindsTo s fd ⟨[v],[]⟩ [("_law_script",v)])/\∀base:Heap,K.In base->base.Ns mainGlobals mg->bf l.prog w K mg base a8 9 fa fd ["_law_script"] (qE K):=by
 have e:=hfa.symm.trans (E9 X G f7);cases e;have B:Bn K mg Ff on Fp:=⟨Exists.intro _<|E9 X G aY,Exists.intro _<|E9 X G kd,Exists.intro _<|E9 X G al,Exists.intro _<|E9 X G an,Exists.intro _<|E9 X G ac,Exists.intro _<|E9 X G a2,Exists.intro _<|E9 X G nb,Exists.intro _<|E9 X G a3,Exists.intro _<|E9 X G ap,Exists.intro _<|E9 X G aK,Dp X G b6,Dp X G b7,Dp X G bk,Dp X G a6,Dp X G av,Dp X G b8,Dp X G bl,Dp X G bD,Dp X G bN,Dp X G bg,Dp X G aS,Dp X G bX,Dp X G ba,Dp X G cb,Dp X G cc,Dp X G cd,E9 X G bh,E9 X G cf,bd,bo,bp,aw,ax,a7,az,sn⟩;refine qc g0 fun _ _ _ _ _ _ _ _ _ _hi=>?_
 refine ij _hi fun lZ8 cZ8 kZ8=>?_
 have FZ8:=mh (st:=BN) lZ8 cZ8 kZ8;have Flaw:=mh (st:=mY) f8 fC fD;refine ⟨ES "law" "law" (eK mY) (dY mY) (ar mY) .none b0 b1 b2 bs be b3,?bind,fun base _ _=>?ok⟩
 case bind=>exact fun s v=> .of_eq rfl
 case ok=>
  have z9:Bx l.prog w base:=⟨⟩;have DZ0:=dz z9 X G gj (fun _ _ _ _ _ _=>fL fun _=>rfl) fun F=>CA B F
  have DZ1:=dz z9 X G gk (fun _ _ _ _ _ _=>fL fun _=>rfl) fun F=>CB B F
  have DZ2:=dz z9 X G gl (fun _ _ _ _ _ _=>fL fun _=>rfl) fun F=>CC B F
  have DZ3:=dz z9 X G go (fun _ _ _ _ _ _=>fL fun _=>rfl) fun F=>CD B F DZ0
  have DZ4:=dz z9 X G gp (fun _ _ _ _ _ _=>bS fun _ _=>rfl) fun F=>CF B F
  have DZ5:=dz z9 X G gr (fun _ _ _ _ _ _=>bS fun _ _=>rfl) fun F=>CG B F DZ4
  have DZ6:=dz z9 X G gs (fun _ _ _ _ _ _=>bS fun _ _=>rfl) fun F=>CH B F
  have DZ7:=dz z9 X G gt (fun _ _ _ _ _ _=>bS fun _ _=>rfl) fun F=>CI B F
  have DZ8:Cg l.prog w K mg base a8 3 Fp ["self","tools","tasks","arcs","apart","moments"] [.non,.int 0] (p9 on):=⟨_,CJ B FZ8 DZ1 DZ2 DZ3 DZ5 DZ6 DZ7,FZ8.binds (ps:= ["self","tools","tasks","arcs","apart","moments"]) (ds:= []) fJ rfl fun _ _ _ _ _ _ us hl=>match us,hl with| [_,_,_,_,_,_],_=>⟨_,rfl,rfl⟩,⟨[.none,.int 0 b5],FZ8.binds (ps:= ["self","tools","tasks","arcs","apart","moments"]) (ds:= [.none,.int 0 b5]) fJ rfl fun _ _ _ _ _ _ us hl=>match us,hl with| [_,_,_,_],_=>⟨_,rfl,rfl⟩| [],h=>absurd h (by simp)| [_],h=>absurd h (by simp)| [_,_],h=>absurd h (by simp)| [_,_,_],h=>absurd h (by simp)|_::_::_::_::_::_,h=>absurd h (by simp),.cons rfl (.cons ⟨_,rfl⟩ .nil)⟩⟩
  have DZ9:=dz z9 X G gz (fun _ _ _ _ _ _=>bS fun _ _=>rfl) fun F=>CK B F
  have DZ10:=dz z9 X G ep (fun _ _ _ _ _ _=>bS fun _ _=>rfl) fun F=>Az B F DZ1
  have DZ11:=dz z9 X G eq (fun _ _ _ _ _ _=>fL fun _=>rfl) fun F=>AA B F
  have DZ12:=dz z9 X G er (fun _ _ _ _ _ _=>bS fun _ _=>rfl) fun F=>AB B F DZ9
  have DZ13:=dz z9 X G es (fun _ _ _ _ _ _=>cr fun _ _ _=>rfl) fun F=>AC B F DZ2
  have DZ14:=dz z9 X G et (fun _ _ _ _ _ _=>hW fun _ _ _ _=>rfl) fun F=>AD B F DZ12 DZ13
  have DZ15:=dz z9 X G eu (fun _ _ _ _ _ _=>hW fun _ _ _ _=>rfl) fun F=>AE B F DZ12 DZ13
  have DZ16:=dz z9 X G ev (fun _ _ _ _ _ _=>bS fun _ _=>rfl) fun F=>AF B F DZ9
  have DZ17:=dz z9 X G ew (fun _ _ _ _ _ _=>hW fun _ _ _ _=>rfl) fun F=>AG B F DZ13 DZ16
  have DZ18:=dz z9 X G ex (fun _ _ _ _ _ _=>bS fun _ _=>rfl) fun F=>AH B F DZ13
  have DZ19:=dz z9 X G ey (fun _ _ _ _ _ _=>fL fun _=>rfl) fun F=>AI B F
  have DZ20:=dz z9 X G ez (fun _ _ _ _ _ _=>bS fun _ _=>rfl) fun F=>AJ B F
  have DZ21:=dz z9 X G e0 (fun _ _ _ _ _ _=>bS fun _ _=>rfl) fun F=>AK B F DZ19 DZ20
  have DZ22:=dz z9 X G e1 (fun _ _ _ _ _ _=>bS fun _ _=>rfl) fun F=>AL B F DZ21
  have DZ23:=dz z9 X G e2 (fun _ _ _ _ _ _=>bS fun _ _=>rfl) fun F=>AM B F
  have DZ24:=dz z9 X G e3 (fun _ _ _ _ _ _=>bS fun _ _=>rfl) fun F=>AN B F
  have DZ25:=dz z9 X G e4 (fun _ _ _ _ _ _=>cr fun _ _ _=>rfl) fun F=>AO B F DZ17
  have DZ26:=dz z9 X G e5 (fun _ _ _ _ _ _=>cr fun _ _ _=>rfl) fun F=>AQ B F DZ14
  have DZ27:=dz z9 X G e6 (fun _ _ _ _ _ _=>cr fun _ _ _=>rfl) fun F=>AR B F DZ23 DZ24 DZ25 DZ26
  have DZ28:=dz z9 X G e7 (fun _ _ _ _ _ _=>bS fun _ _=>rfl) fun F=>AS B F
  have DZ29:=dz z9 X G e8 (fun _ _ _ _ _ _=>cr fun _ _ _=>rfl) fun F=>AT B F DZ10
  have DZ30:=dz z9 X G e9 (fun _ _ _ _ _ _=>cr fun _ _ _=>rfl) fun F=>AU B F DZ29
  have DZ31:=dz z9 X G eF (fun _ _ _ _ _ _=>x9 fun _ _ _ _ _=>rfl) fun F=>AV B F DZ15 DZ18 DZ19 DZ20 DZ28 DZ30
  have DZ32:=dz z9 X G eG (fun _ _ _ _ _ _=>bS fun _ _=>rfl) fun F=>AW B F
  have DZ33:=dz z9 X G eH (fun _ _ _ _ _ _=>cr fun _ _ _=>rfl) fun F=>AX B F DZ27 DZ32
  have DZ34:=dz z9 X G eI (fun _ _ _ _ _ _=>cr fun _ _ _=>rfl) fun F=>AY B F
  have DZ35:=dz z9 X G eL (fun _ _ _ _ _ _=>cr fun _ _ _=>rfl) fun F=>AZ B F DZ34
  have DZ36:=dz z9 X G eM (fun _ _ _ _ _ _=>cr fun _ _ _=>rfl) fun F=>A3 B F DZ33 DZ35
  have DZ37:=dz z9 X G eO (fun _ _ _ _ _ _=>cr fun _ _ _=>rfl) fun F=>A4 B F DZ10 DZ18 DZ21 DZ31
  have DZ38:=dz z9 X G eP (fun _ _ _ _ _ _=>cr fun _ _ _=>rfl) fun F=>A5 B F DZ10 DZ18 DZ22
  have DZ39:=dz z9 X G eS (fun _ _ _ _ _ _=>hW fun _ _ _ _=>rfl) fun F=>A6 B F DZ37 DZ38
  have DZ40:=dz z9 X G eT (fun _ _ _ _ _ _=>cr fun _ _ _=>rfl) fun F=>A7 B F DZ11 DZ36 DZ39
  have DZ41:=dz z9 X G eU (fun _ _ _ _ _ _=>fL fun _=>rfl) fun F=>A8 B F
  have DZ42:=dz z9 X G eW (fun _ _ _ _ _ _=>bS fun _ _=>rfl) fun F=>A9 B F
  have DZ43:=dz z9 X G eZ (fun _ _ _ _ _ _=>bS fun _ _=>rfl) fun F=>Ba B F
  have DZ44:=dz z9 X G fe (fun _ _ _ _ _ _=>fL fun _=>rfl) fun F=>Bb B F DZ43
  have DZ45:=dz z9 X G fg (fun _ _ _ _ _ _=>cr fun _ _ _=>rfl) fun F=>Bc B F
  have DZ46:=dz z9 X G fi (fun _ _ _ _ _ _=>fL fun _=>rfl) fun F=>Bd B F DZ42 DZ43 DZ44 DZ45
  have DZ47:=dz z9 X G fj (fun _ _ _ _ _ _=>cr fun _ _ _=>rfl) fun F=>Be B F
  have DZ48:=dz z9 X G fl (fun _ _ _ _ _ _=>bS fun _ _=>rfl) fun F=>Bf B F DZ47
  have DZ49:=dz z9 X G fo (fun _ _ _ _ _ _=>cr fun _ _ _=>rfl) fun F=>Bg B F
  have DZ50:=dz z9 X G fp (fun _ _ _ _ _ _=>cr fun _ _ _=>rfl) fun F=>Bh B F DZ49
  have DZ51:=dz z9 X G fs (fun _ _ _ _ _ _=>bS fun _ _=>rfl) fun F=>Bi B F
  have DZ52:=dz z9 X G ft (fun _ _ _ _ _ _=>hW fun _ _ _ _=>rfl) fun F=>Bj B F DZ49 DZ51
  have DZ53:=dz z9 X G fu (fun _ _ _ _ _ _=>cr fun _ _ _=>rfl) fun F=>Bk B F DZ43
  have DZ54:=dz z9 X G fv (fun _ _ _ _ _ _=>cr fun _ _ _=>rfl) fun F=>Bl B F DZ43
  have DZ55:=dz z9 X G fx (fun _ _ _ _ _ _=>bS fun _ _=>rfl) fun F=>Bm B F
  have DZ56:=dz z9 X G fy (fun _ _ _ _ _ _=>bS fun _ _=>rfl) fun F=>Bo B F
  have DZ57:=dz z9 X G fz (fun _ _ _ _ _ _=>hW fun _ _ _ _=>rfl) fun F=>Bp B F DZ49 DZ56
  have DZ58:=dz z9 X G f0 (fun _ _ _ _ _ _=>cr fun _ _ _=>rfl) fun F=>Bq B F DZ49 DZ51 DZ57
  have DZ59:=dz z9 X G f1 (fun _ _ _ _ _ _=>bS fun _ _=>rfl) fun F=>Br B F DZ58
  have DZ60:=dz z9 X G f2 (fun _ _ _ _ _ _=>cr fun _ _ _=>rfl) fun F=>Bs B F DZ59
  have DZ61:=dz z9 X G f3 (fun _ _ _ _ _ _=>bS fun _ _=>rfl) fun F=>Bt B F
  have DZ62:=dz z9 X G f4 (fun _ _ _ _ _ _=>hW fun _ _ _ _=>rfl) fun F=>Bu B F DZ48 DZ52 DZ53 DZ54 DZ55
  have DZ63:=dz z9 X G f5 (fun _ _ _ _ _ _=>bS fun _ _=>rfl) fun F=>Bv B F DZ50 DZ60 DZ61 DZ62
  have DZ64:=dz z9 X G f6 (fun _ _ _ _ _ _=>cr fun _ _ _=>rfl) fun F=>Bw B F DZ43 DZ60 DZ61
  exact By B Flaw DZ8 DZ40 DZ41 DZ42 DZ46 DZ63 DZ64
theorem walk {l:PySem.W.OpenLaw} {q:Program} {loose:FQ} {XP:FO->Heap->Prop} {YP:World->Heap->Prop} {d:DefRec} {K:Params->D7} (hn:l.most=some 63) (hdf:d.params.defaults= [])
  (hY:∀(w:World) (h:Heap),YP w h->(K w.params).In h)
  (F:∀(w:World) (mg:FO) (fa:Addr) (h:Heap),(K w.params).In h->h.Ns mainGlobals mg->mg d.name=some (.ref fa)->
   ∃fd:FuncData,(∀(s:Shared) (u:Value),BindsTo s fd ⟨[u],[]⟩ [("_law_script",u)])/\∀base:Heap,(K w.params).In base->base.Ns mainGlobals mg->bf l.prog w (K w.params) mg base a8 9 fa fd ["_law_script"] (qE (K w.params))):
  PySem.W.WalkO q loose XP YP l.row.toRowW d [] (fun f vs=>PySem.call f vs):=
 L2.v8 (n:=63) (k:=9) (x:= "_law_script") (CX:=fun _=>a8) (sp:=fun w=>qE (K w.params)) hn (by decide) hdf ⟨rfl,by decide,by decide⟩ hY F (fun _ _ a ns hl _ hS=>(aq a ns ⟨rfl,hS,hl,fun _=>rfl⟩)) fun _ _ _ _ _ z=>z
end Lk77
open PySem PySem.W PyProof.Rows
set_option maxRecDepth 100000 in
set_option maxHeartbeats 0 in
theorem PySem.Challenge.cw_stovework_k77_whole_papers_said_otherwis_holds : PySem.Challenge.rw_stovework_k77_whole_papers_said_otherwis.Holds := by
 refine Lk77.hd ?_
 k_fill
 refine Lk77.walk (l:=PySem.Challenge.rw_stovework_k77_whole_papers_said_otherwis) rfl rfl (fun w h Y=>PySem.W.kIn_of Y) ?F
 case F=>
  intro w mg fa h KX G hmg
  refine' Lk77.zz KX G hmg ?h0 ?h1 ?h2 ?h3 ?h4 ?h5 ?h6 ?h7 ?h8 ?h9 ?h10 ?h11 ?h12 ?h13 ?h14 ?h15 ?h16 ?h17 ?h18 ?h19 ?h20 ?h21 ?h22 ?h23 ?h24 ?h25 ?h26 ?h27 ?h28 ?h29 ?h30 ?h31 ?h32 ?h33 ?h34 ?h35 ?h36 ?h37 ?h38 ?h39 ?h40 ?h41 ?h42 ?h43 ?h44 ?h45 ?h46 ?h47 ?h48 ?h49 ?h50 ?h51 ?h52 ?h53 ?h54 ?h55 ?h56 ?h57 ?h58 ?h59 ?h60 ?h61 ?h62 ?h63 ?h64 ?h65 ?h66 ?h67 ?h68 ?h69 ?h70 ?h71 ?h72 ?h73 ?h74 ?h75 ?h76 ?h77 ?h78 ?h79 ?h80 ?h81 ?h82 ?h83 ?h84 ?h85 ?h86 ?h87 ?h88 ?h89 ?h90 ?h91 ?h92 ?h93 ?h94 ?h95 ?h96 ?h97 ?h98 ?h99 ?h100 ?h101 ?h102 ?h103 ?h104 ?h105 ?h106
  (case h0=>exact ⟨by k_is,_,_,_,_,_,_,_,_,_,by k_is,by k_is,by k_is⟩)
  (case h1=>exact ⟨by k_is,_,_,_,_,_,_,_,_,_,by k_is,by k_is,by k_is⟩)
  (case h2=>exact ⟨by k_is,_,_,_,_,_,_,_,_,_,by k_is,by k_is,by k_is⟩)
  (case h3=>exact ⟨by k_is,_,_,_,_,_,_,_,_,_,by k_is,by k_is,by k_is⟩)
  (case h4=>exact ⟨by k_is,_,_,_,_,_,_,_,_,_,by k_is,by k_is,by k_is⟩)
  (case h5=>exact ⟨by k_is,_,_,_,_,_,_,_,_,_,by k_is,by k_is,by k_is⟩)
  (case h6=>exact ⟨by k_is,_,_,_,_,_,_,_,_,_,by k_is,by k_is,by k_is⟩)
  (case h7=>exact ⟨by k_is,_,_,_,_,_,_,_,_,_,by k_is,by k_is,by k_is⟩)
  (case h8=>exact ⟨by k_is,_,_,_,_,_,_,_,_,_,by k_is,by k_is,by k_is⟩)
  (case h9=>exact ⟨by k_is,_,_,_,_,_,_,_,_,_,by k_is,by k_is,by k_is⟩)
  (case h10=>exact ⟨by k_is,_,_,_,_,_,_,_,_,_,by k_is,by k_is,by k_is⟩)
  (case h11=>exact ⟨by k_is,_,_,_,_,_,_,_,_,_,by k_is,by k_is,by k_is⟩)
  (case h12=>exact ⟨by k_is,_,_,_,_,_,_,_,_,_,by k_is,by k_is,by k_is⟩)
  (case h13=>exact ⟨by k_is,_,_,_,_,_,_,_,_,_,by k_is,by k_is,by k_is⟩)
  (case h14=>exact ⟨by k_is,_,_,_,_,_,_,_,_,_,by k_is,by k_is,by k_is⟩)
  (case h15=>exact ⟨by k_is,_,_,_,_,_,_,_,_,_,by k_is,by k_is,by k_is⟩)
  (case h16=>exact ⟨by k_is,_,_,_,_,_,_,_,_,_,by k_is,by k_is,by k_is⟩)
  (case h17=>exact ⟨by k_is,_,_,_,_,_,_,_,_,_,by k_is,by k_is,by k_is⟩)
  (case h18=>exact ⟨by k_is,_,_,_,_,_,_,_,_,_,by k_is,by k_is,by k_is⟩)
  (case h19=>exact ⟨by k_is,_,_,_,_,_,_,_,_,_,by k_is,by k_is,by k_is⟩)
  (case h20=>exact ⟨by k_is,_,_,_,_,_,_,_,_,_,by k_is,by k_is,by k_is⟩)
  (case h21=>exact ⟨by k_is,_,_,_,_,_,_,_,_,_,by k_is,by k_is,by k_is⟩)
  (case h22=>exact ⟨by k_is,_,_,_,_,_,_,_,_,_,by k_is,by k_is,by k_is⟩)
  (case h23=>exact ⟨by k_is,_,_,_,_,_,_,_,_,_,by k_is,by k_is,by k_is⟩)
  (case h24=>exact ⟨by k_is,_,_,_,_,_,_,_,_,_,by k_is,by k_is,by k_is⟩)
  (case h25=>exact ⟨by k_is,_,_,_,_,_,_,_,_,_,by k_is,by k_is,by k_is⟩)
  (case h26=>exact ⟨by k_is,_,_,_,_,_,_,_,_,_,by k_is,by k_is,by k_is⟩)
  (case h27=>exact ⟨by k_is,_,_,_,_,_,_,_,_,_,by k_is,by k_is,by k_is⟩)
  (case h28=>exact ⟨by k_is,_,_,_,_,_,_,_,_,_,by k_is,by k_is,by k_is⟩)
  (case h29=>exact ⟨by k_is,_,_,_,_,_,_,_,_,_,by k_is,by k_is,by k_is⟩)
  (case h30=>exact ⟨by k_is,_,_,_,_,_,_,_,_,_,by k_is,by k_is,by k_is⟩)
  (case h31=>exact ⟨by k_is,_,_,_,_,_,_,_,_,_,by k_is,by k_is,by k_is⟩)
  (case h32=>exact ⟨by k_is,_,_,_,_,_,_,_,_,_,by k_is,by k_is,by k_is⟩)
  (case h33=>exact ⟨by k_is,_,_,_,_,_,_,_,_,_,by k_is,by k_is,by k_is⟩)
  (case h34=>exact ⟨by k_is,_,_,_,_,_,_,_,_,_,by k_is,by k_is,by k_is⟩)
  (case h35=>exact ⟨by k_is,_,_,_,_,_,_,_,_,_,by k_is,by k_is,by k_is⟩)
  (case h36=>exact ⟨by k_is,_,_,_,_,_,_,_,_,_,by k_is,by k_is,by k_is⟩)
  (case h37=>exact ⟨by k_is,_,_,_,_,_,_,_,_,_,by k_is,by k_is,by k_is⟩)
  (case h38=>exact ⟨by k_is,_,_,_,_,_,_,_,_,_,by k_is,by k_is,by k_is⟩)
  (case h39=>exact ⟨by k_is,_,_,_,_,_,_,_,_,_,by k_is,by k_is,by k_is⟩)
  (case h40=>exact ⟨by k_is,_,_,_,_,_,_,_,_,_,by k_is,by k_is,by k_is⟩)
  (case h41=>exact ⟨by k_is,_,_,_,_,_,_,_,_,_,by k_is,by k_is,by k_is⟩)
  (case h42=>exact ⟨by k_is,_,_,_,_,_,_,_,_,_,by k_is,by k_is,by k_is⟩)
  (case h43=>exact ⟨by k_is,_,_,_,_,_,_,_,_,_,by k_is,by k_is,by k_is⟩)
  (case h44=>exact ⟨by k_is,_,_,_,_,_,_,_,_,_,by k_is,by k_is,by k_is⟩)
  (case h45=>exact ⟨by k_is,_,_,_,_,_,_,_,_,_,by k_is,by k_is,by k_is⟩)
  (case h46=>exact ⟨by k_is,_,_,_,_,_,_,_,_,_,by k_is,by k_is,by k_is⟩)
  (case h47=>exact ⟨by k_is,_,_,_,_,_,_,_,_,_,by k_is,by k_is,by k_is⟩)
  (case h48=>exact ⟨by k_is,_,_,_,_,_,_,_,_,_,by k_is,by k_is,by k_is⟩)
  (case h49=>exact ⟨by k_is,_,_,_,_,_,_,_,_,_,by k_is,by k_is,by k_is⟩)
  (case h50=>exact ⟨by k_is,_,_,_,_,_,_,_,_,_,by k_is,by k_is,by k_is⟩)
  (case h51=>exact ⟨by k_is,_,_,_,_,_,_,_,_,_,by k_is,by k_is,by k_is⟩)
  (case h52=>exact ⟨by k_is,_,_,_,_,_,_,_,_,_,by k_is,by k_is,by k_is⟩)
  (case h53=>exact ⟨by k_is,_,_,_,_,_,_,_,_,_,by k_is,by k_is,by k_is⟩)
  (case h54=>exact ⟨by k_is,_,_,_,_,_,_,_,_,_,by k_is,by k_is,by k_is⟩)
  (case h55=>exact ⟨by k_is,_,_,_,_,_,_,_,_,_,by k_is,by k_is,by k_is⟩)
  (case h56=>exact ⟨by k_is,_,_,_,_,_,_,_,_,_,by k_is,by k_is,by k_is⟩)
  (case h57=>exact ⟨by k_is,_,_,_,_,_,_,_,_,_,by k_is,by k_is,by k_is⟩)
  (case h58=>exact ⟨by k_is,_,_,_,_,_,_,_,_,_,by k_is,by k_is,by k_is⟩)
  (case h59=>exact ⟨by k_is,_,_,_,_,_,_,_,_,_,by k_is,by k_is,by k_is⟩)
  (case h60=>exact ⟨by k_is,_,_,_,_,_,_,_,_,_,by k_is,by k_is,by k_is⟩)
  (case h61=>exact ⟨by k_is,_,_,_,_,_,_,_,_,_,by k_is,by k_is,by k_is⟩)
  (case h62=>exact ⟨by k_is,_,_,_,_,_,_,_,_,_,by k_is,by k_is,by k_is⟩)
  (case h63=>exact ⟨by k_is,_,_,_,_,_,_,_,_,_,by k_is,by k_is,by k_is⟩)
  case h64|h65|h66|h67|h68|h69|h70|h71|h72|h73|h74|h75|h76|h77|h78|h79|h80|h81|h82|h83|h84|h85|h86|h87|h88|h89|h90|h91|h92|h93|h94|h95|h96=>k_is
  (case h97=>exact ⟨_,_,_,_,_,_,_,_,_,by k_is,by k_is,by k_is⟩)
  (case h98=>k_is)
  (case h99=>exact ⟨_,_,_,by k_is,rfl,rfl,by decide,.cons ⟨_,rfl⟩ (.cons ⟨_,rfl⟩ (.nil))⟩)
  (case h100=>exact ⟨by k_is,by k_is,by k_is,by k_is⟩)
  (case h101=>exact ⟨by k_is,by k_is,by k_is,by k_is⟩)
  (case h102=>unfold L2.cx;k_is)
  (case h103=>unfold L2.cx;k_is)
  (case h104=>unfold L2.cx;k_is)
  (case h105=>unfold L2.cx;k_is)
  (case h106=>unfold L2.cx;k_is)
